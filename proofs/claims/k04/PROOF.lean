import PyProof.Rows.All
import Wide.All
import OpenK.AllK
import Wide.FinOn
import Lean
import PyProof.EqAt
import PyProof.EqKinds
import PyProof.TupleCall
import PySem.Challenge.RW_creasecurve_k04_numbers_written
set_option Elab.async false
set_option linter.all false
set_option maxRecDepth 100000
namespace L2
open PySem PySem.Spec PyProof.Rows
abbrev Key := Sum Int Str
def aBj : Key -> Value -> Bool
 | .inl k, v => Value.isInt k v
 | .inr x, v => Value.isStrOf x v
def aD1 (w : World) : Key -> Int
 | .inl k => hashInt k
 | .inr x => hashStr w x
theorem cY : ∀ {k : Key} {v : Value}, aBj k v = true -> (∃ i t, k = Sum.inl i /\ v = Value.int i t) \/ (∃ x t, k = Sum.inr x /\ v = Value.str x t)
 | .inl i, v, h => by
  obtain ⟨t, e⟩ := Value.isInt_shape (k := i) (v := v) h
  exact .inl ⟨i, t, rfl, e⟩
 | .inr x, v, h => by
  obtain ⟨t, e⟩ := Value.isStrOf_shape (x := x) (v := v) h
  exact .inr ⟨x, t, rfl, e⟩
theorem aBv (a b : Int) : decide ((Sum.inl a : Key) = Sum.inl b) = (a == b) := by
 by_cases e : a = b
 ·subst e; simp
 ·have h : ¬ (Sum.inl a : Key) = Sum.inl b := fun q => e (Sum.inl.inj q)
  rw [decide_eq_false h]
  exact (beq_eq_false_iff_ne.mpr e).symm
theorem aAn (a b : Str) : decide ((Sum.inr a : Key) = Sum.inr b) = decide (a = b) := by
 by_cases e : a = b
 ·subst e; simp
 ·have h : ¬ (Sum.inr a : Key) = Sum.inr b := fun q => e (Sum.inr.inj q)
  rw [decide_eq_false h, decide_eq_false e]
theorem aA9 (a : Int) (b : Str) : decide ((Sum.inl a : Key) = Sum.inr b) = false := decide_eq_false (fun q => nomatch q)
theorem aCy (a : Str) (b : Int) : decide ((Sum.inr a : Key) = Sum.inl b) = false := decide_eq_false (fun q => nomatch q)
def rS (prog : Program) (w : World) : PySem.KeyKind prog w Key where
 is := aBj
 hash := aD1 w
 inj := fun v a b ha hb => by
  rcases cY ha with ⟨i, t, rfl, rfl⟩ | ⟨x, t, rfl, rfl⟩
  ·rcases cY hb with ⟨j, u, rfl, e⟩ | ⟨y, u, rfl, e⟩
   ·injection e with e1 _; rw [e1]
   ·exact nomatch e
  ·rcases cY hb with ⟨j, u, rfl, e⟩ | ⟨y, u, rfl, e⟩
   ·exact nomatch e
   ·injection e with e1 _; rw [e1]
 byValue := fun k v h => by
  rcases cY h with ⟨i, t, rfl, rfl⟩ | ⟨x, t, rfl, rfl⟩ <;> rfl
 pyHash := fun hv h => by
  rcases cY hv with ⟨i, t, rfl, rfl⟩ | ⟨x, t, rfl, rfl⟩
  ·exact wpAny_pyHash_int h
  ·exact wpAny_pyHash_str h
 eqBool := fun hu hv h => by
  rcases cY hu with ⟨i, t, rfl, rfl⟩ | ⟨x, t, rfl, rfl⟩
  ·rcases cY hv with ⟨j, u, rfl, rfl⟩ | ⟨y, u, rfl, rfl⟩
   ·rw [aBv] at h; exact wpAny_eqBool_int h
   ·rw [aA9] at h; exact SeqAt.EqAt.int_str i t y u _ _ _ _ h
  ·rcases cY hv with ⟨j, u, rfl, rfl⟩ | ⟨y, u, rfl, rfl⟩
   ·rw [aCy] at h; exact SeqAt.EqAt.str_int x t j u _ _ _ _ h
   ·rw [aAn] at h; exact wpAny_eqBool_str h
 «strs» := fun k x t v h => by
  rcases cY h with ⟨i, u, rfl, e⟩ | ⟨y, u, rfl, e⟩
  ·exact nomatch e
  ·injection e with e1 _
   subst e1
   cases v <;> rfl
inductive V where
 | non | bl (b : Bool) | int (i : Int) | str (x : Str) | byt (b : Array UInt8) | flt (b : UInt64) | ref (a : Addr) | ty (n : String)
 deriving DecidableEq
def RelV : V -> Value -> Prop
 | .non, u => u = Value.none
 | .bl b, u => u = Value.bool b
 | .int i, u => ∃ t, u = Value.int i t
 | .str x, u => ∃ t, u = Value.str x t
 | .byt b, u => ∃ t, u = Value.bytes b t
 | .flt b, u => ∃ t, u = Value.float b t
 | .ref a, u => u = Value.ref a
 | .ty n, u => u = Value.type n
abbrev Vals : List V -> List Value -> Prop := Paired RelV
theorem Vals.length {xs : List V} {us : List Value} (r : Vals xs us) : xs.length = us.length := Paired.length r
theorem Vals.get : ∀ {xs : List V} {us : List Value} {i : Nat} {x : V}, Vals xs us -> xs[i]? = some x -> ∃ u, us[i]? = some u /\ RelV x u
 | _, _, _, _, .nil, e => by simp at e
 | _, _, 0, _, .cons r _, e => by simp at e; subst e; exact ⟨_, rfl, r⟩
 | _, _, i + 1, x, .cons _ t, e => by
  obtain ⟨u, h1, h2⟩ := Vals.get (i := i) (x := x) t (by simpa using e)
  exact ⟨u, by simpa using h1, h2⟩
theorem Vals.append : ∀ {xs ys : List V} {us ws : List Value}, Vals xs us -> Vals ys ws -> Vals (xs ++ ys) (us ++ ws)
 | _, _, _, _, .nil, s => s
 | _, _, _, _, .cons r t, s => .cons r (Vals.append t s)
def aDu : Option V -> Option Value -> Prop
 | some v, some u => RelV v u
 | none, none => True
 | _, _ => False
def KV {κ : Type} : List (κ × V) -> List (κ × Value) -> Prop := Paired fun (p : κ × V) (q : κ × Value) => p.1 = q.1 /\ RelV p.2 q.2
def kV : Key -> V
 | .inl i => .int i
 | .inr x => .str x
inductive HO where
 /-- a list -/
 | lst (xs : List V)
 /-- a tuple (never changes) -/
 | tup (xs : List V)
 /-- a dict whose keys are ints and texts; one whose keys are tuples of ints and texts (the empty one is both) -/
 | dK (kvs : List (Key × V)) | dT (kvs : List (List Key × V))
 /-- a set of ints: its members, its size -/
 | set (S : Int -> Bool) (n : Nat)
 /-- an instance of the class at C, its dict at dx, its attributes -/
 | ins (C dx : Addr) (fs : List (Str × V))
 /-- the dict of the instance at x -/
 | own (x : Addr)
 /-- the dict of an exception -/
 | xd (fs : List (Str × V))
 /-- a bound method, f of x -/
 | met (f x : Addr)
 /-- a range object lo, lo + 1, .. below hi -/
 | rng (lo hi : Int)
 /-- a thing that is known to the object (the script; a dict while a loop walks it): read, never written while it is so -/
 | frz (o : Obj) (u : HO)
 /-- a code object's table -/
 | tbl (ps : Array Value)
 /-- any other thing, by what is true of its one object (a def of one's own: SetO a S n := HO.ext fun h => ..) -/
 | ext (φ : Heap -> Prop)
abbrev Hp := Addr -> Option HO
def upd (H : Hp) (a : Addr) (o : HO) : Hp := fun b => if b = a then some o else H b
theorem cG {H : Hp} {a : Addr} {o : HO} : upd H a o a = some o := by unfold upd; rw [if_pos rfl]
theorem bU {H : Hp} {a b : Addr} {o : HO} (h : b ≠ a) : upd H a o b = H b := by unfold upd; rw [if_neg h]
theorem cW {H : Hp} {a b : Addr} {o : HO} (h : H a = some o) (h' : H b = none) : a ≠ b := by
 intro e; subst e; rw [h] at h'; cases h'
section
variable (P : Program) (w : World)
def ObjOk (H : Hp) (h : Heap) (a : Addr) : HO -> Prop
 | .lst xs => xs.length <= sizeLine /\ ∃ (its : List Value) (n : Nat), Vals xs its /\ h.get? a = some { cls := .type "list", data := .seq its.toArray n }
 | .tup xs => xs.length <= sizeLine /\ ∃ its : List Value, Vals xs its /\ IsTup h a its.toArray
 | .dK kvs => kvs.length <= sizeLine /\ (a == sysModules) = false /\ ∃ vs, KV kvs vs /\ h.DictOf (rS P w) a vs
 | .dT kvs => kvs.length <= sizeLine /\ (a == sysModules) = false /\ ∃ xs : List (List Key × Addr × Value),
   Paired (fun (p : List Key × V) (q : List Key × Addr × Value) => p.1 = q.1 /\ H q.2.1 = some (.tup (p.1.map kV)) /\ RelV p.2 q.2.2) kvs xs /\
   ∃ o es ep, h.get? a = some o /\ o.ExactDict /\ o.data = .dict es ep /\ es.toList = xs.map (entryOfKey (tupleKind (rS P w))) /\ (xs.map (·.1)).Nodup
 | .set S n => h.SetOf (intKind P w) a S n
 | .ins C dx fs => H dx = some (.own a) /\ fs.length <= 1000 /\ dx ≠ a /\ h.get? a = some (PySem.W.instObj C dx) /\
   ∃ mA, h.Ns1 dx mA /\ (∀ f, aDu (fs.lookup f) (mA f)) /\ PySem.Within mA (fs.map (·.1))
 | .own _ => ∃ o, h.get? a = some o
 | .xd fs => ∃ mA, h.Ns1 a mA /\ ∀ f, aDu (fs.lookup f) (mA f)
 | .rng lo hi => ∃ t u v, h.get? a = some { cls := .type "range", data := .fields #[.int lo t, .int hi u, .int 1 v] }
 | .frz o u => h.get? a = some o /\ ObjOk H h a u
 | .tbl ps => ∃ qs, h.get? a = some { cls := .none, data := .fields qs } /\ TriplesOk qs.toList /\ ∀ n t, ps[0]? = some (.str n t) -> ∀ pos cv, codeAmong pos qs.toList = some cv ->
   ∃ c oc vs u, cv = .ref c /\ H c = some (.frz oc (.own a)) /\ oc.data = .fields vs /\ vs[1]? = some (.str (n ++ ".<locals>." ++ "<lambda>") u)
 | .met f x => h.get? a = some (PySem.W.methodObj (.ref f) (.ref x))
 | .ext φ => φ h /\ (∃ o, h.get? a = some o) /\ ∀ h1 h2 : Heap, φ h1 -> (∀ o, h1.get? a = some o -> h2.get? a = some o) -> φ h2
def HOk (H : Hp) (h : Heap) : Prop := ∀ a o, H a = some o -> ObjOk P w H h a o
end
section
variable {P : Program} {w : World} {H H' : Hp} {h h' : Heap} {a : Addr} {o : HO}
theorem ObjOk.lt (x : ObjOk P w H h a o) : a < h.objs.size := by
 cases o with
 | lst xs => obtain ⟨_, _, _, _, e⟩ := x; exact Heap.lt_size e
 | tup xs => obtain ⟨_, _, _, p⟩ := x; exact p.lt
 | dK kvs => obtain ⟨_, _, _, _, o, _, _, e, _⟩ := x; exact Heap.lt_size e
 | dT kvs => obtain ⟨_, _, _, _, o, _, _, e, _⟩ := x; exact Heap.lt_size e
 | set S n => obtain ⟨o, _, _, _, e, _⟩ := x; exact Heap.lt_size e
 | ins C dx fs => obtain ⟨_, _, _, e, _⟩ := x; exact Heap.lt_size e
 | own y => obtain ⟨_, e⟩ := x; exact Heap.lt_size e
 | xd fs => obtain ⟨_, ⟨_, _, _, e, _⟩, _⟩ := x; exact Heap.lt_size e
 | rng lo hi => obtain ⟨_, _, _, e⟩ := x; exact Heap.lt_size e
 | frz ob u => obtain ⟨e, _⟩ := x; exact Heap.lt_size e
 | tbl ps => obtain ⟨_, e, _⟩ := x; exact Heap.lt_size e
 | met f y => exact Heap.lt_size (show h.get? a = some _ from x)
 | ext φ => obtain ⟨_, ⟨_, e⟩, _⟩ := x; exact Heap.lt_size e
theorem Paired.mapP {α β : Type} {F G : α -> β -> Prop} : ∀ {l₁ : List α} {l₂ : List β}, Paired F l₁ l₂ -> (∀ a b, F a b -> G a b) -> Paired G l₁ l₂
 | _, _, .nil, _ => .nil
 | _, _, .cons r t, f => .cons (f _ _ r) (Paired.mapP t f)
theorem ObjOk.stay (x : ObjOk P w H h a o) (k : ∀ b u, (b = a \/ H b = some (.own a)) -> h.get? b = some u -> h'.get? b = some u)
  (ho : ∀ b, H b = some (.own a) -> H' b = some (.own a)) (ht : ∀ b xs, H b = some (.tup xs) -> H' b = some (.tup xs)) (hz : ∀ b o, H b = some (.frz o (.own a)) -> H' b = some (.frz o (.own a)) := by exact fun _ _ q => q) : ObjOk P w H' h' a o := by
 induction o with
 | lst xs => obtain ⟨z, its, n, r, e⟩ := x; exact ⟨z, its, n, r, k _ _ (.inl rfl) e⟩
 | tup xs => obtain ⟨z, its, r, ob, e, c⟩ := x; exact ⟨z, its, r, ob, k _ _ (.inl rfl) e, c⟩
 | dK kvs => obtain ⟨z, y, vs, r, ob, es, ep, e, c⟩ := x; exact ⟨z, y, vs, r, ob, es, ep, k _ _ (.inl rfl) e, c⟩
 | dT kvs =>
  obtain ⟨z, y, xs, r, ob, es, ep, e, c⟩ := x
  exact ⟨z, y, xs, Paired.mapP r fun p q z => ⟨z.1, ht _ _ z.2.1, z.2.2⟩, ob, es, ep, k _ _ (.inl rfl) e, c⟩
 | set S n => obtain ⟨ob, es, ep, t, e, c⟩ := x; exact ⟨ob, es, ep, t, k _ _ (.inl rfl) e, c⟩
 | ins C dx fs =>
  obtain ⟨d, z, ne, e, mA, ⟨od, es, ep, e2, c⟩, r⟩ := x
  exact ⟨ho _ d, z, ne, k _ _ (.inl rfl) e, mA, ⟨od, es, ep, k _ _ (.inr d) e2, c⟩, r⟩
 | own y => obtain ⟨ob, e⟩ := x; exact ⟨ob, k _ _ (.inl rfl) e⟩
 | xd fs => obtain ⟨mA, ⟨od, es, ep, e, c⟩, r⟩ := x; exact ⟨mA, ⟨od, es, ep, k _ _ (.inl rfl) e, c⟩, r⟩
 | rng lo hi => obtain ⟨t, u, v, e⟩ := x; exact ⟨t, u, v, k _ _ (.inl rfl) e⟩
 | frz ob u ih => obtain ⟨e, q⟩ := x; exact ⟨k _ _ (.inl rfl) e, ih q⟩
 | tbl ps =>
  obtain ⟨qs, e, t, z⟩ := x
  refine ⟨qs, k a _ (.inl rfl) e, t, fun n u en pos cv ec => ?_⟩
  obtain ⟨c, oc, vs, v, e1, e2, e3⟩ := z n u en pos cv ec
  exact ⟨c, oc, vs, v, e1, hz c oc e2, e3⟩
 | met f y =>
  have e : h.get? a = some (PySem.W.methodObj (.ref f) (.ref y)) := x
  show h'.get? a = some (PySem.W.methodObj (.ref f) (.ref y))
  exact k a _ (.inl rfl) e
 | ext φ => obtain ⟨p, ⟨o, e⟩, st⟩ := x; exact ⟨st _ _ p fun o q => k _ _ (.inl rfl) q, ⟨o, k _ _ (.inl rfl) e⟩, st⟩
theorem HOk.lt (x : HOk P w H h) (e : H a = some o) : a < h.objs.size := (x a o e).lt
theorem HOk.fresh (x : HOk P w H h) (e : h.objs.size <= a) : H a = none := by
 cases q : H a with
 | none => rfl
 | some u => exact absurd (Nat.lt_of_lt_of_le (x.lt q) e) (Nat.lt_irrefl _)
theorem HOk.kept (x : HOk P w H h) (k : ∀ b u, h.get? b = some u -> h'.get? b = some u) : HOk P w H h' := fun a o e =>
 (x a o e).stay (fun b u _ q => k b u q) (fun _ q => q) fun _ _ q => q
theorem HOk.laid (x : HOk P w H h) (k : ∀ b u, h.get? b = some u -> h'.get? b = some u) (hp : h.objs.size <= a) (new : ObjOk P w (upd H a o) h' a o) : HOk P w (upd H a o) h' := fun b u e => by
 have hn := x.fresh hp
 by_cases hb : b = a
 ·subst hb; rw [cG] at e; cases e; exact new
 ·rw [bU hb] at e
  exact (x b u e).stay (fun c v _ q => k c v q) (fun c q => by rw [bU (cW q hn)]; exact q) (fun c xs q => by rw [bU (cW q hn)]; exact q) fun c xs q => by rw [bU (cW q hn)]; exact q
end
def Rd (H : Hp) (a : Addr) (u : HO) : Prop := H a = some u \/ ∃ o, H a = some (.frz o u)
theorem Rd.ok {P : Program} {w : World} {H : Hp} {h : Heap} {a : Addr} {u : HO} (r : Rd H a u) (x : HOk P w H h) : ObjOk P w H h a u := by
 rcases r with r | ⟨o, r⟩
 ·exact x a u r
 ·obtain ⟨_, q⟩ := x a _ r
  exact q
def Mut : Option HO -> Prop
 | some (.lst _) => True
 | some (.dK _) => True
 | some (.dT _) => True
 | some (.set _ _) => True
 | some (.ins _ _ _) => True
 | some (.ext _) => True
 | _ => False
section
variable {P : Program} {w : World} {H : Hp} {h h' : Heap} {x e : Addr} {o' : HO}
theorem HOk.write (ok : HOk P w H h) (mu : Mut (H x)) (he : e = x \/ H e = some (.own x)) (k : ∀ b u, b ≠ e -> h.get? b = some u -> h'.get? b = some u) (heo : ∃ u, h'.get? e = some u)
  (new : ObjOk P w (upd H x o') h' x o') : HOk P w (upd H x o') h' := fun b u q => by
 have nown : ∀ c y, H c = some (.own y) -> c ≠ x := fun c y r z => by subst z; rw [r] at mu; exact mu
 have ntup : ∀ c xs, H c = some (.tup xs) -> c ≠ x := fun c xs r z => by subst z; rw [r] at mu; exact mu
 by_cases hb : b = x
 ·subst hb; rw [cG] at q; cases q; exact new
 ·rw [bU hb] at q
  by_cases hbe : b = e
  ·have q' : H b = some (.own x) := by
    rcases he with z | z
    ·exact absurd (hbe.trans z) hb
    ·rw [hbe]; exact z
   rw [q] at q'; cases q'
   obtain ⟨v, hv⟩ := heo
   exact ⟨v, by rw [hbe]; exact hv⟩
  ·refine (ok b u q).stay (fun c v hc r => k c v ?_ r) (fun c r => by rw [bU (nown c b r)]; exact r) (fun c xs r => by rw [bU (ntup c xs r)]; exact r) fun c xs r => by rw [bU (by rintro rfl; rw [r] at mu; exact mu)]; exact r
   rcases hc with rfl | hc
   ·exact hbe
   ·rintro rfl
    rcases he with z | z
    ·exact nown c b hc z
    ·rw [hc] at z; cases z; exact hb rfl
end
structure Un (fs ex : List Addr) (H H' : Hp) (h h' : Heap) : Prop where
 keep : ∀ b o, h.get? b = some o -> H b = none -> b ∉ fs -> b ∉ ex -> h'.get? b = some o
 slot : ∀ b o, h.get? b = some o -> H b = none -> b ∈ fs -> b ∉ ex -> ∃ sl, h'.get? b = some { o with slots := sl }
 free : ∀ b o, h.get? b = some o -> H b = none -> b ∉ ex -> H' b = none
 there : ∀ b o, h.get? b = some o -> b ∉ ex -> ∃ o', h'.get? b = some o'
 tups : ∀ b xs, H b = some (.tup xs) -> H' b = some (.tup xs)
 frzs : ∀ b o u, H b = some (.frz o u) -> H' b = some (.frz o u)
 tbls : ∀ b ps, H b = some (.tbl ps) -> ∃ more, H' b = some (.tbl (ps ++ more))
section
variable {fs fs' ex ex' : List Addr} {H H1 H2 : Hp} {h h1 h2 h' : Heap} {a x e : Addr} {o : HO}
theorem Un.any (u : Un fs ex H H1 h h1) {b : Addr} {ob : Obj} (q : h.get? b = some ob) (n : H b = none) (hx : b ∉ ex) : ∃ sl, h1.get? b = some { ob with slots := sl } := by
 by_cases hb : b ∈ fs
 ·exact u.slot b ob q n hb hx
 ·exact ⟨ob.slots, u.keep b ob q n hb hx⟩
theorem Un.kept (k : ∀ b u, h.get? b = some u -> h'.get? b = some u) : Un fs ex H H h h' :=
 ⟨fun b ob q _ _ _ => k b ob q, fun b ob q _ _ _ => ⟨ob.slots, k b ob q⟩, fun _ _ _ n _ => n, fun b ob q _ => ⟨ob, k b ob q⟩, fun _ _ q => q, fun _ _ _ q => q, fun _ ps q => ⟨#[], by rw [q]; simp⟩⟩
theorem Un.refl : Un fs ex H H h h := Un.kept fun _ _ q => q
theorem Un.laid (k : ∀ b u, h.get? b = some u -> h'.get? b = some u) (hp : h.objs.size <= a) (hn : H a = none) : Un fs ex H (upd H a o) h h' where
 keep := fun b u q _ _ _ => k b u q
 slot := fun b u q _ _ _ => ⟨u.slots, k b u q⟩
 free := fun b u q n _ => by rw [bU (Nat.ne_of_lt (Nat.lt_of_lt_of_le (Heap.lt_size q) hp))]; exact n
 there := fun b u q _ => ⟨u, k b u q⟩
 tups := fun b xs q => by rw [bU (cW q hn)]; exact q
 frzs := fun b u xs q => by rw [bU (cW q hn)]; exact q
 tbls := fun b ps q => ⟨#[], by rw [bU (cW q hn), q]; simp⟩
theorem Un.write (mu : Mut (H x)) (he : e = x \/ H e = some (.own x)) (k : ∀ b u, b ≠ e -> h.get? b = some u -> h'.get? b = some u) (heo : ∃ u, h'.get? e = some u) : Un fs ex H (upd H x o) h h' := by
 have hx : ∀ b, H b = none -> b ≠ x := fun b n z => by subst z; rw [n] at mu; exact mu
 have hb : ∀ b, H b = none -> b ≠ e := fun b n z => by
  subst z
  rcases he with r | r
  ·exact hx b n r
  ·rw [n] at r; cases r
 have hm : ∀ b u, H b = some u -> ¬ Mut (some u) -> b ≠ x := fun b u q nm z => by subst z; rw [q] at mu; exact nm mu
 refine ⟨fun b u q n _ _ => k b u (hb b n) q, fun b u q n _ _ => ⟨u.slots, k b u (hb b n) q⟩, fun b u q n _ => by rw [bU (hx b n)]; exact n, fun b u q _ => ?_,
  fun b xs q => by rw [bU (hm b _ q fun z => z)]; exact q, fun b u xs q => by rw [bU (hm b _ q fun z => z)]; exact q, fun b ps q => ⟨#[], by rw [bU (hm b _ q fun z => z), q]; simp⟩⟩
 by_cases hbe : b = e
 ·subst hbe; exact heo
 ·exact ⟨u, k b u hbe q⟩
end
def trk (h : Heap) (H : Hp) : List Addr := (List.range h.objs.size).filter fun a => (H a).isSome
def vH (h : Heap) (H : Hp) : Heap := PySem.W.hideAll h (trk h H)
theorem tW (h : Heap) (H : Hp) : (vH h H).objs.size = h.objs.size := PySem.W.hideAll_size _ _
theorem u9 {h : Heap} {H : Hp} {b : Addr} {o : Obj} (e : h.get? b = some o) (n : H b = none) : (vH h H).get? b = some o :=
 PySem.W.hideAll_get _ e fun hm => by
  have q : (H b).isSome = true := (List.mem_filter.mp hm).2
  rw [n] at q; simp at q
theorem zE {h : Heap} {H : Hp} {b : Addr} {o : Obj} (e : (vH h H).get? b = some o) : h.get? b = some o /\ H b = none := by
 have e' : h.get? b = some o := PySem.W.of_hideAll (trk h H) e
 refine ⟨e', ?_⟩
 cases q : H b with
 | none => rfl
 | some x =>
  have hm : b ∈ trk h H := List.mem_filter.mpr ⟨List.mem_range.mpr (Heap.lt_size e'), by simp [q]⟩
  have z : (vH h H).get? b = none := PySem.W.hideAll_none (trk h H) hm
  rw [z] at e; cases e
def y6 (g h : Heap) (L : Addr) : List (Addr × Obj) := (List.range h.objs.size).filterMap fun a => if a = L \/ (g.get? a).isSome = true then none else (h.get? a).map fun o => (a, o)
def rest (g h : Heap) (L d : Addr) : List (Addr × Obj) := (y6 g h L).filter fun p => decide (p.1 ≠ d)
def lamsOf : List Str := ["rising", "points_in_order"]
def tbs (K : PySem.W.Frag) : List (Addr × Addr × Str) := K.filterMap fun p => match p.2.data with
 | .fields vs => match (vs[11]? : Option Value), (vs[1]? : Option Value) with
  | some (.ref P), some (.str n _) => if lamsOf.contains n then some (p.1, P, n) else none
  | _, _ => none
 | _ => none
def Tbs (K : PySem.W.Frag) (H : Hp) : Prop := ∀ p ∈ tbs K, ∃ more, H p.2.1 = some (.tbl (#[.str p.2.2 0] ++ more))
def xV (K : PySem.W.Frag) (ts : List Addr) : Bool := (tbs K).all fun p => PySem.W.codeHdIn K p.1 p.2.1 && (K.lookup p.2.1).isNone && ts.contains p.2.1 && (tbs K).all fun q => p.2.1 != q.2.1 || p.2.2 == q.2.2
structure Mod (K : PySem.W.Frag) (mg : Str -> Option Value) (base : Heap) : Prop where
 kin : K.In base
 glob : base.Ns mainGlobals mg
 blt : ∃ mb, base.Ns builtinsNs mb /\ ∀ x : Str, x ≠ "__name__" -> mb x = bootBuiltins x
 nolimit : base.NoLimit
 bm : ∃ bm ob, mg "__builtins__" = some (.ref bm) /\ bm ≠ builtinsNs /\ base.get? bm = some ob /\ ob.cls = .type "module" /\ ob.dict = some builtinsNs /\ ob.data = .plain
structure Cx where
 prog : Program
 w : World
 K : PySem.W.Frag
 mg : Str -> Option Value
 base : Heap
 A : Around
 N : List Str
 s₀ : Shared
 H₀ : Hp
 env : Env
 outer : List Env
 stack : List Env
 ex : List Addr
 fn : Str -> Bool
 calm : Bool
 pn : List (Addr × Obj)
 xe : Value -> Shared -> Prop
def frs (l : List Env) : List Addr := l.filterMap (·.frame)
abbrev Cx.fs (X : Cx) : List Addr := frs X.outer
def Vis (sc : Scope) (x : Str) : Prop := sc.names.lookup x = some .local \/ sc.names.lookup x = some .cell \/ sc.names.lookup x = some .free
def Loc (sc : Scope) (x : Str) : Prop := sc.names.lookup x = some .local \/ sc.names.lookup x = some .cell
def Look (env : Env) (h : Heap) (m : Str -> Option Value) (x : Str) (u : Value) : Prop :=
 (env.kindOf x = some .local /\ m x = some u) \/ ((env.kindOf x = some .cell \/ env.kindOf x = some .free) /\ ∃ c, env.cells.lookup x = some c /\ h.IsCell c (some u))
structure Cx.Ok (X : Cx) : Prop where
 mod : Mod X.K X.mg X.base
 kind : X.env.scope.kind = .function
 glob : X.env.globals = mainGlobals
 blt : X.env.builtins = builtinsNs
 above : X.s₀.heap.objs.size <= X.env.locals
 inj : ∀ x y c, X.env.cells.lookup x = some c -> X.env.cells.lookup y = some c -> x = y
 has : ∀ x, (X.env.kindOf x = some .cell \/ X.env.kindOf x = some .free) -> ∃ c, X.env.cells.lookup x = some c
 cab : ∀ x c, X.fn x = true -> X.env.cells.lookup x = some c -> X.s₀.heap.objs.size <= c
 hd : X.calm = true -> X.A.handled = none
 frames : X.A.frames = some X.stack
 stk : X.stack = X.outer \/ (X.stack = X.env :: X.outer /\ X.env.frame = some X.env.locals)
 exf : ∀ b ∈ X.ex, b ≠ X.env.locals /\ ∀ x c, X.env.cells.lookup x = some c -> c ≠ b
 bs : ∀ b o, X.base.get? b = some o -> X.s₀.heap.get? b = some o /\ X.H₀ b = none
 bsz : X.base.objs.size <= X.s₀.heap.objs.size
 noex : ∀ b o, X.base.get? b = some o -> b ∉ X.ex
 exfs : ∀ b ∈ X.ex, b ∉ X.fs
 funs : X.s₀.heap.FunFrames X.base X.outer
 frf : ∀ b ∈ X.fs, X.H₀ b = none
 tab : Tbs X.K X.H₀
structure Inv (X : Cx) (pins : List (Addr × Obj)) (σ : List (Option V)) (H : Hp) (s : Shared) : Prop where
 ok : X.Ok
 os : s.os = X.s₀.os
 bare : AllBare s.gens
 base : Un X.fs X.ex X.H₀ H X.s₀.heap s.heap
 loc : ∃ m, s.heap.Ns X.env.locals m /\ ∀ (i : Nat) (x : Str) (v : V), X.N[i]? = some x -> σ[i]? = some (some v) -> Vis X.env.scope x -> ∃ u, RelV v u /\ Look X.env s.heap m x u
 cell : ∀ x c, X.env.cells.lookup x = some c -> ∃ v, s.heap.IsCell c v
 free : H X.env.locals = none
 freeC : ∀ x c, X.env.cells.lookup x = some c -> H c = none
 pin : ∀ p ∈ X.pn ++ pins, s.heap.get? p.1 = some p.2 /\ H p.1 = none /\ p.1 ≠ X.env.locals /\ p.1 ∉ X.fs /\ ∀ v, p.2.data ≠ .cell v
 hok : HOk X.prog X.w H s.heap
 len : σ.length = X.N.length
section
variable {X : Cx} {pins : List (Addr × Obj)} {σ : List (Option V)} {H H' : Hp} {s : Shared} {h' : Heap}
theorem Cx.Ok.nofr (ok : X.Ok) {b : Addr} {o : Obj} (e : X.base.get? b = some o) : b ∉ X.fs := fun hb => by
 have := (ok.funs.mem hb).1
 rw [e] at this; cases this
theorem Inv.tab (I : Inv X pins σ H s) : Tbs X.K H := fun p hp => by
 obtain ⟨m, e⟩ := I.ok.tab p hp
 obtain ⟨m2, e2⟩ := I.base.tbls _ _ e
 exact ⟨m ++ m2, by rw [e2, Array.append_assoc]⟩
theorem Inv.bs (I : Inv X pins σ H s) : ∀ b o, X.base.get? b = some o -> s.heap.get? b = some o /\ H b = none := fun b o e =>
 ⟨I.base.keep b o (I.ok.bs b o e).1 (I.ok.bs b o e).2 (I.ok.nofr e) (I.ok.noex b o e), I.base.free b o (I.ok.bs b o e).1 (I.ok.bs b o e).2 (I.ok.noex b o e)⟩
theorem Inv.bk (I : Inv X pins σ H s) : ∀ b o, X.base.get? b = some o -> s.heap.get? b = some o := fun b o e => (I.bs b o e).1
theorem Inv.mod (I : Inv X pins σ H s) : Mod X.K X.mg X.base := I.ok.mod
theorem Inv.kIn (I : Inv X pins σ H s) : X.K.In s.heap := I.ok.mod.kin.keeps I.bk
theorem Inv.lt (I : Inv X pins σ H s) : X.env.locals < s.heap.objs.size := let ⟨_, hn, _⟩ := I.loc; hn.lt
theorem Inv.sz (I : Inv X pins σ H s) : X.s₀.heap.objs.size <= s.heap.objs.size := Nat.le_trans I.ok.above (Nat.le_of_lt I.lt)
theorem Inv.nofs (I : Inv X pins σ H s) {a : Addr} (h : s.heap.objs.size <= a) : a ∉ X.fs := fun hb => by
 obtain ⟨_, o, ho, _⟩ := I.ok.funs.mem hb
 exact absurd (Nat.lt_of_lt_of_le (Heap.lt_size ho) (Nat.le_trans I.sz h)) (Nat.lt_irrefl _)
theorem Inv.cne (I : Inv X pins σ H s) : ∀ x c, X.env.cells.lookup x = some c -> c ≠ X.env.locals := fun x c e z => by
 obtain ⟨v, o, ho, hd⟩ := I.cell x c e
 obtain ⟨m, ⟨o', es, ep, ho', hd', _⟩, _⟩ := I.loc
 rw [z, ho'] at ho; cases ho; rw [hd'] at hd; cases hd
theorem Inv.funs (I : Inv X pins σ H s) : s.heap.FunFrames X.base X.outer := by
 have all : ∀ (l : List Env), (∀ b ∈ frs l, b ∈ X.fs) -> X.s₀.heap.FunFrames X.base l -> s.heap.FunFrames X.base l := by
  intro l
  induction l with
  | nil => intro _ _; trivial
  | cons env r ih =>
   intro hs hl
   obtain ⟨hk, ⟨L, o, hf, hn, ho, hd⟩, hr⟩ := hl
   have hL : L ∈ X.fs := hs L (by unfold frs; rw [List.filterMap_cons, hf]; exact List.mem_cons_self)
   obtain ⟨sl, e⟩ := I.base.slot L o ho (I.ok.frf L hL) hL fun z => I.ok.exfs L z hL
   exact ⟨hk, ⟨L, _, hf, hn, e, hd⟩, ih (fun b hb => hs b (by unfold frs; rw [List.filterMap_cons, hf]; exact List.mem_cons_of_mem _ hb)) hr⟩
 exact all X.outer (fun _ hb => hb) I.ok.funs
theorem Inv.stack (I : Inv X pins σ H s) : s.heap.FunFrames X.base X.stack := by
 rcases I.ok.stk with e | ⟨e, hf⟩
 ·rw [e]; exact I.funs
 ·rw [e]
  obtain ⟨m, hn, _⟩ := I.loc
  refine .cons (by rw [I.ok.kind]; decide) hf hn ?_ I.funs
  exact Heap.get?_none_of_le (Nat.le_trans I.ok.bsz I.ok.above)
theorem Inv.stkSub (I : Inv X pins σ H s) : ∀ b ∈ frs X.stack, b ∈ X.env.locals :: X.fs := fun b hb => by
 rcases I.ok.stk with e | ⟨e, hf⟩
 ·rw [e] at hb; exact List.mem_cons_of_mem _ hb
 ·rw [e] at hb
  unfold frs at hb
  rw [List.filterMap_cons, hf] at hb
  exact hb
theorem Inv.stkFree (I : Inv X pins σ H s) : ∀ b ∈ frs X.stack, H b = none := fun b hb => by
 rcases List.mem_cons.mp (I.stkSub b hb) with e | hb
 ·rw [e]; exact I.free
 ·obtain ⟨_, o, ho, _⟩ := I.ok.funs.mem hb
  exact I.base.free b o ho (I.ok.frf b hb) fun z => I.ok.exfs b z hb
theorem Inv.step {g' : Array GenState} {t' : Nat} {d' : Drawn} {ch : List Addr} (I : Inv X pins σ H s)
  (hch : ∀ b ∈ ch, (b ∈ X.ex \/ X.s₀.heap.objs.size <= b) /\ b ≠ X.env.locals /\ (∀ x c, X.env.cells.lookup x = some c -> c ≠ b) /\ ∀ p ∈ X.pn ++ pins, p.1 ≠ b)
  (keep : ∀ b o, b ≠ X.env.locals -> b ∉ X.fs -> b ∉ ch -> s.heap.get? b = some o -> H b = none -> h'.get? b = some o)
  (slot : ∀ b o, b ≠ X.env.locals -> b ∈ X.fs -> b ∉ ch -> s.heap.get? b = some o -> H b = none -> ∃ sl, h'.get? b = some { o with slots := sl }) (free : ∀ b o, b ∉ ch -> s.heap.get? b = some o -> H b = none -> H' b = none)
  (there : ∀ b o, b ∉ ch -> s.heap.get? b = some o -> ∃ o', h'.get? b = some o')
  (tups : ∀ b xs, H b = some (.tup xs) -> H' b = some (.tup xs)) (frzs : ∀ b o u, H b = some (.frz o u) -> H' b = some (.frz o u)) (tbls : ∀ b ps, H b = some (.tbl ps) -> ∃ more, H' b = some (.tbl (ps ++ more)))
  (ns : ∀ m, s.heap.Ns X.env.locals m -> h'.Ns X.env.locals m) (hok : HOk X.prog X.w H' h') (hg : AllBare g') :
  Inv X pins σ H' { s with heap := h', gens := g', drawn := d', toks := t' } := by
 have neL : ∀ b o, X.s₀.heap.get? b = some o -> b ≠ X.env.locals := fun b o e => Nat.ne_of_lt (Nat.lt_of_lt_of_le (Heap.lt_size e) I.ok.above)
 have neC : ∀ b o, X.s₀.heap.get? b = some o -> b ∉ X.ex -> b ∉ ch := fun b o e hx hb => by
  rcases (hch b hb).1 with z | z
  ·exact hx z
  ·exact absurd (Nat.lt_of_lt_of_le (Heap.lt_size e) z) (Nat.lt_irrefl _)
 have cellK : ∀ x c, X.env.cells.lookup x = some c -> ∀ v, s.heap.IsCell c v -> h'.IsCell c v := fun x c e v ⟨o, ho, hd⟩ => by
  have nch : c ∉ ch := fun z => (hch c z).2.2.1 x c e rfl
  by_cases hc : c ∈ X.fs
  ·obtain ⟨sl, q⟩ := slot c o (I.cne x c e) hc nch ho (I.freeC x c e)
   exact ⟨_, q, hd⟩
  ·exact ⟨o, keep c o (I.cne x c e) hc nch ho (I.freeC x c e), hd⟩
 refine ⟨I.ok, I.os, hg, ⟨fun b o e n hb hx => ?_, fun b o e n hb hx => ?_, fun b o e n hx => ?_, fun b o e hx => ?_, fun b xs e => tups b xs (I.base.tups b xs e), fun b o xs e => frzs b o xs (I.base.frzs b o xs e), fun b ps e => ?_⟩, ?_, fun x c e => ?_, ?_, fun x c e => ?_, fun p hp => ?_, hok, I.len⟩
 ·exact keep b o (neL b o e) hb (neC b o e hx) (I.base.keep b o e n hb hx) (I.base.free b o e n hx)
 ·obtain ⟨sl, e1⟩ := I.base.slot b o e n hb hx
  obtain ⟨sl', e2⟩ := slot b _ (neL b o e) hb (neC b o e hx) e1 (I.base.free b o e n hx)
  exact ⟨sl', e2⟩
 ·obtain ⟨o', e1⟩ := I.base.there b o e hx
  exact free b o' (neC b o e hx) e1 (I.base.free b o e n hx)
 ·obtain ⟨o', e1⟩ := I.base.there b o e hx
  exact there b o' (neC b o e hx) e1
 ·obtain ⟨m1, e1⟩ := I.base.tbls b ps e
  obtain ⟨m2, e2⟩ := tbls b _ e1
  exact ⟨m1 ++ m2, by rw [e2, Array.append_assoc]⟩
 ·obtain ⟨m, hn, hl⟩ := I.loc
  refine ⟨m, ns m hn, fun i x v e1 e2 e3 => ?_⟩
  obtain ⟨u, r, l⟩ := hl i x v e1 e2 e3
  refine ⟨u, r, ?_⟩
  rcases l with l | ⟨k, c, e, z⟩
  ·exact .inl l
  ·exact .inr ⟨k, c, e, cellK x c e _ z⟩
 ·obtain ⟨v, z⟩ := I.cell x c e
  exact ⟨v, cellK x c e v z⟩
 ·obtain ⟨m, ⟨o, _, _, ho, _⟩, _⟩ := I.loc
  exact free _ o (fun z => (hch _ z).2.1 rfl) ho I.free
 ·obtain ⟨v, o, ho, hd⟩ := I.cell x c e
  exact free c o (fun z => (hch c z).2.2.1 x c e rfl) ho (I.freeC x c e)
 ·obtain ⟨e, n, ne, nf, d⟩ := I.pin p hp
  have nch : p.1 ∉ ch := fun z => (hch p.1 z).2.2.2 p hp rfl
  exact ⟨keep p.1 p.2 ne nf nch e n, free p.1 p.2 nch e n, ne, nf, d⟩
theorem Inv.un {t' : Nat} (I : Inv X pins σ H s) (u : Un X.fs [] H H' s.heap h') (hok : HOk X.prog X.w H' h') : Inv X pins σ H' { s with heap := h', toks := t' } := by
 obtain ⟨m, ⟨o, es, ep, ho, r⟩, _⟩ := id I.loc
 obtain ⟨sl, hL⟩ := u.any ho I.free (by simp)
 exact I.step (g' := s.gens) (d' := s.drawn) (ch := []) (fun _ z => nomatch z) (fun b o _ hb _ e n => u.keep b o e n hb (by simp)) (fun b o _ hb _ e n => u.slot b o e n hb (by simp)) (fun b o _ e n => u.free b o e n (by simp)) (fun b o _ e => u.there b o e (by simp)) u.tups u.frzs u.tbls (fun m' hm => by
  obtain ⟨o', es', ep', ho', r'⟩ := hm
  rw [ho] at ho'; cases ho'
  exact ⟨_, es', ep', hL, r'⟩) hok I.bare
theorem Inv.call {g' : Array GenState} {t' : Nat} {d' : Drawn} {ch : List Addr} (I : Inv X pins σ H s) (u : Un (frs X.stack) ch H H' s.heap h') (hok : HOk X.prog X.w H' h') (hg : AllBare g')
  (hch : ∀ b ∈ ch, (b ∈ X.ex \/ X.s₀.heap.objs.size <= b) /\ b ≠ X.env.locals /\ (∀ x c, X.env.cells.lookup x = some c -> c ≠ b) /\ ∀ p ∈ X.pn ++ pins, p.1 ≠ b) :
  Inv X pins σ H' { s with heap := h', gens := g', drawn := d', toks := t' } := by
 obtain ⟨m, ⟨o, es, ep, ho, r⟩, _⟩ := id I.loc
 obtain ⟨sl, hL⟩ := u.any ho I.free fun z => (hch _ z).2.1 rfl
 exact I.step (ch := ch) hch (fun b o hL hb hc e n => u.keep b o e n (fun z => (List.mem_cons.mp (I.stkSub b z)).elim hL hb) hc) (fun b o _ _ hc e n => u.any e n hc) (fun b o hc e n => u.free b o e n hc) (fun b o hc e => u.there b o e hc) u.tups u.frzs u.tbls (fun m' hm => by
  obtain ⟨o', es', ep', ho', r'⟩ := hm
  rw [ho] at ho'; cases ho'
  exact ⟨_, es', ep', hL, r'⟩) hok hg
theorem Inv.turned {t' : Nat} {it : Addr} (I : Inv X pins σ H s) (k : ∀ b o, b ≠ it -> s.heap.get? b = some o -> h'.get? b = some o) (hn : H it = none) (hL : it ≠ X.env.locals)
  (h1 : it ∈ X.ex \/ X.s₀.heap.objs.size <= it) (h2 : ∀ x c, X.env.cells.lookup x = some c -> c ≠ it) (h3 : ∀ p ∈ X.pn ++ pins, p.1 ≠ it) : Inv X pins σ H { s with heap := h', toks := t' } := by
 have nit : ∀ b u, H b = some u -> b ≠ it := fun b u e z => by rw [z, hn] at e; cases e
 refine I.step (g' := s.gens) (d' := s.drawn) (ch := [it]) (fun b hb => ?_) (fun b o _ _ hc e _ => k b o (fun z => hc (by simp [z])) e) (fun b o _ _ hc e _ => ⟨o.slots, k b o (fun z => hc (by simp [z])) e⟩) (fun _ _ _ _ n => n)
  (fun b o hc e => ⟨o, k b o (fun z => hc (by simp [z])) e⟩) (fun _ _ e => e) (fun _ _ _ e => e) (fun b ps e => ⟨#[], by rw [e]; simp⟩) (fun m hm => ?_) (fun b u e => ?_) I.bare
 ·have e : b = it := by simpa using hb
  subst e
  exact ⟨h1, hL, h2, h3⟩
 ·obtain ⟨o, es, ep, ho, r⟩ := hm
  exact ⟨o, es, ep, k _ o (Ne.symm hL) ho, r⟩
 ·refine (I.hok b u e).stay (fun c v hc q => k c v ?_ q) (fun _ q => q) fun _ _ q => q
  rcases hc with z | z
  ·rw [z]; exact nit b u e
  ·exact nit c _ z
theorem Inv.tok (I : Inv X pins σ H s) (t : Nat) : Inv X pins σ H { s with toks := t } := I.un (h' := s.heap) (t' := t) Un.refl I.hok
theorem Inv.kept {t' : Nat} (I : Inv X pins σ H s) (k : ∀ b u, s.heap.get? b = some u -> h'.get? b = some u) : Inv X pins σ H { s with heap := h', toks := t' } := I.un (Un.kept k) (I.hok.kept k)
theorem Inv.laid {a : Addr} {o : HO} {t' : Nat} (I : Inv X pins σ H s) (k : ∀ b u, s.heap.get? b = some u -> h'.get? b = some u) (hp : s.heap.objs.size <= a) (new : ObjOk X.prog X.w (upd H a o) h' a o) :
  Inv X pins σ (upd H a o) { s with heap := h', toks := t' } := I.un (Un.laid k hp (I.hok.fresh hp)) (I.hok.laid k hp new)
theorem Inv.write {x e : Addr} {o : HO} {t' : Nat} (I : Inv X pins σ H s) (mu : Mut (H x)) (he : e = x \/ H e = some (.own x)) (k : ∀ b u, b ≠ e -> s.heap.get? b = some u -> h'.get? b = some u) (heo : ∃ u, h'.get? e = some u)
  (new : ObjOk X.prog X.w (upd H x o) h' x o) : Inv X pins σ (upd H x o) { s with heap := h', toks := t' } := I.un (Un.write mu he k heo) (I.hok.write mu he k heo new)
theorem Inv.weak {σ' : List (Option V)} (I : Inv X pins σ H s) (hl : σ'.length = σ.length) (w : ∀ (i : Nat) v, σ'[i]? = some (some v) -> σ[i]? = some (some v)) : Inv X pins σ' H s :=
 ⟨I.ok, I.os, I.bare, I.base, let ⟨m, hn, hl'⟩ := I.loc; ⟨m, hn, fun i x v e1 e2 e3 => hl' i x v e1 (w i v e2) e3⟩, I.cell, I.free, I.freeC, I.pin, I.hok, hl.trans I.len⟩
theorem Inv.pins_of {pins' : List (Addr × Obj)} (I : Inv X pins σ H s) (h : ∀ p ∈ pins', s.heap.get? p.1 = some p.2 /\ H p.1 = none /\ p.1 ≠ X.env.locals /\ p.1 ∉ X.fs /\ ∀ v, p.2.data ≠ .cell v) : Inv X pins' σ H s :=
 ⟨I.ok, I.os, I.bare, I.base, I.loc, I.cell, I.free, I.freeC, fun p hp => (List.mem_append.mp hp).elim (fun z => I.pin p (List.mem_append_left _ z)) (h p), I.hok, I.len⟩
theorem lV {N : List Str} (hN : N.Nodup) {i j : Nat} {x : Str} (a : N[i]? = some x) (b : N[j]? = some x) : i = j := by
 obtain ⟨h1, e1⟩ := List.getElem?_eq_some_iff.mp a
 obtain ⟨h2, e2⟩ := List.getElem?_eq_some_iff.mp b
 exact (List.getElem_inj hN).mp (e1.trans e2.symm)
theorem tZ {M : Model} {A : Around} {E : Value -> Shared -> Prop} {i : Nat} {x : Str} {v : V} {u : Value} {Q : Unit -> Shared -> Prop} (I : Inv X pins σ H s) (hN : X.N.Nodup) (hi : X.N[i]? = some x) (hx : Loc X.env.scope x) (r : RelV v u)
  (h : ∀ s', Inv X pins (σ.set i (some v)) H s' -> (∃ a, Heap.SameBut a s.heap s'.heap /\ (a = X.env.locals \/ X.env.cells.lookup x = some a)) -> Q () s') (hf : X.fn x = true \/ X.env.scope.names.lookup x = some .local := by first | exact .inl rfl | exact .inr rfl | assumption) : wpAny M A (storeName X.env x u) Q E s := by
 obtain ⟨m, hn, hl⟩ := id I.loc
 have hcls : (X.env.scope.kind == .class || (X.env.scope.kind == .module && X.env.locals != X.env.globals)) = false := by rw [I.ok.kind]; rfl
 have hiσ : i < σ.length := by rw [I.len]; exact (List.getElem?_eq_some_iff.mp hi).1
 have cne := I.cne
 have tracked : ∀ {a : Addr} {h' : Heap}, (∃ o, s.heap.get? a = some o /\ H a = none) -> Heap.SameBut a s.heap h' -> HOk X.prog X.w H h' := fun {a h'} ha hs b ob e => by
  obtain ⟨_, _, hfree⟩ := ha
  refine (I.hok b ob e).stay (fun c w' hc q => (hs.2 c ?_).trans q) (fun _ q => q) fun _ _ q => q
  rintro rfl
  rcases hc with rfl | hc
  ·rw [hfree] at e; cases e
  ·rw [hfree] at hc; cases hc
 rcases hx with hk | hk
 ·refine wpAny_storeName_local hk hn (fun h' hn' hs => ?_) hcls
  obtain ⟨oL, _, _, hoL, _⟩ := id hn
  refine h _ ⟨I.ok, I.os, I.bare, ⟨fun b o e n hb hx => ?_, fun b o e n hb hx => ?_, I.base.free, fun b o e hx => ?_, I.base.tups, I.base.frzs, I.base.tbls⟩, ⟨_, hn', fun j y v' e1 e2 e3 => ?_⟩, fun y c e => ?_, I.free, I.freeC, fun p hp => ?_, tracked ⟨oL, hoL, I.free⟩ hs, by simpa using I.len⟩ ⟨_, hs, .inl rfl⟩
  ·exact (hs.2 b (Nat.ne_of_lt (Nat.lt_of_lt_of_le (Heap.lt_size e) I.ok.above))).trans (I.base.keep b o e n hb hx)
  ·obtain ⟨sl, e1⟩ := I.base.slot b o e n hb hx
   exact ⟨sl, (hs.2 b (Nat.ne_of_lt (Nat.lt_of_lt_of_le (Heap.lt_size e) I.ok.above))).trans e1⟩
  ·obtain ⟨o', e1⟩ := I.base.there b o e hx
   exact ⟨o', (hs.2 b (Nat.ne_of_lt (Nat.lt_of_lt_of_le (Heap.lt_size e) I.ok.above))).trans e1⟩
  ·by_cases hj : j = i
   ·subst hj
    rw [hi] at e1; cases e1
    rw [List.getElem?_set_self hiσ] at e2
    cases e2
    exact ⟨u, r, .inl ⟨hk, by simp⟩⟩
   ·rw [List.getElem?_set_ne (Ne.symm hj)] at e2
    obtain ⟨u', r', q⟩ := hl j y v' e1 e2 e3
    refine ⟨u', r', ?_⟩
    rcases q with ⟨k, e⟩ | ⟨k, c, e, z⟩
    ·refine .inl ⟨k, ?_⟩
     have : y ≠ x := fun e => hj (lV hN e1 (e ▸ hi))
     simp [this, e]
    ·exact .inr ⟨k, c, e, z.sameBut hs (cne y c e)⟩
  ·obtain ⟨w', z⟩ := I.cell y c e
   exact ⟨w', z.sameBut hs (cne y c e)⟩
  ·obtain ⟨e, n, ne, nf, d⟩ := I.pin p hp
   exact ⟨(hs.2 p.1 ne).trans e, n, ne, nf, d⟩
 ·have hfn : X.fn x = true := by
   rcases hf with z | z
   ·exact z
   ·rw [z] at hk; cases hk
  obtain ⟨c, hc⟩ := I.ok.has x (.inl hk)
  obtain ⟨w', z⟩ := I.cell x c hc
  refine wpAny_storeName_cell I.ok.kind hk hc z (fun h' hc' hs => ?_)
  obtain ⟨oc, hoc, hocd⟩ := id z
  refine h { s with heap := h' } ⟨I.ok, I.os, I.bare, ⟨fun b o e n hb hx => ?_, fun b o e n hb hx => ?_, I.base.free, fun b o e hx => ?_, I.base.tups, I.base.frzs, I.base.tbls⟩, ⟨m, hn.sameBut hs (Ne.symm (cne x c hc)), fun j y v' e1 e2 e3 => ?_⟩, fun y c' e => ?_, I.free, I.freeC, fun p hp => ?_, tracked ⟨oc, hoc, I.freeC x c hc⟩ hs, by simpa using I.len⟩ ⟨c, hs, .inr hc⟩
  ·exact (hs.2 b (Nat.ne_of_lt (Nat.lt_of_lt_of_le (Heap.lt_size e) (I.ok.cab x c hfn hc)))).trans (I.base.keep b o e n hb hx)
  ·obtain ⟨sl, e1⟩ := I.base.slot b o e n hb hx
   exact ⟨sl, (hs.2 b (Nat.ne_of_lt (Nat.lt_of_lt_of_le (Heap.lt_size e) (I.ok.cab x c hfn hc)))).trans e1⟩
  ·obtain ⟨o', e1⟩ := I.base.there b o e hx
   exact ⟨o', (hs.2 b (Nat.ne_of_lt (Nat.lt_of_lt_of_le (Heap.lt_size e) (I.ok.cab x c hfn hc)))).trans e1⟩
  ·by_cases hj : j = i
   ·subst hj
    rw [hi] at e1; cases e1
    rw [List.getElem?_set_self hiσ] at e2
    cases e2
    exact ⟨u, r, .inr ⟨.inl hk, c, hc, hc'⟩⟩
   ·rw [List.getElem?_set_ne (Ne.symm hj)] at e2
    obtain ⟨u', r', q⟩ := hl j y v' e1 e2 e3
    refine ⟨u', r', ?_⟩
    rcases q with q | ⟨k, c', e, z'⟩
    ·exact .inl q
    ·refine .inr ⟨k, c', e, z'.sameBut hs ?_⟩
     rintro rfl
     exact hj (lV hN e1 (I.ok.inj _ _ _ e hc ▸ hi))
  ·by_cases hcc : c' = c
   ·subst hcc; exact ⟨_, hc'⟩
   ·obtain ⟨w2, z2⟩ := I.cell y c' e
    exact ⟨w2, z2.sameBut hs hcc⟩
  ·obtain ⟨e, n, ne, nf, d⟩ := I.pin p hp
   refine ⟨(hs.2 p.1 ?_).trans e, n, ne, nf, d⟩
   intro q
   rw [q, hoc] at e
   have q' : oc = p.2 := Option.some.inj e
   exact d w' (by rw [<- q']; exact hocd)
theorem l9 {M : Model} {A : Around} {E : Value -> Shared -> Prop} {i : Nat} {x : Str} {v : V} {u : Value} {Q : Unit -> Shared -> Prop} (I : Inv X pins σ H s) (hN : X.N.Nodup) (hi : X.N[i]? = some x) (hx : Loc X.env.scope x) (r : RelV v u)
  (h : ∀ s', Inv X pins (σ.set i (some v)) H s' -> Q () s') (hf : X.fn x = true \/ X.env.scope.names.lookup x = some .local := by first | exact .inl rfl | exact .inr rfl | assumption) : wpAny M A (storeName X.env x u) Q E s :=
 tZ I hN hi hx r (fun s' I' _ => h s' I') hf
theorem Inv.call' {s' : Shared} {ch : List Addr} (I : Inv X pins σ H s) (ho : s'.os = s.os) (u : Un (frs X.stack) ch H H' s.heap s'.heap) (hok : HOk X.prog X.w H' s'.heap) (hg : AllBare s'.gens)
  (hch : ∀ b ∈ ch, (b ∈ X.ex \/ X.s₀.heap.objs.size <= b) /\ b ≠ X.env.locals /\ (∀ x c, X.env.cells.lookup x = some c -> c ≠ b) /\ ∀ p ∈ X.pn ++ pins, p.1 ≠ b) : Inv X pins σ H' s' := by
 obtain ⟨h', g', d', t', o'⟩ := s'
 have e : o' = s.os := ho
 subst e
 exact I.call (g' := g') (t' := t') (d' := d') u hok hg hch
end
abbrev XK := Value -> Option Addr -> Hp -> Prop
abbrev St := List (Option V)
abbrev VK := V -> Hp -> Prop
abbrev TE := St -> Hp -> VK -> Prop
abbrev TT := St -> Hp -> (Bool -> Hp -> Prop) -> Prop
abbrev TA := St -> Hp -> (List V -> Hp -> Prop) -> Prop
structure Ends where
 nx : St -> Hp -> Prop
 rt : VK
 bk : St -> Hp -> Prop := fun _ _ => False
 ct : St -> Hp -> Prop := fun _ _ => False
abbrev TS := Ends -> St -> Hp -> Prop
def EP (X : Cx) (pins : List (Addr × Obj)) (σ : St) (Q : VK) (u : Value) (s' : Shared) : Prop := ∃ v H', Inv X pins σ H' s' /\ RelV v u /\ Q v H'
def TP (X : Cx) (pins : List (Addr × Obj)) (σ : St) (Q : Bool -> Hp -> Prop) (b : Bool) (s' : Shared) : Prop := ∃ H', Inv X pins σ H' s' /\ Q b H'
def AP (X : Cx) (pins : List (Addr × Obj)) (σ : St) (Q : List V -> Hp -> Prop) (us : List Value) (s' : Shared) : Prop := ∃ vs H', Inv X pins σ H' s' /\ Vals vs us /\ Q vs H'
def SP (X : Cx) (pins : List (Addr × Obj)) (D : Ends) (f : Flow) (s' : Shared) : Prop :=
 match f with
 | .next => ∃ σ' H', Inv X pins σ' H' s' /\ D.nx σ' H'
 | .brk => ∃ σ' H', Inv X pins σ' H' s' /\ D.bk σ' H'
 | .cont => ∃ σ' H', Inv X pins σ' H' s' /\ D.ct σ' H'
 | .ret u => ∃ v σ' H', Inv X pins σ' H' s' /\ RelV v u /\ D.rt v H'
def PE (X : Cx) (e : Expr) (t : TE) : Prop :=
 ∀ (pins : List (Addr × Obj)) (s : Shared) (σ : St) (H : Hp) (Q : VK), Inv X pins σ H s -> t σ H Q -> wpAny (model X.prog X.w) X.A (eval e X.env) (EP X pins σ Q) X.xe s
def PT (X : Cx) (e : Expr) (t : TT) : Prop :=
 ∀ (pins : List (Addr × Obj)) (s : Shared) (σ : St) (H : Hp) (Q : Bool -> Hp -> Prop), Inv X pins σ H s -> t σ H Q -> wpAny (model X.prog X.w) X.A (isTrue e X.env (eval e X.env)) (TP X pins σ Q) X.xe s
def PW (X : Cx) (e : Expr) (t : TT) : Prop :=
 ∀ (whole : Sem Value) (pins : List (Addr × Obj)) (s : Shared) (σ : St) (H : Hp) (Q : Bool -> Hp -> Prop), Inv X pins σ H s -> t σ H Q -> wpAny (model X.prog X.w) X.A (isTrue e X.env whole) (TP X pins σ Q) X.xe s
def PA (X : Cx) (es : List Expr) (t : TA) : Prop :=
 ∀ (pos : Pos) (pins : List (Addr × Obj)) (s : Shared) (σ : St) (H : Hp) (Q : List V -> Hp -> Prop), Inv X pins σ H s -> t σ H Q -> wpAny (model X.prog X.w) X.A (spliced (backTo pos (starEach es X.env))) (AP X pins σ Q) X.xe s
def PS (X : Cx) (st : Stmt) (t : TS) : Prop :=
 ∀ (pins : List (Addr × Obj)) (s : Shared) (σ : St) (H : Hp) (D : Ends), Inv X pins σ H s -> t D σ H -> wpAny (model X.prog X.w) X.A (exec st X.env) (SP X pins D) X.xe s
def PSs (X : Cx) (st : List Stmt) (t : TS) : Prop :=
 ∀ (pins : List (Addr × Obj)) (s : Shared) (σ : St) (H : Hp) (D : Ends), Inv X pins σ H s -> t D σ H -> wpAny (model X.prog X.w) X.A (execs st X.env) (SP X pins D) X.xe s
theorem thn {α : Type} {t : Sem α} {Q Q' : α -> Shared -> Prop} {M : Model} {A : Around} {E : Value -> Shared -> Prop} {s : Shared} (h : wpAny M A t Q E s) (hQ : ∀ a s, Q a s -> Q' a s) : wpAny M A t Q' E s := wpAny_mono h hQ fun _ _ x => x
section
variable {X : Cx}
def aEn (i : Nat) : TE := fun σ H Q => ∃ v, σ[i]? = some (some v) /\ Q v H
def tC (v : V) : TE := fun _ H Q => Q v H
theorem wK {i : Nat} {x : Str} {pos : Pos} (hN : X.N[i]? = some x) (hv : Vis X.env.scope x) (hd : (x == ("__debug__" : Str)) = false := by decide) (hcd : (x == ("__classdict__" : Str)) = false := by decide) : PE X (.Name x pos) (aEn i) := by
 intro pins s σ H Q I h
 obtain ⟨v, e, h⟩ := h
 obtain ⟨m, hn, hl⟩ := I.loc
 obtain ⟨u, r, l⟩ := hl i x v hN e hv
 have fin : EP X pins σ Q u s := ⟨v, H, I, r, h⟩
 rcases l with ⟨hk, hm⟩ | ⟨hk, c, hc, hcell⟩
 ·exact wpAny_Name (wpAny_loadName_local I.ok.kind hk hn hm fin) hd
 ·rcases hk with hk | hk
  ·exact wpAny_Name (wpAny_loadName_cell I.ok.kind hk hc hcell fin) hd
  ·exact wpAny_Name (wpAny_loadName_free I.ok.kind hk hc hcell fin hcd) hd
theorem aCw {i j pos} : PE X (.Constant (.int i) j pos) (tC (.int i)) := fun _ _ _ H _ I h => wpAny_Constant_int ⟨.int i, H, I.tok _, ⟨_, rfl⟩, h⟩
theorem aDc {b j pos} : PE X (.Constant (.bool b) j pos) (tC (.bl b)) := fun _ _ _ H _ I h => Constant_bool ⟨.bl b, H, I, rfl, h⟩
theorem aBx {j pos} : PE X (.Constant .none j pos) (tC .non) := fun _ _ _ H _ I h => Constant_none ⟨.non, H, I, rfl, h⟩
theorem zK {x j pos} : PE X (.Constant (.str x) j pos) (tC (.str x)) := fun _ _ _ H _ I h => Calls.Constant_str ⟨.str x, H, I.tok _, ⟨_, rfl⟩, h⟩
def Gl (X : Cx) (x : Str) : Prop := X.env.kindOf x = some .globalImplicit
theorem j7 {E : Value -> Shared -> Prop} {pins : List (Addr × Obj)} {s : Shared} {σ : St} {H : Hp} {x : Str} {u : Value} {pos : Pos} {Q : Value -> Shared -> Prop} (I : Inv X pins σ H s) (hg : Gl X x) (hm : X.mg x = some u) (h : Q u s)
  (hd : (x == ("__debug__" : Str)) = false := by decide) : wpAny (model X.prog X.w) X.A (eval (.Name x pos) X.env) Q E s :=
 Calls.Name_function_global I.ok.kind hg (Calls.loadGlobal_global (by rw [I.ok.glob]; exact I.mod.glob.keeps I.bk) hm h) hd
theorem pQ {E : Value -> Shared -> Prop} {pins : List (Addr × Obj)} {s : Shared} {σ : St} {H : Hp} {x : Str} {u : Value} {pos : Pos} {Q : Value -> Shared -> Prop} (I : Inv X pins σ H s) (hg : Gl X x) (hm : X.mg x = none) (hv : bootBuiltins x = some u) (h : Q u s)
  (hn : x ≠ "__name__" := by decide) (hd : (x == ("__debug__" : Str)) = false := by decide) : wpAny (model X.prog X.w) X.A (eval (.Name x pos) X.env) Q E s := by
 obtain ⟨mb, h1, h2⟩ := I.mod.blt
 exact Calls.Name_function_global I.ok.kind hg (Calls.loadGlobal_builtin (by rw [I.ok.glob]; exact I.mod.glob.keeps I.bk) hm (by rw [I.ok.blt]; exact h1.keeps I.bk) ((h2 x hn).trans hv) h) hd
theorem eQ {x : Str} {v : V} {u : Value} {pos : Pos} (hg : Gl X x) (hm : X.mg x = some u) (r : RelV v u) (hd : (x == ("__debug__" : Str)) = false := by decide) : PE X (.Name x pos) (tC v) :=
 fun _ _ _ H _ I h => j7 I hg hm ⟨v, H, I, r, h⟩ hd
theorem hX {x : Str} {v : V} {u : Value} {pos : Pos} (hg : Gl X x) (hm : X.mg x = none) (hv : bootBuiltins x = some u) (r : RelV v u) (hn : x ≠ "__name__" := by decide) (hd : (x == ("__debug__" : Str)) = false := by decide) : PE X (.Name x pos) (tC v) :=
 fun _ _ _ H _ I h => pQ I hg hm hv ⟨v, H, I, r, h⟩ hn hd
variable {a b : Expr} {ta tb : TE} {pos : Pos}
def PC (X : Cx) (op : CmpOp) (a b : Expr) (t : TE) : Prop :=
 ∀ (pins : List (Addr × Obj)) (s : Shared) (σ : St) (H : Hp) (Q : VK), Inv X pins σ H s -> t σ H Q ->
  wpAny (model X.prog X.w) X.A (eval a X.env) (fun v s₁ => wpAny (model X.prog X.w) X.A (eval b X.env) (fun u s₂ => wpAny (model X.prog X.w) X.A (compareOp op v u) (EP X pins σ Q) X.xe s₂) X.xe s₁) X.xe s
theorem o8 (b : Expr) {op : CmpOp} (h : op ≠ .In) (h2 : op ≠ .NotIn) : behindInMarks op b = false := by
 have e1 : (op == CmpOp.In) = false := by cases op <;> first | rfl | exact absurd rfl h
 have e2 : (op == CmpOp.NotIn) = false := by cases op <;> first | rfl | exact absurd rfl h2
 cases b <;> simp [behindInMarks, e1, e2]
def aE0 (ta : TE) : TE := fun σ H Q => ta σ H fun x H1 => Q (.bl (decide (x = .non))) H1
theorem RelV.none_iff {x : V} {v : Value} (r : RelV x v) : (v == Value.none) = decide (x = .non) := by
 cases x with
 | non => cases r; rfl
 | bl _ => cases r; rfl
 | int _ => obtain ⟨t, rfl⟩ := r; rfl
 | str _ => obtain ⟨t, rfl⟩ := r; rfl
 | byt _ => obtain ⟨t, rfl⟩ := r; rfl
 | flt _ => obtain ⟨t, rfl⟩ := r; rfl
 | ref _ => cases r; rfl
 | ty _ => cases r; rfl
theorem wG {j pos'} (ha : PE X a ta) : PC X .Is a (.Constant .none j pos') (aE0 ta) := by
 intro pins s σ H Q I h
 refine thn (ha pins s σ H _ I h) fun v s1 ⟨x, H1, I1, r1, q1⟩ => ?_
 exact Constant_none (is_none_gen ⟨.bl _, H1, I1, by rw [r1.none_iff]; rfl, q1⟩)
def tB (t : TE) : TT := fun σ H Q => t σ H fun x H1 => ∃ c, x = .bl c /\ Q c H1
theorem aAk {op : CmpOp} {t : TE} (h : PC X op a b t) (h1 : behindInMarks op b = false := by first | exact o8 _ (by decide) (by decide) | rfl) : PE X (.Compare a [op] [b] pos) t := fun pins s σ H Q I hw => wpAny_Compare1 (h pins s σ H Q I hw) h1
theorem aCt {op : CmpOp} {t : TE} (h : PC X op a b t) (h1 : behindInMarks op b = false := by first | exact o8 _ (by decide) (by decide) | rfl) : PT X (.Compare a [op] [b] pos) (tB t) := by
 intro pins s σ H Q I hw
 refine wpAny_isTrue_Compare1 (thn (h pins s σ H _ I hw) fun v s1 h1 => thn h1 fun u s2 h2 => thn h2 fun c s3 ⟨x, H1, I1, r1, q1⟩ => ?_) h1
 obtain ⟨d, rfl, q⟩ := q1
 cases r1
 exact wpAny_truthy_bool ⟨H1, I1, q⟩
theorem aBs {e : Expr} {t : TE} (h : PE X e t) (he : ∀ whole, isTrue e X.env whole = (do let v <- whole; standAt e.pos; holding [v] (truthy v)) := by intro _; rfl) : PT X e (tB t) := by
 intro pins s σ H Q I hw
 refine isTrue_plain (thn (h pins s σ H _ I hw) fun v s1 ⟨x, H1, I1, r1, q1⟩ => ?_) (he _)
 obtain ⟨d, rfl, q⟩ := q1
 cases r1
 exact wpAny_truthy_bool ⟨H1, I1, q⟩
variable {tA tB' : TT} {rest : List Expr}
def aFa (t u : TT) : TT := fun σ H Q => t σ H fun c H1 => if c = true then u σ H1 Q else Q false H1
def tOr (t u : TT) : TT := fun σ H Q => t σ H fun c H1 => if c = true then Q true H1 else u σ H1 Q
def aFi (t : TT) : TT := fun σ H Q => t σ H fun c H1 => Q (!c) H1
theorem x9 (ha : PT X a tA) : PW X (.BoolOp .And [a] pos) tA := by
 intro wh pins s σ H Q I h
 refine isTrue_and (thn (ha pins s σ H Q I h) fun c s1 e => ?_)
 cases c with
 | true => exact isTrue_and_nil e
 | false => exact e
theorem aAt (ha : PT X a tA) : PW X (.BoolOp .Or [a] pos) tA := by
 intro wh pins s σ H Q I h
 refine isTrue_or (thn (ha pins s σ H Q I h) fun c s1 e => ?_)
 cases c with
 | false => exact isTrue_or_nil e
 | true => exact e
theorem aAb (ha : PT X a tA) (hb : PW X (.BoolOp .And (b :: rest) pos) tB') : PW X (.BoolOp .And (a :: b :: rest) pos) (aFa tA tB') := by
 intro wh pins s σ H Q I h
 refine isTrue_and (thn (ha pins s σ H _ I h) fun c s1 ⟨H1, I1, q1⟩ => ?_)
 cases c with
 | true => exact hb wh pins s1 σ H1 Q I1 q1
 | false => exact ⟨H1, I1, q1⟩
theorem aD0 (ha : PT X a tA) (hb : PW X (.BoolOp .Or (b :: rest) pos) tB') : PW X (.BoolOp .Or (a :: b :: rest) pos) (tOr tA tB') := by
 intro wh pins s σ H Q I h
 refine isTrue_or (thn (ha pins s σ H _ I h) fun c s1 ⟨H1, I1, q1⟩ => ?_)
 cases c with
 | true => exact ⟨H1, I1, q1⟩
 | false => exact hb wh pins s1 σ H1 Q I1 q1
theorem zO (ha : PT X a tA) : PT X (.UnaryOp .Not a pos) (aFi tA) := by
 intro pins s σ H Q I h
 exact isTrue_not (ha pins s σ H (fun c H1 => Q (!c) H1) I h)
def aDw (ta tb : TE) : TE := fun σ H Q => ta σ H fun x H1 => ∃ c, x = .bl c /\ if c = true then tb σ H1 Q else Q (.bl false) H1
def aFo (ta tb : TE) : TE := fun σ H Q => ta σ H fun x H1 => ∃ c, x = .bl c /\ if c = true then Q (.bl true) H1 else tb σ H1 Q
def aDj (ta : TE) : TE := fun σ H Q => ta σ H fun x H1 => ∃ c, x = .bl c /\ Q (.bl (!c)) H1
theorem aAq {op} {t : TE} (h : PE X a t) : PE X (.BoolOp op [a] pos) t := fun pins s σ H Q I hw => BoolOp_one (h pins s σ H Q I hw)
theorem zM (ha : PE X a ta) (hb : PE X (.BoolOp .And (b :: rest) pos) tb) : PE X (.BoolOp .And (a :: b :: rest) pos) (aDw ta tb) := by
 intro pins s σ H Q I h
 refine BoolOp_and (thn (ha pins s σ H _ I h) fun v s1 ⟨x, H1, I1, r1, q1⟩ => ?_)
 obtain ⟨c, rfl, q1⟩ := q1
 cases r1
 refine wpAny_truthy_bool ?_
 cases c with
 | true => exact hb pins s1 σ H1 Q I1 q1
 | false => exact ⟨.bl false, H1, I1, rfl, q1⟩
theorem aDg (ha : PE X a ta) (hb : PE X (.BoolOp .Or (b :: rest) pos) tb) : PE X (.BoolOp .Or (a :: b :: rest) pos) (aFo ta tb) := by
 intro pins s σ H Q I h
 refine BoolOp_or (thn (ha pins s σ H _ I h) fun v s1 ⟨x, H1, I1, r1, q1⟩ => ?_)
 obtain ⟨c, rfl, q1⟩ := q1
 cases r1
 refine wpAny_truthy_bool ?_
 cases c with
 | false => exact hb pins s1 σ H1 Q I1 q1
 | true => exact ⟨.bl true, H1, I1, rfl, q1⟩
theorem aA4 (ha : PE X a ta) : PE X (.UnaryOp .Not a pos) (aDj ta) := by
 intro pins s σ H Q I h
 refine UnaryOp_ (thn (ha pins s σ H _ I h) fun v s1 ⟨x, H1, I1, r1, q1⟩ => ?_)
 obtain ⟨c, rfl, q1⟩ := q1
 cases r1
 exact not_of (wpAny_truthy_bool ⟨.bl (!c), H1, I1, rfl, q1⟩)
def tIf (t : TT) (ta tb : TE) : TE := fun σ H Q => t σ H fun c H1 => if c = true then ta σ H1 Q else tb σ H1 Q
theorem uK {c : Expr} (hc : PT X c tA) (ha : PE X a ta) (hb : PE X b tb) : PE X (.IfExp c a b pos) (tIf tA ta tb) := by
 intro pins s σ H Q I h
 refine wpAny_IfExp (thn (hc pins s σ H _ I h) fun d s1 ⟨H1, I1, q1⟩ => ?_)
 cases d with
 | true => exact ha pins s1 σ H1 Q I1 q1
 | false => exact hb pins s1 σ H1 Q I1 q1
end
def SqL (K : PySem.W.Frag) (H : Hp) (a : Addr) (xs : List V) : Prop :=
 Rd H a (.lst xs) \/
  ∃ (o : Obj) (its : Array Value) (n : Nat), K.lookup a = some o /\ o.cls = .type "list" /\ o.dict = none /\ o.data = .seq its n /\ its.size <= sizeLine /\ Vals xs its.toList
def SqT (K : PySem.W.Frag) (H : Hp) (a : Addr) (xs : List V) : Prop :=
 Rd H a (.tup xs) \/
  ∃ (o : Obj) (its : Array Value) (n : Nat), K.lookup a = some o /\ o.cls = .type "tuple" /\ o.data = .seq its n /\ its.size <= sizeLine /\ Vals xs its.toList
def aFh : Value -> Option V
 | .none => some .non
 | .bool b => some (.bl b)
 | .int i _ => some (.int i)
 | .str x _ => some (.str x)
 | .bytes b _ => some (.byt b)
 | .float b _ => some (.flt b)
 | .ref a => some (.ref a)
 | .type n => some (.ty n)
 | _ => none
theorem RelV.abs {x : V} {u : Value} (r : RelV x u) : aFh u = some x := by
 cases x with
 | non => cases r; rfl
 | bl _ => cases r; rfl
 | int _ => obtain ⟨t, rfl⟩ := r; rfl
 | str _ => obtain ⟨t, rfl⟩ := r; rfl
 | byt _ => obtain ⟨t, rfl⟩ := r; rfl
 | flt _ => obtain ⟨t, rfl⟩ := r; rfl
 | ref _ => cases r; rfl
 | ty _ => cases r; rfl
theorem RelV.inj {x y : V} {u : Value} (r : RelV x u) (q : RelV y u) : x = y := Option.some.inj (r.abs.symm.trans q.abs)
theorem Vals.inj : ∀ {xs ys : List V} {us : List Value}, Vals xs us -> Vals ys us -> xs = ys
 | _, _, _, .nil, .nil => rfl
 | _, _, _, .cons r t, .cons r' t' => by rw [r.inj r', Vals.inj t t']
section
variable {X : Cx} {pins : List (Addr × Obj)} {σ : St} {H : Hp} {s : Shared} {a : Addr} {xs ys : List V}
theorem SqL.of {K : PySem.W.Frag} (h : H a = some (.lst xs)) : SqL K H a xs := .inl (.inl h)
theorem SqT.of {K : PySem.W.Frag} (h : H a = some (.tup xs)) : SqT K H a xs := .inl (.inl h)
theorem Inv.list (I : Inv X pins σ H s) (h : SqL X.K H a xs) : ∃ its : List Value, Vals xs its /\ PlainL s.heap a its.toArray /\ xs.length <= sizeLine := by
 rcases h with h | ⟨o, its, n, hk, hc, hd, hs, hz, r⟩
 ·obtain ⟨z, its, n, r, e⟩ := h.ok I.hok
  exact ⟨its, r, ⟨_, n, e, rfl, rfl, rfl⟩, z⟩
 ·refine ⟨its.toList, r, ⟨o, n, I.kIn a o hk, hc, hd, by simpa using hs⟩, ?_⟩
  have e := r.length
  simp only [Array.length_toList] at e
  omega
theorem Inv.tuple (I : Inv X pins σ H s) (h : SqT X.K H a xs) : ∃ its : List Value, Vals xs its /\ IsTup s.heap a its.toArray /\ xs.length <= sizeLine := by
 rcases h with h | ⟨o, its, n, hk, hc, hs, hz, r⟩
 ·obtain ⟨z, its, r, p⟩ := h.ok I.hok
  exact ⟨its, r, p, z⟩
 ·refine ⟨its.toList, r, ⟨o, I.kIn a o hk, hc, n, by simpa using hs⟩, ?_⟩
  have e := r.length
  simp only [Array.length_toList] at e
  omega
theorem Inv.list_inj (I : Inv X pins σ H s) (h : SqL X.K H a xs) (h' : SqL X.K H a ys) : xs = ys := by
 obtain ⟨its, r, ⟨o, n, e, _, _, d⟩, _⟩ := I.list h
 obtain ⟨its', r', ⟨o', n', e', _, _, d'⟩, _⟩ := I.list h'
 rw [e] at e'; cases e'
 rw [d] at d'
 injection d' with d1 _
 have : its = its' := by simpa using congrArg Array.toList d1
 subst this
 exact r.inj r'
end
section
variable {X : Cx} {pins : List (Addr × Obj)} {σ : St} {H : Hp} {s : Shared} {E : Value -> Shared -> Prop}
end
section
variable {X : Cx} {st : Stmt} {rest : List Stmt} {t u : TS} {e : Expr} {te : TE} {pos : Pos}
def aD5 : TS := fun D σ H => D.nx σ H
def aFg (t u : TS) : TS := fun D σ H => t { D with nx := u D } σ H
theorem y9 : PSs X [] aD5 := fun _ _ σ H _ I h => wpAny_execs_nil ⟨σ, H, I, h⟩
theorem vV (h1 : PS X st t) (h2 : PSs X rest u) : PSs X (st :: rest) (aFg t u) := by
 intro pins s σ H D I h
 refine wpAny_execs_cons (thn (h1 pins s σ H { D with nx := u D } I h) fun f s1 q => ?_)
 cases f with
 | next =>
  obtain ⟨σ', H', I', q⟩ := q
  exact h2 pins s1 σ' H' D I' q
 | ret v => exact q
 | brk => exact q
 | cont => exact q
theorem yY (h1 : PS X st t) : PSs X [st] t := by
 intro pins s σ H D I h
 refine wpAny_execs_cons (thn (h1 pins s σ H D I h) fun f s1 q => ?_)
 cases f with
 | next => exact wpAny_execs_nil q
 | ret v => exact q
 | brk => exact q
 | cont => exact q
theorem Inv.quiet {pins : List (Addr × Obj)} {σ : St} {H : Hp} {s : Shared} (I : Inv X pins σ H s) : interactive X.env = false := by simp [interactive, I.ok.kind]
def aCf (te : TE) : TS := fun D σ H => te σ H fun _ H1 => D.nx σ H1
theorem zC (he : PE X e te) (hs : swapsWith e none pos.line X.env = pure false := by rfl) : PS X (.Expr e pos) (aCf te) := by
 intro pins s σ H D I h
 exact wpAny_Expr_any (thn (he pins s σ H _ I h) fun v s1 ⟨x, H1, I1, r1, q1⟩ => ⟨σ, H1, I1, q1⟩) I.quiet hs
def aFr (te : TE) : TS := fun D σ H => te σ H D.rt
theorem aAh (he : PE X e te) : PS X (.Return (some e) pos) (aFr te) := by
 intro pins s σ H D I h
 exact wpAny_Return_some (thn (he pins s σ H _ I h) fun v s1 ⟨x, H1, I1, r1, q1⟩ => ⟨x, σ, H1, I1, r1, q1⟩)
def aFs (c : TT) (t u : TS) : TS := fun D σ H => c σ H fun b H1 => if b = true then t D σ H1 else u D σ H1
theorem aD9 {c : Expr} {a b : List Stmt} {tc : TT} (hc : PT X c tc) (ha : PSs X a t) (hb : PSs X b u) : PS X (.If c a b pos) (aFs tc t u) := by
 intro pins s σ H D I h
 refine wpAny_If (thn (hc pins s σ H _ I h) fun d s1 ⟨H1, I1, q1⟩ => ?_)
 cases d with
 | true => exact ha pins s1 σ H1 D I1 q1
 | false => exact hb pins s1 σ H1 D I1 q1
end
abbrev TG := V -> St -> Hp -> (St -> Hp -> Prop) -> Prop
def PG (X : Cx) (target : Expr) (t : TG) : Prop :=
 ∀ (pins : List (Addr × Obj)) (s : Shared) (σ : St) (H : Hp) (v : V) (u : Value) (Q : St -> Hp -> Prop), Inv X pins σ H s -> RelV v u -> t v σ H Q ->
  wpAny (model X.prog X.w) X.A (assign target X.env u) (fun _ s' => ∃ σ' H', Inv X pins σ' H' s' /\ Q σ' H') X.xe s
section
variable {X : Cx} {pos : Pos}
def aAs (i : Nat) : TG := fun v σ H Q => Q (σ.set i (some v)) H
theorem xJ {i : Nat} {x : Str} (hN : X.N.Nodup) (hi : X.N[i]? = some x) (hx : Loc X.env.scope x) (hf : X.fn x = true \/ X.env.scope.names.lookup x = some .local := by first | exact .inl rfl | exact .inr rfl | assumption) : PG X (.Name x pos) (aAs i) := by
 intro pins s σ H v u Q I r h
 exact wpAny_assign_Name (l9 I hN hi hx r (fun s' I' => ⟨_, H, I', h⟩) hf)
def aE5 (te : TE) (g : TG) : TS := fun D σ H => te σ H fun x H1 => g x σ H1 D.nx
theorem zR {i : Nat} {x : Str} {e : Expr} {te : TE} {pos' : Pos} (hN : X.N.Nodup) (hi : X.N[i]? = some x) (hx : Loc X.env.scope x) (he : PE X e te) (hs : swapsWith e (some (.Name x pos')) pos.line X.env = pure false := by rfl) (hf : X.fn x = true \/ X.env.scope.names.lookup x = some .local := by first | exact .inl rfl | exact .inr rfl | assumption) :
  PS X (.Assign [.Name x pos'] e pos) (aE5 te (aAs i)) := by
 intro pins s σ H D I h
 refine wpAny_Assign_Name (thn (he pins s σ H _ I h) fun v s1 ⟨y, H1, I1, r1, q1⟩ => ?_) hs
 exact l9 I1 hN hi hx r1 (fun s2 I2 => ⟨_, H1, I2, q1⟩) hf
end
section
variable {X : Cx} {pos : Pos}
def aCz (c : TT) (tb : TS) : TS := fun D σ H => ∃ W : Nat -> St -> Hp -> Prop, (∃ m, W m σ H) /\ ∀ m σ H, W m σ H ->
 c σ H fun b H1 => if b = true then ∃ N : St -> Hp -> Prop, (∀ σ' H', N σ' H' -> ∃ m', m' < m /\ W m' σ' H') /\ tb { D with nx := N, ct := N, bk := D.nx } σ H1 else D.nx σ H1
theorem wA {c : Expr} {body : List Stmt} {tc : TT} {tb : TS} (hp : PassesOwn (model X.prog X.w) X.A X.env X.xe) (hc : PT X c tc) (hb : PSs X body tb) : PS X (.While c body [] pos) (aCz tc tb) := by
 intro pins s σ H D I h
 obtain ⟨W, ⟨m0, w0⟩, turn⟩ := h
 refine wpAny_While (codeAny_whileLoop (fun n s' => ∃ σ' H', Inv X pins σ' H' s' /\ W n σ' H') ?_ m0 ⟨σ, H, I, w0⟩)
 rintro n s1 ⟨σ1, H1, I1, w1⟩
 refine wpAny_passesOwn hp (thn (hc pins s1 σ1 H1 _ I1 (turn n σ1 H1 w1)) fun b s2 ⟨H2, I2, q2⟩ => ?_)
 cases b with
 | true =>
  obtain ⟨N, hN, q2⟩ := q2
  rw [if_pos rfl]
  refine wpAny_passesOwn hp (thn (hb pins s2 σ1 H2 _ I2 q2) fun f s3 q3 => ?_)
  cases f with
  | next =>
   obtain ⟨σ3, H3, I3, n3⟩ := q3
   obtain ⟨m', hm, w3⟩ := hN σ3 H3 n3
   exact ⟨m', hm, σ3, H3, I3, w3⟩
  | cont =>
   obtain ⟨σ3, H3, I3, n3⟩ := q3
   obtain ⟨m', hm, w3⟩ := hN σ3 H3 n3
   exact ⟨m', hm, σ3, H3, I3, w3⟩
  | brk => exact q3
  | ret v => exact q3
 | false =>
  rw [if_neg Bool.false_ne_true]
  exact wpAny_execs_nil ⟨σ1, H2, I2, q2⟩
end
structure It where
 go : Nat -> Hp -> Prop
 yld : Nat -> Hp -> V -> Hp -> Prop
 stop : Nat -> Hp -> Prop
def vZ (X : Cx) (pins : List (Addr × Obj)) (H : Hp) (b : Addr) : Prop :=
 H b = none /\ b ≠ X.env.locals /\ b ∉ X.fs /\ (b ∈ X.ex \/ X.s₀.heap.objs.size <= b) /\ (∀ x c, X.env.cells.lookup x = some c -> c ≠ b) /\ ∀ p ∈ X.pn ++ pins, p.1 ≠ b
theorem Inv.fpOk {X : Cx} {pins : List (Addr × Obj)} {σ : St} {H H' : Hp} {s : Shared} {b : Addr} (I : Inv X pins σ H s) (hb : s.heap.objs.size <= b) (hn : H' b = none) : vZ X pins H' b := by
 refine ⟨hn, Nat.ne_of_gt (Nat.lt_of_lt_of_le I.lt hb), I.nofs hb, .inr (Nat.le_trans I.sz hb), fun x c e z => ?_, fun p hp z => ?_⟩
 ·obtain ⟨v, q⟩ := I.cell x c e
  exact absurd (Nat.lt_of_lt_of_le q.lt (by rw [z]; exact hb)) (Nat.lt_irrefl _)
 ·exact absurd (Nat.lt_of_lt_of_le (Heap.lt_size (I.pin p hp).1) (by rw [z]; exact hb)) (Nat.lt_irrefl _)
structure Turn (P : Program) (w : World) (K : PySem.W.Frag) (tg : Expr) (J : It) (fp : List Addr) (it : Addr) (tn : Nat -> Heap -> Prop) : Prop where
 mem : it ∈ fp
 obj : ∀ i h, tn i h -> ∀ b ∈ fp, ∃ o, h.get? b = some o /\ ∀ v, o.data ≠ .cell v
 keep : ∀ i h h', tn i h -> (∀ b ∈ fp, ∀ o, h.get? b = some o -> h'.get? b = some o) -> tn i h'
 item : ∀ (X : Cx), X.prog = P -> X.w = w -> X.K = K -> X.calm = true -> ∀ (i : Nat) (pins : List (Addr × Obj)) (s : Shared) (σ : St) (H : Hp) (E : Value -> Shared -> Prop), Inv X pins σ H s -> (∀ b ∈ fp, vZ X pins H b) -> tn i s.heap -> J.go i H ->
  wpAny (model P w) X.A (pyNext (.ref it)) (fun r s1 => ∃ u, r = some u /\
   wpAny (model P w) X.A (letOwnedTupleGo tg (.ref it) u) (fun _ s2 => ∃ x H', Inv X pins σ H' s2 /\ RelV x u /\ J.yld i H x H' /\ tn (i + 1) s2.heap /\ ∀ b ∈ fp, H' b = none) E s1) E s
 done : ∀ (X : Cx), X.prog = P -> X.w = w -> X.K = K -> X.calm = true -> ∀ (i : Nat) (pins : List (Addr × Obj)) (s : Shared) (σ : St) (H : Hp) (E : Value -> Shared -> Prop), Inv X pins σ H s -> (∀ b ∈ fp, vZ X pins H b) -> tn i s.heap -> J.stop i H ->
  wpAny (model P w) X.A (pyNext (.ref it)) (fun r s1 => r = none /\ Inv X pins σ H s1) E s
 self : ∀ (A : Around) (i : Nat) (s : Shared) (Q : Value -> Shared -> Prop) (E : Value -> Shared -> Prop), tn i s.heap -> Q (.ref it) s -> wpAny (model P w) A (pyIter (.ref it)) Q E s
abbrev TI := St -> Hp -> (It -> Hp -> Prop) -> Prop
def PIE (X : Cx) (pins : List (Addr × Obj)) (σ : St) (tg : Expr) (R : It -> Hp -> Prop) (itv : Value) (s2 : Shared) : Prop :=
 ∃ (it : Addr) (fp : List Addr) (tn : Nat -> Heap -> Prop) (J : It) (H' : Hp), itv = .ref it /\ Inv X pins σ H' s2 /\ Turn X.prog X.w X.K tg J fp it tn /\ tn 0 s2.heap /\ (∀ b ∈ fp, vZ X pins H' b) /\ R J H'
def PI (X : Cx) (tg iter : Expr) (wi : TI) : Prop :=
 ∀ (pins : List (Addr × Obj)) (s : Shared) (σ : St) (H : Hp) (R : It -> Hp -> Prop), Inv X pins σ H s -> wi σ H R ->
  wpAny (model X.prog X.w) X.A (eval iter X.env) (fun v s1 => wpAny (model X.prog X.w) X.A (pyIter v) (PIE X pins σ tg R) X.xe s1) X.xe s
theorem yM {M : Model} {A : Around} {E : Value -> Shared -> Prop} {s : Shared} {tg : Expr} {it : Addr} {u : Value} {o : Obj} {n : String} {vs : Array Value} {Q : Unit -> Shared -> Prop} (ho : s.heap.get? it = some o) (hc : o.cls = .type n) (hd : o.data = .fields vs)
  (hn : ["enumerate", "zip", "dict_itemiterator", "dict_reverseitemiterator", "odict_iterator", "itertools.zip_longest", "itertools.pairwise"].contains n = false) (hQ : Q () s) : wpAny M A (letOwnedTupleGo tg (.ref it) u) Q E s := by
 unfold letOwnedTupleGo
 cases tg <;> first
  | exact wpAny_pure hQ
  | (cases u <;> first
    | exact wpAny_pure hQ
    | (refine wpAny_bind (wpAny_load ho ?_)
       rw [hc, hd]
       show wpAny M A (if (["enumerate", "zip", "dict_itemiterator", "dict_reverseitemiterator", "odict_iterator", "itertools.zip_longest", "itertools.pairwise"].contains n && vs[0]? == some (rawInt _)) = true then _ else _) Q E s
       rw [if_neg (by intro h; rw [hn, Bool.false_and] at h; cases h)]
       exact wpAny_pure hQ))
def Itl (K : PySem.W.Frag) (a : Addr) : It :=
 ⟨fun i H => ∃ xs x, SqL K H a xs /\ xs[i]? = some x, fun i H x H' => H' = H /\ ∀ xs, SqL K H a xs -> xs[i]? = some x, fun i H => ∃ xs, SqL K H a xs /\ xs.length <= i⟩
def Itr (lo : Int) (n : Nat) : It := ⟨fun i _ => i < n, fun i H x H' => H' = H /\ x = .int (lo + i), fun i _ => n <= i⟩
theorem sJ {P : Program} {w : World} {K : PySem.W.Frag} {tg : Expr} (a it : Addr) : Turn P w K tg (Itl K a) [it] it (fun i h => h.IsListIter it a i) where
 mem := by simp
 obj := fun i h st b hb => by
  have e : b = it := by simpa using hb
  subst e
  obtain ⟨o, e, c, d⟩ := st
  exact ⟨o, e, fun v z => by rw [d] at z; cases z⟩
 keep := fun i h h' st k => st.at fun o e => k it (by simp) o e
 item := by
  intro X hP hw hK hc i pins s σ H E I hf st hg
  subst hP hw hK
  obtain ⟨xs, x, hq, hx⟩ := hg
  obtain ⟨its, rv, p, hz⟩ := I.list hq
  obtain ⟨u, hu, ru⟩ := rv.get hx
  obtain ⟨f0, f1, f2, f3, f4, f5⟩ := hf it (by simp)
  refine wpAny_pyNext_list_item st p.isList (x := u) (by simpa using hu) fun h' st' sb => ?_
  have I1 : Inv X pins σ H { s with heap := h' } := I.turned (t' := s.toks) (fun b o hb e => (sb.2 b hb).trans e) f0 f1 f3 f4 f5
  obtain ⟨o, e, c, d⟩ := id st'
  exact ⟨u, rfl, yM (s := { s with heap := h' }) e c d (by decide) ⟨x, H, I1, ru, ⟨rfl, fun ys hy => by rw [I.list_inj hy hq]; exact hx⟩, st', fun b hb => (hf b hb).1⟩⟩
 done := by
  intro X hP hw hK hc i pins s σ H E I hf st hg
  subst hP hw hK
  obtain ⟨xs, hq, hx⟩ := hg
  obtain ⟨its, rv, p, hz⟩ := I.list hq
  obtain ⟨f0, f1, f2, f3, f4, f5⟩ := hf it (by simp)
  have hl := rv.length
  exact wpAny_pyNext_list_end (I.ok.hd hc) st p.isList (by simp; omega) fun h' eb => ⟨rfl, I.turned (t' := s.toks) (fun b o hb e => eb b o hb e) f0 f1 f3 f4 f5⟩
 self := fun _ _ _ _ _ st h => wpAny_pyIter_listiter st h
theorem p0 {P : Program} {w : World} {K : PySem.W.Frag} {tg : Expr} (it : Addr) (lo : Int) (n : Nat) : Turn P w K tg (Itr lo n) [it] it (fun i h => IsRangeIter h it (lo + (i : Nat) * 1) ((n : Int) - (i : Nat)) 1) where
 mem := by simp
 obj := fun i h st b hb => by
  have e : b = it := by simpa using hb
  subst e
  exact ⟨_, st, fun v z => by
   have z' : Data.fields _ = Data.cell v := z
   cases z'⟩
 keep := fun i h h' st k => k it (by simp) _ st
 item := by
  intro X hP hw hK hc i pins s σ H E I hf st hg
  subst hP hw hK
  obtain ⟨f0, f1, f2, f3, f4, f5⟩ := hf it (by simp)
  have W := Walks.range (prog := X.prog) (w := X.w) (I.ok.hd hc) it lo 1 n
  refine W.item i s _ _ hg st fun v h' tk hv st' kk => ?_
  obtain ⟨t, rfl⟩ := hv
  have I1 : Inv X pins σ H { s with heap := h', toks := tk } := I.turned (fun b o hb e => kk b o (by simpa using hb) e) f0 f1 f3 f4 f5
  refine ⟨_, rfl, yM (s := { s with heap := h', toks := tk }) (n := "range_iterator") st' rfl rfl (by decide) ⟨.int (lo + i), H, I1, ⟨t, ?_⟩, ⟨rfl, rfl⟩, st', fun b hb => (hf b hb).1⟩⟩
  rw [Int.mul_one]
 done := by
  intro X hP hw hK hc i pins s σ H E I hf st hg
  subst hP hw hK
  obtain ⟨f0, f1, f2, f3, f4, f5⟩ := hf it (by simp)
  exact wpAny_pyNext_range_end (I.ok.hd hc) st (by have : n <= i := hg; omega) fun h' eb => ⟨rfl, I.turned (t' := s.toks) (fun b o hb e => eb b o hb e) f0 f1 f3 f4 f5⟩
 self := fun _ _ _ _ _ st h => wpAny_pyIter_rangeiter st h
section
variable {X : Cx} {tg : Expr}
def aD7 (K : PySem.W.Frag) (tl : TE) : TI := fun σ H R => tl σ H fun x H1 => ∃ a, x = .ref a /\ (∃ xs, SqL K H1 a xs) /\ R (Itl K a) H1
theorem xX {l : Expr} {tl : TE} (hl : PE X l tl) : PI X tg l (aD7 X.K tl) := by
 intro pins s σ H R I h
 refine thn (hl pins s σ H _ I h) fun v s1 ⟨x, H1, I1, r1, q1⟩ => ?_
 obtain ⟨a, e, ⟨xs, hq⟩, q⟩ := q1
 subst e
 cases r1
 obtain ⟨its, rv, p, hz⟩ := I1.list hq
 refine wpAny_pyIter_list p.isList ?_
 refine ⟨s1.heap.objs.size, [s1.heap.objs.size], _, _, H1, rfl, I1.kept (t' := s1.toks) fun b o e => Heap.get?_push_of_some _ e, sJ a _, ⟨_, Heap.get?_push_size _ rfl, rfl, rfl⟩, fun b hb => ?_, q⟩
 have e : b = s1.heap.objs.size := by simpa using hb
 subst e
 exact I1.fpOk (Nat.le_refl _) (I1.hok.fresh (Nat.le_refl _))
theorem vB {pins : List (Addr × Obj)} {σ : St} {H : Hp} {s : Shared} {R : It -> Hp -> Prop} {E : Value -> Shared -> Prop} {lo hi : Int} {t u v : Tok} {tk : Nat} (I : Inv X pins σ H s) (h1 : -(2 ^ 62) <= lo) (h2 : lo < 2 ^ 62) (h3 : -(2 ^ 62) <= hi) (h4 : hi < 2 ^ 62)
  (q : R (Itr lo (hi - lo).toNat) H) : wpAny (model X.prog X.w) X.A (pyIter (.ref s.heap.objs.size)) (PIE X pins σ tg R) E { s with heap := s.heap.push { cls := .type "range", data := .fields #[.int lo t, .int hi u, .int 1 v] }, toks := tk } := by
 refine wpAny_pyIter_range (IsRange.new ..) (small_one h1 h2 h3 h4) ?_
 have I1 : Inv X pins σ H { s with heap := s.heap.push { cls := .type "range", data := .fields #[.int lo t, .int hi u, .int 1 v] }, toks := tk } := I.kept fun b o e => Heap.get?_push_of_some _ e
 refine ⟨(s.heap.push { cls := .type "range", data := .fields #[.int lo t, .int hi u, .int 1 v] }).objs.size, [(s.heap.push { cls := .type "range", data := .fields #[.int lo t, .int hi u, .int 1 v] }).objs.size], _, _, H, rfl,
  I1.kept (t' := tk) fun b o e => Heap.get?_push_of_some _ e, p0 _ lo (hi - lo).toNat, ?_, fun b hb => ?_, q⟩
 ·have e1 : lo + ((0 : Nat) : Int) * 1 = lo := by simp
  have e2 : (((hi - lo).toNat : Nat) : Int) - ((0 : Nat) : Int) = Builtin.Range.rangeSize lo hi 1 := by rw [rangeSize_one]; split <;> omega
  show IsRangeIter _ _ (lo + ((0 : Nat) : Int) * 1) ((((hi - lo).toNat : Nat) : Int) - ((0 : Nat) : Int)) 1
  rw [e1, e2]
  exact Heap.get?_push_size _ rfl
 ·have e : b = (s.heap.push { cls := .type "range", data := .fields #[.int lo t, .int hi u, .int 1 v] }).objs.size := by simpa using hb
  subst e
  exact I1.fpOk (Nat.le_refl _) (I1.hok.fresh (Nat.le_refl _))
def aEh (ta : TA) : TI := fun σ H R => ta σ H fun vs H1 => ∃ j : Int, vs = [.int j] /\ -(2 ^ 62) <= j /\ j < 2 ^ 62 /\ R (Itr 0 j.toNat) H1
theorem tV {a : Expr} {ta : TA} {p pos : Pos} (hg : Gl X "range") (hm : X.mg "range" = none) (ha : PA X [a] ta) (hs : starEach [a] X.env = [(false, eval a X.env)] := by rfl) : PI X tg (.Call (.Name "range" p) [a] [] pos) (aEh ta) := by
 intro pins s σ H R I h
 refine Call_ (pQ I hg hm boot_range (PyProof.Rows.callWith_type1 (thn (ha pos pins s σ H _ I h) fun us s1 ⟨vs, H1, I1, r1, q1⟩ => ?_) hs rfl))
 obtain ⟨j, e, q1, q2, q⟩ := q1
 subst e
 cases r1 with
 | cons r rr =>
  cases rr
  obtain ⟨t, rfl⟩ := r
  exact call_range_1 (vB I1 (by omega) (by omega) q1 q2 (by simpa using q))
def aFn (wi : TI) (g : TG) (tb : TS) : TS := fun D σ H => wi σ H fun J H1 => ∃ W : Nat -> Nat -> St -> Hp -> Prop, (∃ m, W 0 m σ H1) /\ ∀ i m σ H, W i m σ H ->
 (J.stop i H /\ D.nx σ H) \/ (J.go i H /\ ∃ N : St -> Hp -> Prop, (∀ σ' H', N σ' H' -> ∃ m', m' < m /\ W (i + 1) m' σ' H') /\ ∀ x H', J.yld i H x H' -> g x σ H' fun σ2 H2 => tb { D with nx := N, ct := N, bk := D.nx } σ2 H2)
def oX (fp : List Addr) (h : Heap) : List (Addr × Obj) := fp.filterMap fun b => (h.get? b).map fun o => (b, o)
theorem e9 {fp : List Addr} {h : Heap} {b : Addr} {o : Obj} (hb : b ∈ fp) (e : h.get? b = some o) : (b, o) ∈ oX fp h := List.mem_filterMap.mpr ⟨b, hb, by rw [e]; rfl⟩
theorem rR {fp : List Addr} {h : Heap} {p : Addr × Obj} (hp : p ∈ oX fp h) : p.1 ∈ fp /\ h.get? p.1 = some p.2 := by
 obtain ⟨b, hb, e⟩ := List.mem_filterMap.mp hp
 cases q : h.get? b with
 | none => rw [q] at e; cases e
 | some o =>
  rw [q] at e
  have e' : (b, o) = p := Option.some.inj e
  subst e'
  exact ⟨hb, q⟩
theorem Inv.pinned {pins : List (Addr × Obj)} {σ : St} {H : Hp} {s : Shared} {fp : List Addr} (I : Inv X pins σ H s) (hf : ∀ b ∈ fp, vZ X pins H b) (ho : ∀ b ∈ fp, ∃ o, s.heap.get? b = some o /\ ∀ v, o.data ≠ .cell v) : Inv X (pins ++ oX fp s.heap) σ H s :=
 I.pins_of fun p hp => (List.mem_append.mp hp).elim (fun z => I.pin p (List.mem_append_right _ z)) fun z => by
  obtain ⟨hb, e⟩ := rR z
  obtain ⟨f0, f1, f2, _⟩ := hf p.1 hb
  obtain ⟨o, e', d⟩ := ho p.1 hb
  rw [e] at e'; cases e'
  exact ⟨e, f0, f1, f2, d⟩
theorem Inv.unpinned {pins pl : List (Addr × Obj)} {σ : St} {H : Hp} {s : Shared} (I : Inv X (pins ++ pl) σ H s) : Inv X pins σ H s := I.pins_of fun p hp => I.pin p (List.mem_append_right _ (List.mem_append_left _ hp))
theorem aCd {iter : Expr} {body : List Stmt} {wi : TI} {g : TG} {tb : TS} {pos : Pos} (hp : PassesOwn (model X.prog X.w) X.A X.env X.xe) (hc : X.calm = true) (hi : PI X tg iter wi) (hg : PG X tg g) (hb : PSs X body tb)
  (hs : ∀ x, foldedSetIterable iter X.env x = pure x := by intro _; rfl) : PS X (.For tg iter body [] pos) (aFn wi g tb) := by
 intro pins s σ H D I h
 refine wpAny_For (thn (hi pins s σ H _ I h) fun v s1 h1 => thn h1 fun itv s2 h2 => ?_) hs
 obtain ⟨it, fp, tn, J, H2, e, I2, T, st2, f2, W, ⟨m0, w0⟩, turn⟩ := h2
 subst e
 have stat : ∀ {H' : Hp}, (∀ b ∈ fp, H' b = none) -> ∀ b ∈ fp, vZ X pins H' b := fun hn b hb => ⟨hn b hb, (f2 b hb).2⟩
 refine codeAny_forLoop_any (fun n s' => ∃ i σ' H', Inv X pins σ' H' s' /\ tn i s'.heap /\ (∀ b ∈ fp, H' b = none) /\ W i n σ' H') ?_ m0 ⟨0, σ, H2, I2, st2, fun b hb => (f2 b hb).1, w0⟩
 rintro n s3 ⟨i, σ3, H3, I3, st3, fr3, w3⟩
 rcases turn i n σ3 H3 w3 with ⟨stop, qn⟩ | ⟨go, N, hN, step⟩
 ·refine wpAny_passesOwn hp (thn (T.done X rfl rfl rfl hc i pins s3 σ3 H3 X.xe I3 (stat fr3) st3 stop) fun r s4 ⟨hr, I4⟩ => ?_)
  subst hr
  exact wpAny_execs_nil ⟨σ3, H3, I4, qn⟩
 ·refine wpAny_passesOwn hp (thn (T.item X rfl rfl rfl hc i pins s3 σ3 H3 X.xe I3 (stat fr3) st3 go) fun r s4 ⟨u, hr, h4⟩ => ?_)
  subst hr
  refine wpAny_passesOwn hp (thn h4 fun _ s5 ⟨x, H5, I5, r5, y5, st5, fr5⟩ => ?_)
  have I5' := I5.pinned (stat fr5) (T.obj _ _ st5)
  refine wpAny_passesOwn hp (thn (hg _ s5 σ3 H5 x u _ I5' r5 (step x H5 y5)) fun _ s6 ⟨σ6, H6, I6, q6⟩ => ?_)
  refine wpAny_passesOwn hp (thn (hb _ s6 σ6 H6 _ I6 q6) fun f s7 q7 => ?_)
  have again : ∀ {σ7 : St} {H7 : Hp}, Inv X (pins ++ oX fp s5.heap) σ7 H7 s7 -> N σ7 H7 -> ∃ m, m < n /\ ∃ i σ' H', Inv X pins σ' H' s7 /\ tn i s7.heap /\ (∀ b ∈ fp, H' b = none) /\ W i m σ' H' := fun {σ7 H7} I7 n7 => by
   obtain ⟨m', hm, w7⟩ := hN σ7 H7 n7
   refine ⟨m', hm, i + 1, σ7, H7, I7.unpinned, T.keep _ _ _ st5 fun b hb o e => (I7.pin (b, o) (List.mem_append_right _ (List.mem_append_right _ (e9 hb e)))).1, fun b hb => ?_, w7⟩
   obtain ⟨o, e, d⟩ := T.obj _ _ st5 b hb
   exact (I7.pin (b, o) (List.mem_append_right _ (List.mem_append_right _ (e9 hb e)))).2.1
  cases f with
  | next => obtain ⟨σ7, H7, I7, n7⟩ := q7; exact again I7 n7
  | cont => obtain ⟨σ7, H7, I7, n7⟩ := q7; exact again I7 n7
  | brk => obtain ⟨σ7, H7, I7, q7⟩ := q7; exact ⟨σ7, H7, I7.unpinned, q7⟩
  | ret v => obtain ⟨x7, σ7, H7, I7, r7, q7⟩ := q7; exact ⟨x7, σ7, H7, I7.unpinned, r7, q7⟩
end
abbrev R2 := V -> V -> Hp -> VK -> Prop
def OpR (X : Cx) (f : Value -> Value -> Sem Value) (r : R2) : Prop :=
 ∀ (pins : List (Addr × Obj)) (s : Shared) (σ : St) (H : Hp) (x y : V) (v u : Value) (Q : VK), Inv X pins σ H s -> RelV x v -> RelV y u -> r x y H Q ->
  wpAny (model X.prog X.w) X.A (f v u) (EP X pins σ Q) X.xe s
def CallR (X : Cx) (f : Value) (r : List V -> Hp -> VK -> Prop) : Prop :=
 ∀ (pins : List (Addr × Obj)) (s : Shared) (σ : St) (H : Hp) (xs : List V) (us : List Value) (Q : VK), Inv X pins σ H s -> Vals xs us -> r xs H Q ->
  wpAny (model X.prog X.w) X.A (call f us) (EP X pins σ Q) X.xe s
def tOp (r : R2) (ta tb : TE) : TE := fun σ H Q => ta σ H fun x H1 => tb σ H1 fun y H2 => r x y H2 Q
def rI (C : Int -> Int -> Prop) (g : Int -> Int -> V) : R2 := fun x y H Q => ∃ i j, x = .int i /\ y = .int j /\ C i j /\ Q (g i j) H
def rI0 (g : Int -> Int -> V) : R2 := fun x y H Q => ∃ i j, x = .int i /\ y = .int j /\ Q (g i j) H
section
variable {X : Cx} {a b c : Expr} {ta tb tc : TE} {pos : Pos}
theorem aC3 (ha : PE X a ta) (hb : PE X b tb) {pins : List (Addr × Obj)} {s : Shared} {σ : St} {H : Hp} {R : V -> V -> Hp -> Prop} (I : Inv X pins σ H s)
  (h : ta σ H fun x H1 => tb σ H1 fun y H2 => R x y H2) {Q : Value -> Shared -> Prop} {f : Value -> Value -> Sem Value}
  (hf : ∀ v u s2 x y H2, Inv X pins σ H2 s2 -> RelV x v -> RelV y u -> R x y H2 -> wpAny (model X.prog X.w) X.A (f v u) Q X.xe s2) :
  wpAny (model X.prog X.w) X.A (eval a X.env) (fun v s₁ => wpAny (model X.prog X.w) X.A (eval b X.env) (fun u s₂ => wpAny (model X.prog X.w) X.A (f v u) Q X.xe s₂) X.xe s₁) X.xe s := by
 refine thn (ha pins s σ H _ I h) fun v s1 ⟨x, H1, I1, r1, q1⟩ => ?_
 refine thn (hb pins s1 σ H1 _ I1 q1) fun u s2 ⟨y, H2, I2, r2, q2⟩ => ?_
 exact hf v u s2 x y H2 I2 r1 r2 q2
theorem aDi {op : Operator} {r : R2} (ho : OpR X (binaryOp op) r) (ha : PE X a ta) (hb : PE X b tb) : PE X (.BinOp a op b pos) (tOp r ta tb) := by
 intro pins s σ H Q I h
 exact wpAny_BinOp (aC3 ha hb I h fun v u s2 x y H2 I2 rx ry q => ho pins s2 σ H2 x y v u Q I2 rx ry q)
theorem opI {f : Value -> Value -> Sem Value} {C : Int -> Int -> Prop} {g : Int -> Int -> Int}
  (rule : ∀ (i j : Int) (t u : Tok) (s : Shared) (Q : Value -> Shared -> Prop) (E : Value -> Shared -> Prop), C i j -> Q (.int (g i j) s.toks) { s with toks := s.toks + 1 } -> wpAny (model X.prog X.w) X.A (f (.int i t) (.int j u)) Q E s) :
  OpR X f (rI C fun i j => .int (g i j)) := by
 intro pins s σ H x y v u Q I rx ry h
 obtain ⟨i, j, rfl, rfl, hc, q⟩ := h
 obtain ⟨t, rfl⟩ := rx
 obtain ⟨t', rfl⟩ := ry
 exact rule i j t t' s _ _ hc ⟨.int (g i j), H, I.tok _, ⟨_, rfl⟩, q⟩
theorem aE2 {f : Value -> Value -> Sem Value} {g : Int -> Int -> Int}
  (rule : ∀ (i j : Int) (t u : Tok) (s : Shared) (Q : Value -> Shared -> Prop) (E : Value -> Shared -> Prop), Q (.int (g i j) s.toks) { s with toks := s.toks + 1 } -> wpAny (model X.prog X.w) X.A (f (.int i t) (.int j u)) Q E s) :
  OpR X f (rI0 fun i j => .int (g i j)) := by
 intro pins s σ H x y v u Q I rx ry h
 obtain ⟨i, j, rfl, rfl, q⟩ := h
 obtain ⟨t, rfl⟩ := rx
 obtain ⟨t', rfl⟩ := ry
 exact rule i j t t' s _ _ ⟨.int (g i j), H, I.tok _, ⟨_, rfl⟩, q⟩
theorem aEu {f : Value -> Value -> Sem Value} {g : Int -> Int -> Bool}
  (rule : ∀ (i j : Int) (t u : Tok) (s : Shared) (Q : Value -> Shared -> Prop) (E : Value -> Shared -> Prop), Q (.bool (g i j)) s -> wpAny (model X.prog X.w) X.A (f (.int i t) (.int j u)) Q E s) :
  OpR X f (rI0 fun i j => .bl (g i j)) := by
 intro pins s σ H x y v u Q I rx ry h
 obtain ⟨i, j, rfl, rfl, q⟩ := h
 obtain ⟨t, rfl⟩ := rx
 obtain ⟨t', rfl⟩ := ry
 exact rule i j t t' s _ _ ⟨.bl (g i j), H, I, rfl, q⟩
def vP (i j : Int) : Prop := 0 <= j /\ j <= 1000000 /\ i.natAbs < 2 ^ 64
theorem aC0 : OpR X (binaryOp .Add) (rI0 fun i j => .int (i + j)) := aE2 fun _ _ _ _ _ _ _ q => add_int q
theorem o6 : OpR X (binaryOp .Sub) (rI0 fun i j => .int (i - j)) := aE2 fun _ _ _ _ _ _ _ q => sub_int q
theorem cC : OpR X (binaryOp .Mod) (rI (fun _ j => j ≠ 0) fun i j => .int (i.fmod j)) := opI fun _ _ _ _ _ _ _ hc q => mod_int' hc q
theorem j4 : OpR X (binaryOp .Pow) (rI vP fun i j => .int (i ^ j.toNat)) := opI fun _ _ _ _ _ _ _ hc q => pow_int_small hc.1 hc.2.1 hc.2.2 q
end
section
variable {X : Cx} {a b c : Expr} {ta tb tc : TE} {pos : Pos}
theorem wY {pins : List (Addr × Obj)} {σ : St} {H : Hp} {s : Shared} {Q : VK} {k k' : Bool} (I : Inv X pins σ H s) (q : Q (.bl k) H) (e : k = k') : EP X pins σ Q (.bool k') s := by
 subst e
 exact ⟨.bl k, H, I, rfl, q⟩
theorem vO : OpR X (compareOp .Lt) (rI0 fun i j => .bl (decide (i < j))) := aEu fun _ _ _ _ _ _ _ q => lt_int q
theorem qF : OpR X (compareOp .Gt) (rI0 fun i j => .bl (decide (j < i))) := aEu fun _ _ _ _ _ _ _ q => gt_int q
theorem rF : OpR X (compareOp .In) (fun x y H Q => ∃ i j, x = .str i /\ y = .str j /\ Q (.bl (!(Builtin.Str.occurrences j i 0 j.length 1).isEmpty)) H) := by
 intro pins s σ H x y v u Q I rx ry h
 obtain ⟨i, j, rfl, rfl, q⟩ := h
 obtain ⟨t, rfl⟩ := rx
 obtain ⟨t', rfl⟩ := ry
 exact in_str (wY I q rfl)
theorem mJ : OpR X (compareOp .NotIn) (fun x y H Q => ∃ i j, x = .str i /\ y = .str j /\ Q (.bl (!(!(Builtin.Str.occurrences j i 0 j.length 1).isEmpty))) H) := by
 intro pins s σ H x y v u Q I rx ry h
 obtain ⟨i, j, rfl, rfl, q⟩ := h
 obtain ⟨t, rfl⟩ := rx
 obtain ⟨t', rfl⟩ := ry
 exact notIn_str (wY I q rfl)
theorem OpR.or {f : Value -> Value -> Sem Value} {r r' : R2} (h : OpR X f r) (h' : OpR X f r') : OpR X f (fun x y H Q => r x y H Q \/ r' x y H Q) := by
 intro pins s σ H x y v u Q I rx ry q
 rcases q with q | q
 ·exact h pins s σ H x y v u Q I rx ry q
 ·exact h' pins s σ H x y v u Q I rx ry q
theorem bM (b : Expr) {op : CmpOp} (h : op ≠ .In := by decide) (h2 : op ≠ .NotIn := by decide) : behindInMarks op b = false := by
 have e1 : (op == CmpOp.In) = false := by cases op <;> first | rfl | exact absurd rfl h
 have e2 : (op == CmpOp.NotIn) = false := by cases op <;> first | rfl | exact absurd rfl h2
 cases b <;> simp [behindInMarks, e1, e2]
theorem xZ {op : CmpOp} {r : R2} (ho : OpR X (compareOp op) r) (ha : PE X a ta) (hb : PE X b tb) (hm : behindInMarks op b = false) : PE X (.Compare a [op] [b] pos) (tOp r ta tb) := by
 intro pins s σ H Q I h
 exact wpAny_Compare1 (aC3 ha hb I h fun v u s2 x y H2 I2 rx ry q => ho pins s2 σ H2 x y v u Q I2 rx ry q) hm
def aEm (t : TE) : TT := fun σ H Q => t σ H fun x H' => ∃ k, x = .bl k /\ Q k H'
theorem xP {op : CmpOp} {r : R2} (ho : OpR X (compareOp op) r) (ha : PE X a ta) (hb : PE X b tb) (hm : behindInMarks op b = false) : PT X (.Compare a [op] [b] pos) (aEm (tOp r ta tb)) := by
 intro pins s σ H Q I h
 refine wpAny_isTrue_Compare1 (thn (ha pins s σ H _ I h) fun v s1 ⟨x, H1, I1, r1, q1⟩ => thn (hb pins s1 σ H1 _ I1 q1) fun u s2 ⟨y, H2, I2, r2, q2⟩ =>
  thn (ho pins s2 σ H2 x y v u _ I2 r1 r2 q2) fun c s3 ⟨z, H3, I3, r3, k, e, q3⟩ => ?_) hm
 subst e
 cases r3
 exact wpAny_truthy_bool ⟨H3, I3, q3⟩
theorem pT : (sizeLine : Nat) < 2 ^ 63 := by rw [sizeLine_eq]; decide
theorem qH : OpR X (binaryOp .Add) (fun x y H Q => ∃ i j, x = .str i /\ y = .str j /\ i.length + j.length <= sizeLine /\ Q (.str (i ++ j)) H) := by
 intro pins s σ H x y v u Q I rx ry h
 obtain ⟨i, j, rfl, rfl, hz, q⟩ := h
 obtain ⟨t, rfl⟩ := rx
 obtain ⟨t', rfl⟩ := ry
 exact add_str (fun t' tk => ⟨.str (i ++ j), H, I.tok _, ⟨_, rfl⟩, q⟩) hz
def pK (b : Expr) : Prop := ∀ o i, subscripted b false o i = operate [o, i] (getItem o i)
theorem oF (ha : PE X a ta) (hb : PE X b tb) (hs : pK b) :
  PE X (.Subscript a b pos) (tOp (fun x y H Q => ∃ z i c, x = .str z /\ y = .int i /\ 0 <= i /\ i < 2 ^ 63 /\ i < z.length /\ z.cps[i.toNat]? = some c /\ Q (.str ⟨#[c]⟩) H) ta tb) := by
 intro pins s σ H Q I h
 refine Subscript_ (aC3 ha hb I h fun v u s2 x y H2 I2 rx ry q => ?_)
 obtain ⟨z, i, c, rfl, rfl, h0, h63, h1, hc, q⟩ := q
 obtain ⟨t, rfl⟩ := rx
 obtain ⟨t', rfl⟩ := ry
 have e : seqIndex? i z.length = some i.toNat := PySem.StrLaws.seqIndex_nonneg h0 h1
 exact tail_any (typeIs_str s2 z t) slot_str_getitem.lookup (getItem_str (c := c) (by
  have e1 : decide (i < -(2 ^ 63 : Int)) = false := decide_eq_false (by omega)
  have e2 : decide (i ≥ 2 ^ 63) = false := decide_eq_false (by omega)
  rw [e1, e2] <;> rfl) (by rw [e]; exact hc) ⟨.str ⟨#[c]⟩, H2, I2.tok _, ⟨_, rfl⟩, q⟩) (hs _ _)
theorem vals1 {x : V} {us : List Value} (r : Vals [x] us) : ∃ u, us = [u] /\ RelV x u := by
 cases r with
 | cons r1 r2 => cases r2; exact ⟨_, rfl, r1⟩
theorem vals2 {x y : V} {us : List Value} (r : Vals [x, y] us) : ∃ u w', us = [u, w'] /\ RelV x u /\ RelV y w' := by
 cases r with
 | cons r1 r2 =>
  cases r2 with
  | cons r3 r4 => cases r4; exact ⟨_, _, rfl, r1, r3⟩
theorem jN : CallR X (.builtin "abs") (fun xs H Q => ∃ i, xs = [.int i] /\ Q (.int (if i < 0 then -i else i)) H) := by
 intro pins s σ H xs us Q I r h
 obtain ⟨i, rfl, q⟩ := h
 obtain ⟨u, rfl, t, rfl⟩ := vals1 r
 exact call_abs_int fun u tk => ⟨.int (if i < 0 then -i else i), H, I.tok _, ⟨_, rfl⟩, q⟩
theorem call_int1 : CallR X (.type "int") (fun xs H Q => (∃ i, xs = [.int i] /\ Q (.int i) H) \/ ∃ k, xs = [.bl k] /\ Q (.int (if k then 1 else 0)) H) := by
 intro pins s σ H xs us Q I r h
 rcases h with ⟨i, rfl, q⟩ | ⟨k, rfl, q⟩
 ·obtain ⟨u, rfl, t, rfl⟩ := vals1 r
  exact call_int_int ⟨.int i, H, I, ⟨_, rfl⟩, q⟩
 ·obtain ⟨u, rfl, r1⟩ := vals1 r
  cases r1
  exact call_int_bool ⟨.int (if k then 1 else 0), H, I.tok _, ⟨_, rfl⟩, q⟩
theorem eO : CallR X (.type "str") (fun xs H Q => ∃ i, xs = [.int i] /\ i.natAbs.log2 < 1920 /\ Q (.str (toString i)) H) := by
 intro pins s σ H xs us Q I r h
 obtain ⟨i, rfl, hz, q⟩ := h
 obtain ⟨u, rfl, t, rfl⟩ := vals1 r
 exact PySem.P.str_of_int hz ⟨.str _, H, I.tok _, ⟨_, rfl⟩, q⟩
end
structure ObjM (h : Heap) (x dx C : Addr) (mA : Str -> Option Value) : Prop where
 obj : h.get? x = some (PySem.W.instObj C dx)
 ns : h.Ns1 dx mA
 ne : dx ≠ x
theorem qX {h : Heap} {dx : Addr} {mA : Str -> Option Value} (n : h.Ns1 dx mA) : ∃ od, h.get? dx = some od /\ ∀ name, PySem.W.lookIn name od = some (mA name) := by
 obtain ⟨o, es, ep, ho, hd, hk, _, hm⟩ := n
 refine ⟨o, ho, fun name => ?_⟩
 have e := hm name
 unfold nsFind findBy at e
 rw [<- Array.find?_toList] at e
 unfold PySem.W.lookIn
 rw [hd]
 dsimp only
 split
 ·rename_i y q
  rw [q] at e
  exact congrArg some e
 ·rename_i q
  rw [q] at e
  have a : es.toList.any (·.refKey) = false := by
   rw [List.any_eq_false]
   intro y hy
   obtain ⟨z, t, hkey⟩ := hk y (Array.mem_toList_iff.mp hy)
   simp [DictEntry.refKey, hkey]
  have a' : ¬ es.toList.any (·.refKey) = true := by rw [a]; exact Bool.false_ne_true
  rw [if_neg a']
  exact congrArg some e
theorem ObjM.look {h : Heap} {x dx C : Addr} {mA : Str -> Option Value} (I : ObjM h x dx C mA) : ∃ od, PySem.W.InstAt h x (PySem.W.instObj C dx) C (some od) /\ ∀ name, PySem.W.lookIn name od = some (mA name) :=
 let ⟨od, ho, hl⟩ := qX I.ns
 ⟨od, ⟨I.obj, rfl, rfl, ho⟩, hl⟩
section
variable {prog : Program} {w : World} {A : Around} {E : Value -> Shared -> Prop} {s : Shared} {K : PySem.W.Frag} {x dx C f : Addr} {mA : Str -> Option Value} {name : Str} {v : Value}
end
section
variable {P : Program} {w : World} {H H' : Hp} {h h' : Heap} {a C dx : Addr} {fs fs' : List (Str × V)}
theorem y8 (hok : HOk P w H h) (e : H a = some (.ins C dx fs)) : ∃ mA, ObjM h a dx C mA /\ (∀ f, aDu (fs.lookup f) (mA f)) /\ PySem.Within mA (fs.map (·.1)) /\ fs.length <= 1000 /\ H dx = some (.own a) := by
 obtain ⟨d, z, ne, ob, mA, n, r, q⟩ := (show ObjOk P w H h a (.ins C dx fs) from hok a _ e)
 exact ⟨mA, ⟨ob, n, ne⟩, r, q, z, d⟩
end
structure Cls (K : PySem.W.Frag) (C : Addr) : Prop where
 pg : PySem.W.plainGet K C Str.empty = true
 hd : PySem.W.hasDictIn K C = true
 po : PySem.W.plainOver K C = true
 sa : PySem.W.findIn K (.ref C) "__setattr__" = some (some (.builtin "object.__setattr__"))
theorem Cls.get {K : PySem.W.Frag} {C : Addr} (c : Cls K C) (f : Str) : PySem.W.plainGet K C f = true := c.pg
section
variable {X : Cx} {pins : List (Addr × Obj)} {σ : St} {H : Hp} {s : Shared} {a C dx : Addr} {fs : List (Str × V)} {f : Str} {v : V} {A : Around} {E : Value -> Shared -> Prop}
end
section
variable {X : Cx} {o e value : Expr} {f : Str} {pos pos' tpos : Pos} {ta tv : TE}
end
section
variable {X : Cx} {pins : List (Addr × Obj)} {σ : St} {H : Hp} {s : Shared} {A : Around} {E : Value -> Shared -> Prop} {Q : Value -> Shared -> Prop} {c : Value} {b : Bool}
inductive pB (K : PySem.W.Frag) (H : Hp) : V -> Value -> Prop where
 | non : pB K H .non (.type "NoneType")
 | bl (x : Bool) : pB K H (.bl x) (.type "bool")
 | int (i : Int) : pB K H (.int i) (.type "int")
 | str (x : Str) : pB K H (.str x) (.type "str")
 | flt (x : UInt64) : pB K H (.flt x) (.type "float")
 | lst {a : Addr} {xs : List V} (e : H a = some (.lst xs)) : pB K H (.ref a) (.type "list")
 | frz {a : Addr} {o : Obj} {xs : List V} (e : H a = some (.frz o (.lst xs))) : pB K H (.ref a) (.type "list")
 | tup {a : Addr} {xs : List V} (e : H a = some (.tup xs)) : pB K H (.ref a) (.type "tuple")
 | dK {a : Addr} {kvs : List (Key × V)} (e : H a = some (.dK kvs)) : pB K H (.ref a) (.type "dict")
 | dT {a : Addr} {kvs : List (List Key × V)} (e : H a = some (.dT kvs)) : pB K H (.ref a) (.type "dict")
 | ins {a C dx : Addr} {fs : List (Str × V)} (e : H a = some (.ins C dx fs)) (cl : Cls K C) (ha : PySem.W.findIn K (.ref C) "__class__" = some (some (.builtin "object.__class__")))
   (hn : PySem.W.specialIn K (.builtin "object.__class__") "__get__" = some (some (.builtin "getset_descriptor.__get__"))) (htk : PySem.W.takesIn K (.builtin "object.__class__") = some true)
   (hm : PySem.W.mroIn K C (.type "object") = some true) : pB K H (.ref a) (.ref C)
theorem tN {x : V} {u t : Value} (I : Inv X pins σ H s) (rx : RelV x u) (ty : pB X.K H x t) (e : PySem.W.kitOne X.K t c = some b) (h : ∀ tk, Q (.bool b) { s with toks := tk }) :
  wpAny (model X.prog X.w) A (call (.builtin "isinstance") [u, c]) Q E s := by
 cases ty with
 | non => cases (show u = Value.none from rx); exact PySem.W.kia_one PySem.W.kitx_none I.kIn True.intro e (fun z => nomatch z) h
 | bl y => cases (show u = Value.bool y from rx); exact PySem.W.kia_one PySem.W.kitx_bool I.kIn True.intro e (fun z => nomatch z) h
 | int i => obtain ⟨t, q⟩ := (show ∃ t, u = Value.int i t from rx); cases q; exact PySem.W.kia_one PySem.W.kitx_int I.kIn True.intro e (fun z => nomatch z) h
 | str y => obtain ⟨t, q⟩ := (show ∃ t, u = Value.str y t from rx); cases q; exact PySem.W.kia_one PySem.W.kitx_str I.kIn True.intro e (fun z => nomatch z) h
 | flt y => obtain ⟨t, q⟩ := (show ∃ t, u = Value.float y t from rx); cases q; exact PySem.W.kia_one PySem.W.kitx_float I.kIn True.intro e (fun z => nomatch z) h
 | @lst a xs ea =>
  cases (show u = Value.ref a from rx)
  obtain ⟨_, _, n, _, h1⟩ := (show ObjOk X.prog X.w H s.heap a (.lst xs) from I.hok a _ ea)
  exact PySem.W.kia_one PySem.W.kitx_list I.kIn ⟨_, h1, rfl⟩ e (fun z => nomatch z) h
 | @frz a ob xs ea =>
  cases (show u = Value.ref a from rx)
  obtain ⟨_, _, _, n, _, h1⟩ := (show ObjOk X.prog X.w H s.heap a (.frz ob (.lst xs)) from I.hok a _ ea)
  exact PySem.W.kia_one PySem.W.kitx_list I.kIn ⟨_, h1, rfl⟩ e (fun z => nomatch z) h
 | @tup a xs ea =>
  cases (show u = Value.ref a from rx)
  obtain ⟨_, _, _, p⟩ := (show ObjOk X.prog X.w H s.heap a (.tup xs) from I.hok a _ ea)
  obtain ⟨o, h1, h2, _⟩ := p
  exact PySem.W.kia_one PySem.W.kitx_tuple I.kIn ⟨o, h1, h2⟩ e (fun z => nomatch z) h
 | @dK a kvs ea =>
  cases (show u = Value.ref a from rx)
  obtain ⟨_, _, vs, _, p⟩ := (show ObjOk X.prog X.w H s.heap a (.dK kvs) from I.hok a _ ea)
  obtain ⟨o, es, ep, h1, h2, _⟩ := p
  exact PySem.W.kia_one PySem.W.kitx_dict I.kIn ⟨o, h1, h2.1⟩ e (fun z => nomatch z) h
 | @dT a kvs ea =>
  cases (show u = Value.ref a from rx)
  obtain ⟨_, _, xs, _, o, es, ep, h1, h2, _⟩ := (show ObjOk X.prog X.w H s.heap a (.dT kvs) from I.hok a _ ea)
  exact PySem.W.kia_one PySem.W.kitx_dict I.kIn ⟨o, h1, h2.1⟩ e (fun z => nomatch z) h
 | @ins a C dx fs ea cl ha hn htk hm =>
  cases (show u = Value.ref a from rx)
  obtain ⟨mA, O, _⟩ := y8 I.hok ea
  obtain ⟨od, J, _⟩ := O.look
  exact PySem.W.kia_one (PySem.W.kitx_own (cl.get _) cl.hd ha hn htk hm) I.kIn J e (fun z => nomatch z) h
end
structure Room (k : Nat) (A : Around) : Prop where
 hd : A.handled = none
 dp : A.depth + 3 * k + 5 < recursionLimit
 un : A.units + 16 * k + 200 < cLine
theorem Room.mono {j k : Nat} {A : Around} (r : Room k A) (h : j <= k) : Room j A := ⟨r.hd, by have := r.dp; omega, by have := r.un; omega⟩
theorem Room.deeper {k : Nat} {A : Around} (r : Room (k + 1) A) (env : Env) : Room k (A.deeper env) :=
 ⟨r.hd, by have := r.dp; show A.depth + 1 + 3 * k + 5 < _; omega, by have := r.un; show A.units + 3 + 16 * k + 200 < _; omega⟩
theorem Room.depth {k : Nat} {A : Around} (r : Room k A) : A.depth < recursionLimit := by have := r.dp; omega
def aEr : TA := fun _ H Q => Q [] H
def aBn (ta : TE) (tr : TA) : TA := fun σ H Q => ta σ H fun x H1 => tr σ H1 fun xs H2 => Q (x :: xs) H2
section
variable {X : Cx} {e : Expr} {es : List Expr} {te : TE} {t : TA} {pos : Pos}
theorem pA : PA X [] aEr := fun _ _ _ _ H Q I h => Calls.spliced_nil ⟨[], H, I, .nil, h⟩
theorem j5 (ha : PE X e te) (hr : PA X es t) (hs : starEach (e :: es) X.env = (false, eval e X.env) :: starEach es X.env := by rfl) : PA X (e :: es) (aBn te t) := by
 intro pos pins s σ H Q I h
 rw [hs]
 show wpAny _ _ (spliced ((false, eval e X.env) :: backTo pos (starEach es X.env))) _ _ s
 refine Calls.spliced_cons (thn (ha pins s σ H _ I h) fun u s1 ⟨x, H1, I1, r1, q1⟩ => ?_)
 exact thn (hr pos pins s1 σ H1 _ I1 q1) fun us s2 ⟨xs, H2, I2, r2, q2⟩ => ⟨x :: xs, H2, I2, .cons r1 r2, q2⟩
def aE9 (t : TA) : TE := fun σ H Q => t σ H fun xs H1 => xs.length <= sizeLine /\ ∀ p, H1 p = none -> Q (.ref p) (upd H1 p (.tup xs))
def aFl (t : TA) : TE := fun σ H Q => t σ H fun xs H1 => xs.length <= sizeLine /\ ∀ p, H1 p = none -> Q (.ref p) (upd H1 p (.lst xs))
theorem aCh {x1} (h : PA X es t) : PE X (.Tuple es x1 pos) (aE9 t) := by
 intro pins s σ H Q I hq
 refine wpAny_Tuple_spliced (thn (h pos pins s σ H _ I hq) fun us s1 ⟨xs, H1, I1, r, z, q⟩ => ⟨by rw [<- r.length]; exact z, ?_⟩)
 have hf : H1 s1.heap.objs.size = none := I1.hok.fresh (Nat.le_refl _)
 refine ⟨.ref s1.heap.objs.size, upd H1 s1.heap.objs.size (.tup xs), I1.laid (t' := s1.toks) (fun b u e => Heap.get?_push_of_some _ e) (Nat.le_refl _) ?_, rfl, q _ hf⟩
 exact ⟨z, us, r, ⟨_, Heap.get?_push_size _ rfl, rfl, _, rfl⟩⟩
theorem aBm (h : PA X es t) : PE X (.List es pos) (aFl t) := by
 intro pins s σ H Q I hq
 refine wpAny_List_spliced (thn (h pos pins s σ H _ I hq) fun us s1 ⟨xs, H1, I1, r, z, q⟩ => ⟨by rw [<- r.length]; exact z, ?_⟩)
 have hf : H1 s1.heap.objs.size = none := I1.hok.fresh (Nat.le_refl _)
 refine ⟨.ref s1.heap.objs.size, upd H1 s1.heap.objs.size (.lst xs), I1.laid (t' := s1.toks) (fun b u e => Heap.get?_push_of_some _ e) (Nat.le_refl _) ?_, rfl, q _ hf⟩
 exact ⟨z, us, 0, r, Heap.get?_push_size _ rfl⟩
end
abbrev Sp := List V -> Hp -> VK -> XK -> Prop
abbrev CXT := List Env -> Hp -> Shared -> XK -> Value -> Shared -> Prop
structure zJ (P : Program) (w : World) (K : PySem.W.Frag) (mg : Str -> Option Value) (base : Heap) (A : Around) (outer : List Env) (s : Shared) (H : Hp) : Prop where
 frames : A.frames = some outer
 mod : Mod K mg base
 bs : ∀ b o, base.get? b = some o -> s.heap.get? b = some o /\ H b = none
 bsz : base.objs.size <= s.heap.objs.size
 funs : s.heap.FunFrames base outer
 frf : ∀ b ∈ frs outer, H b = none
 hok : HOk P w H s.heap
 bare : AllBare s.gens
 tab : Tbs K H
def CE (outer : List Env) (P : Program) (w : World) (H : Hp) (s : Shared) (Q : VK) (u : Value) (s' : Shared) : Prop :=
 ∃ v H', s'.os = s.os /\ AllBare s'.gens /\ Un (frs outer) [] H H' s.heap s'.heap /\ HOk P w H' s'.heap /\ RelV v u /\ Q v H'
def CR (CX : CXT) (outer : List Env) (P : Program) (w : World) (H : Hp) (s : Shared) (Q : VK) (E : XK) (r : Result) (s' : Shared) : Prop :=
 match r with
 | .ok (.ret u) => CE outer P w H s Q u s'
 | .ok _ => False
 | .error e => CX outer H s E e s'
structure FnOk (P : Program) (w : World) (K : PySem.W.Frag) (mg : Str -> Option Value) (base : Heap) (CX : CXT) (k : Nat) (f : Addr) (fd : FuncData) (ps : List Str) (sp : Sp) : Prop where
 len : ∀ vs H Q E, sp vs H Q E -> vs.length = ps.length
 run : ∀ (A : Around) (outer : List Env) (s : Shared) (H : Hp) (args : Args) (us : List Value) (vs : List V) (Q : VK) (E : XK), Room k A -> zJ P w K mg base A outer s H -> BindsTo s fd args (ps.zip us) -> Vals vs us -> sp vs H Q E ->
  codeAny (model P w) A (.call (.ref f) args) (CR CX outer P w H s Q E) s
theorem FnOk.mono {P : Program} {w : World} {K : PySem.W.Frag} {mg : Str -> Option Value} {base : Heap} {CX : CXT} {j k : Nat} {f : Addr} {fd : FuncData} {ps : List Str} {sp : Sp} (F : FnOk P w K mg base CX j f fd ps sp) (h : j <= k) :
  FnOk P w K mg base CX k f fd ps sp := ⟨F.len, fun A outer s H args us vs Q E hr => F.run A outer s H args us vs Q E (hr.mono h)⟩
theorem FnOk.imp {P : Program} {w : World} {K : PySem.W.Frag} {mg : Str -> Option Value} {base : Heap} {CX : CXT} {k : Nat} {f : Addr} {fd : FuncData} {ps : List Str} {sp sp' : Sp} (F : FnOk P w K mg base CX k f fd ps sp)
  (h : ∀ vs H Q E, sp' vs H Q E -> sp vs H Q E) : FnOk P w K mg base CX k f fd ps sp' :=
 ⟨fun vs H Q E q => F.len vs H Q E (h _ _ _ _ q), fun A outer s H args us vs Q E hr he hb hv hs => F.run A outer s H args us vs Q E hr he hb hv (h _ _ _ _ hs)⟩
section
variable {X : Cx} {pins : List (Addr × Obj)} {σ : St} {H : Hp} {s s' : Shared}
theorem Inv.env0 (I : Inv X pins σ H s) : zJ X.prog X.w X.K X.mg X.base X.A X.stack s H :=
 ⟨I.ok.frames, I.ok.mod, I.bs, Nat.le_trans I.ok.bsz I.sz, I.stack, I.stkFree, I.hok, I.bare, I.tab⟩
theorem Inv.after {Q : VK} {u : Value} (I : Inv X pins σ H s) (h : CE X.stack X.prog X.w H s Q u s') : EP X pins σ Q u s' := by
 obtain ⟨v, H', os, bare, un, hok, r, q⟩ := h
 obtain ⟨hh, g, d, t, os'⟩ := s'
 obtain rfl : os' = s.os := os
 exact ⟨v, H', I.call (h' := hh) (g' := g) (d' := d) (t' := t) (ch := []) un hok bare (fun b z => absurd z (by simp)), r, q⟩
end
def Binds (K : PySem.W.Frag) (fd : FuncData) (ps : List Str) (ds : List Value) : Prop :=
 ∀ (s : Shared) (us : List Value), K.In s.heap -> (us ++ ds).length = ps.length -> BindsTo s fd ⟨us, []⟩ (ps.zip (us ++ ds))
theorem Binds.all {K : PySem.W.Frag} {fd : FuncData} {ps : List Str} (h : ∀ us : List Value, us.length = ps.length -> bindArgs fd ⟨us, []⟩ = pure (ps.zip us)) : Binds K fd ps [] := fun s us _ hl => by
 rw [List.append_nil] at hl ⊢
 exact .of_eq (h us hl)
def aB3 (CX : CXT) (X : Cx) (E : XK) : Prop := ∀ (pins : List (Addr × Obj)) (σ : St) (H : Hp) (s : Shared) (e : Value) (s' : Shared), Inv X pins σ H s -> CX X.stack H s E e s' -> X.xe e s'
section
variable {X : Cx} {CX : CXT} {k : Nat} {f C : Addr} {fd : FuncData} {ps : List Str} {sp : Sp} {dvs : List V} {ds : List Value} {E : XK} {x m : Str} {p pos apos : Pos} {e o : Expr} {es : List Expr} {ta : TE} {t : TA}
end
section
variable {X : Cx} {CX : CXT} {k : Nat} {f C : Addr} {fd : FuncData} {ps ks : List Str} {sp : Sp} {E : XK} {x m : Str} {p pos apos kpos : Pos} {e o : Expr} {es : List Expr} {kws : List Keyword} {te ta : TE} {t tk : TA} {nm : Option Str}
variable {g : List Value -> List Value -> List Value} {gV : List V -> List V -> List V}
end
structure bF (N P : List Str) (sc : Scope) : Prop where
 kind : sc.kind = .function
 co : sc.isCoroutine = false
 gen : sc.isGenerator = false
 nd : N.Nodup
 pre : N.take P.length = P
 par : ∀ x ∈ P, sc.names.lookup x = some .local \/ sc.names.lookup x = some .cell
 nofree : ∀ y ∈ sc.names, y.2 ≠ .free
theorem mU {kindOf : Str -> Option NameKind} {x : Str} : ∀ {binds : List (Str × Value)} {m : Str -> Option Value}, (∀ v, (x, v) ∉ binds) -> bindL kindOf binds m x = m x
 | [], _, _ => rfl
 | (n, v) :: r, m, h => by
  unfold bindL
  rw [mU fun w hw => h w (List.mem_cons_of_mem _ hw)]
  split
  ·have : x ≠ n := by rintro rfl; exact h v List.mem_cons_self
   simp [this]
  ·rfl
theorem mI {kindOf : Str -> Option NameKind} {x : Str} : ∀ {binds : List (Str × Value)} {m : Str -> Option Value}, (∀ v, (x, v) ∉ binds) -> bindC kindOf binds m x = m x
 | [], _, _ => rfl
 | (n, v) :: r, m, h => by
  unfold bindC
  rw [mI fun w hw => h w (List.mem_cons_of_mem _ hw)]
  split
  ·rfl
  ·have : x ≠ n := by rintro rfl; exact h v List.mem_cons_self
   simp [this]
theorem nU {kindOf : Str -> Option NameKind} {x : Str} {v : Value} : ∀ {P : List Str} {vs : List Value} {i : Nat} {m : Str -> Option Value}, P.Nodup -> P[i]? = some x -> vs[i]? = some v -> kindOf x = some .local ->
  bindL kindOf (P.zip vs) m x = some v
 | [], _, _, _, _, h, _, _ => by simp at h
 | _ :: _, [], _, _, _, _, h, _ => by simp at h
 | p :: P, w :: vs, 0, m, nd, h1, h2, hk => by
  simp at h1 h2; subst h1; subst h2
  show bindL kindOf ((p, w) :: P.zip vs) m p = _
  unfold bindL
  rw [mU fun v hv => (List.nodup_cons.mp nd).1 (List.of_mem_zip hv).1, if_pos hk]
  simp
 | p :: P, w :: vs, i + 1, m, nd, h1, h2, hk => by
  show bindL kindOf ((p, w) :: P.zip vs) m x = _
  unfold bindL
  exact nU (i := i) (List.nodup_cons.mp nd).2 (by simpa using h1) (by simpa using h2) hk
theorem nI {kindOf : Str -> Option NameKind} {x : Str} {v : Value} : ∀ {P : List Str} {vs : List Value} {i : Nat} {m : Str -> Option Value}, P.Nodup -> P[i]? = some x -> vs[i]? = some v -> kindOf x ≠ some .local ->
  bindC kindOf (P.zip vs) m x = some v
 | [], _, _, _, _, h, _, _ => by simp at h
 | _ :: _, [], _, _, _, _, h, _ => by simp at h
 | p :: P, w :: vs, 0, m, nd, h1, h2, hk => by
  simp at h1 h2; subst h1; subst h2
  show bindC kindOf ((p, w) :: P.zip vs) m p = _
  unfold bindC
  rw [mI fun v hv => (List.nodup_cons.mp nd).1 (List.of_mem_zip hv).1, if_neg hk]
  simp
 | p :: P, w :: vs, i + 1, m, nd, h1, h2, hk => by
  show bindC kindOf ((p, w) :: P.zip vs) m x = _
  unfold bindC
  exact nI (i := i) (List.nodup_cons.mp nd).2 (by simpa using h1) (by simpa using h2) hk
def start (N : List Str) (vs : List V) : St := vs.map some ++ List.replicate (N.length - vs.length) none
def jM (CX : CXT) (P : Program) (w : World) (K : PySem.W.Frag) (mg : Str -> Option Value) (base : Heap) (N : List Str) (qual : Str) (scope : Scope) (f : Addr) (cd : Value) (A : Around) (outer : List Env) (s : Shared) (H : Hp) (E : XK) : Cx where
 prog := P
 w := w
 K := K
 mg := mg
 base := base
 A := A.deeper (envOfC qual scope s.heap.objs.size f cd)
 N := N
 s₀ := s
 H₀ := H
 env := envOfC qual scope s.heap.objs.size f cd
 outer := outer
 stack := envOfC qual scope s.heap.objs.size f cd :: outer
 ex := []
 calm := true
 fn := fun _ => true
 pn := []
 xe := fun e s' => wpAny (model P w) (A.deeper (envOfC qual scope s.heap.objs.size f cd)) (leaving (envOfC qual scope s.heap.objs.size f cd) e) (fun _ s'' => CX outer H s E e s'') (fun e' s'' => CX outer H s E e' s'') s'
theorem pC {sc : Scope} {n : Nat} {x : Str} (h : sc.names.lookup x = some .cell) : ∃ c, (cellsFrom n sc.names []).lookup x = some c := by
 have q := PySem.W.cellsFrom_some sc.names n [] (.inl h)
 exact Option.isSome_iff_exists.mp q
theorem nQ {CX : CXT} {P : Program} {w : World} {K : PySem.W.Frag} {mg : Str -> Option Value} {base : Heap} {N ps : List Str} {qual : Str} {scope : Scope} {f : Addr} {cd : Value} {A : Around} {outer : List Env} {s s1 : Shared} {H : Hp} {E : XK} {us : List Value} {vs : List V}
  (S : bF N ps scope) (hd : A.handled = none) (e0 : zJ P w K mg base A outer s H) (hl : vs.length = ps.length) (r : Vals vs us)
  (x : InCallC s s.heap.objs.size (bindL (envOfC qual scope s.heap.objs.size f cd).kindOf (ps.zip us) fun _ => none) (cellsFrom (s.heap.objs.size + 1) scope.names []) (bindC (envOfC qual scope s.heap.objs.size f cd).kindOf (ps.zip us) fun _ => none) s1) :
  Inv (jM CX P w K mg base N qual scope f cd A outer s H E) [] (start N vs) H s1 := by
 have hpl : ps.length <= N.length := by have := congrArg List.length S.pre; rw [List.length_take] at this; omega
 obtain ⟨h1, tk, rfl, hk⟩ := x.done
 have noA : ∀ b : Addr, b ∉ (jM CX P w K mg base N qual scope f cd A outer s H E).ex := fun b z => absurd (show b ∈ ([] : List Addr) from z) (by simp)
 refine ⟨⟨e0.mod, S.kind, rfl, rfl, Nat.le_refl _, fun y z c h1 h2 => ?_, fun y hy => ?_, fun y c _ h => ?_, fun _ => hd, Around.frames_deeper e0.frames, .inr ⟨rfl, rfl⟩, fun b z => absurd z (noA b), e0.bs, e0.bsz, fun b _ _ => noA b, fun b z => absurd z (noA b), e0.funs, e0.frf, e0.tab⟩,
  rfl, e0.bare, Un.kept hk, ⟨_, x.toInCall.ns, fun i y v h1 h2 h3 => ?_⟩, fun y c h => ⟨_, x.cell y c h⟩, e0.hok.fresh (Nat.le_refl _), fun y c h => ?_, fun p hp => absurd (show p ∈ ([] : List (Addr × Obj)) from hp) (by simp), e0.hok.kept hk, ?_⟩
 ·exact name_of_addr x.apart (PySem.mem_of_lookup h1) (PySem.mem_of_lookup h2)
 ·have hy : scope.names.lookup y = some .cell \/ scope.names.lookup y = some .free := hy
  rcases hy with hy | hy
  ·exact pC hy
  ·exact absurd rfl (S.nofree _ (PySem.mem_of_lookup hy))
 ·exact Nat.le_of_lt (x.above y c (PySem.mem_of_lookup h))
 ·have hi : i < vs.length := by
   unfold start at h2
   by_cases hi : i < vs.length
   ·exact hi
   ·rw [List.getElem?_append_right (by simpa using hi)] at h2
    rw [List.getElem?_replicate] at h2
    split at h2 <;> cases h2
  have ha : vs[i]? = some v := by
   unfold start at h2
   rw [List.getElem?_append_left (by simpa using hi), List.getElem?_map] at h2
   cases e : vs[i]? with
   | none => rw [e] at h2; cases h2
   | some a => rw [e] at h2; cases h2; rfl
  obtain ⟨u, hu, rv⟩ := r.get ha
  have hp : ps[i]? = some y := by
   rw [<- S.pre, List.getElem?_take_of_lt (by omega)]; exact h1
  have ndP : ps.Nodup := by rw [<- S.pre]; exact S.nd.sublist (List.take_sublist _ _)
  refine ⟨u, rv, ?_⟩
  rcases S.par y (List.mem_of_getElem? hp) with k | k
  ·exact .inl ⟨k, nU ndP hp hu k⟩
  ·obtain ⟨c, e⟩ := pC (n := s.heap.objs.size + 1) k
   refine .inr ⟨.inl k, c, e, ?_⟩
   have q := x.cell y c e
   rw [nI ndP hp hu (by show scope.names.lookup y ≠ _; rw [k]; decide)] at q
   exact q
 ·exact e0.hok.fresh (Nat.le_of_lt (x.above y c (PySem.mem_of_lookup h)))
 ·unfold start
  show _ = N.length
  rw [List.length_append, List.length_map, List.length_replicate]
  omega
theorem aC7 {CX : CXT} {P : Program} {w : World} {K : PySem.W.Frag} {mg : Str -> Option Value} {base : Heap} {k : Nat} {f : Addr} {name qual : Str} {params : Arguments} {body : List Stmt} {scope : Scope} {dV kV doc pm cdv ct oc : Value} {an od : Option Addr}
  {osl : Array (Option Value)} {N ps : List Str} {sp : Sp} (lk : K.lookup f = some ⟨oc, od, .func (PySem.W.fnOf name qual params body scope dV kV doc pm an cdv ct), osl⟩) (hcd : PySem.W.codeIn K cdv qual = true) (S : bF N ps scope)
  (len : ∀ vs H Q E, sp vs H Q E -> vs.length = ps.length)
  (hbody : ∀ (A : Around) (outer : List Env) (s : Shared) (H : Hp) (vs : List V) (Q : VK) (E : XK), Room k (A.deeper (envOfC qual scope s.heap.objs.size f cdv)) -> sp vs H Q E ->
   ∃ t, PSs (jM CX P w K mg base N qual scope f cdv A outer s H E) body t /\ t { nx := fun _ H' => Q .non H', rt := Q } (start N vs) H) :
  FnOk P w K mg base CX (k + 1) f (PySem.W.fnOf name qual params body scope dV kV doc pm an cdv ct) ps sp := by
 refine ⟨len, fun A outer s H args us vs Q E hr e0 hb r hsp => ?_⟩
 have hl := len _ _ _ _ hsp
 have KX : K.In s.heap := e0.mod.kin.keeps fun b o e => (e0.bs b o e).1
 have lim : s.heap.NoLimit := e0.mod.nolimit.keeps fun b o e => (e0.bs b o e).1
 have hkind : ∀ y ∈ ps.zip us, scope.names.lookup y.1 = some .local \/ (scope.names.lookup y.1 = some .cell /\ ((cellsFrom (s.heap.objs.size + 1) scope.names []).lookup y.1).isSome = true) := fun ⟨n, v⟩ hy => by
  rcases S.par n (List.of_mem_zip hy).1 with q | q
  ·exact .inl q
  ·exact .inr ⟨q, PySem.W.cellsFrom_some _ _ _ (.inl q)⟩
 refine codeAny_call_function hr.depth (KX _ _ lk) rfl S.co S.gen rfl (PySem.W.codeRec_of KX hcd) (hb _ _ _ _ ?_)
 refine wpAny_newFunctionEnv_cells S.kind hkind fun env he s1 x => ?_
 subst he
 refine ⟨lim.keeps x.toInCall.keep, codeAny_func ?_⟩
 obtain ⟨t, ht, hq⟩ := hbody A outer s H vs Q E (hr.deeper _) hsp
 have I : Inv (jM CX P w K mg base N qual scope f cdv A outer s H E) [] (start N vs) H s1 := nQ S hr.hd e0 hl r x
 refine wpAny_mono (ht [] s1 (start N vs) H _ I hq) (fun fl s' hs => ?_) fun e s' hs => hs
 have fin : ∀ {σ' : St} {H' : Hp} {v : V} {u : Value}, Inv (jM CX P w K mg base N qual scope f cdv A outer s H E) [] σ' H' s' -> RelV v u -> Q v H' -> CE outer P w H s Q u s' :=
  fun {σ' H' v u} J rv q => ⟨v, H', J.os, J.bare, J.base, J.hok, rv, q⟩
 cases fl with
 | ret u =>
  obtain ⟨v, σ', H', J, rv, q⟩ := hs
  exact fin J rv q
 | next =>
  obtain ⟨σ', H', J, q⟩ := hs
  exact fin (v := V.non) (u := Value.none) J rfl q
 | brk =>
  obtain ⟨_, _, _, q⟩ := hs
  exact False.elim q
 | cont =>
  obtain ⟨_, _, _, q⟩ := hs
  exact False.elim q
section
variable {X : Cx} {x : Str} {p pos : Pos} {e : Expr} {es : List Expr} {t : TA} {id T : String} {r : List V -> Hp -> VK -> Prop}
def tCB (r : List V -> Hp -> VK -> Prop) (t : TA) : TE := fun σ H Q => t σ H fun vs H1 => r vs H1 Q
theorem pW (hc : CallR X (.builtin id) r) (hg : Gl X x) (hm : X.mg x = none) (hv : bootBuiltins x = some (.builtin id)) (ha : PA X (e :: es) t) (hn : x ≠ "__name__" := by decide) (hdb : (x == ("__debug__" : Str)) = false := by decide)
  (he : starEach (e :: es) X.env = (false, eval e X.env) :: starEach es X.env := by rfl) (hpl : (backTo pos (starEach es X.env)).any (·.1) = false := by rfl) : PE X (.Call (.Name x p) (e :: es) [] pos) (tCB r t) := by
 intro pins s σ H Q I h
 refine wpAny_Call_Name_kw (pQ I hg hm hv ?_ hn hdb)
 exact PyProof.Rows.callWith_builtin1 (thn (ha pos pins s σ H _ I h) fun us s1 ⟨vs, H1, I1, r1, q1⟩ => hc pins s1 σ H1 vs us Q I1 r1 q1) he hpl
theorem sD (hc : CallR X (.type T) r) (hg : Gl X x) (hm : X.mg x = none) (hv : bootBuiltins x = some (.type T)) (ha : PA X (e :: es) t) (hn : x ≠ "__name__" := by decide) (hdb : (x == ("__debug__" : Str)) = false := by decide)
  (he : starEach (e :: es) X.env = (false, eval e X.env) :: starEach es X.env := by rfl) (hpl : (backTo pos (starEach es X.env)).any (·.1) = false := by rfl) : PE X (.Call (.Name x p) (e :: es) [] pos) (tCB r t) := by
 intro pins s σ H Q I h
 refine wpAny_Call_Name_kw (pQ I hg hm hv ?_ hn hdb)
 exact PyProof.Rows.callWith_type1 (thn (ha pos pins s σ H _ I h) fun us s1 ⟨vs, H1, I1, r1, q1⟩ => hc pins s1 σ H1 vs us Q I1 r1 q1) he hpl
end
end L2
namespace HT
open PySem PyProof.Rows
section
open PySem.SeqAt
open PySem.AutoSeq1 (wpAny_loadPart')
open PySem.MeetsSeq PySem.MeetsSeq2 PySem.MeetsSeq3
end
section
variable {prog : Program} {w : World} {A : Around} {E : Value -> Shared -> Prop} {s : Shared}
end
end HT
namespace L2
open PySem PySem.Spec PyProof.Rows
abbrev TO := St -> Hp -> (Option Int -> Hp -> Prop) -> Prop
def PO (X : Cx) (e : Option Expr) (t : TO) : Prop :=
 ∀ (pins : List (Addr × Obj)) (s : Shared) (σ : St) (H : Hp) (Q : Option Int -> Hp -> Prop), Inv X pins σ H s -> t σ H Q ->
  wpAny (model X.prog X.w) X.A (evalPart e X.env) (fun u s' => ∃ o H', Inv X pins σ H' s' /\ IsPart u o /\ Q o H') X.xe s
def xK : TO := fun _ H Q => Q none H
def aDk (t : TE) : TO := fun σ H Q => t σ H fun x H1 => ∃ i, x = .int i /\ Q (some i) H1
section
variable {X : Cx} {e : Expr} {te : TE} {lo hi : Option Expr} {tl th : TO} {pos p2 : Pos}
theorem x6 : PO X none xK := by
 intro pins s σ H Q I h
 rw [evalPart_none]
 exact wpAny_pure ⟨none, H, I, .none, h⟩
theorem xN (h : PE X e te) : PO X (some e) (aDk te) := by
 intro pins s σ H Q I hw
 rw [evalPart_some]
 refine thn (h pins s σ H _ I hw) fun u s1 ⟨x, H1, I1, r1, q1⟩ => ?_
 obtain ⟨i, rfl, q⟩ := q1
 obtain ⟨t, rfl⟩ := r1
 exact ⟨some i, H1, I1, .int i t, q⟩
def SlR (X : Cx) (r : V -> Option Int -> Option Int -> Hp -> VK -> Prop) : Prop :=
 ∀ (pins : List (Addr × Obj)) (s : Shared) (σ : St) (H : Hp) (x : V) (v vl vu : Value) (lo hi : Option Int) (sl : Addr) (Q : VK), Inv X pins σ H s -> RelV x v -> s.heap.IsSliceOf sl vl vu .none -> IsPart vl lo -> IsPart vu hi -> r x lo hi H Q ->
  ∃ T id, typeLookup (.type T) "__getitem__" = pure (some (.builtin id)) /\ s.TypeIs v T /\ wpAny (model X.prog X.w) X.A (getItem v (.ref sl)) (EP X pins σ Q) X.xe s
def tSl (r : V -> Option Int -> Option Int -> Hp -> VK -> Prop) (te : TE) (tl th : TO) : TE := fun σ H Q => te σ H fun x H1 => tl σ H1 fun l H2 => th σ H2 fun u H3 => r x l u H3 Q
theorem vA {r : V -> Option Int -> Option Int -> Hp -> VK -> Prop} (hr : SlR X r) (he : PE X e te) (hl : PO X lo tl) (hu : PO X hi th) : PE X (.Subscript e (.Slice lo hi none p2) pos) (tSl r te tl th) := by
 intro pins s σ H Q I h
 refine Subscript_ (thn (he pins s σ H _ I h) fun v s1 ⟨x, H1, I1, r1, q1⟩ => ?_)
 refine wpAny_Slice (thn (hl pins s1 σ H1 _ I1 q1) fun vl s2 ⟨l, H2, I2, pl, q2⟩ => thn (hu pins s2 σ H2 _ I2 q2) fun vu s3 ⟨u, H3, I3, pu, q3⟩ => ?_)
 rw [evalPart_none]
 refine wpAny_pure ?_
 have I4 : Inv X pins σ H3 { s3 with heap := s3.heap.push { cls := .type "slice", data := .fields #[vl, vu, .none] } } := I3.kept (t' := s3.toks) fun b ob q => Heap.get?_push_of_some _ q
 obtain ⟨T, id, hT, ht, hg⟩ := hr pins { s3 with heap := s3.heap.push { cls := .type "slice", data := .fields #[vl, vu, .none] } } σ H3 x v vl vu l u s3.heap.objs.size Q I4 r1 (Heap.IsSliceOf.new ..) pl pu q3
 show wpAny (model X.prog X.w) X.A (subscriptTail e (.Slice lo hi none p2) v (.ref s3.heap.objs.size)) (EP X pins σ Q) X.xe { s3 with heap := s3.heap.push { cls := .type "slice", data := .fields #[vl, vu, .none] } }
 exact tail_any (ops := [.ref s3.heap.objs.size, v]) ht hT hg (by with_unfolding_all rfl)
end
def ixN (n : Nat) (i : Int) : Option Nat := if 0 <= i then (if i < n then some i.toNat else none) else if -(n : Int) <= i then some (i + n).toNat else none
def atI {α : Type} (xs : List α) (i : Int) : Option α := (ixN xs.length i).bind fun j => xs[j]?
theorem xI {n : Nat} {i : Int} {j : Nat} (h : ixN n i = some j) : seqIndex? i n = some j /\ j < n /\ -(n : Int) <= i /\ i < n := by
 unfold ixN at h
 by_cases h0 : 0 <= i
 ·rw [if_pos h0] at h
  by_cases h1 : i < n
  ·rw [if_pos h1] at h
   have e : i.toNat = j := Option.some.inj h
   exact ⟨by rw [seqIndex_of h0 h1, e], by omega, by omega, h1⟩
  ·rw [if_neg h1] at h; cases h
 ·rw [if_neg h0] at h
  by_cases h1 : -(n : Int) <= i
  ·rw [if_pos h1] at h
   have e : (i + n).toNat = j := Option.some.inj h
   exact ⟨by rw [seqIndex_neg (by omega) h1, e], by omega, h1, by omega⟩
  ·rw [if_neg h1] at h; cases h
theorem rB {α : Type} {xs : List α} {i : Int} {v : α} (h : atI xs i = some v) : ∃ j, seqIndex? i xs.length = some j /\ xs[j]? = some v /\ j < xs.length /\ -(xs.length : Int) <= i /\ i < xs.length := by
 unfold atI at h
 cases e : ixN xs.length i with
 | none => rw [e] at h; cases h
 | some j =>
  rw [e] at h
  obtain ⟨h1, h2, h3, h4⟩ := xI e
  exact ⟨j, h1, h, h2, h3, h4⟩
theorem oJ {α : Type} {xs : List α} {j : Nat} {v : α} (h : xs[j]? = some v) : atI xs (j : Int) = some v := by
 have hj : j < xs.length := (List.getElem?_eq_some_iff.mp h).1
 have e : ixN xs.length (j : Int) = some j := by
  unfold ixN
  rw [if_pos (by omega), if_pos (by omega)]; simp
 unfold atI; rw [e]; exact h
def rY (b : Expr) : Prop := ∀ o i, subscripted b false o i = operate [o, i] (getItem o i)
def IxR (X : Cx) (r : R2) : Prop :=
 ∀ (value slice : Expr) (pins : List (Addr × Obj)) (s : Shared) (σ : St) (H : Hp) (x y : V) (v u : Value) (Q : VK), Inv X pins σ H s -> RelV x v -> RelV y u -> r x y H Q ->
  subscripted slice false v u = operate [v, u] (getItem v u) -> wpAny (model X.prog X.w) X.A (subscriptTail value slice v u) (EP X pins σ Q) X.xe s
def MtR (X : Cx) (id : String) (r : V -> List V -> Hp -> VK -> Prop) : Prop :=
 ∀ (pins : List (Addr × Obj)) (s : Shared) (σ : St) (H : Hp) (x : V) (xs : List V) (v : Value) (us : List Value) (Q : VK), Inv X pins σ H s -> RelV x v -> Vals xs us -> r x xs H Q ->
  wpAny (model X.prog X.w) X.A (call (.builtin id) (v :: us)) (EP X pins σ Q) X.xe s
section
variable {X : Cx} {a b : Expr} {ta tb : TE} {pos : Pos}
theorem IxR.or {r r' : R2} (h : IxR X r) (h' : IxR X r') : IxR X (fun x y H Q => r x y H Q \/ r' x y H Q) := by
 intro value slice pins s σ H x y v u Q I rx ry q hs
 rcases q with q | q
 ·exact h value slice pins s σ H x y v u Q I rx ry q hs
 ·exact h' value slice pins s σ H x y v u Q I rx ry q hs
theorem aEa {r : R2} (hr : IxR X r) (ha : PE X a ta) (hb : PE X b tb) (hs : rY b) : PE X (.Subscript a b pos) (tOp r ta tb) := by
 intro pins s σ H Q I h
 exact Subscript_ (aC3 ha hb I h fun v u s2 x y H2 I2 rx ry q => hr a b pins s2 σ H2 x y v u Q I2 rx ry q (hs _ _))
def aEx (K : PySem.W.Frag) : R2 := fun x y H Q => ∃ p xs i v, x = .ref p /\ y = .int i /\ SqL K H p xs /\ atI xs i = some v /\ Q v H
def aEw (K : PySem.W.Frag) : R2 := fun x y H Q => ∃ p xs i v, x = .ref p /\ y = .int i /\ SqT K H p xs /\ atI xs i = some v /\ Q v H
theorem ix_list : IxR X (aEx X.K) := by
 intro value slice pins s σ H x y v u Q I rx ry h hs
 obtain ⟨p, xs, i, z, rfl, rfl, hq, he, q⟩ := h
 cases rx
 obtain ⟨t, rfl⟩ := ry
 obtain ⟨its, r, pl, hz⟩ := I.list hq
 obtain ⟨j, h1, h2, h3, h4, h5⟩ := rB he
 obtain ⟨w, ew, rw'⟩ := r.get h2
 have hl := r.length
 have hn := pT
 have fin : EP X pins σ Q w s := ⟨z, H, I, rw', q⟩
 by_cases h0 : 0 <= i
 ·have hj : i.toNat = j := by
   rw [seqIndex_of h0 h5] at h1
   exact Option.some.inj h1
  exact item_listR pl.isList h0 (by omega) (by rw [hj]; simpa using ew) fin hs
 ·have hj : (i + (its.toArray.size : Int)).toNat = j := by
   rw [seqIndex_neg (by omega) h4] at h1
   rw [List.size_toArray, <- hl]
   exact Option.some.inj h1
  exact subscriptTail_builtinR (x := w) pl.isList.typeIs slot_list_getitem.lookup
   (wpAny_getItem_list_neg (Q := fun r s' => r = w /\ EP X pins σ Q r s') pl.isList (by omega) (by rw [List.size_toArray] <;> omega) (by omega) (by rw [hj]; simpa using ew) ⟨rfl, fin⟩) hs
theorem aCc : IxR X (aEw X.K) := by
 intro value slice pins s σ H x y v u Q I rx ry h hs
 obtain ⟨p, xs, i, z, rfl, rfl, hq, he, q⟩ := h
 cases rx
 obtain ⟨t, rfl⟩ := ry
 obtain ⟨its, r, pl, hz⟩ := I.tuple hq
 obtain ⟨j, h1, h2, h3, h4, h5⟩ := rB he
 obtain ⟨w, ew, rw'⟩ := r.get h2
 have hl := r.length
 have hn := pT
 have fin : EP X pins σ Q w s := ⟨z, H, I, rw', q⟩
 exact subscriptTail_builtinR (x := w) pl.typeIs slot_tuple_getitem.lookup
  (getItem_tuple (j := j) (Q := fun r s' => r = w /\ EP X pins σ Q r s') pl (by omega) (by omega) (by rw [List.size_toArray, <- hl]; exact h1) (by simpa using ew) ⟨rfl, fin⟩) hs
def j8 : V -> Bool
 | .non => true
 | .bl _ => true
 | .int _ => true
 | .str _ => true
 | _ => false
def eqV : V -> V -> Bool
 | .non, .non => true
 | .bl a, .bl b => a == b
 | .bl a, .int b => (if a then 1 else 0) == b
 | .int a, .bl b => a == (if b then 1 else 0)
 | .int a, .int b => a == b
 | .str a, .str b => a == b
 | _, _ => false
theorem aAu {A : Around} {s : Shared} {y x : V} {u v : Value} (ry : RelV y u) (rx : RelV x v) (fy : j8 y = true) (fx : j8 x = true) : SeqAt.EqAt A s u v (eqV y x) := by
 cases y with
 | non =>
  cases ry
  cases x with
  | non => cases rx; exact SeqAt.EqAt.same _
  | bl b => cases rx; exact SeqAt.EqAt.none_bool b
  | int b => obtain ⟨t, rfl⟩ := rx; exact SeqAt.EqAt.none_int b t
  | str b => obtain ⟨t, rfl⟩ := rx; exact SeqAt.EqAt.none_str b t
  | _ => exact absurd (show false = true from fx) Bool.false_ne_true
 | bl a =>
  cases ry
  cases x with
  | non => cases rx; exact SeqAt.EqAt.bool_none a
  | bl b => cases rx; exact SeqAt.EqAt.bool_bool a b
  | int b => obtain ⟨t, rfl⟩ := rx; exact SeqAt.EqAt.bool_int a b t
  | str b => obtain ⟨t, rfl⟩ := rx; exact SeqAt.EqAt.bool_str a b t
  | _ => exact absurd (show false = true from fx) Bool.false_ne_true
 | int a =>
  obtain ⟨t', rfl⟩ := ry
  cases x with
  | non => cases rx; exact SeqAt.EqAt.int_none a t'
  | bl b => cases rx; exact SeqAt.EqAt.int_bool a t' b
  | int b => obtain ⟨t, rfl⟩ := rx; exact SeqAt.EqAt.int_int a t' b t
  | str b => obtain ⟨t, rfl⟩ := rx; exact SeqAt.EqAt.int_str a t' b t
  | _ => exact absurd (show false = true from fx) Bool.false_ne_true
 | str a =>
  obtain ⟨t', rfl⟩ := ry
  cases x with
  | non => cases rx; exact SeqAt.EqAt.str_none a t'
  | bl b => cases rx; exact SeqAt.EqAt.str_bool a t' b
  | int b => obtain ⟨t, rfl⟩ := rx; exact SeqAt.EqAt.str_int a t' b t
  | str b => obtain ⟨t, rfl⟩ := rx; exact SeqAt.EqAt.str_str a t' b t
  | _ => exact absurd (show false = true from fx) Bool.false_ne_true
 | _ => exact absurd (show false = true from fy) Bool.false_ne_true
def eqU (x : V) (u : Value) : Bool := match u with
 | .none => eqV .non x
 | .bool b => eqV (.bl b) x
 | .int i _ => eqV (.int i) x
 | .str z _ => eqV (.str z) x
 | _ => false
theorem w4 {x y : V} {u : Value} (r : RelV y u) (f : j8 y = true) : eqU x u = eqV y x := by
 cases y with
 | non => cases r; rfl
 | bl b => cases r; rfl
 | int i => obtain ⟨t, rfl⟩ := r; rfl
 | str z => obtain ⟨t, rfl⟩ := r; rfl
 | _ => exact absurd (show false = true from f) Bool.false_ne_true
theorem kI {x : V} : ∀ {xs : List V} {us : List Value}, Vals xs us -> xs.all j8 = true -> us.any (eqU x) = xs.any fun y => eqV y x
 | _, _, .nil, _ => rfl
 | y :: xs, u :: us, .cons r t, f => by
  rw [List.all_cons, Bool.and_eq_true] at f
  rw [List.any_cons, List.any_cons, w4 r f.1, kI t f.2]
theorem iR {A : Around} {s : Shared} {x : V} {v : Value} (rx : RelV x v) (fx : j8 x = true) : ∀ {xs : List V} {us : List Value}, Vals xs us -> xs.all j8 = true -> ∀ u ∈ us, SeqAt.EqAt A s u v (eqU x u)
 | _, _, .nil, _ => fun u hu => by cases hu
 | y :: xs, u :: us, .cons r t, f => fun u' hu => by
  rw [List.all_cons, Bool.and_eq_true] at f
  rcases List.mem_cons.mp hu with rfl | hu
  ·rw [w4 r f.1]; exact aAu r rx f.1 fx
  ·exact iR rx fx t f.2 u' hu
def inV (x : V) (xs : List V) : Bool := xs.any fun y => eqV y x
def rIn (K : PySem.W.Frag) (neg : Bool) : R2 := fun x y H Q => ∃ p xs, y = .ref p /\ (SqL K H p xs \/ SqT K H p xs) /\ j8 x = true /\ xs.all j8 = true /\ Q (.bl (if neg then !inV x xs else inV x xs)) H
theorem rV : OpR X (compareOp .In) (rIn X.K false) := by
 intro pins s σ H x y v u Q I rx ry h
 obtain ⟨p, xs, rfl, hq, fx, fs, q⟩ := h
 cases ry
 rcases hq with hq | hq
 ·obtain ⟨its, r, pl, hz⟩ := I.list hq
  refine SeqAt.in_listAt (eqU x) pl.isList (fun w hw => iR rx fx r fs w (by simpa using hw)) ⟨.bl _, H, I, rfl, ?_⟩
  rw [show its.toArray.any (eqU x) = its.any (eqU x) by simp, kI r fs]
  exact q
 ·obtain ⟨its, r, pl, hz⟩ := I.tuple hq
  refine SeqAt.in_tupleAt (eqU x) pl (fun w hw => iR rx fx r fs w (by simpa using hw)) ⟨.bl _, H, I, rfl, ?_⟩
  rw [show its.toArray.any (eqU x) = its.any (eqU x) by simp, kI r fs]
  exact q
theorem mH : OpR X (compareOp .NotIn) (rIn X.K true) := by
 intro pins s σ H x y v u Q I rx ry h
 obtain ⟨p, xs, rfl, hq, fx, fs, q⟩ := h
 cases ry
 rcases hq with hq | hq
 ·obtain ⟨its, r, pl, hz⟩ := I.list hq
  refine SeqAt.notIn_listAt (eqU x) pl.isList (fun w hw => iR rx fx r fs w (by simpa using hw)) ⟨.bl _, H, I, rfl, ?_⟩
  rw [show its.toArray.any (eqU x) = its.any (eqU x) by simp, kI r fs]
  exact q
 ·obtain ⟨its, r, pl, hz⟩ := I.tuple hq
  refine SeqAt.notIn_tupleAt (eqU x) pl (fun w hw => iR rx fx r fs w (by simpa using hw)) ⟨.bl _, H, I, rfl, ?_⟩
  rw [show its.toArray.any (eqU x) = its.any (eqU x) by simp, kI r fs]
  exact q
theorem cJ : CallR X (.builtin "len") (fun xs H Q => ∃ p ys, xs = [.ref p] /\ (SqL X.K H p ys \/ SqT X.K H p ys) /\ Q (.int ys.length) H) := by
 intro pins s σ H xs us Q I r h
 obtain ⟨p, ys, rfl, hq, q⟩ := h
 obtain ⟨u, rfl, rx⟩ := vals1 r
 cases rx
 have hn := pT
 rcases hq with hq | hq
 ·obtain ⟨its, r', pl, hz⟩ := I.list hq
  have hlen := r'.length
  exact Calls.call_len_list pl.isList (by simp only [List.size_toArray] <;> omega) ⟨.int ys.length, H, I.tok _, ⟨s.toks + 1, by rw [List.size_toArray, hlen]⟩, q⟩
 ·obtain ⟨its, r', pl, hz⟩ := I.tuple hq
  have hlen := r'.length
  exact len_tuple pl (by simp only [List.size_toArray] <;> omega) ⟨.int ys.length, H, I.tok _, ⟨s.toks + 1, by rw [List.size_toArray, hlen]⟩, q⟩
theorem dP : CallR X (.builtin "len") (fun xs H Q => ∃ z, xs = [.str z] /\ z.length <= sizeLine /\ Q (.int z.length) H) := by
 intro pins s σ H xs us Q I r h
 obtain ⟨z, rfl, hz, q⟩ := h
 obtain ⟨u, rfl, t, rfl⟩ := vals1 r
 have hn := pT
 exact len_str (by omega) ⟨.int z.length, H, I.tok _, ⟨_, rfl⟩, q⟩
theorem CallR.or {f : Value} {r r' : List V -> Hp -> VK -> Prop} (h : CallR X f r) (h' : CallR X f r') : CallR X f (fun xs H Q => r xs H Q \/ r' xs H Q) := by
 intro pins s σ H xs us Q I rs q
 rcases q with q | q
 ·exact h pins s σ H xs us Q I rs q
 ·exact h' pins s σ H xs us Q I rs q
def tyV (K : PySem.W.Frag) (T : String) (x : V) (H : Hp) : Prop := match x with
 | .str _ => T = "str"
 | .int _ => T = "int"
 | .ref p => (T = "list" /\ ∃ xs, SqL K H p xs) \/ (T = "tuple" /\ ∃ o, K.lookup p = some o /\ o.cls = .type "tuple" /\ o.dict = none) \/
   (T = "dict" /\ ((∃ kvs, H p = some (.dK kvs)) \/ ∃ kvs, H p = some (.dT kvs))) \/ (T = "set" /\ ∃ S n, H p = some (.set S n))
 | _ => False
theorem aB9 {pins : List (Addr × Obj)} {σ : St} {H : Hp} {s : Shared} {T : String} {x : V} {v : Value} (I : Inv X pins σ H s) (r : RelV x v) (ty : tyV X.K T x H) :
  s.TypeIs v T /\ ∀ a, v = .ref a -> ∃ ob, s.heap.get? a = some ob /\ ob.dict = none := by
 cases x with
 | str z =>
  obtain ⟨t, rfl⟩ := r
  cases (show T = "str" from ty)
  exact ⟨typeIs_str s z t, fun _ e => nomatch e⟩
 | int i =>
  obtain ⟨t, rfl⟩ := r
  cases (show T = "int" from ty)
  exact ⟨typeIs_int s i t, fun _ e => nomatch e⟩
 | ref p =>
  cases r
  rcases ty with ⟨rfl, xs, hq⟩ | ⟨rfl, o, hk, hc, hd⟩ | ⟨rfl, hk⟩ | ⟨rfl, S, n, hk⟩
  ·obtain ⟨its, _, pl, _⟩ := I.list hq
   refine ⟨pl.isList.typeIs, fun a e => ?_⟩
   cases e
   obtain ⟨o, n, e, c, hd, _⟩ := pl
   exact ⟨o, e, hd⟩
  ·refine ⟨⟨o, I.kIn p o hk, hc⟩, fun a e => ?_⟩
   cases e
   exact ⟨o, I.kIn _ o hk, hd⟩
  ·have z : ∃ o, s.heap.get? p = some o /\ o.ExactDict := by
    rcases hk with ⟨kvs, hk⟩ | ⟨kvs, hk⟩
    ·obtain ⟨_, _, _, _, o, _, _, e, ex, _⟩ := I.hok p _ hk
     exact ⟨o, e, ex⟩
    ·obtain ⟨_, _, _, _, o, _, _, e, ex, _⟩ := I.hok p _ hk
     exact ⟨o, e, ex⟩
   obtain ⟨o, e, ex⟩ := z
   refine ⟨⟨o, e, ex.1⟩, fun a e2 => ?_⟩
   cases e2
   exact ⟨o, e, ex.2.1⟩
  ·obtain ⟨o, _, _, _, e, ex, _⟩ := I.hok p _ hk
   refine ⟨⟨o, e, ex.1⟩, fun a e2 => ?_⟩
   cases e2
   exact ⟨o, e, ex.2.1⟩
 | _ => exact False.elim ty
def tBM (K : PySem.W.Frag) (T : String) (r : V -> List V -> Hp -> VK -> Prop) (to : TE) (t : TA) : TE := fun σ H Q => to σ H fun x H1 => tyV K T x H1 /\ t σ H1 fun xs H2 => r x xs H2 Q
variable {o e : Expr} {es : List Expr} {to : TE} {t : TA} {name : Str} {apos cpos : Pos} {T id : String} {r : V -> List V -> Hp -> VK -> Prop}
theorem aB2 (pa : PlainAttrs T) (slot : Slot T name id) (hty : typeOf (.builtin id) = pure (.type "method_descriptor")) (hm : MtR X id r) (ho : PE X o to) (ha : PA X (e :: es) t)
  (hbase : attributeBase o name X.env (eval o X.env) = eval o X.env := by rfl)
  (hfew : ((backTo cpos (starEach (e :: es) X.env)).all (fun x => !x.1) && (backToKw cpos (keywordEach [] X.env)).all (fun x => x.1.isSome)
   && decide ((e :: es).length + ([] : List Keyword).length + (if ([] : List Keyword).isEmpty then 0 else 1) < 30)) = true := by rfl)
  (hline : (apos.endLine == cpos.line) = true := by rfl) (hs : starEach (e :: es) X.env = (false, eval e X.env) :: starEach es X.env := by rfl) (hplain : (backTo cpos (starEach es X.env)).any (·.1) = false := by rfl) :
  PE X (.Call (.Attribute o name apos) (e :: es) [] cpos) (tBM X.K T r to t) := by
 intro pins s σ H Q I h
 refine wpAny_Call_method_late hbase hfew hline rfl (thn (ho pins s σ H _ I h) fun v s1 ⟨x, H1, I1, r1, ty, q1⟩ => ?_)
 obtain ⟨h1, h2⟩ := aB9 I1 r1 ty
 refine ⟨T, id, pa, slot, hty, h1, h2, ?_⟩
 have hA := ha cpos pins s1 σ H1 _ I1 q1
 rw [hs] at hA ⊢
 refine Calls.callWith_builtin (by show (false || (backTo cpos (starEach es X.env)).any (·.1)) = false; rw [hplain] <;> rfl) (Calls.evalArgs_plain ?_)
 exact thn hA fun us s2 ⟨vs, H2, I2, r2, q2⟩ => hm pins s2 σ H2 x vs v us Q I2 r1 r2 q2
end
def MtM (X : Cx) (id : String) (r : V -> List V -> Hp -> VK -> Prop) : Prop :=
 ∀ (pins : List (Addr × Obj)) (s : Shared) (σ : St) (H : Hp) (x : V) (xs : List V) (v : Value) (us : List Value) (Q : VK), Inv X pins σ H s -> RelV x v -> Vals xs us -> r x xs H Q ->
  wpAny (model X.prog X.w) X.A (call (.builtin id) (v :: us)) (EP X pins σ Q) X.xe s
theorem Vals.one : ∀ {x : V} {us : List Value}, Vals [x] us -> ∃ u, us = [u] /\ RelV x u
 | _, _, .cons r .nil => ⟨_, rfl, r⟩
section
variable {X : Cx} {pins : List (Addr × Obj)} {σ : St} {H : Hp} {s : Shared} {l b : Addr} {xs ys zs : List V}
theorem Inv.lset {its its' : List Value} {n : Nat} {f : Array Value -> Array Value} {t' : Nat} (I : Inv X pins σ H s) (hH : H l = some (.lst xs))
  (e : s.heap.get? l = some { cls := .type "list", data := .seq its.toArray n }) (hf : f its.toArray = its'.toArray) (hv : Vals ys its') (hz : ys.length <= sizeLine) :
  Inv X pins σ (upd H l (.lst ys)) { s with heap := s.heap.update l (Obj.mapSeq f), toks := t' } := by
 have q := PySem.IsL.update e f
 rw [hf] at q
 refine I.write (x := l) (e := l) (by rw [hH]; exact trivial) (.inl rfl) (fun b' u hb hu => (Heap.get?_update_other s.heap (Obj.mapSeq f) (Ne.symm hb)).trans hu) ⟨_, q⟩ ?_
 exact ⟨hz, its', _, hv, q⟩
theorem Inv.lnew {its : List Value} {t' : Nat} (I : Inv X pins σ H s) (hv : Vals ys its) (hz : ys.length <= sizeLine) :
  Inv X pins σ (upd H s.heap.objs.size (.lst ys)) { s with heap := s.heap.push { cls := .type "list", data := .seq its.toArray }, toks := t' } :=
 I.laid (fun _ _ q => Heap.get?_push_of_some _ q) (Nat.le_refl _) ⟨hz, its, 0, hv, Heap.get?_push_size _ rfl⟩
theorem Inv.fresh (I : Inv X pins σ H s) : H s.heap.objs.size = none := I.hok.fresh (Nat.le_refl _)
theorem Inv.lstM (I : Inv X pins σ H s) (hH : H l = some (.lst xs)) : xs.length <= sizeLine /\ ∃ (its : List Value) (n : Nat), Vals xs its /\ xs.length = its.length /\ s.heap.get? l = some { cls := .type "list", data := .seq its.toArray n } := by
 obtain ⟨z, its, n, r, e⟩ := I.hok l _ hH
 exact ⟨z, its, n, r, r.length, e⟩
end
section
variable {X : Cx}
def q0 : V -> List V -> Hp -> VK -> Prop := fun x vs H Q => ∃ l xs y, x = .ref l /\ vs = [y] /\ H l = some (.lst xs) /\ xs.length < sizeLine /\ Q .non (upd H l (.lst (xs ++ [y])))
theorem qQ : MtM X "list.append" q0 := by
 intro pins s σ H x vs v us Q I rx rv h
 obtain ⟨l, xs, y, rfl, rfl, hH, hz, q⟩ := h
 cases rx
 obtain ⟨u, rfl, ru⟩ := rv.one
 obtain ⟨z, its, n, r, hl, e⟩ := I.lstM hH
 refine call_meets F.slot_list_append ⟨_, e, rfl⟩ F.entry_list_append (F.args_list_append_2 _ _) (PySem.list_append l its.toArray n u (by rw [List.size_toArray]; omega)) ⟨e, ?_⟩
 refine ⟨.non, _, I.lset (its' := its ++ [u]) hH e (by simp) (r.append (.cons ru .nil)) ?_, rfl, q⟩
 rw [List.length_append, List.length_singleton]
 omega
end
section
variable {prog : Program} {w : World} {A : Around} {E : Value -> Shared -> Prop} {s : Shared}
set_option maxRecDepth 100000 in
end
section
variable {X : Cx}
end
section
variable {κ : Type} [DecidableEq κ]
end
section
variable {P : Program} {w : World} {H : Hp} {h : Heap} {a : Addr}
end
section
variable {X : Cx} {pins : List (Addr × Obj)} {σ : St} {H : Hp} {s : Shared} {a : Addr} {y v : V} {u r : Value} {o : Option V} {A : Around} {E : Value -> Shared -> Prop}
theorem Inv.big (I : Inv X pins σ H s) : sysModules < s.heap.objs.size := by
 have h : mainGlobals < s.heap.objs.size := (I.mod.glob.keeps I.bk).lt
 exact Nat.lt_trans (by decide) h
end
section
variable {X : Cx} {pins : List (Addr × Obj)} {σ : St} {H : Hp} {s : Shared} {a : Addr} {kvs : List (Key × V)} {k : Key} {u : Value} {A : Around} {E : Value -> Shared -> Prop}
end
section
variable {X : Cx} {o i e value : Expr} {pos pos' tpos : Pos} {td ty tv : TE}
end
theorem uO {P : Program} {w : World} {H : Hp} (h : Heap) (hb : sysModules < h.objs.size) : ObjOk P w H (h.push { cls := .type "dict", data := .dict #[] }) h.objs.size (.dT []) :=
 ⟨Nat.zero_le _, beq_eq_false_iff_ne.mpr (Ne.symm (Nat.ne_of_lt hb)), [], .nil, _, #[], 0, Heap.get?_push_size _ rfl, ⟨rfl, rfl, rfl⟩, rfl, rfl, List.nodup_nil⟩
def zU : TE := fun _ H Q => ∀ p, H p = none -> Q (.ref p) (upd H p (.dT []))
section
variable {X : Cx} {pos : Pos}
theorem u7 : PE X (.Dict [] [] pos) zU := fun pins s σ H Q I h =>
 wpAny_Dict_empty ⟨.ref s.heap.objs.size, _, I.laid (a := s.heap.objs.size) (o := .dT []) (t' := s.toks) (fun _ _ q => Heap.get?_push_of_some _ q) (Nat.le_refl _) (uO s.heap I.big), rfl, h _ (I.hok.fresh (Nat.le_refl _))⟩
end
section
variable {X : Cx} {pins : List (Addr × Obj)} {σ : St} {H : Hp} {s : Shared} {a : Addr} {y d : V} {u r : Value} {o : Option V} {A : Around} {E : Value -> Shared -> Prop}
end
section
variable {X : Cx} {o e f : Expr} {apos cpos : Pos} {td ty tx : TE}
end
section
variable {X : Cx} {pins : List (Addr × Obj)} {σ : St} {H : Hp} {s : Shared} {a : Addr} {kvs : List (Key × V)} {A : Around} {E : Value -> Shared -> Prop}
end
section
variable {X : Cx} {pins : List (Addr × Obj)} {σ : St} {H : Hp} {s : Shared} {a : Addr} {y : V} {u : Value} {A : Around} {E : Value -> Shared -> Prop}
end
end L2
namespace Att
open PySem PySem.W PySem.Calls PyProof.Rows
theorem kU {P : Params} {h : Heap} : ∀ (ns : List Int) (vs : List Value), WellAll P h vs (ns.map WData.int) -> IntsAre vs ns := by
 intro ns
 induction ns with
 | nil =>
  intro vs w
  rw [List.map_nil] at w
  cases w
  exact .nil
 | cons n ns ih =>
  intro vs w
  rw [List.map_cons] at w
  cases w with
  | cons a b =>
   cases a
   exact .cons _ _ (ih _ b)
theorem q9 {l : OpenLaw} {n : Nat} (hn : l.most = some n) {P : Params} {h : Heap} {args : List WData} {vals : List Value}
  (zI : l.row.toRowW.claim.pre args = true) (hwl : WellAll P h vals args) :
  ∃ a vs ns, vals = [Value.ref a] /\ args = [WData.list (ns.map WData.int)] /\ h.get? a = some { cls := .type "list", data := .seq vs.toArray } /\ IntsAre vs ns /\ ns.length <= n := by
 have hsh : WShape.hasAll [] args [.list .int] = true := (pre_splitW zI).1
 have hc : l.pre.holds [] { args := args } = true := (pre_splitW zI).2
 obtain ⟨d, r, rfl, h1, h2⟩ := hasAllW_cons hsh
 obtain rfl := hasAllW_nil h2
 obtain ⟨xs, rfl, h3⟩ := hasW_list h1
 obtain ⟨ns, rfl⟩ := items_int h3
 have hlen : ns.length <= n := by
  unfold OpenLaw.pre at hc
  have h4 : (WTm.not (.lt (.lit (.int (n : Int))) (.len (.arg 0)))).holds [] { args := [.list (ns.map .int)] } = true := by
   have h4 := (holds_andW hc).1
   rw [hn] at h4
   exact h4
  have h5 := condW_of h4 (w_not (w_lt w_lit (w_len_list (w_arg rfl))))
  rw [List.length_map] at h5
  refine Nat.le_of_not_lt fun q => ?_
  have q' : (n : Int) < ((ns.length : Nat) : Int) := by omega
  first
   | (rw [decide_eq_true q'] at h5; exact absurd h5 (by decide))
   | (simp at h5; omega)
 cases hwl with
 | cons w1 w2 =>
  cases w2
  cases w1 with
  | list ho hall => exact ⟨_, _, ns, rfl, rfl, ho, kU ns _ hall, hlen⟩
theorem rG (l : OpenLaw) (args : List WData) : l.row.toRowW.claim.post args (.bool true) args = true :=
 postW_of (r := l.row.toRowW) (X := (true == true))
  (show WShape.has [] (.bool true) .bool = true by first | rfl | decide | simp [WShape.has, WShape.arms, WShape.armsAll])
  (show (WTm.eq .res (.lit (.bool true))).value [] { args := args, res := some (.bool true), after := args } = some (.bool (true == true)) from w_eq_bool (w_res rfl) w_lit) rfl
theorem nZ {l : OpenLaw} {n : Nat} {q : Program} {loose : List Str} {XP : (Str -> Option Value) -> Heap -> Prop} {YP : World -> Heap -> Prop} {d : DefRec}
  (hn : l.most = some n) (hdf : d.params.defaults = [])
  (call : ∀ (w : World) (s₀ s₁ : Shared) (mg mb : Str -> Option Value) (fa : Addr) (o : Obj) (pm cd doc : Value) (a : Addr) (vs : List Value) (ns : List Int),
   Ground q loose [] XP w s₀ mg mb s₁.heap -> YP w s₁.heap ->
   s₁.heap.get? fa = some o -> o.data = .func (docDef d.name d.params d.body d.scope pm cd doc) -> s₁.heap.CodeRec cd d.name -> mg d.name = some (.ref fa) ->
   s₁.heap.get? a = some { cls := .type "list", data := .seq vs.toArray } -> IntsAre vs ns -> ns.length <= n -> s₁.gens = #[] ->
   codeAny (model l.prog w) callerA (.call (.ref fa) ⟨[.ref a], []⟩) (fun r s' => r = .ok (.ret (.bool true)) /\ OldK s₁.heap s'.heap /\ s'.os = s₁.os /\ AllBare s'.gens) s₁) :
  WalkO q loose XP YP l.row.toRowW d [] (fun f vs => PySem.call f vs) := by
 intro w s₀ s₁ mg mb G Y fa o pm cd doc dV kV ho hd hcd hD hmg hg args vals as zI hlay hrd hwl hlo
 obtain rfl : dV = .none := Dflts.none hD hdf
 obtain rfl : kV = .none := Dflts.noKw hD
 obtain ⟨a, vs, ns, rfl, rfl, hobj, hints, hlen⟩ := q9 hn zI hwl
 refine enter_call (codeAny_mono (call w s₀ s₁ mg mb fa o pm cd doc a vs ns G Y ho (fd_plain hd) hcd hmg hobj hints hlen hg) fun r s' hq => ?_)
 obtain ⟨rfl, h2, h3, h4⟩ := hq
 exact ⟨.inl ⟨.bool true, .bool true, [], rfl, fun _ => rfl, .bool true, rG l _, fun _ => ⟨List.Pairwise.nil, fun _ hm => (nomatch hm)⟩⟩, h2, h3, h4⟩
section
variable {prog : Program} {w : World} {A : Around} {E : Value -> Shared -> Prop} {s : Shared} {K : Frag}
end
end Att
namespace L2
open PySem PySem.Spec PyProof.Rows
theorem mY : ∀ {vs : List Value} {ns : List Int}, IntsAre vs ns -> Vals (ns.map V.int) vs
 | _, _, .nil => .nil
 | _, _, .cons n t h => .cons ⟨t, rfl⟩ (mY h)
def aDy (H : Hp) : Prop := ∀ b, H b = none \/ (∃ o xs, H b = some (.frz o (.lst xs))) \/ ∃ ps, H b = some (.tbl ps)
theorem u2 {P : Program} {w : World} {K : PySem.W.Frag} {mg mb : Str -> Option Value} {CX : CXT} {k : Nat} {fa a : Addr} {fd : FuncData} {x : Str} {sp : Sp} {s₁ : Shared} {vs : List Value} {ns : List Int} {ts : List Addr}
  (hT : xV K ts = true) (hT2 : ∀ P ∈ ts, s₁.heap.get? P = some (PySem.W.tabObj #[])) (hbm : ∃ bm ob, mg "__builtins__" = some (.ref bm) /\ bm ≠ builtinsNs /\ s₁.heap.get? bm = some ob /\ ob.cls = .type "module" /\ ob.dict = some builtinsNs /\ ob.data = .plain)
  (KX : K.In s₁.heap) (hns : s₁.heap.Ns mainGlobals mg) (hb : s₁.heap.Ns builtinsNs mb) (hbb : ∀ x : Str, x ≠ "__name__" -> mb x = bootBuiltins x) (hlim : s₁.heap.NoLimit) (hg : s₁.gens = #[])
  (ha : s₁.heap.get? a = some { cls := .type "list", data := .seq vs.toArray }) (hi : IntsAre vs ns) (hl : ns.length <= sizeLine) (hr : Room k callerA)
  (F : ∀ base : Heap, K.In base -> base.Ns mainGlobals mg -> FnOk P w K mg base CX k fa fd [x] sp) (hbind : ∀ (s : Shared) (u : Value), BindsTo s fd ⟨[u], []⟩ [(x, u)])
  (hsp : ∀ H : Hp, aDy H -> SqL K H a (ns.map V.int) -> sp [.ref a] H (fun v _ => v = .bl true) fun _ _ _ => False)
  (hCX : ∀ H e s', CX [] H s₁ (fun _ _ _ => False) e s' -> False) :
  codeAny (model P w) callerA (.call (.ref fa) ⟨[.ref a], []⟩) (fun r s' => r = .ok (.ret (.bool true)) /\ OldK s₁.heap s'.heap /\ s'.os = s₁.os /\ AllBare s'.gens) s₁ := by
 have rv := mY hi
 have lenV := hi.length
 have tk : ∀ p ∈ tbs K, PySem.W.CodeHd s₁.heap p.1 p.2.1 /\ K.lookup p.2.1 = none /\ s₁.heap.get? p.2.1 = some (PySem.W.tabObj #[]) /\ ∀ q ∈ tbs K, p.2.1 = q.2.1 -> p.2.2 = q.2.2 := fun p hp => by
  have z := List.all_eq_true.mp hT p hp
  simp only [Bool.and_eq_true] at z
  obtain ⟨⟨⟨z1, z2⟩, z3⟩, z4⟩ := z
  refine ⟨PySem.W.codeHd_of_K KX z1, by simpa using z2, hT2 _ (by simpa using z3), fun q hq e => ?_⟩
  have y := List.all_eq_true.mp z4 q hq
  rw [Bool.or_eq_true] at y
  rcases y with y | y
  ·rw [e] at y; simp at y
  ·exact beq_iff_eq.mp y
 have aP : ∀ p ∈ tbs K, a ≠ p.2.1 := fun p hp z => by
  have e := (tk p hp).2.2.1
  rw [<- z, ha] at e
  cases e
 have core : ∀ H : Hp, aDy H -> SqL K H a (ns.map V.int) -> HOk P w H s₁.heap -> (∀ b, H b ≠ none -> b = a \/ ∃ p ∈ tbs K, b = p.2.1) -> (H a ≠ none -> K.lookup a = none) -> Tbs K H ->
   codeAny (model P w) callerA (.call (.ref fa) ⟨[.ref a], []⟩) (fun r s' => r = .ok (.ret (.bool true)) /\ OldK s₁.heap s'.heap /\ s'.os = s₁.os /\ AllBare s'.gens) s₁ := by
  intro H hO hS hok hA hK hTb
  have base_of : ∀ {b : Addr} {o : Obj}, s₁.heap.get? b = some o -> H b = none -> (vH s₁.heap H).get? b = some o := fun e n => u9 e n
  have noT : ∀ {b : Addr} {o : Obj}, s₁.heap.get? b = some o -> o ≠ { cls := .type "list", data := .seq vs.toArray } -> o ≠ PySem.W.tabObj #[] -> H b = none := fun {b o} e d1 d2 => by
   cases q : H b with
   | none => rfl
   | some u =>
    rcases hA b (by rw [q]; simp) with e' | ⟨p, hp, e'⟩
    ·subst e'
     rw [ha] at e; cases e
     exact absurd rfl d1
    ·subst e'
     rw [(tk p hp).2.2.1] at e; cases e
     exact absurd rfl d2
  have noA : ∀ {b : Addr} {o : Obj} {es : Array DictEntry} {ep : Nat}, s₁.heap.get? b = some o -> o.data = .dict es ep -> H b = none := fun {b o es ep} e d =>
   noT e (fun z => by subst z; cases d) fun z => by subst z; cases d
  have nsK : ∀ {b : Addr} {m : Str -> Option Value}, s₁.heap.Ns b m -> (vH s₁.heap H).Ns b m := fun {b m} ⟨o, es, ep, e, d, r⟩ => ⟨o, es, ep, base_of e (noA e d), d, r⟩
  have hKb : K.In (vH s₁.heap H) := fun b o e => base_of (KX b o e) (by
   cases q : H b with
   | none => rfl
   | some u =>
    rcases hA b (by rw [q]; simp) with e' | ⟨p, hp, e'⟩
    ·subst e'
     rw [hK (by rw [q]; simp)] at e; cases e
    ·subst e'
     rw [(tk p hp).2.1] at e; cases e)
  have hM : Mod K mg (vH s₁.heap H) := ⟨hKb, nsK hns, ⟨mb, nsK hb, hbb⟩, (let ⟨mc, h1, h2⟩ := hlim; ⟨mc, nsK h1, h2⟩), (let ⟨bm, ob, b1, b2, b3, b4, b5⟩ := hbm; ⟨bm, ob, b1, b2, base_of b3 (noT b3 (fun z => by subst z; simp at b4) fun z => by subst z; simp at b4), b4, b5⟩)⟩
  have e0 : zJ P w K mg (vH s₁.heap H) callerA [] s₁ H := ⟨rfl, hM, fun b o e => zE e, Nat.le_of_eq (tW _ _), trivial, fun b hb => absurd (show b ∈ ([] : List Addr) from hb) (by simp), hok, .of_eq hg, hTb⟩
  refine codeAny_mono ((F _ hKb (nsK hns)).run callerA [] s₁ H ⟨[.ref a], []⟩ [.ref a] [.ref a] _ _ hr e0 (hbind s₁ (.ref a)) (.cons rfl .nil) (hsp H hO hS)) fun r s' h => ?_
  cases r with
  | error e => exact (hCX H e s' h).elim
  | ok fl =>
   cases fl with
   | next => exact False.elim h
   | brk => exact False.elim h
   | cont => exact False.elim h
   | ret u =>
    obtain ⟨v, H', os, bare, un, hok', r', q⟩ := h
    have q' : v = .bl true := q
    subst q'
    obtain rfl : u = Value.bool true := r'
    have old : ∀ b o, s₁.heap.get? b = some o -> s'.heap.get? b = some o \/ ∃ p ∈ tbs K, ∃ qs, b = p.2.1 /\ o = PySem.W.tabObj #[] /\ s'.heap.get? b = some (PySem.W.tabObj qs) := fun b o e => by
     cases q : H b with
     | none => exact .inl (un.keep b o e q (by intro z; exact absurd (show b ∈ ([] : List Addr) from z) (by simp)) (by simp))
     | some u =>
      rcases hO b with z | ⟨ob, xs, z⟩ | ⟨ps, z⟩
      ·rw [q] at z; cases z
      ·have z2 := un.frzs b ob _ z
       obtain ⟨e1, _⟩ := hok b _ z
       obtain ⟨e2, _⟩ := hok' b _ z2
       rw [e] at e1; cases e1
       exact .inl e2
      ·obtain ⟨more, z2⟩ := un.tbls b ps z
       obtain ⟨qs, e2, _⟩ := hok' b _ z2
       rcases hA b (by rw [z]; simp) with e' | ⟨p, hp, e'⟩
       ·subst e'
        obtain ⟨qs0, e3, _⟩ := hok b _ z
        rw [ha] at e3; cases e3
       ·subst e'
        rw [(tk p hp).2.2.1] at e; cases e
        exact .inr ⟨p, hp, qs, rfl, rfl, e2⟩
    refine ⟨rfl, ⟨fun b o e => ?_, fun b o e => ?_⟩, os, bare⟩
    ·rcases old b o e with z | ⟨p, hp, qs, rfl, rfl, z⟩
     ·exact .inl z
     ·exact .inr (.inl ⟨((tk p hp).1.tab (tk p hp).2.2.1).isCodeTable, rfl, #[], qs, rfl, by rw [z]; simp⟩)
    ·rcases old b o e with z | ⟨p, hp, qs, rfl, rfl, z⟩
     ·exact ⟨_, z⟩
     ·exact ⟨_, z⟩
 have tab : ∀ {b : Addr} {u : HO}, ((tbs K).find? (fun p => p.2.1 == b)).map (fun p => HO.tbl #[.str p.2.2 0]) = some u -> ∃ p ∈ tbs K, b = p.2.1 /\ u = .tbl #[.str p.2.2 0] := fun {b u} e => by
  obtain ⟨p, e1, e2⟩ := Option.map_eq_some_iff.mp e
  have := List.find?_some e1
  exact ⟨p, List.mem_of_find?_eq_some e1, (beq_iff_eq.mp this).symm, e2.symm⟩
 have tabTb : ∀ p ∈ tbs K, ((tbs K).find? (fun q => q.2.1 == p.2.1)).map (fun p => HO.tbl #[.str p.2.2 0]) = some (.tbl (#[.str p.2.2 0] ++ #[])) := fun p hp => by
  cases e : (tbs K).find? (fun q => q.2.1 == p.2.1) with
  | none => exact absurd (List.find?_eq_none.mp e p hp) (by simp)
  | some q =>
   have e1 := List.find?_some e
   have e2 := (tk p hp).2.2.2 q (List.mem_of_find?_eq_some e) (beq_iff_eq.mp e1).symm
   simp [e2]
 have tabOk : ∀ {H : Hp} {p : Addr × Addr × Str}, p ∈ tbs K -> ObjOk P w H s₁.heap p.2.1 (.tbl #[.str p.2.2 0]) := fun hp => ⟨#[], (tk _ hp).2.2.1, trivial, fun n t _ pos cv e => by cases e⟩
 have tabA : ((tbs K).find? (fun p => p.2.1 == a)).map (fun p => HO.tbl #[.str p.2.2 0]) = none := by
  cases e : ((tbs K).find? (fun p => p.2.1 == a)).map (fun p => HO.tbl #[.str p.2.2 0]) with
  | none => rfl
  | some u => obtain ⟨p, hp, z, _⟩ := tab e; exact absurd z (aP p hp)
 cases hk : K.lookup a with
 | some o =>
  have e := KX a o hk
  rw [ha] at e
  cases e
  refine core (fun b => ((tbs K).find? (fun p => p.2.1 == b)).map (fun p => HO.tbl #[.str p.2.2 0])) (fun b => ?_) (.inr ⟨_, vs.toArray, _, hk, rfl, rfl, rfl, by rw [List.size_toArray, lenV]; exact hl, by simpa using rv⟩) (fun b u z => ?_) (fun b z => ?_) (fun z => absurd tabA z) fun p hp => ⟨#[], tabTb p hp⟩
  ·dsimp only
   cases e : ((tbs K).find? (fun p => p.2.1 == b)).map (fun p => HO.tbl #[.str p.2.2 0]) with
   | none => exact .inl rfl
   | some u => obtain ⟨p, _, _, rfl⟩ := tab e; exact .inr (.inr ⟨_, rfl⟩)
  ·obtain ⟨p, hp, rfl, rfl⟩ := tab z
   exact tabOk hp
  ·obtain ⟨u, e⟩ := Option.ne_none_iff_exists'.mp z
   obtain ⟨p, hp, e1, _⟩ := tab e
   exact .inr ⟨p, hp, e1⟩
 | none =>
  refine core (fun b => if b = a then some (.frz { cls := .type "list", data := .seq vs.toArray } (.lst (ns.map V.int))) else ((tbs K).find? (fun p => p.2.1 == b)).map (fun p => HO.tbl #[.str p.2.2 0])) (fun b => ?_) (.inl (.inr ⟨{ cls := .type "list", data := .seq vs.toArray }, if_pos rfl⟩)) (fun b u z => ?_) (fun b z => ?_) (fun _ => hk) fun p hp => ⟨#[], (if_neg (aP p hp).symm).trans (tabTb p hp)⟩
  ·dsimp only
   by_cases hb : b = a
   ·exact .inr (.inl ⟨_, _, if_pos hb⟩)
   ·rw [if_neg hb]
    cases e : ((tbs K).find? (fun p => p.2.1 == b)).map (fun p => HO.tbl #[.str p.2.2 0]) with
    | none => exact .inl rfl
    | some u => obtain ⟨p, _, _, rfl⟩ := tab e; exact .inr (.inr ⟨_, rfl⟩)
  ·by_cases hb : b = a
   ·have z' := (if_pos hb).symm.trans z
    cases z'
    subst hb
    exact ⟨ha, by rw [List.length_map]; exact hl, vs, _, rv, ha⟩
   ·have z' := (if_neg hb).symm.trans z
    obtain ⟨p, hp, rfl, rfl⟩ := tab z'
    exact tabOk hp
  ·by_cases hb : b = a
   ·exact .inl hb
   ·rw [if_neg hb] at z
    obtain ⟨u, e⟩ := Option.ne_none_iff_exists'.mp z
    obtain ⟨p, hp, e1, _⟩ := tab e
    exact .inr ⟨p, hp, e1⟩
theorem yV {l : PySem.W.OpenLaw} {n k : Nat} {q : Program} {loose : List Str} {XP : (Str -> Option Value) -> Heap -> Prop} {YP : World -> Heap -> Prop} {d : DefRec} {K : Params -> PySem.W.Frag} {CX : World -> CXT} {sp : World -> Sp} {x : Str}
  (hn : l.most = some n) (hn2 : n <= sizeLine) (hdf : d.params.defaults = []) (hr : Room k callerA)
  {ts : List Addr} (hY : ∀ (w : World) (h : Heap), YP w h -> (K w.params).In h /\ ∀ P ∈ ts, h.get? P = some (PySem.W.tabObj #[])) (hK : ∀ w : World, xV (K w.params) ts = true)
  (F : ∀ (w : World) (mg : Str -> Option Value) (fa : Addr) (h : Heap), (K w.params).In h -> h.Ns mainGlobals mg -> mg d.name = some (.ref fa) ->
   ∃ fd : FuncData, (∀ (s : Shared) (u : Value), BindsTo s fd ⟨[u], []⟩ [(x, u)]) /\
    ∀ base : Heap, (K w.params).In base -> base.Ns mainGlobals mg -> FnOk l.prog w (K w.params) mg base (CX w) k fa fd [x] (sp w))
  (hsp : ∀ (w : World) (H : Hp) (a : Addr) (ns : List Int), ns.length <= n -> aDy H -> SqL (K w.params) H a (ns.map V.int) -> sp w [.ref a] H (fun v _ => v = .bl true) fun _ _ _ => False)
  (hCX : ∀ (w : World) (H : Hp) (s : Shared) (e : Value) (s' : Shared), CX w [] H s (fun _ _ _ => False) e s' -> False) :
  PySem.W.WalkO q loose XP YP l.row.toRowW d [] (fun f vs => PySem.call f vs) := by
 refine Att.nZ hn hdf fun w s₀ s₁ mg mb fa o pm cd doc a vs ns G Y ho hd hcd hmg hobj hints hlen hg => ?_
 obtain ⟨KX, TX⟩ := hY w _ Y
 obtain ⟨fd, hb, hF⟩ := F w mg fa _ KX G.T.g hmg
 exact u2 (hK w) TX G.T.bmain KX G.T.g G.T.b G.T.builtins G.T.nolimit hg hobj hints (Nat.le_trans hlen hn2) hr hF hb (fun H hO hS => hsp w H a ns hlen hO hS) fun H e s' => hCX w H s₁ e s'
def eT (s : Stmt) : Arguments := match s with
 | .FunctionDef _ a _ _ _ _ _ _ _ _ => a
 | _ => { posonlyargs := [], args := [], vararg := none, kwonlyargs := [], kw_defaults := [], kwarg := none, defaults := [] }
def dD (s : Stmt) : List Stmt := match s with
 | .FunctionDef _ _ b _ _ _ _ _ _ _ => b
 | _ => []
def aI (s : Stmt) : Scope := match s with
 | .FunctionDef _ _ _ _ _ _ sc _ _ _ => sc
 | _ => { kind := .function, names := [], isGenerator := false, isCoroutine := false }
abbrev CX0 : CXT := fun _ _ _ _ _ _ => False
abbrev E0 : XK := fun _ _ _ => False
structure Fun (K : PySem.W.Frag) (x qual : Str) (st : Stmt) (f : Addr) (fd : FuncData) : Prop where
 ex : ∃ (oc : Value) (od : Option Addr) (kV doc pm : Value) (an : Option Addr) (cdv ct : Value) (osl : Array (Option Value)),
  fd = PySem.W.fnOf x qual (eT st) (dD st) (aI st) .none kV doc pm an cdv ct /\ K.lookup f = some ⟨oc, od, .func fd, osl⟩ /\ PySem.W.codeIn K cdv qual = true
 kp : PySem.W.keepIn K (.ref f) = true
section
variable {P : Program} {w : World} {K : PySem.W.Frag} {mg : Str -> Option Value} {base : Heap}
theorem Fun.binds {x qual : Str} {st : Stmt} {f : Addr} {fd : FuncData} {ps : List Str} (F : Fun K x qual st f fd)
  (h : ∀ (kV doc pm : Value) (an : Option Addr) (cdv ct : Value) (us : List Value), us.length = ps.length -> bindArgs (PySem.W.fnOf x qual (eT st) (dD st) (aI st) .none kV doc pm an cdv ct) ⟨us, []⟩ = pure (ps.zip us)) : Binds K fd ps [] := by
 obtain ⟨oc, od, kV, doc, pm, an, cdv, ct, osl, rfl, lk, hcd⟩ := F.ex
 exact .all (h kV doc pm an cdv ct)
theorem xB {x qual : Str} {st : Stmt} {f : Addr} {oc : Value} {od an : Option Addr} {osl : Array (Option Value)} {kV doc pm cdv ct : Value} (l : K.lookup f = some ⟨oc, od, .func (PySem.W.fnOf x qual (eT st) (dD st) (aI st) .none kV doc pm an cdv ct), osl⟩)
  (c : PySem.W.codeIn K cdv qual = true) (k : PySem.W.keepIn K (.ref f) = true) : Fun K x qual st f (PySem.W.fnOf x qual (eT st) (dD st) (aI st) .none kV doc pm an cdv ct) := ⟨⟨oc, od, kV, doc, pm, an, cdv, ct, osl, rfl, l, c⟩, k⟩
end
section
variable {X : Cx}
theorem pv (i : Nat) {x : Str} {pos : Pos} (hN : X.N[i]? = some x := by rfl) (hv : Vis X.env.scope x := by first | exact Or.inl rfl | exact Or.inr (Or.inl rfl) | exact Or.inr (Or.inr rfl)) (hd : (x == ("__debug__" : Str)) = false := by decide)
  (hcd : (x == ("__classdict__" : Str)) = false := by decide) : PE X (.Name x pos) (aEn i) := wK hN hv hd hcd
end
def Same (H H' : Hp) : Prop := ∀ b o, H b = some o -> H' b = some o
theorem Same.refl (H : Hp) : Same H H := fun _ _ h => h
theorem Same.trans {H H1 H2 : Hp} (a : Same H H1) (b : Same H1 H2) : Same H H2 := fun c o h => b c o (a c o h)
theorem Same.free {H H' : Hp} (e : Same H H') {l : Addr} (h : H' l = Option.none) : H l = Option.none := by
 cases q : H l with
 | none => rfl
 | some o =>
  rw [e l o q] at h
  cases h
theorem Same.seq {K : PySem.W.Frag} {H H' : Hp} {a : Addr} {xs : List V} (e : Same H H') (h : SqL K H a xs) : SqL K H' a xs := by
 rcases h with (h | ⟨o, h⟩) | h
 ·exact .inl (.inl (e _ _ h))
 ·exact .inl (.inr ⟨o, e _ _ h⟩)
 ·exact .inr h
section
variable {X : Cx}
end
section
variable {κ : Type} [DecidableEq κ]
end
end L2
set_option maxHeartbeats 4000000
namespace PySem.W
open PySem PySem.Spec PySem.Calls PyProof.Rows Builtin Builtin.ObjectAttr Builtin.Getset_descriptor
section
variable {prog : Program} {w : World} {A : Around} {E : Value -> Shared -> Prop} {K : Frag} {h : Heap} {g : Array GenState} {d : Drawn} {t : Nat} {os : OsState} {a C : Addr}
structure ExcK (K : Frag) (C : Addr) : Prop where
 ga : findIn K (.ref C) "__getattribute__" = some (some (.builtin "BaseException.__getattribute__"))
 gt : findIn K (.ref C) "__getattr__" = some none
 cl : findIn K (.ref C) "__class__" = some (some (.builtin "object.__class__"))
 mo : mroIn K C (.type "object") = some true
 mb : mroIn K C (.type "BaseException") = some true
 ic : (clsIn K C).isSome = true
def ExcAt (a : Addr) (cls : Value) (h : Heap) : Prop := ∃ o, h.get? a = some o /\ o.cls = cls /\ ∃ vs, o.data = .fields vs
theorem ExcAt.ty {cls : Value} (p : ExcAt a cls h) (M : Model) : Looks M h (typeOf (.ref a)) cls := by
 obtain ⟨o, h1, h2, _⟩ := p
 exact h2 ▸ (Looks.ld h1).andThen .now
theorem zY {tp : Value} {R : Result -> Shared -> Prop} (X : K.In h) (T : ExcK K C) (p : ExcAt a (.ref C) h) (hq : R (.ok (.ret (.ref C))) ⟨h, g, d, t, os⟩) :
  codeAny (model prog w) A (.call (.builtin "getset_descriptor.__get__") ⟨[.builtin "object.__class__", .ref a, tp], []⟩) R ⟨h, g, d, t, os⟩ := by
 have La := p.ty (model prog w)
 have Lb := looks_mroIn (M := model prog w) X T.mo
 refine codeAny_call_builtin KF.slot_gs.plain KF.entry_gs (KF.slot_gs.check _ _ _ _ _ _ _ _ KF.type_class (KF.args_gs _ _ _) ?_)
 unfold Builtin.«getset_descriptor.__get__» descrGet
 rw [dga_obj]
 refine wpAny_bind (wpAny_pure ?_)
 unfold descrGetter descrCheckInstance descrNameAndClass isInstance
 simp only [KF.owner_class]
 repeat lk
 refine ⟨Code.quiet_builtin _ (by decide +kernel), codeAny_builtin KF.entry_class ?_⟩
 unfold Builtin.«object.__class__» shownTypeOf
 repeat lk
 exact hq
theorem vU {tk : Tok} {Q : Fin -> Shared -> Prop} (X : K.In h) (T : ExcK K C) (p : ExcAt a (.ref C) h) (hq : Q (.done (.ret (.ref C))) ⟨h, g, d, t, os⟩) :
  wpAny (model prog w) A (Builtin.«object.__getattribute__» ⟨[.ref a, .str "__class__" tk], []⟩) Q E ⟨h, g, d, t, os⟩ := by
 have La := p.ty (model prog w)
 have Lc := looks_findIn (M := model prog w) X T.cl
 have hT5 : (⟨h, g, d, t, os⟩ : Shared).TypeIs (.builtin "object.__class__") "getset_descriptor" := F.typeOf_object_class
 have e5 := F.typeOf_object_class
 have e6 := F.slot_gs_get.lookup
 have e7 := F.slot_gs_set.lookup
 repeat (any_goals (first | assumption | with_reducible refine Looks.at (by assumption) ?_ | wp_step))
 refine zY X T p ?_
 repeat (any_goals (first | assumption | wp_step))
theorem u4 {M : Model} {nameV : Value} {Q : Unit -> Shared -> Prop} (X : K.In h) (T : ExcK K C) (p : ExcAt a (.ref C) h) (hq : Q () ⟨h, g, d, t, os⟩) :
  wpAny M A (checkBuiltinCall "BaseException.__getattribute__" ⟨[.ref a, nameV], []⟩) Q E ⟨h, g, d, t, os⟩ := by
 have hk : builtinKind "BaseException.__getattribute__" = some .slot := by decide +kernel
 have hsp : splitId "BaseException.__getattribute__" = some ("BaseException", "__getattribute__") := by decide +kernel
 have La := p.ty M
 have Lb := looks_mroIn (M := M) X T.mb
 have ha := F.args_bexc_ga (.ref a) nameV
 simp only [checkBuiltinCall, hk, hsp]
 refine wpAny_bind ?_
 unfold isInstance
 repeat (any_goals (first | assumption | with_reducible refine Looks.at (by assumption) ?_ | wp_step))
theorem zA {tk : Tok} {R : Result -> Shared -> Prop} (X : K.In h) (T : ExcK K C) (p : ExcAt a (.ref C) h) (hq : R (.ok (.ret (.ref C))) ⟨h, g, d, t, os⟩) :
  codeAny (model prog w) A (.call (.builtin "BaseException.__getattribute__") ⟨[.ref a, .str "__class__" tk], []⟩) R ⟨h, g, d, t, os⟩ :=
 codeAny_call_builtin F.attr_ValueError.ga.plain F.entry_bexc_ga (u4 X T p (vU X T p hq))
theorem aEp {tk : Tok} {Q : Value -> Shared -> Prop} (X : K.In h) (T : ExcK K C) (p : ExcAt a (.ref C) h) (hq : Q (.ref C) ⟨h, g, d, t, os⟩) : wpAny (model prog w) A (getAttrBy (.ref a) (.str "__class__" tk) false) Q E ⟨h, g, d, t, os⟩ := by
 have La := p.ty (model prog w)
 have Lg := looks_findIn (M := model prog w) X T.ga
 have Lt := looks_findIn (M := model prog w) X T.gt
 have f3 := F.attr_ValueError.ga.bind (.ref a)
 have hx0 : (false && onTheHeap (Value.builtin "BaseException.__getattribute__")) = false := rfl
 have hx2 : (Value.builtin "BaseException.__getattribute__" == Value.builtin "object.__getattribute__") = false := by decide +kernel
 have hx1 : (onTheHeap (Value.ref C) && Value.builtin "BaseException.__getattribute__" == Value.builtin "object.__getattribute__") = false := by rw [hx2]; rfl
 repeat (any_goals (first | assumption | with_reducible refine Looks.at (by assumption) ?_ | wp_step))
 refine zA X T p ?_
 repeat (any_goals (first | assumption | wp_step))
theorem x3 {Q : Option Value -> Shared -> Prop} (X : K.In h) (T : ExcK K C) (p : ExcAt a (.ref C) h) (hq : Q (some (.ref C)) ⟨h, g, d, t + 1, os⟩) : wpAny (model prog w) A (getAttr? (.ref a) "__class__") Q E ⟨h, g, d, t, os⟩ := by
 unfold getAttr? getAttrBy?
 repeat (any_goals (first | assumption | with_reducible apply aEp X T p | wp_step))
theorem kitx_exc (T : ExcK K C) : KitX K (.ref a) (.ref C) (ExcAt a (.ref C)) where
 ty := fun M _ _ p => p.ty M
 it := fun _ _ X _ => by
  have hs := T.ic
  unfold clsIn at hs
  split at hs
  ·rename_i ho
   intro A' Q' E' s' k q
   unfold isType loadHead
   exact wpAny_bind (wpAny_loadPart (k _ _ (X _ _ ho)) (wpAny_pure q))
  ·cases hs
 ne := fun h tp dd its n sl X htp => by
  refine Bool.eq_false_iff.mpr fun q => ?_
  have e : C = tp := Value.ref.inj (beq_iff_eq.mp q)
  have hs := T.ic
  unfold clsIn at hs
  split at hs
  ·rename_i ho
   have z := X _ _ ho
   rw [e, htp] at z
   cases z
  ·cases hs
 ca := fun {_ _ _ _ _ s} X p k => by
  obtain ⟨hh, gg, dd, tt, oo⟩ := s
  exact x3 X T p k
end
end PySem.W
namespace L2
open PySem PySem.Spec PyProof.Rows
structure uP (P : Program) (w : World) (outer : List Env) (H : Hp) (s : Shared) (ea : Addr) (cls : Value) (H' : Hp) (B : Heap) (a0 : Value) (s' : Shared) : Prop where
 os : s'.os = s.os
 bare : AllBare s'.gens
 un : Un (frs outer) [] H H' s.heap s'.heap
 hok : HOk P w H' s'.heap
 fly : Heap.FlyingW B outer ea cls a0 s'.heap
 inB : ∀ b o, s'.heap.get? b = some o -> (H' b ≠ none \/ ((∃ u, s.heap.get? b = some u) /\ b ∉ frs outer)) -> B.get? b = some o
 new : s.heap.get? ea = none
 nt : H' ea = none
def CXr (P : Program) (w : World) : CXT := fun outer H s E e s' =>
 ∃ (ea : Addr) (cls : Value) (H' : Hp) (B : Heap) (a0 : Value), e = .ref ea /\ uP P w outer H s ea cls H' B a0 s' /\ E cls none H'
theorem jQ {P : Program} {w : World} {H : Hp} {h h' : Heap} (ok : HOk P w H h) (k : ∀ b o, H b ≠ none -> h.get? b = some o -> h'.get? b = some o) : HOk P w H h' := fun a o e =>
 (ok a o e).stay (fun b u hb q => k b u (by
  rcases hb with z | z
  ·rw [z, e]; exact fun q => nomatch q
  ·rw [z]; exact fun q => nomatch q) q) (fun _ q => q) fun _ _ q => q
theorem kJ {P : Program} {w : World} {H : Hp} {h : Heap} {a : Addr} {o : HO} (x : ObjOk P w H h a o) : ∃ ob, h.get? a = some ob := by
 cases o with
 | lst xs => obtain ⟨_, _, _, _, e⟩ := x; exact ⟨_, e⟩
 | tup xs => obtain ⟨_, _, _, ob, e, _⟩ := x; exact ⟨_, e⟩
 | dK kvs => obtain ⟨_, _, _, _, o, _, _, e, _⟩ := x; exact ⟨_, e⟩
 | dT kvs => obtain ⟨_, _, _, _, o, _, _, e, _⟩ := x; exact ⟨_, e⟩
 | set S n => obtain ⟨o, _, _, _, e, _⟩ := x; exact ⟨_, e⟩
 | ins C dx fs => obtain ⟨_, _, _, e, _⟩ := x; exact ⟨_, e⟩
 | own y => exact x
 | xd fs => obtain ⟨_, ⟨_, _, _, e, _⟩, _⟩ := x; exact ⟨_, e⟩
 | rng lo hi => obtain ⟨_, _, _, e⟩ := x; exact ⟨_, e⟩
 | frz ob u => obtain ⟨e, _⟩ := x; exact ⟨_, e⟩
 | tbl ps => obtain ⟨_, e, _⟩ := x; exact ⟨_, e⟩
 | met f y => exact ⟨_, (show h.get? a = some _ from x)⟩
 | ext φ => obtain ⟨_, e, _⟩ := x; exact e
theorem HOk.there {P : Program} {w : World} {H : Hp} {h : Heap} {a : Addr} (x : HOk P w H h) (n : H a ≠ none) : ∃ ob, h.get? a = some ob := by
 cases q : H a with
 | none => exact absurd q n
 | some u => exact kJ (x a u q)
section
variable {P : Program} {w : World} {K : PySem.W.Frag} {mg : Str -> Option Value} {base : Heap} {N : List Str} {qual : Str} {scope : Scope} {f : Addr} {cd : Value} {A : Around} {outer : List Env} {s : Shared} {H : Hp} {E : XK}
theorem mD {env : Env} {l : List Env} {L : Addr} (h : env.frame = some L) : frs (env :: l) = L :: frs l := by
 unfold frs
 rw [List.filterMap_cons, h]
theorem pD {X : Cx} {pins : List (Addr × Obj)} {σ : St} {H1 H' : Hp} {s1 : Shared} {B h'' : Heap} {ea : Addr} {cls a0 : Value} {g' : Array GenState} {d' : Drawn} {t' : Nat} {os' : OsState}
  (I : Inv X pins σ H1 s1) (hx : X.ex = []) (hs : X.env.locals ∉ frs X.outer)
  (ho : os' = X.s₀.os) (hg : AllBare g')
  (fly : Heap.FlyingW B X.outer ea cls a0 h'')
  (kp : ∀ b o, s1.heap.get? b = some o -> H1 b = none -> b ∉ frs X.outer -> b ≠ X.env.locals -> B.get? b = some o)
  (sl : ∀ b o, s1.heap.get? b = some o -> b ∈ frs X.outer -> ∃ sl, h''.get? b = some { o with slots := sl })
  (fr : ∀ b o, s1.heap.get? b = some o -> H1 b = none -> H' b = none)
  (tups : ∀ b xs, H1 b = some (.tup xs) -> H' b = some (.tup xs)) (frzs : ∀ b o u, H1 b = some (.frz o u) -> H' b = some (.frz o u)) (tbls : ∀ b ps, H1 b = some (.tbl ps) -> ∃ more, H' b = some (.tbl (ps ++ more)))
  (hok : HOk X.prog X.w H' h'') (inH : ∀ b o, h''.get? b = some o -> H' b ≠ none -> B.get? b = some o)
  (th : ∀ b o, s1.heap.get? b = some o -> H1 b ≠ none -> ∃ o', h''.get? b = some o')
  (inB : ∀ b o, s1.heap.get? b = some o -> b ∉ frs X.outer -> b ≠ X.env.locals -> ∃ o', B.get? b = some o')
  (new : s1.heap.get? ea = none) (nt : H' ea = none) :
  uP X.prog X.w X.outer X.H₀ X.s₀ ea cls H' B a0 ⟨h'', g', d', t', os'⟩ := by
 have hxn : ∀ b : Addr, b ∉ X.ex := fun b z => by rw [hx] at z; cases z
 have neL : ∀ b o, X.s₀.heap.get? b = some o -> b ≠ X.env.locals := fun b o e => Nat.ne_of_lt (Nat.lt_of_lt_of_le (Heap.lt_size e) I.ok.above)
 have st := fly.1
 refine ⟨ho, hg, ⟨fun b o e n hb _ => ?_, fun b o e n hb _ => ?_, fun b o e n _ => ?_, fun b o e _ => ?_, fun b xs e => tups b xs (I.base.tups b xs e), fun b o u e => frzs b o u (I.base.frzs b o u e), fun b ps e => ?_⟩, hok, fly, fun b o e hb => ?_, ?_, nt⟩
 ·exact st b o (kp b o (I.base.keep b o e n hb (hxn b)) (I.base.free b o e n (hxn b)) hb (neL b o e))
 ·obtain ⟨l1, e1⟩ := I.base.slot b o e n hb (hxn b)
  obtain ⟨l2, e2⟩ := sl b _ e1 hb
  exact ⟨l2, e2⟩
 ·obtain ⟨o1, e1⟩ := I.base.there b o e (hxn b)
  exact fr b o1 e1 (I.base.free b o e n (hxn b))
 ·obtain ⟨o1, e1⟩ := I.base.there b o e (hxn b)
  by_cases hb : b ∈ frs X.outer
  ·obtain ⟨l2, e2⟩ := sl b o1 e1 hb
   exact ⟨_, e2⟩
  ·obtain ⟨o2, e2⟩ := inB b o1 e1 hb (neL b o e)
   exact ⟨o2, st b o2 e2⟩
 ·obtain ⟨m1, e1⟩ := I.base.tbls b ps e
  obtain ⟨m2, e2⟩ := tbls b _ e1
  exact ⟨m1 ++ m2, by rw [e2, Array.append_assoc]⟩
 ·rcases hb with hb | ⟨⟨u, hu⟩, hb⟩
  ·exact inH b o e hb
  ·obtain ⟨o1, e1⟩ := I.base.there b u hu (hxn b)
   obtain ⟨o2, e2⟩ := inB b o1 e1 hb (neL b u hu)
   have e3 := st b o2 e2
   have e4 : h''.get? b = some o := e
   rw [e3] at e4
   cases e4
   exact e2
 ·cases q : X.s₀.heap.get? ea with
  | none => rfl
  | some o =>
   obtain ⟨o', e'⟩ := I.base.there ea o q (hxn ea)
   rw [new] at e'
   cases e'
theorem aDz : aB3 (CXr P w) (jM (CXr P w) P w K mg base N qual scope f cd A outer s H E) E := by
 intro pins σ H1 s1 e s1' I h
 obtain ⟨ea, cls, H', B, a0, rfl, F, want⟩ := h
 have hfr : (jM (CXr P w) P w K mg base N qual scope f cd A outer s H E).A.frames = some (envOfC qual scope s.heap.objs.size f cd :: outer) := I.ok.frames
 have hstk : frs (jM (CXr P w) P w K mg base N qual scope f cd A outer s H E).stack = s.heap.objs.size :: frs outer := mD rfl
 have hLo : s.heap.objs.size ∉ frs outer := fun z => by
  obtain ⟨_, o, ho, _⟩ := I.ok.funs.mem z
  exact absurd (Heap.lt_size ho) (Nat.lt_irrefl _)
 have nst : ∀ {b : Addr}, b ∉ frs outer -> b ≠ s.heap.objs.size -> b ∉ frs (jM (CXr P w) P w K mg base N qual scope f cd A outer s H E).stack := fun h1 h2 z => by
  rw [hstk] at z
  rcases List.mem_cons.mp z with z | z
  ·exact h2 z
  ·exact h1 z
 show wpAny (model P w) _ (leaving _ (.ref ea)) _ _ s1'
 refine wpAny_leaves_onW hfr rfl F.fly fun h'' fl' up => ?_
 have inB' : ∀ b o, s1'.heap.get? b = some o -> H' b ≠ none -> h''.get? b = some o := fun b o e n => fl'.1 b o (F.inB b o e (.inl n))
 refine ⟨ea, cls, H', B, a0, rfl, pD (X := jM (CXr P w) P w K mg base N qual scope f cd A outer s H E) I rfl hLo (F.os.trans I.os) F.bare fl' (fun b o e n hb hL => ?_) (fun b o e hb => ?_) (fun b o e n => F.un.free b o e n (by simp)) F.un.tups F.un.frzs F.un.tbls
  (jQ F.hok fun b o n e => inB' b o e n) (fun b o e n => ?_) (fun b o e n => ?_) (fun b o e hb hL => ?_) F.new F.nt, want⟩
 ·exact F.inB b o (F.un.keep b o e n (nst hb hL) (by simp)) (.inr ⟨⟨o, e⟩, nst hb hL⟩)
 ·have hb' : b ∈ frs outer := hb
  have n : H1 b = none := by
   have := I.stkFree b (by rw [hstk]; exact List.mem_cons_of_mem _ hb')
   exact this
  obtain ⟨l1, e1⟩ := F.un.slot b o e n (by rw [hstk]; exact List.mem_cons_of_mem _ hb') (by simp)
  obtain ⟨_, o', ho', hd'⟩ := F.fly.2.2.1.mem (b := b) (by
   have : b ∈ frs (jM (CXr P w) P w K mg base N qual scope f cd A outer s H E).stack := by rw [hstk]; exact List.mem_cons_of_mem _ hb'
   exact this)
  rw [e1] at ho'
  cases ho'
  obtain ⟨l2, e2⟩ := up b _ e1 hd'
  exact ⟨l2, e2⟩
 ·obtain ⟨o1, e1⟩ := F.hok.there n
  have e2 := F.inB b o1 e1 (.inl n)
  have e3 := fl'.1 b o1 e2
  rw [e] at e3
  cases e3
  exact e2
 ·obtain ⟨o1, e1⟩ := F.un.there b o e (by simp)
  by_cases hb : b ∈ frs outer
  ·have hz : H1 b = none := I.stkFree b (by rw [hstk]; exact List.mem_cons_of_mem _ hb)
   exact absurd hz n
  ·by_cases hL : b = s.heap.objs.size
   ·have hz : H1 b = none := I.stkFree b (by rw [hstk, hL]; exact List.mem_cons_self)
    exact absurd hz n
   ·exact ⟨o1, fl'.1 b o1 (F.inB b o1 e1 (.inr ⟨⟨o, e⟩, nst hb hL⟩))⟩
 ·obtain ⟨o1, e1⟩ := F.un.there b o e (by simp)
  exact ⟨o1, F.inB b o1 e1 (.inr ⟨⟨o, e⟩, nst hb hL⟩)⟩
def tM (X : Cx) (E : XK) : Prop := ∀ (pins : List (Addr × Obj)) (σ : St) (H : Hp) (s : Shared) (C : Addr) (h' : Heap) (e : Addr) (vs : List Value), Inv X pins σ H s -> Heap.MadeExcOf s.heap h' e (.ref C) vs -> E (.ref C) none H -> X.xe (.ref e) { s with heap := h' }
theorem yH : tM (jM (CXr P w) P w K mg base N qual scope f cd A outer s H E) E := by
 intro pins σ H1 s1 C h' e vs I hx want
 have hstk : frs (jM (CXr P w) P w K mg base N qual scope f cd A outer s H E).stack = s.heap.objs.size :: frs outer := mD rfl
 have hfr : (jM (CXr P w) P w K mg base N qual scope f cd A outer s H E).A.frames = some (envOfC qual scope s.heap.objs.size f cd :: outer) := I.ok.frames
 have hLo : s.heap.objs.size ∉ frs outer := fun z => by
  obtain ⟨_, o, ho, _⟩ := I.ok.funs.mem z
  exact absurd (Heap.lt_size ho) (Nat.lt_irrefl _)
 have st : s1.heap.FunFrames base (envOfC qual scope s.heap.objs.size f cd :: outer) := I.stack
 have fin : s1.heap.FunFrames (PySem.W.hideAll s1.heap (s.heap.objs.size :: frs outer)) (envOfC qual scope s.heap.objs.size f cd :: outer) :=
  PySem.W.funFrames_hide st fun env he a ha => by
   rw [<- hstk]
   exact List.mem_filterMap.mpr ⟨env, he, ha⟩
 have nfr : ∀ {b : Addr}, H1 b ≠ none -> b ∉ s.heap.objs.size :: frs outer := fun n z => n (I.stkFree _ (by rw [hstk]; exact z))
 have nin : ∀ {b : Addr}, b ∉ frs outer -> b ≠ s.heap.objs.size -> b ∉ s.heap.objs.size :: frs outer := fun h1 h2 z => (List.mem_cons.mp z).elim h2 h1
 show wpAny (model P w) _ (leaving _ (.ref e)) _ _ { s1 with heap := h' }
 refine wpAny_leaves_madeW (base := PySem.W.hideAll s1.heap (s.heap.objs.size :: frs outer)) (h := s1.heap) hfr rfl (fun b o q => PySem.W.of_hideAll _ q) fin hx fun h'' t fl _ _ up => ?_
 refine ⟨e, .ref C, H1, _, .ref t, rfl, pD (X := jM (CXr P w) P w K mg base N qual scope f cd A outer s H E) I rfl hLo I.os I.bare fl (fun b o q n hb hL => PySem.W.hideAll_get _ q (nin hb hL)) (fun b o q hb => ?_) (fun _ _ _ n => n) (fun _ _ q => q) (fun _ _ _ q => q)
  (fun b ps q => ⟨#[], by rw [q]; simp⟩) (jQ I.hok fun b o n q => fl.1 b o (PySem.W.hideAll_get _ q (nfr n))) (fun b o q n => ?_) (fun b o q n => ⟨o, fl.1 b o (PySem.W.hideAll_get _ q (nfr n))⟩) (fun b o q hb hL => ⟨o, PySem.W.hideAll_get _ q (nin hb hL)⟩) hx.new ?_, want⟩
 ·obtain ⟨_, o', ho', hd'⟩ := st.mem (b := b) (by
   have : b ∈ frs (envOfC qual scope s.heap.objs.size f cd :: outer) := by
    rw [mD rfl]
    exact List.mem_cons_of_mem _ hb
   exact this)
  rw [q] at ho'
  cases ho'
  exact up b o (hx.keeps b o q) hd'
 ·obtain ⟨o1, e1⟩ := I.hok.there n
  have e2 := PySem.W.hideAll_get _ e1 (nfr n)
  have e3 := fl.1 b o1 e2
  rw [q] at e3
  cases e3
  exact e2
 ·cases q : H1 e with
  | none => rfl
  | some u =>
   obtain ⟨ob, eo⟩ := kJ (I.hok e u q)
   rw [hx.new] at eo
   cases eo
end
section
variable {X : Cx} {E : XK}
def zW (C : Addr) (E : XK) (t : TA) : TS := fun _ σ H => t σ H fun vs H1 => vs.length <= sizeLine /\ E (.ref C) none H1
theorem uX {x : Str} {e₀ : Expr} {rest : List Expr} {t : TA} {C : Addr} {bm : List Value} {B newId initId : String} {np cpos pos : Pos} (hx : tM X E) (hc : X.calm = true) (hg : Gl X x) (O : OwnCls x C bm newId X.mg X.base)
  (FB : ExcBaseFacts B newId initId bm) (ha : PA X (e₀ :: rest) t) (hdb : (x == ("__debug__" : Str)) = false := by decide)
  (he : starEach (e₀ :: rest) X.env = (false, eval e₀ X.env) :: starEach rest X.env := by rfl) (hpl : (backTo cpos (starEach rest X.env)).any (·.1) = false := by rfl) :
  PS X (.Raise (some (.Call (.Name x np) (e₀ :: rest) [] cpos)) none pos) (zW C E t) := by
 intro pins s σ H D I h
 obtain ⟨tl, NN, nm, qn, bs, hdc, sn, sb, ab, cl, dd, z0, z1, z2, z3, z5, mN, hC, hN, hni, T⟩ := O.obj
 have hp : (backTo cpos (starEach (e₀ :: rest) X.env)).any (·.1) = false := by
  rw [he]
  show (false || (backTo cpos (starEach rest X.env)).any (·.1)) = false
  rw [hpl]
  all_goals rfl
 have h2 := ha cpos pins s σ H _ I h
 refine wpAny_Raise_call_subT (bm := tl) (N := NN) (nm := nm) (q := qn) (bs := bs) (hdct := hdc) (sn := sn) (sub := sb) (ab := ab) (col := cl) (dd := dd) (k0 := z0) (k1 := z1) (k2 := z2) (k3 := z3) (k5 := z5) FB (T.hasType FB.hasBase) (I.ok.hd hc) hp hni
  (j7 I hg O.bound ⟨rfl, ?_⟩ hdb)
 rw [he] at h2 ⊢
 refine Calls.evalArgs_plain (thn h2 fun us s2 ⟨vs, H1, I1, r, z, w'⟩ => ?_)
 exact ⟨rfl, by rw [<- r.length]; exact z, I1.bk _ _ hC, hN.keeps I1.bk, T.keeps I1.bk, fun h' e hm => hx pins σ H1 s2 C h' e us I1 hm w'⟩
end
def iA (CX : CXT) (X : Cx) (E : St -> XK) : Prop := ∀ (pins : List (Addr × Obj)) (σ : St) (H : Hp) (s : Shared) (e : Value) (s' : Shared), Inv X pins σ H s -> CX X.stack H s (E σ) e s' -> X.xe e s'
def w5 (sp : Sp) (E : St -> XK) (t : TA) : TE := fun σ H Q => t σ H fun vs H1 => sp vs H1 Q (E σ)
section
variable {X : Cx} {CX : CXT} {k : Nat} {f : Addr} {fd : FuncData} {ps : List Str} {sp : Sp} {E : St -> XK} {x : Str} {p pos : Pos} {e : Expr} {es : List Expr} {t : TA}
theorem vX (F : FnOk X.prog X.w X.K X.mg X.base CX k f fd ps sp) (hr : Room k X.A) (hg : Gl X x) (hm : X.mg x = some (.ref f)) (hk : PySem.W.keepIn X.K (.ref f) = true) (hb : Binds X.K fd ps []) (hx : iA CX X E)
  (ha : PA X (e :: es) t) (hdb : (x == ("__debug__" : Str)) = false := by decide) (he : starEach (e :: es) X.env = (false, eval e X.env) :: starEach es X.env := by rfl) (hpl : (backTo pos (starEach es X.env)).any (·.1) = false := by rfl) :
  PE X (.Call (.Name x p) (e :: es) [] pos) (w5 sp E t) := by
 intro pins s σ H Q I h
 refine wpAny_Call_Name_kw (j7 I hg hm ?_ hdb)
 refine PySem.W.callWith_K (h₀ := X.base) I.ok.mod.kin hk (thn (ha pos pins s σ H _ I h) fun us s1 ⟨vs, H1, I1, r, q⟩ => ⟨I1.kIn, ?_⟩) he hpl
 have hl : us.length = ps.length := by rw [<- r.length]; exact F.len _ _ _ _ q
 have hb' := hb s1 us I1.kIn (by rw [List.append_nil]; exact hl)
 rw [List.append_nil] at hb'
 refine wpAny_call (codeAny_mono (F.run X.A X.stack s1 H1 ⟨us, []⟩ us vs Q (E σ) hr I1.env0 hb' r q) fun rr s' hq => ?_)
 cases rr with
 | error e' => exact hx pins σ H1 s1 e' s' I1 hq
 | ok fl =>
  cases fl with
  | ret u => exact I1.after hq
  | next => exact False.elim hq
  | brk => exact False.elim hq
  | cont => exact False.elim hq
end
structure RoomQ (k : Nat) (A : Around) : Prop where
 dp : A.depth + 3 * k + 5 < recursionLimit
 un : A.units + 16 * k + 200 < cLine
theorem RoomQ.deeper {k : Nat} {A : Around} (r : RoomQ (k + 1) A) (env : Env) : RoomQ k (A.deeper env) :=
 ⟨by have := r.dp; show A.depth + 1 + 3 * k + 5 < _; omega, by have := r.un; show A.units + 3 + 16 * k + 200 < _; omega⟩
theorem RoomQ.depth {k : Nat} {A : Around} (r : RoomQ k A) : A.depth < recursionLimit := by have := r.dp; omega
structure rD (P : Program) (w : World) (K : PySem.W.Frag) (mg : Str -> Option Value) (base : Heap) (k : Nat) (f : Addr) (fd : FuncData) (ps : List Str) (sp : Sp) : Prop where
 len : ∀ vs H Q E, sp vs H Q E -> vs.length = ps.length
 run : ∀ (A : Around) (outer : List Env) (s : Shared) (H : Hp) (args : Args) (us : List Value) (vs : List V) (Q : VK), RoomQ k A -> zJ P w K mg base A outer s H -> BindsTo s fd args (ps.zip us) -> Vals vs us -> sp vs H Q E0 ->
  codeAny (model P w) A (.call (.ref f) args) (CR CX0 outer P w H s Q E0) s
abbrev Cx.quiet (X : Cx) : Cx := { X with calm := false, xe := fun _ _ => False }
theorem Fun.okQ {P : Program} {w : World} {K : PySem.W.Frag} {mg : Str -> Option Value} {base : Heap} {x qual : Str} {st : Stmt} {f : Addr} {fd : FuncData} {N ps : List Str} {k : Nat} {sp : Sp} (F : Fun K x qual st f fd) (S : bF N ps (aI st))
  (len : ∀ vs H Q E, sp vs H Q E -> vs.length = ps.length)
  (hbody : ∀ (cdv : Value) (A : Around) (outer : List Env) (s : Shared) (H : Hp) (vs : List V) (Q : VK), RoomQ k (A.deeper (envOfC qual (aI st) s.heap.objs.size f cdv)) -> sp vs H Q E0 ->
   ∃ t, PSs (jM CX0 P w K mg base N qual (aI st) f cdv A outer s H E0).quiet (dD st) t /\ t { nx := fun _ H' => Q .non H', rt := Q } (start N vs) H) : rD P w K mg base (k + 1) f fd ps sp := by
 obtain ⟨oc, od, kV, doc, pm, an, cdv, ct, osl, rfl, lk, hcd⟩ := F.ex
 refine ⟨len, fun A outer s H args us vs Q hr e0 hb r hsp => ?_⟩
 have hl := len _ _ _ _ hsp
 have KX : K.In s.heap := e0.mod.kin.keeps fun b o e => (e0.bs b o e).1
 have lim : s.heap.NoLimit := e0.mod.nolimit.keeps fun b o e => (e0.bs b o e).1
 have hkind : ∀ y ∈ ps.zip us, (aI st).names.lookup y.1 = some .local \/ ((aI st).names.lookup y.1 = some .cell /\ ((cellsFrom (s.heap.objs.size + 1) (aI st).names []).lookup y.1).isSome = true) := fun ⟨n, v⟩ hy => by
  rcases S.par n (List.of_mem_zip hy).1 with q | q
  ·exact .inl q
  ·exact .inr ⟨q, PySem.W.cellsFrom_some _ _ _ (.inl q)⟩
 refine codeAny_call_function hr.depth (KX _ _ lk) rfl S.co S.gen rfl (PySem.W.codeRec_of KX hcd) (hb _ _ _ _ ?_)
 refine wpAny_newFunctionEnv_cells S.kind hkind fun env he s1 x => ?_
 subst he
 refine ⟨lim.keeps x.toInCall.keep, codeAny_func ?_⟩
 obtain ⟨t, ht, hq⟩ := hbody cdv A outer s H vs Q (hr.deeper _) hsp
 have e1 : zJ P w K mg base { A with handled := none } outer s H := ⟨e0.frames, e0.mod, e0.bs, e0.bsz, e0.funs, e0.frf, e0.hok, e0.bare, e0.tab⟩
 have J : Inv (jM CX0 P w K mg base N qual (aI st) f cdv { A with handled := none } outer s H E0) [] (start N vs) H s1 := nQ S rfl e1 hl r x
 have o := J.ok
 have I : Inv (jM CX0 P w K mg base N qual (aI st) f cdv A outer s H E0).quiet [] (start N vs) H s1 :=
  ⟨⟨o.mod, o.kind, o.glob, o.blt, o.above, o.inj, o.has, o.cab, (fun z => nomatch z), Around.frames_deeper e0.frames, o.stk, o.exf, o.bs, o.bsz, o.noex, o.exfs, o.funs, o.frf, o.tab⟩, J.os, J.bare, J.base, J.loc, J.cell, J.free, J.freeC, J.pin, J.hok, J.len⟩
 refine wpAny_mono (ht [] s1 (start N vs) H _ I hq) (fun fl s' hs => ?_) fun e s' hs => hs.elim
 cases fl with
 | ret u =>
  obtain ⟨v, σ', H', J', rv, q⟩ := hs
  exact ⟨v, H', J'.os, J'.bare, J'.base, J'.hok, rv, q⟩
 | next =>
  obtain ⟨σ', H', J', q⟩ := hs
  exact ⟨V.non, H', J'.os, J'.bare, J'.base, J'.hok, rfl, q⟩
 | brk =>
  obtain ⟨_, _, _, q⟩ := hs
  exact False.elim q
 | cont =>
  obtain ⟨_, _, _, q⟩ := hs
  exact False.elim q
section
variable {X : Cx} {k : Nat} {f : Addr} {fd : FuncData} {ps : List Str} {sp : Sp} {x : Str} {p pos : Pos} {e : Expr} {es : List Expr} {t : TA}
theorem vG (F : rD X.prog X.w X.K X.mg X.base k f fd ps sp) (hr : RoomQ k X.A) (hg : Gl X x) (hm : X.mg x = some (.ref f)) (hk : PySem.W.keepIn X.K (.ref f) = true) (hb : Binds X.K fd ps [])
  (ha : PA X (e :: es) t) (hdb : (x == ("__debug__" : Str)) = false := by decide) (he : starEach (e :: es) X.env = (false, eval e X.env) :: starEach es X.env := by rfl) (hpl : (backTo pos (starEach es X.env)).any (·.1) = false := by rfl) :
  PE X (.Call (.Name x p) (e :: es) [] pos) (w5 sp (fun _ => E0) t) := by
 intro pins s σ H Q I h
 refine wpAny_Call_Name_kw (j7 I hg hm ?_ hdb)
 refine PySem.W.callWith_K (h₀ := X.base) I.ok.mod.kin hk (thn (ha pos pins s σ H _ I h) fun us s1 ⟨vs, H1, I1, r, q⟩ => ⟨I1.kIn, ?_⟩) he hpl
 have hl : us.length = ps.length := by rw [<- r.length]; exact F.len _ _ _ _ q
 have hb' := hb s1 us I1.kIn (by rw [List.append_nil]; exact hl)
 rw [List.append_nil] at hb'
 refine wpAny_call (codeAny_mono (F.run X.A X.stack s1 H1 ⟨us, []⟩ us vs Q hr I1.env0 hb' r q) fun rr s' hq => ?_)
 cases rr with
 | error e' => exact False.elim hq
 | ok fl =>
  cases fl with
  | ret u => exact I1.after hq
  | next => exact False.elim hq
  | brk => exact False.elim hq
  | cont => exact False.elim hq
end
def s9 (e : Addr) (cls : Value) : HO := .ext fun h => ∃ o, h.get? e = some o /\ o.cls = cls /\ ∃ vs, o.data = .fields vs
theorem iO {X : Cx} {pins : List (Addr × Obj)} {σ : St} {H : Hp} {s : Shared} {M : Model} {A : Around} {E : Value -> Shared -> Prop} {i : Nat} {n : Str} {pos : Pos} {Q : Unit -> Shared -> Prop} (I : Inv X pins σ H s) (hN : X.N.Nodup) (hi : X.N[i]? = some n)
  (hk : X.env.kindOf n = some .local) (h : ∀ s', Inv X pins (σ.set i none) H s' -> Q () s') : wpAny M A (do bindName X.env n .none; unbindBehindTheSuite X.env n pos) Q E s := by
 obtain ⟨m, hn, hl⟩ := id I.loc
 have hcls : (X.env.scope.kind == .class || (X.env.scope.kind == .module && X.env.locals != X.env.globals)) = false := by rw [I.ok.kind]; rfl
 have cne := I.cne
 refine wpAny_nameGoes_keeps hk hn hcls fun h' v hn' hs => ?_
 have ne0 : ∀ b o, X.s₀.heap.get? b = some o -> b ≠ X.env.locals := fun b o e => Nat.ne_of_lt (Nat.lt_of_lt_of_le (Heap.lt_size e) I.ok.above)
 have tr : HOk X.prog X.w H h' := fun b ob e => by
  refine (I.hok b ob e).stay (fun c w' hc q => (hs.2 c ?_).trans q) (fun _ q => q) fun _ _ q => q
  rintro rfl
  rcases hc with z | z
  ·rw [<- z, I.free] at e; cases e
  ·rw [I.free] at z; cases z
 refine h _ ⟨I.ok, I.os, I.bare, ⟨fun b o e n' hb hx => (hs.2 b (ne0 b o e)).trans (I.base.keep b o e n' hb hx), fun b o e n' hb hx => ?_, I.base.free, fun b o e hx => ?_, I.base.tups, I.base.frzs, I.base.tbls⟩, ⟨_, hn', fun j y v' e1 e2 e3 => ?_⟩, fun y c e => ?_, I.free, I.freeC, fun p hp => ?_, tr, by simpa using I.len⟩
 ·obtain ⟨sl, e1⟩ := I.base.slot b o e n' hb hx
  exact ⟨sl, (hs.2 b (ne0 b o e)).trans e1⟩
 ·obtain ⟨o', e1⟩ := I.base.there b o e hx
  exact ⟨o', (hs.2 b (ne0 b o e)).trans e1⟩
 ·by_cases hj : j = i
  ·subst hj
   rw [List.getElem?_set] at e2
   split at e2
   ·split at e2 <;> cases e2
   ·rename_i z
    exact absurd rfl z
  ·rw [List.getElem?_set_ne (Ne.symm hj)] at e2
   obtain ⟨u', r', q⟩ := hl j y v' e1 e2 e3
   refine ⟨u', r', ?_⟩
   rcases q with ⟨k, e⟩ | ⟨k, c, e, z⟩
   ·refine .inl ⟨k, ?_⟩
    have hy : y ≠ n := fun e => hj (lV hN e1 (e ▸ hi))
    simp [hy, e]
   ·exact .inr ⟨k, c, e, z.sameBut hs (cne y c e)⟩
 ·obtain ⟨w', z⟩ := I.cell y c e
  exact ⟨w', z.sameBut hs (cne y c e)⟩
 ·obtain ⟨e, n', ne, nf, d⟩ := I.pin p hp
  exact ⟨(hs.2 p.1 ne).trans e, n', ne, nf, d⟩
abbrev Cx.wp (X : Cx) (W : Value -> Shared -> Prop) (pn : List (Addr × Obj)) : Cx := { X with xe := W, pn := pn }
abbrev Cx.hot (X : Cx) (e : Addr) : Cx := { X with A := X.A.mark (some (.ref e)), calm := false, xe := fun _ _ => False }
theorem Inv.wp {X : Cx} {pins : List (Addr × Obj)} {σ : St} {H : Hp} {s : Shared} (I : Inv X pins σ H s) (W : Value -> Shared -> Prop) : Inv (X.wp W (X.pn ++ pins)) [] σ H s := by
 have ok := I.ok
 exact ⟨⟨ok.mod, ok.kind, ok.glob, ok.blt, ok.above, ok.inj, ok.has, ok.cab, ok.hd, ok.frames, ok.stk, ok.exf, ok.bs, ok.bsz, ok.noex, ok.exfs, ok.funs, ok.frf, ok.tab⟩, I.os, I.bare, I.base, I.loc, I.cell, I.free, I.freeC, fun p hp => I.pin p (by simpa using hp), I.hok, I.len⟩
theorem Inv.unwp {X : Cx} {pins pins' : List (Addr × Obj)} {σ : St} {H : Hp} {s : Shared} {W : Value -> Shared -> Prop} (I : Inv (X.wp W (X.pn ++ pins)) pins' σ H s) : Inv X pins σ H s := by
 have ok := I.ok
 exact ⟨⟨ok.mod, ok.kind, ok.glob, ok.blt, ok.above, ok.inj, ok.has, ok.cab, ok.hd, ok.frames, ok.stk, ok.exf, ok.bs, ok.bsz, ok.noex, ok.exfs, ok.funs, ok.frf, ok.tab⟩, I.os, I.bare, I.base, I.loc, I.cell, I.free, I.freeC, fun p hp => I.pin p (List.mem_append_left _ hp), I.hok, I.len⟩
theorem Inv.hot {X : Cx} {pins : List (Addr × Obj)} {σ : St} {H : Hp} {s : Shared} (I : Inv X pins σ H s) (e : Addr) : Inv (X.hot e) pins σ H s := by
 have ok := I.ok
 exact ⟨⟨ok.mod, ok.kind, ok.glob, ok.blt, ok.above, ok.inj, ok.has, ok.cab, (fun z => nomatch z), ok.frames, ok.stk, ok.exf, ok.bs, ok.bsz, ok.noex, ok.exfs, ok.funs, ok.frf, ok.tab⟩, I.os, I.bare, I.base, I.loc, I.cell, I.free, I.freeC, I.pin, I.hok, I.len⟩
theorem Inv.cool {X : Cx} {pins : List (Addr × Obj)} {σ : St} {H : Hp} {s : Shared} {e : Addr} (I : Inv (X.hot e) pins σ H s) (hd : X.calm = true -> X.A.handled = none) : Inv X pins σ H s := by
 have ok := I.ok
 exact ⟨⟨ok.mod, ok.kind, ok.glob, ok.blt, ok.above, ok.inj, ok.has, ok.cab, hd, ok.frames, ok.stk, ok.exf, ok.bs, ok.bsz, ok.noex, ok.exfs, ok.funs, ok.frf, ok.tab⟩, I.os, I.bare, I.base, I.loc, I.cell, I.free, I.freeC, I.pin, I.hok, I.len⟩
theorem SP.unwp {X : Cx} {pins : List (Addr × Obj)} {W : Value -> Shared -> Prop} {D : Ends} {f : Flow} {s' : Shared} (h : SP (X.wp W (X.pn ++ pins)) [] D f s') : SP X pins D f s' := by
 cases f with
 | next => obtain ⟨σ', H', I, q⟩ := h; exact ⟨σ', H', I.unwp, q⟩
 | brk => obtain ⟨σ', H', I, q⟩ := h; exact ⟨σ', H', I.unwp, q⟩
 | cont => obtain ⟨σ', H', I, q⟩ := h; exact ⟨σ', H', I.unwp, q⟩
 | ret u => obtain ⟨v, σ', H', I, r, q⟩ := h; exact ⟨v, σ', H', I.unwp, r, q⟩
theorem landed {X : Cx} {pins : List (Addr × Obj)} {σ : St} {H H' : Hp} {s s' : Shared} {ea : Addr} {cls a0 : Value} {B h' : Heap} (I : Inv X pins σ H s) (F : uP X.prog X.w X.stack H s ea cls H' B a0 s') (fl : Heap.FlyingW B X.stack ea cls a0 h') (up : s'.heap.UpToSlots h') :
  Inv X pins σ H' { s' with heap := h' } /\ Inv X pins σ (upd H' ea (s9 ea cls)) { s' with heap := h' } := by
 have st := fl.1
 have tn : ∀ b u, H' b = some u -> b ≠ ea := fun b u e z => by rw [z, F.nt] at e; cases e
 have kB : ∀ b o, H' b ≠ none -> s'.heap.get? b = some o -> h'.get? b = some o := fun b o n e => st b o (F.inB b o e (.inl n))
 have frd : ∀ b ∈ frs X.stack, ∀ o, s'.heap.get? b = some o -> ∀ vs, o.data ≠ .fields vs := fun b hb o e => by
  obtain ⟨_, o', ho', hd'⟩ := F.fly.2.2.1.mem (b := b) hb
  rw [e] at ho'
  cases ho'
  exact hd'
 have ne : ∀ b o, s.heap.get? b = some o -> b ≠ ea := fun b o e z => by rw [z, F.new] at e; cases e
 have un : ∀ H2 : Hp, (∀ b, b ≠ ea -> H2 b = H' b) -> Un (frs X.stack) [] H H2 s.heap h' := fun H2 same =>
  ⟨fun b o e n hb _ => st b o (F.inB b o (F.un.keep b o e n hb (by simp)) (.inr ⟨⟨o, e⟩, hb⟩)), fun b o e n hb _ => by
   obtain ⟨sl, e1⟩ := F.un.slot b o e n hb (by simp)
   obtain ⟨sl2, e2⟩ := up b _ e1 (frd b hb _ e1)
   exact ⟨sl2, e2⟩, fun b o e n _ => by rw [same b (ne b o e)]; exact F.un.free b o e n (by simp), fun b o e _ => by
   obtain ⟨o1, e1⟩ := F.un.there b o e (by simp)
   by_cases hb : b ∈ frs X.stack
   ·obtain ⟨sl2, e2⟩ := up b _ e1 (frd b hb _ e1)
    exact ⟨_, e2⟩
   ·exact ⟨o1, st b o1 (F.inB b o1 e1 (.inr ⟨⟨o, e⟩, hb⟩))⟩, fun b xs e => by
   have q := F.un.tups b xs e
   rw [same b (tn b _ q)]
   exact q, fun b o u e => by
   have q := F.un.frzs b o u e
   rw [same b (tn b _ q)]
   exact q, fun b ps e => by
   obtain ⟨more, q⟩ := F.un.tbls b ps e
   exact ⟨more, by rw [same b (tn b _ q)]; exact q⟩⟩
 have ok1 : HOk X.prog X.w H' h' := jQ F.hok kB
 obtain ⟨oe, vs, hoe, hoc, hod, _⟩ := fl.first
 have ok2 : HOk X.prog X.w (upd H' ea (s9 ea cls)) h' := fun a o e => by
  by_cases ha : a = ea
  ·subst ha
   rw [cG] at e
   cases e
   refine ⟨⟨oe, hoe, hoc, vs, hod⟩, ⟨oe, hoe⟩, fun h1 h2 p k => ?_⟩
   obtain ⟨o1, p1, p2, p3⟩ := p
   exact ⟨o1, k o1 p1, p2, p3⟩
  ·rw [bU ha] at e
   refine (ok1 a o e).stay (fun _ _ _ q => q) (fun b q => ?_) (fun b xs q => ?_) fun b xs q => by rw [bU (tn b _ q)]; exact q
   ·rw [bU (tn b _ q)]; exact q
   ·rw [bU (tn b _ q)]; exact q
 exact ⟨I.call' (s' := { s' with heap := h' }) (ch := []) F.os (un H' fun _ _ => rfl) ok1 F.bare (fun _ z => absurd z (by simp)), I.call' (s' := { s' with heap := h' }) (ch := []) F.os (un _ fun b hb => bU hb) ok2 F.bare (fun _ z => absurd z (by simp))⟩
def wH (K : PySem.W.Frag) (R : Addr) (i : Nat) (th : TS) (D : Ends) : St -> XK := fun σ cls _ H1 => PySem.W.exmOne K cls (.ref R) = some true /\ ∀ e, H1 e = none ->
 th { nx := fun σ2 H2 => D.nx (σ2.set i none) H2, rt := D.rt, bk := fun σ2 H2 => D.bk (σ2.set i none) H2, ct := fun σ2 H2 => D.ct (σ2.set i none) H2 } (σ.set i (some (.ref e))) (upd H1 e (s9 e cls))
def aFp (K : PySem.W.Frag) (R : Addr) (i : Nat) (tb : (St -> XK) -> TS) (th : TS) : TS := fun D σ H => tb (wH K R i th D) D σ H
theorem aAo {X : Cx} {body : List Stmt} {b₀ : Stmt} {suite : List Stmt} {x n : Str} {np hpos pos : Pos} {i : Nat} {R : Addr} {tb : (St -> XK) -> TS} {th : TS} (hst : X.stack = X.env :: X.outer) (hfr : X.env.frame = some X.env.locals) (hN : X.N.Nodup) (hi : X.N[i]? = some n)
  (hk : X.env.kindOf n = some .local) (hg : Gl X x) (hm : X.mg x = some (.ref R))
  (hb : ∀ (W : Value -> Shared -> Prop) (pn : List (Addr × Obj)) (E : St -> XK), iA (CXr X.prog X.w) (X.wp W pn) E -> PSs (X.wp W pn) body (tb E)) (hh : ∀ e : Addr, PSs (X.hot e) (b₀ :: suite) th)
  (hdb : (x == ("__debug__" : Str)) = false := by decide) :
  PS X (.Try body [.ExceptHandler (some (.Name x np)) (some n) (b₀ :: suite) hpos] [] [] pos) (aFp X.K R i tb th) := by
 intro pins s σ H D I h
 refine wpAny_Try_except ?_
 refine wpAny_mono (hb _ (X.pn ++ pins) (wH X.K R i th D) ?_ [] s σ H D (I.wp _) h) (fun f s₁ q => ?_) fun e s₁ q => q
 ·intro pins' σ1 H1 s1 e s1' I1 hq
  obtain ⟨ea, cls, H', B, a0, rfl, F, want⟩ := hq
  have I1' : Inv X pins σ1 H1 s1 := I1.unwp
  have hfr' : X.A.frames = some (X.env :: X.outer) := by rw [<- hst]; exact I.ok.frames
  have F' : uP X.prog X.w X.stack H1 s1 ea cls H' B a0 s1' := F
  have fly : Heap.FlyingW B (X.env :: X.outer) ea cls a0 s1'.heap := by rw [<- hst]; exact F'.fly
  refine wpAny_looks_onW hfr' hfr fly fun h₄ held₄ up₄ => ?_
  refine wpAny_landsW held₄ fun h₅ fl₅ up₅ => ?_
  have J5 := landed I1' F' (by rw [hst]; exact fl₅) (up₄.trans up₅)
  refine wpAny_handleBy_cons (codeAny_handlers_test ?_) (by intro q; cases q)
  refine j7 (X := X.hot ea) (J5.1.hot ea) hg hm ?_ hdb
  obtain ⟨oe, vs, hoe, hoc, hod, _⟩ := fl₅.first
  have LT : PySem.W.Looks (model X.prog X.w) h₅ (typeOf (.ref ea)) cls := by
   rw [<- hoc]
   exact (PySem.W.Looks.ld hoe).andThen .now
  refine PySem.W.exm_one (K := X.K) J5.1.kIn LT want.1 _ _ _ _ (fun _ _ q => q) ?_
  refine codeAny_handlers_suite_as ?_
  refine lands_againW fl₅ fun h₆ fl₆ up₆ => ?_
  have J6 := landed I1' F' (by rw [hst]; exact fl₆) ((up₄.trans up₅).trans up₆)
  have I6 := J6.2.hot ea
  refine l9 (X := X.hot ea) I6 hN hi (.inl hk) (v := .ref ea) rfl (fun s₇ I7 => ?_) (.inr hk)
  refine wpAny_mono (hh ea pins s₇ _ _ _ I7 (want.2 ea F'.nt)) (fun f s₈ q8 => ?_) fun _ _ z => z.elim
  have hd : X.calm = true -> X.A.handled = none := I.ok.hd
  cases f with
  | next =>
   obtain ⟨σ8, H8, I8, q⟩ := q8
   exact iO (I8.cool hd) hN hi hk fun s₉ I9 => ⟨_, H8, I9, q⟩
  | brk =>
   obtain ⟨σ8, H8, I8, q⟩ := q8
   exact iO (I8.cool hd) hN hi hk fun s₉ I9 => ⟨_, H8, I9, q⟩
  | cont =>
   obtain ⟨σ8, H8, I8, q⟩ := q8
   exact iO (I8.cool hd) hN hi hk fun s₉ I9 => ⟨_, H8, I9, q⟩
  | ret u =>
   obtain ⟨v8, σ8, H8, I8, r8, q⟩ := q8
   exact iO (I8.cool hd) hN hi hk fun s₉ I9 => ⟨v8, _, H8, I9, r8, q⟩
 ·cases f with
  | next => exact wpAny_execs_nil (SP.unwp q)
  | brk => exact SP.unwp q
  | cont => exact SP.unwp q
  | ret u => exact SP.unwp (f := .ret u) q
abbrev cQ (X : Cx) (scope : Scope) (cl : List (Str × Addr)) (C : Addr) (N : List Str) (s₀ : Shared) (H₀ : Hp) (ex : List Addr) (pn : List (Addr × Obj)) : Cx :=
 { X with env := compEnvC scope cl C X.env, N := N, s₀ := s₀, H₀ := H₀, outer := X.stack, stack := X.stack, ex := ex, fn := fun _ => false, pn := pn, xe := fun _ _ => False }
structure aBb (X : Cx) (scope : Scope) (cl : List (Str × Addr)) : Prop where
 clos : closureFor scope X.env = pure cl
 sub : ∀ y c, cl.lookup y = some c -> X.env.cells.lookup y = some c
 has : ∀ y, (relabel scope X.env).names.lookup y = some .cell \/ (relabel scope X.env).names.lookup y = some .free -> ∃ c, cl.lookup y = some c
def pM (js : List Nat) (σ : St) : St := js.map fun j => (σ[j]?).getD none
structure nN (X : Cx) (scope : Scope) (cl : List (Str × Addr)) (ys : List Str) (js : List Nat) : Prop where
 len : ys.length = js.length
 at_ : ∀ (i : Nat) (y : Str) (j : Nat), ys[i]? = some y -> js[i]? = some j -> X.N[j]? = some y /\ (X.env.kindOf y = some .cell \/ X.env.kindOf y = some .free) /\ ((relabel scope X.env).names.lookup y = some .cell \/ (relabel scope X.env).names.lookup y = some .free) /\ (X.env.cells.lookup y).isSome = true /\ cl.lookup y = X.env.cells.lookup y
section
variable {X : Cx}
end
def Sz (n : Nat) (x : Int) : Prop := x.natAbs < 2 ^ n
theorem Sz.mono {m n : Nat} {x : Int} (h : Sz m x) (l : m <= n) : Sz n x := Nat.lt_of_lt_of_le h (Nat.pow_le_pow_right (by decide) l)
theorem Sz.mul {m n : Nat} {x y : Int} (hx : Sz m x) (hy : Sz n y) : Sz (m + n) (x * y) := by
 unfold Sz at *
 rw [Int.natAbs_mul, Nat.pow_add]
 exact Nat.mul_lt_mul'' hx hy
theorem Sz.add {n : Nat} {x y : Int} (hx : Sz n x) (hy : Sz n y) : Sz (n + 1) (x + y) := by
 unfold Sz at *
 have := Int.natAbs_add_le x y
 rw [Nat.pow_succ]
 omega
theorem Sz.le {n : Nat} {x y : Int} (hy : Sz n y) (h : x.natAbs <= y.natAbs) : Sz n x := Nat.lt_of_le_of_lt h hy
def CMulW (i j : Int) : Prop := Sz 60000 i /\ Sz 60000 j
theorem CMulW.ok {i j : Int} (h : CMulW i j) : IntMulOk i j := .of_le (intBits_le_iff.mpr h.1) (intBits_le_iff.mpr h.2) (by decide)
def jJ (i j : Int) : Prop := j ≠ 0 /\ Sz 8000 j
section
variable {X : Cx}
theorem fM : OpR X (binaryOp .Mult) (rI CMulW fun i j => .int (i * j)) := opI fun _ _ _ _ _ _ _ hc q => mul_int q hc.ok
theorem log2_small {n : Nat} (h : n < 2 ^ 8000) : n.log2 < 9000 := by
 by_cases z : n = 0
 ·rw [z]; decide
 ·have : n.log2 < 8000 := (Nat.log2_lt z).mpr h
  omega
theorem e8 : OpR X (binaryOp .FloorDiv) (rI jJ fun i j => .int (i.fdiv j)) := opI fun _ _ _ _ _ _ _ hc q => floordiv_int hc.1 q (.inl (PyProof.noPylong_of_log2 (log2_small hc.2)))
inductive TyX (K : PySem.W.Frag) (H : Hp) : V -> Value -> Prop where
 | plain {x : V} {t : Value} (h : pB K H x t) : TyX K H x t
 | exc {a C : Addr} (e : H a = some (s9 a (.ref C))) (T : PySem.W.ExcK K C) : TyX K H (.ref a) (.ref C)
theorem RelV.tyOrRef {y : V} {c u : Value} (h : (∃ n, y = .ty n) \/ ∃ a, y = .ref a) (r : RelV y c) (r' : RelV y u) : u = c := by
 rcases h with ⟨n, rfl⟩ | ⟨n, rfl⟩
 ·cases r; cases r'; rfl
 ·cases r; cases r'; rfl
def aBg (K : PySem.W.Frag) : List V -> Hp -> VK -> Prop := fun xs H Q => ∃ x y t c b, xs = [x, y] /\ ((∃ n, y = .ty n) \/ ∃ a, y = .ref a) /\ TyX K H x t /\ RelV y c /\ PySem.W.kitOne K t c = some b /\ Q (.bl b) H
theorem uM : CallR X (.builtin "isinstance") (aBg X.K) := by
 intro pins s σ H xs us Q I r h
 obtain ⟨x, y, t, c, b, rfl, hy, ty, rc, e, q⟩ := h
 obtain ⟨u, w', rfl, r1, r2⟩ := vals2 r
 have ec := RelV.tyOrRef hy rc r2
 subst ec
 cases ty with
 | plain ty => exact tN I r1 ty e fun tk => ⟨.bl b, H, I.tok _, rfl, q⟩
 | @exc a C ea T =>
  cases (show u = Value.ref a from r1)
  obtain ⟨p, _, _⟩ := (show ObjOk X.prog X.w H s.heap a (s9 a (.ref C)) from I.hok a _ ea)
  exact PySem.W.kia_one (PySem.W.kitx_exc T) I.kIn p e (fun z => nomatch z) fun tk => ⟨.bl b, H, I.tok _, rfl, q⟩
end
def aFk (K : PySem.W.Frag) (te : TE) (v : V) : TE := fun σ H Q => te σ H fun x H1 => aBg K [x, v] H1 Q
theorem wV {X : Cx} {e c : Expr} {te : TE} {v : V} {p pos : Pos} (hg : Gl X "isinstance") (hm : X.mg "isinstance" = none) (he : PE X e te) (hc : PE X c (tC v)) (h1 : starEach [e, c] X.env = (false, eval e X.env) :: starEach [c] X.env := by rfl)
  (h2 : (backTo pos (starEach [c] X.env)).any (·.1) = false := by rfl) (h3 : starEach [c] X.env = (false, eval c X.env) :: starEach [] X.env := by rfl) : PE X (.Call (.Name "isinstance" p) [e, c] [] pos) (aFk X.K te v) := fun pins s σ H Q I h =>
 pW uM hg hm (by decide +kernel) (j5 he (j5 hc pA h3) h1) (by decide) (by decide) h1 h2 pins s σ H Q I h
theorem Fun.okX {P : Program} {w : World} {K : PySem.W.Frag} {mg : Str -> Option Value} {base : Heap} {x qual : Str} {st : Stmt} {f : Addr} {fd : FuncData} {N ps : List Str} {k : Nat} {sp : Sp} (F : Fun K x qual st f fd) (S : bF N ps (aI st)) (len : ∀ vs H Q E, sp vs H Q E -> vs.length = ps.length)
  (hbody : ∀ (cdv : Value) (A : Around) (outer : List Env) (s : Shared) (H : Hp) (vs : List V) (Q : VK) (E : XK), Room k (A.deeper (envOfC qual (aI st) s.heap.objs.size f cdv)) -> sp vs H Q E ->
   ∃ t, PSs (jM (CXr P w) P w K mg base N qual (aI st) f cdv A outer s H E) (dD st) t /\ t { nx := fun _ H' => Q .non H', rt := Q } (start N vs) H) : FnOk P w K mg base (CXr P w) (k + 1) f fd ps sp := by
 obtain ⟨oc, od, kV, doc, pm, an, cdv, ct, osl, rfl, lk, hcd⟩ := F.ex
 exact aC7 lk hcd S len fun A outer s H vs Q E hr hsp => hbody cdv A outer s H vs Q E hr hsp
theorem Same.upd {H H' : Hp} {p : Addr} (h : Same H H') (hp : H' p = none) (o : HO) : Same H (upd H' p o) := fun b u q => by
 have := h b u q
 rw [bU (cW this hp)]
 exact this
end L2
namespace FR
theorem o4 {a b : Int} (ha : 0 <= a) (hb : 0 <= b) : Int.gcd b (a % b) = Int.gcd a b := by
 obtain ⟨m, rfl⟩ := Int.eq_ofNat_of_zero_le ha
 obtain ⟨n, rfl⟩ := Int.eq_ofNat_of_zero_le hb
 rw [<- Int.natCast_emod, Int.gcd_natCast_natCast, Int.gcd_natCast_natCast, Nat.gcd_comm n, <- Nat.gcd_rec, Nat.gcd_comm]
theorem sX (a b : Int) : Int.gcd (if a < 0 then -a else a) (if b < 0 then -b else b) = Int.gcd a b := by
 split <;> split <;> simp [Int.gcd_neg, Int.neg_gcd]
theorem tU {a : Int} (ha : 0 <= a) : ((Int.gcd a 0 : Nat) : Int) = a := by
 rw [Int.gcd_zero_right]
 omega
def sgn (b : Int) (g : Int) : Int := if b < 0 then -g else g
def mk (t b : Int) : Int × Int := (t.fdiv (sgn b (Int.gcd t b)), b.fdiv (sgn b (Int.gcd t b)))
theorem oA {t b : Int} (hb : b ≠ 0) : 0 < Int.gcd t b := Int.gcd_pos_of_ne_zero_right t hb
theorem parts (t b : Int) (hb : b ≠ 0) : ∃ t' b' : Int, t = (Int.gcd t b : Int) * t' /\ b = (Int.gcd t b : Int) * b' /\ Int.gcd t' b' = 1 := by
 obtain ⟨t', ht⟩ := Int.gcd_dvd_left t b
 obtain ⟨b', hb'⟩ := Int.gcd_dvd_right t b
 refine ⟨t', b', ht, hb', ?_⟩
 have g0 := oA (t := t) hb
 have e : Int.gcd t b = Int.gcd t b * Int.gcd t' b' := by
  have h : Int.gcd ((Int.gcd t b : Int) * t') ((Int.gcd t b : Int) * b') = (Int.gcd t b : Int).natAbs * Int.gcd t' b' := Int.gcd_mul_left ..
  rw [<- ht, <- hb'] at h
  simpa using h
 have e2 : Int.gcd t b * 1 = Int.gcd t b * Int.gcd t' b' := by omega
 exact (Nat.eq_of_mul_eq_mul_left g0 e2).symm
theorem uZ {t b g t' b' : Int} (g0 : 0 < g) (ht : t = g * t') (hb : b = g * b') : (t.fdiv (sgn b g) = (if b < 0 then -t' else t')) /\ (b.fdiv (sgn b g) = if b < 0 then -b' else b') := by
 unfold sgn
 by_cases h : b < 0
 ·rw [if_pos h, if_pos h, if_pos h]
  have e1 : t = (-g) * (-t') := by rw [ht, Int.neg_mul_neg]
  have e2 : b = (-g) * (-b') := by rw [hb, Int.neg_mul_neg]
  constructor
  ·conv => lhs; rw [e1]
   exact Int.mul_fdiv_cancel_left _ (by omega)
  ·conv => lhs; rw [e2]
   exact Int.mul_fdiv_cancel_left _ (by omega)
 ·rw [if_neg h, if_neg h, if_neg h]
  constructor
  ·conv => lhs; rw [ht]
   exact Int.mul_fdiv_cancel_left _ (by omega)
  ·conv => lhs; rw [hb]
   exact Int.mul_fdiv_cancel_left _ (by omega)
structure Fr (f : Int × Int) : Prop where
 pos : 1 <= f.2
 low : Int.gcd f.1 f.2 = 1
theorem aEg {t b : Int} (hb : b ≠ 0) : Fr (mk t b) /\ (mk t b).1 * b = t * (mk t b).2 := by
 obtain ⟨t', b', e1, e2, e3⟩ := parts t b hb
 have g0 : (0 : Int) < (Int.gcd t b : Int) := by have := oA (t := t) hb; omega
 obtain ⟨p1, p2⟩ := uZ g0 e1 e2
 have q1 : (mk t b).1 = if b < 0 then -t' else t' := p1
 have q2 : (mk t b).2 = if b < 0 then -b' else b' := p2
 have hs : b < 0 ↔ b' < 0 := by
  constructor
  ·intro h
   rcases Int.lt_or_le b' 0 with z | z
   ·exact z
   ·have := Int.mul_nonneg (Int.le_of_lt g0) z
    omega
  ·intro h
   have := Int.mul_neg_of_pos_of_neg g0 h
   omega
 have hb' : b' ≠ 0 := by
  rintro rfl
  rw [Int.mul_zero] at e2
  exact hb e2
 refine ⟨⟨?_, ?_⟩, ?_⟩
 ·rw [q2]
  split
  ·rename_i h
   have := hs.mp h
   omega
  ·rename_i h
   have : ¬ b' < 0 := fun z => h (hs.mpr z)
   omega
 ·rw [q1, q2]
  split
  ·rw [Int.gcd_neg, Int.neg_gcd, e3]
  ·exact e3
 ·rw [q1, q2]
  generalize hg : (Int.gcd t b : Int) = g at *
  rw [e1, e2]
  split
  ·rw [Int.neg_mul, Int.mul_neg, Int.mul_left_comm, Int.mul_assoc]
  ·rw [Int.mul_left_comm, Int.mul_assoc]
end FR
namespace L2
open PySem PySem.Spec PyProof.Rows
theorem rU {h h' : Heap} {o : Obj} (hk : ∀ b x, b ∉ [h.objs.size] -> (h.push o).get? b = some x -> h'.get? b = some x) : ∀ b x, h.get? b = some x -> h'.get? b = some x := fun b x e =>
 hk b x (fun m => Nat.lt_irrefl _ (List.mem_singleton.mp m ▸ Heap.lt_size e)) (Heap.get?_push_of_some _ e)
section
variable {X : Cx}
theorem qP : ∀ {bs : List Bool} {us : List Value}, Vals (bs.map V.bl) us -> us = bs.map Value.bool
 | [], _, .nil => rfl
 | _ :: _, _, .cons r t => by
  have e : _ = Value.bool _ := r
  rw [e, qP t]; rfl
end
open PySem.W (Dat kqdP kqdPs kqdOk kqd_lay kqd_eqv)
mutual
inductive HasD (H : Hp) : V -> Dat -> Prop
 | int (i : Int) : HasD H (.int i) (.int i)
 | tup {a : Addr} {xs : List V} {ds : List Dat} : H a = some (.tup xs) -> HasDs H xs ds -> HasD H (.ref a) (.tuple ds)
 | lst {a : Addr} {xs : List V} {ds : List Dat} : H a = some (.lst xs) -> HasDs H xs ds -> HasD H (.ref a) (.list ds)
inductive HasDs (H : Hp) : List V -> List Dat -> Prop
 | nil : HasDs H [] []
 | cons {x : V} {xs : List V} {d : Dat} {ds : List Dat} : HasD H x d -> HasDs H xs ds -> HasDs H (x :: xs) (d :: ds)
end
mutual
theorem HasD.keep {H H' : Hp} (k : ∀ a o, H a = some o -> H' a = some o) : ∀ {v : V} {d : Dat}, HasD H v d -> HasD H' v d
 | _, _, .int i => .int i
 | _, _, .tup h r => .tup (k _ _ h) (HasDs.keep k r)
 | _, _, .lst h r => .lst (k _ _ h) (HasDs.keep k r)
theorem HasDs.keep {H H' : Hp} (k : ∀ a o, H a = some o -> H' a = some o) : ∀ {v : List V} {d : List Dat}, HasDs H v d -> HasDs H' v d
 | _, _, .nil => .nil
 | _, _, .cons h r => .cons (HasD.keep k h) (HasDs.keep k r)
end
mutual
theorem HasD.reads {P : Program} {w : World} {H : Hp} {h : Heap} (ok : HOk P w H h) : ∀ {v : V} {d : Dat}, HasD H v d -> ∀ {u : Value}, RelV v u -> ∃ as, Reads h u (kqdP d) as
 | _, _, .int i, _, ⟨t, e⟩ => by subst e; exact ⟨_, Reads.int i t⟩
 | _, _, .tup hh r, _, e => by
  have e : _ = Value.ref _ := e
  subst e
  obtain ⟨_, its, rv, o, ho, hc, n, hd⟩ := (show ObjOk P w H h _ _ from ok _ _ hh)
  obtain ⟨as, q⟩ := HasDs.reads ok r rv
  rw [kqdP]
  exact ⟨as, reads_tuple_at ho hc hd (by simpa using q)⟩
 | _, _, .lst hh r, _, e => by
  have e : _ = Value.ref _ := e
  subst e
  obtain ⟨_, its, n, rv, ho⟩ := (show ObjOk P w H h _ _ from ok _ _ hh)
  obtain ⟨as, q⟩ := HasDs.reads ok r rv
  rw [kqdP]
  exact ⟨_, reads_list_at ho rfl rfl (by simpa using q)⟩
theorem HasDs.reads {P : Program} {w : World} {H : Hp} {h : Heap} (ok : HOk P w H h) : ∀ {vs : List V} {ds : List Dat}, HasDs H vs ds -> ∀ {us : List Value}, Vals vs us -> ∃ as, ReadsAll h us (kqdPs ds) as
 | _, _, .nil, _, .nil => ⟨_, ReadsAll.nil⟩
 | _, _, .cons hd r, _, .cons rv rt => by
  obtain ⟨as, q⟩ := HasD.reads ok hd rv
  obtain ⟨bs, p⟩ := HasDs.reads ok r rt
  rw [kqdPs]
  exact ⟨_, ReadsAll.cons q p⟩
end
section
variable {X : Cx}
end
section
variable {prog : Program} {w : World} {A : Around} {E : Value -> Shared -> Prop} {s : Shared} {d it : Addr} {es : Array DictEntry} {ep i : Nat}
end
section
variable {prog : Program} {w : World} {A : Around} {R : Result -> Shared -> Prop} {s : Shared}
abbrev rQ (ifs : List Expr) (env : Env) : Sem Bool := forIn ifs true fun c r => if r = true then do let ok <- isTrue c env (eval c env); pure (ForInStep.yield ok) else pure (ForInStep.yield r)
theorem tR {elt target iter : Expr} {ifs : List Expr} {scope : Scope} {pos : Pos} {it acc : Value} {env : Env} (I : Nat -> Shared -> Prop)
  (turn : ∀ n s, I n s -> wpAny (model prog w) A (pyNext it) (fun r s₁ => match r with
   | none => R (.ok .next) s₁
   | some v => wpAny (model prog w) A (letOwnedTupleGo target it v) (fun _ s₀ => wpAny (model prog w) A (assign target env v) (fun _ s₂ =>
     wpAny (model prog w) A (rQ ifs env) (fun ok s₃ =>
      if ok = true then wpAny (model prog w) A (eval elt env) (fun x s₄ =>
       wpAny (model prog w) A (call (.builtin "list.append") [acc, x]) (fun _ s₅ => ∃ m, m < n /\ I m s₅) (fun _ _ => False) s₄) (fun _ _ => False) s₃
      else ∃ m, m < n /\ I m s₃) (fun _ _ => False) s₂) (fun _ _ => False) s₀) (fun _ _ => False) s₁) (fun _ _ => False) s)
  (n : Nat) (h : I n s) : codeAny (model prog w) A (.compLoop (.ListComp elt [⟨target, iter, ifs, 0⟩] scope pos) 0 it acc env) R s := by
 refine codeAny_loop rfl I (fun n s hI => ?_) n h
 show wpAny _ A ((compTurn (.ListComp elt [⟨target, iter, ifs, 0⟩] scope pos) 0 it acc env).onRaise (fun x => do noteFrame x env; theTreesLotGoes x)) _ _ s
 refine wpAny_noted ?_
 rw [compTurn_list]
 refine wpAny_bind (wpAny_standAt (wpAny_bind (wpAny_mono (turn n s hI) (fun r s₁ h₁ => ?_) fun _ _ z => z.elim)))
 cases r with
 | none => exact wpAny_pure h₁
 | some v =>
  refine wpAny_bind (wpAny_mono h₁ (fun _ s₀ h₀ => ?_) fun _ _ z => z.elim)
  refine wpAny_bind (wpAny_mono h₀ (fun _ s₂ h₂ => wpAny_bind (wpAny_mono h₂ (fun ok s₃ h₃ => ?_) fun _ _ z => z.elim)) fun _ _ z => z.elim)
  cases ok with
  | false => exact wpAny_pure ⟨rfl, h₃⟩
  | true =>
   exact wpAny_bind (wpAny_bind (wpAny_mono h₃ (fun x s₄ h₄ => wpAny_bind (wpAny_mono h₄ (fun _ s₅ h₅ => wpAny_pure (wpAny_pure ⟨rfl, h₅⟩)) fun _ _ z => z.elim)) fun _ _ z => z.elim))
end
def PTs (X : Cx) (ifs : List Expr) (t : TT) : Prop :=
 ∀ (pins : List (Addr × Obj)) (s : Shared) (σ : St) (H : Hp) (Q : Bool -> Hp -> Prop), Inv X pins σ H s -> t σ H Q -> wpAny (model X.prog X.w) X.A (rQ ifs X.env) (TP X pins σ Q) X.xe s
def aFc : TT := fun _ H Q => Q true H
theorem zD {X : Cx} : PTs X [] aFc := fun _ _ _ H _ I h => wpAny_tests_nil ⟨H, I, h⟩
def rJ (wi : TI) (g : TG) (tt : TT) (te : TE) (n : Nat) (js : List Nat) : TE := fun σ H Q => wi σ H fun J H1 => ∀ D, H1 D = none -> ∃ (N : Nat) (W : Nat -> List V -> Hp -> Prop), W 0 [] (upd H1 D (.lst [])) /\ ∀ i ys H2, W i ys H2 ->
 (J.stop i H2 /\ Q (.ref D) H2) \/ (i < N /\ J.go i H2 /\ ∀ v H3, J.yld i H2 v H3 -> g v (List.replicate n none ++ pM js σ) H3 fun σ2 H4 => (σ2.length = n + js.length /\ σ2.drop n = pM js σ) /\ tt σ2 H4 fun b H5 =>
  if b = true then te σ2 H5 fun y H6 => H6 D = some (.lst ys) /\ ys.length < sizeLine /\ W (i + 1) (ys ++ [y]) (upd H6 D (.lst (ys ++ [y]))) else W (i + 1) ys H5)
section
variable {X : Cx}
theorem Inv.but {pins : List (Addr × Obj)} {σ : St} {H : Hp} {s : Shared} {C : Addr} {h' : Heap} (I : Inv X pins σ H s) (f : vZ X pins H C) (hs : Heap.SameBut C s.heap h') : Inv X pins σ H { s with heap := h' } := by
 have ne : ∀ b, b ∉ [C] -> b ≠ C := fun b hb z => hb (by rw [z]; exact .head _)
 refine I.call' (s' := { s with heap := h' }) (ch := [C]) rfl ⟨fun b o e n hb hx => (hs.2 b (ne b hx)).trans e, fun b o e n hb hx => ⟨o.slots, (hs.2 b (ne b hx)).trans e⟩, fun b o e n hx => n, fun b o e hx => ⟨o, (hs.2 b (ne b hx)).trans e⟩, fun b xs e => e, fun b o u e => e, fun b ps e => ⟨#[], by rw [Array.append_empty]; exact e⟩⟩ (jQ I.hok fun b o nn e => (hs.2 b (fun z => nn (by rw [z]; exact f.1))).trans e) I.bare fun b hb => ?_
 rw [List.mem_singleton.mp hb]
 exact ⟨f.2.2.2.1, f.2.1, f.2.2.2.2.1, f.2.2.2.2.2⟩
set_option maxHeartbeats 8000000 in
theorem rX {elt iter tg : Expr} {pos : Pos} {scope : Scope} {ifs : List Expr} {wi : TI} {g : TG} {tt : TT} {te : TE} {xs ys : List Str} {js : List Nat} {cl : List (Str × Addr)} (hc : X.calm = true) (hi : PI X tg iter wi)
  (hcl : aBb X scope cl) (hcap : nN X scope cl ys js) (hcell : ∀ y ∈ scope.names, y.2 ≠ .cell) (hkind : scope.kind = .function) (hnames : ∀ y ∈ scope.names, y.2 = .local -> scope.names.lookup y.1 = some .local)
  (hg : ∀ C s₀ H₀ ex pn, PG (cQ X scope cl C (xs ++ ys) s₀ H₀ ex pn) tg g) (ht : ∀ C s₀ H₀ ex pn, PTs (cQ X scope cl C (xs ++ ys) s₀ H₀ ex pn) ifs tt) (hb : ∀ C s₀ H₀ ex pn, PE (cQ X scope cl C (xs ++ ys) s₀ H₀ ex pn) elt te)
  (hs : ∀ x, foldedSetIterable iter X.env x = pure x) {use : Option (Value -> Sem Unit)} {QQ : Value -> Shared -> Prop} {Q : VK} {pins : List (Addr × Obj)} {s : Shared} {σ : St} {H : Hp} {cp : Pos} (I : Inv X pins σ H s)
  (aDd : ∀ (C D : Addr) (s' : Shared) (H' : Hp), Inv X pins σ H' s' -> vZ X pins H' C -> (∃ m, s'.heap.Ns C m) -> Q (.ref D) H' -> compPost (model X.prog X.w) X.A X.xe use QQ (.ref D) C (.ok .next) s')
  (h : rJ wi g tt te xs.length js σ H Q) :
  wpAny (model X.prog X.w) X.A (comprehension (.ListComp elt [⟨tg, iter, ifs, 0⟩] scope pos) scope X.env cp (newList []) false (eval iter X.env) use) QQ X.xe s := by
 refine wpAny_comprehension_free rfl hs hcl.clos hkind hnames (thn (hi pins s σ H _ I h) fun v s1 h1 => thn h1 fun itv s2 h2 => ?_)
 obtain ⟨it, fp, tn, J, H2, e, I2, T, st2, f2, q2⟩ := h2
 subst e
 obtain ⟨n, W, w0, turn⟩ := q2 s2.heap.objs.size I2.fresh
 refine wpAny_newObj_type (wpAny_newFunctionEnv hcell (by intro y hy; simp at hy) (fun h₁ hns₁ hsb₁ => ?_) hkind)
 dsimp only at hns₁ hsb₁ ⊢
 have I3 := I2.lnew (ys := []) (its := []) (t' := s2.toks) .nil (Nat.zero_le _)
 generalize hg3 : s2.heap.push { cls := .type "list", dict := none, data := .seq ([] : List Value).toArray } = g3 at hns₁ hsb₁ I3 ⊢
 have sz3 : g3.objs.size = s2.heap.objs.size + 1 := by rw [<- hg3, Heap.size_push]
 generalize hC : g3.objs.size = C at hns₁ hsb₁ ⊢
 have old3 : ∀ b o, g3.get? b = some o -> h₁.get? b = some o := fun b o q => hsb₁.extBut b o (by rw [<- hC]; exact Nat.ne_of_lt (Heap.lt_size q)) (Heap.get?_push_of_some _ q)
 have old2 : ∀ b o, s2.heap.get? b = some o -> g3.get? b = some o := fun b o q => by rw [<- hg3]; exact Heap.get?_push_of_some _ q
 have fpl : ∀ b ∈ fp, ∃ o, s2.heap.get? b = some o /\ ∀ v, o.data ≠ .cell v := T.obj _ _ st2
 have fplt : ∀ b ∈ fp, b < s2.heap.objs.size := fun b hb => let ⟨o, q, _⟩ := fpl b hb; Heap.lt_size q
 have H3n : ∀ b, b ≠ s2.heap.objs.size -> upd H2 s2.heap.objs.size (.lst []) b = H2 b := fun b hb => bU hb
 have fp3 : ∀ b ∈ fp, upd H2 s2.heap.objs.size (.lst []) b = none := fun b hb => by rw [H3n b (Nat.ne_of_lt (fplt b hb))]; exact (f2 b hb).1
 have okX := I3.ok
 have inj : ∀ y z c, cl.lookup y = some c -> cl.lookup z = some c -> y = z := fun y z c h1 h2 => okX.inj y z c (hcl.sub y c h1) (hcl.sub z c h2)
 have cellE : ∀ y c, cl.lookup y = some c -> ∃ v, g3.IsCell c v := fun y c q => I3.cell y c (hcl.sub y c q)
 have st3 : g3.FunFrames X.base X.stack := I3.stack
 have exlt : ∀ b ∈ fp, b ≠ C := fun b hb => by rw [<- hC, sz3]; exact Nat.ne_of_lt (Nat.lt_succ_of_lt (fplt b hb))
 have frlt : ∀ b ∈ frs X.stack, b < g3.objs.size := fun b hb => let ⟨_, o, q, _⟩ := st3.mem hb; Heap.lt_size q
 have okB : (cQ X scope cl C (xs ++ ys) { s2 with heap := g3 } (upd H2 s2.heap.objs.size (.lst [])) fp (X.pn ++ pins)).Ok := by
  refine ⟨okX.mod, hkind, okX.glob, okX.blt, Nat.le_of_eq hC, inj, fun y hy => hcl.has y hy, (fun y c hf _ => nomatch hf), okX.hd, okX.frames, .inl rfl, fun b hb => ⟨exlt b hb, fun y c q z => ?_⟩, I3.bs, Nat.le_trans okX.bsz I3.sz, fun b o q hb => ?_, fun b hb => ?_, st3, I3.stkFree, I3.tab⟩
  ·subst z
   exact (f2 c hb).2.2.2.2.1 y c (hcl.sub y c q) rfl
  ·rcases (f2 b hb).2.2.2.1 with z | z
   ·exact okX.noex b o q z
   ·have := Heap.lt_size (okX.bs b o q).1
    exact absurd (Nat.lt_of_lt_of_le this z) (Nat.lt_irrefl _)
  ·intro hz
   rcases List.mem_cons.mp (I3.stkSub b hz) with z | z
   ·exact (f2 b hb).2.1 z
   ·exact (f2 b hb).2.2.1 z
 have tot : ∀ tk : Nat, Inv (cQ X scope cl C (xs ++ ys) { s2 with heap := g3 } (upd H2 s2.heap.objs.size (.lst [])) fp (X.pn ++ pins)) [] (List.replicate xs.length none ++ pM js σ) (upd H2 s2.heap.objs.size (.lst [])) { s2 with heap := h₁, toks := tk } := fun tk => by
  refine ⟨okB, rfl, I3.bare, Un.kept old3, ⟨_, hns₁, fun i y v' e1 e2 e3 => ?_⟩, fun y c q => ?_, I3.hok.fresh (Nat.le_of_eq hC), fun y c q => ?_, fun p hp => ?_, I3.hok.kept old3, ?_⟩
  ·by_cases hix : i < xs.length
   ·rw [List.getElem?_append_left (by rw [List.length_replicate]; exact hix), List.getElem?_replicate] at e2
    split at e2 <;> cases e2
   ·have hix' : xs.length <= i := by omega
    obtain ⟨k, rfl⟩ : ∃ k, i = xs.length + k := ⟨i - xs.length, by omega⟩
    have e1' : ys[k]? = some y := by
     rw [List.getElem?_append_right (by omega)] at e1
     simpa using e1
    have e2' : (pM js σ)[k]? = some (some v') := by
     rw [List.getElem?_append_right (by rw [List.length_replicate]; omega), List.length_replicate] at e2
     simpa using e2
    unfold pM at e2'
    rw [List.getElem?_map] at e2'
    cases ej : js[k]? with
    | none => rw [ej] at e2'; cases e2'
    | some j =>
     rw [ej] at e2'
     have e2'' : (σ[j]?).getD none = some v' := Option.some.inj e2'
     have eσ : σ[j]? = some (some v') := by
      cases es : σ[j]? with
      | none => rw [es] at e2''; cases e2''
      | some z => rw [es] at e2''; have : z = some v' := e2''; rw [this]
     obtain ⟨c1, c2, c3, c4, c5⟩ := hcap.at_ k y j e1' ej
     obtain ⟨m0, hn0, hl0⟩ := I3.loc
     obtain ⟨u, r, l⟩ := hl0 j y v' c1 eσ (c2.elim (fun z => .inr (.inl z)) fun z => .inr (.inr z))
     refine ⟨u, r, .inr ⟨c3, ?_⟩⟩
     rcases l with ⟨l, _⟩ | ⟨_, c, hcc, z⟩
     ·rcases c2 with c2 | c2
      ·rw [c2] at l; cases l
      ·rw [c2] at l; cases l
     ·obtain ⟨o, ho, hd⟩ := z
      exact ⟨c, c5.trans hcc, o, old3 c o ho, hd⟩
  ·obtain ⟨v0, o, ho, hd⟩ := cellE y c q
   exact ⟨v0, o, old3 c o ho, hd⟩
  ·exact I3.freeC y c (hcl.sub y c q)
  ·have hp' : p ∈ X.pn ++ pins := by simpa using hp
   obtain ⟨p1, p2, p3, p4, p5⟩ := I3.pin p hp'
   refine ⟨old3 _ _ p1, p2, ?_, fun hz => ?_, p5⟩
   ·show p.1 ≠ C
    rw [<- hC]
    exact Nat.ne_of_lt (Heap.lt_size p1)
   ·rcases List.mem_cons.mp (I3.stkSub p.1 hz) with z | z
    ·exact p3 z
    ·exact p4 z
  ·show (List.replicate xs.length none ++ pM js σ).length = (xs ++ ys).length
   unfold pM
   simp [hcap.len]
 have fpB : ∀ {H' : Hp}, (∀ b ∈ fp, H' b = none) -> ∀ b ∈ fp, vZ (cQ X scope cl C (xs ++ ys) { s2 with heap := g3 } (upd H2 s2.heap.objs.size (.lst [])) fp (X.pn ++ pins)) [] H' b := fun hn b hb =>
  ⟨hn b hb, exlt b hb, okB.exfs b hb, .inl hb, (okB.exf b hb).2, fun p hp => (f2 b hb).2.2.2.2.2 p (by simpa using hp)⟩
 have fin : ∀ s' : Shared, (∃ i zs σ' H', Inv (cQ X scope cl C (xs ++ ys) { s2 with heap := g3 } (upd H2 s2.heap.objs.size (.lst [])) fp (X.pn ++ pins)) [] σ' H' s' /\ W i zs H' /\ J.stop i H' /\ Q (.ref s2.heap.objs.size) H') ->
   compPost (model X.prog X.w) X.A X.xe use QQ (.ref s2.heap.objs.size) C (.ok .next) s' := by
  rintro s' ⟨i, zs, σ', H', Ib, w, stop, q⟩
  obtain ⟨m', hn', _⟩ := Ib.loc
  have ub := Ib.base
  have un : Un (frs X.stack) fp (upd H2 s2.heap.objs.size (.lst [])) H' g3 s'.heap := ub
  have IX : Inv X pins σ H' s' := I3.call' (s' := s') (ch := fp) Ib.os un Ib.hok Ib.bare fun b hb => ⟨(f2 b hb).2.2.2.1, (f2 b hb).2.1, (f2 b hb).2.2.2.2.1, (f2 b hb).2.2.2.2.2⟩
  exact aDd C _ s' H' IX (I3.fpOk (Nat.le_of_eq hC) Ib.free) ⟨m', hn'⟩ q
 have loop : ∀ s₃ : Shared, (∃ tk, s₃ = { s2 with heap := h₁, toks := tk }) ->
   codeAny (model X.prog X.w) X.A (.compLoop (.ListComp elt [⟨tg, iter, ifs, 0⟩] scope pos) 0 (.ref it) (.ref s2.heap.objs.size) (compEnvC scope cl C X.env)) (compPost (model X.prog X.w) X.A X.xe use QQ (.ref s2.heap.objs.size) C) s₃ := by
  rintro s₃ ⟨tk, rfl⟩
  refine tR (fun k s' => ∃ i zs H', k = n + 1 - i /\ i <= n /\ Inv (cQ X scope cl C (xs ++ ys) { s2 with heap := g3 } (upd H2 s2.heap.objs.size (.lst [])) fp (X.pn ++ pins)) [] (List.replicate xs.length none ++ pM js σ) H' s' /\ tn i s'.heap /\ (∀ b ∈ fp, H' b = none) /\ W i zs H')
   ?_ (n + 1) ⟨0, [], _, rfl, Nat.zero_le _, tot tk, T.keep _ _ _ st2 fun b hb o q => old3 b o (old2 b o q), fp3, w0⟩
  rintro k s' ⟨i, zs, H', rfl, hin, Ib, st, fr, w⟩
  rcases turn i zs H' w with ⟨stop, qq⟩ | ⟨hlt, go, step⟩
  ·refine wpAny_mono (T.done (cQ X scope cl C (xs ++ ys) { s2 with heap := g3 } (upd H2 s2.heap.objs.size (.lst [])) fp (X.pn ++ pins)) rfl rfl rfl hc i [] s' _ H' (fun _ _ => False) Ib (fpB fr) st stop) (fun r s4 ⟨hr, I4⟩ => ?_) fun _ _ z => z.elim
   subst hr
   exact fin s4 ⟨i, zs, _, H', I4, w, stop, qq⟩
  ·refine wpAny_mono (T.item (cQ X scope cl C (xs ++ ys) { s2 with heap := g3 } (upd H2 s2.heap.objs.size (.lst [])) fp (X.pn ++ pins)) rfl rfl rfl hc i [] s' _ H' (fun _ _ => False) Ib (fpB fr) st go) (fun r s4 ⟨u, hr, h4⟩ => ?_) fun _ _ z => z.elim
   subst hr
   refine wpAny_mono h4 (fun _ s5 ⟨v5, H5, I5, r5, y5, st5, fr5⟩ => ?_) fun _ _ z => z.elim
   have I5' := I5.pinned (fpB fr5) (T.obj _ _ st5)
   have hw5 := step v5 H5 y5
   refine wpAny_mono (hg C _ _ fp (X.pn ++ pins) _ s5 _ H5 v5 u _ I5' r5 hw5) (fun _ s6 ⟨σ6, H6, I6, ⟨hl6, hd6⟩, e6⟩ => ?_) fun _ _ z => z.elim
   have back : ∀ {H' : Hp} {s' : Shared} {pins' : List (Addr × Obj)}, Inv (cQ X scope cl C (xs ++ ys) { s2 with heap := g3 } (upd H2 s2.heap.objs.size (.lst [])) fp (X.pn ++ pins)) pins' σ6 H' s' -> Inv (cQ X scope cl C (xs ++ ys) { s2 with heap := g3 } (upd H2 s2.heap.objs.size (.lst [])) fp (X.pn ++ pins)) pins' (List.replicate xs.length none ++ pM js σ) H' s' := fun I' => by
    refine I'.weak ?_ fun j v' e => ?_
    ·rw [hl6]; unfold pM; simp
    ·by_cases hj : j < xs.length
     ·rw [List.getElem?_append_left (by rw [List.length_replicate]; exact hj), List.getElem?_replicate] at e
      split at e <;> cases e
     ·rw [List.getElem?_append_right (by rw [List.length_replicate]; omega), List.length_replicate, <- hd6, List.getElem?_drop] at e
      rw [<- e]
      congr 1
      omega
   refine wpAny_mono (ht C _ _ fp (X.pn ++ pins) _ s6 _ _ _ I6 e6) (fun ok s6b ⟨H6b, I6b, e6b⟩ => ?_) fun _ _ z => z.elim
   cases ok with
   | false =>
    rw [if_neg Bool.false_ne_true]
    have e6c : W (i + 1) zs H6b := by simpa using e6b
    have I8 := back I6b
    refine ⟨n + 1 - (i + 1), by omega, i + 1, zs, _, rfl, hlt, I8.unpinned (pins := []), ?_, fun b hb => ?_, e6c⟩
    ·exact T.keep _ _ _ st5 fun b hb o q => (I8.pin (b, o) (List.mem_append_right _ (List.mem_append_right _ (e9 hb q)))).1
    ·obtain ⟨o, q, d⟩ := T.obj _ _ st5 b hb
     exact (I8.pin (b, o) (List.mem_append_right _ (List.mem_append_right _ (e9 hb q)))).2.1
   | true =>
    rw [if_pos rfl]
    have e6c := e6b
    rw [if_pos rfl] at e6c
    refine wpAny_mono (hb C _ _ fp (X.pn ++ pins) _ s6b _ _ _ I6b e6c) (fun y s7 ⟨yv, H7, I7, r7, hD, hz, w7⟩ => ?_) fun _ _ z => z.elim
    obtain ⟨z7, its, n7, rv7, hl7, e7⟩ := I7.lstM hD
    refine append_at (n := n7) (its := its.toArray) e7 (fun h₈ sb8 eD8 => ?_) (by rw [List.size_toArray, <- hl7]; exact Nat.le_of_lt hz)
    have I8 : Inv _ _ _ (upd H7 s2.heap.objs.size (.lst (zs ++ [yv]))) { s7 with heap := h₈, toks := s7.toks } := I7.write (x := s2.heap.objs.size) (e := s2.heap.objs.size) (by rw [hD]; exact trivial) (.inl rfl) (fun b u hb q => (sb8.2 b hb).trans q) ⟨_, eD8⟩
     ⟨by rw [List.length_append]; exact hz, its ++ [y], n7 + 1, rv7.append (.cons r7 .nil), by rw [eD8, List.push_toArray]⟩
    have I9 := back I8
    refine ⟨n + 1 - (i + 1), by omega, i + 1, zs ++ [yv], _, rfl, hlt, I9.unpinned (pins := []), ?_, fun b hb => ?_, w7⟩
    ·exact T.keep _ _ _ st5 fun b hb o q => (I8.pin (b, o) (List.mem_append_right _ (List.mem_append_right _ (e9 hb q)))).1
    ·obtain ⟨o, q, d⟩ := T.obj _ _ st5 b hb
     exact (I8.pin (b, o) (List.mem_append_right _ (List.mem_append_right _ (e9 hb q)))).2.1
 exact codeAny_compStart_list (loop _ ⟨_, rfl⟩) (T.self _ 0 _ _ _ (T.keep _ _ _ st2 fun b hb o q => old3 b o (old2 b o q)) (loop _ ⟨_, rfl⟩))
theorem uQ {elt iter tg : Expr} {pos : Pos} {scope : Scope} {ifs : List Expr} {wi : TI} {g : TG} {tt : TT} {te : TE} {xs ys : List Str} {js : List Nat} {cl : List (Str × Addr)} (hc : X.calm = true) (hi : PI X tg iter wi)
  (hcl : aBb X scope cl) (hcap : nN X scope cl ys js) (hcell : ∀ y ∈ scope.names, y.2 ≠ .cell) (hkind : scope.kind = .function) (hnames : ∀ y ∈ scope.names, y.2 = .local -> scope.names.lookup y.1 = some .local)
  (hg : ∀ C s₀ H₀ ex pn, PG (cQ X scope cl C (xs ++ ys) s₀ H₀ ex pn) tg g) (ht : ∀ C s₀ H₀ ex pn, PTs (cQ X scope cl C (xs ++ ys) s₀ H₀ ex pn) ifs tt) (hb : ∀ C s₀ H₀ ex pn, PE (cQ X scope cl C (xs ++ ys) s₀ H₀ ex pn) elt te)
  (hs : ∀ x, foldedSetIterable iter X.env x = pure x := by intro _; rfl) :
  PE X (.ListComp elt [⟨tg, iter, ifs, 0⟩] scope pos) (rJ wi g tt te xs.length js) := by
 intro pins s σ H Q I h
 rw [eval_ListComp]
 exact rX hc hi hcl hcap hcell hkind hnames hg ht hb hs (use := none) (QQ := EP X pins σ Q) (Q := Q) I (fun C D s' H' IX f ⟨m, hn⟩ q => ⟨m, hn, fun h' hs' => ⟨.ref D, H', IX.but f hs', rfl, q⟩⟩) h
end
end L2
namespace M
open PySem PySem.Spec PyProof.Rows L2
abbrev D := PyData
inductive Res (α : Type) where
 | ok (a : α)
 | exc (C : Addr)
 | bad
def Res.bind {α β : Type} (r : Res α) (f : α -> Res β) : Res β := match r with
 | .ok a => f a
 | .exc C => .exc C
 | .bad => .bad
def wpR {α : Type} (r : Res α) (Q : α -> Prop) (E : Addr -> Prop) : Prop := match r with
 | .ok a => Q a
 | .exc C => E C
 | .bad => False
theorem bO {α β : Type} {r : Res α} {f : α -> Res β} {Q : β -> Prop} {E : Addr -> Prop} : wpR (r.bind f) Q E = wpR r (fun a => wpR (f a) Q E) E := by cases r <;> rfl
theorem a6 {α : Type} {r : Res α} {Q Q' : α -> Prop} {E E' : Addr -> Prop} (h : wpR r Q E) (hQ : ∀ a, Q a -> Q' a) (hE : ∀ C, E C -> E' C) : wpR r Q' E' := by
 cases r with
 | ok a => exact hQ a h
 | exc C => exact hE C h
 | bad => exact h
inductive L where
 | p (d : D)
 | o (d : D)
 | x (C : Addr)
 | h (a : Addr)
inductive Ev where
 | p (d : D)
 | f (d : D)
 | b (d : D)
 | x (C : Addr)
def Ev.c : Ev -> Ev
 | .f d => .p d
 | r => r
abbrev En := List (Option L)
def kD : Key -> D
 | .inl i => .int i
 | .inr x => .str x
def tkD (ks : List Key) : D := .tuple (ks.map kD)
mutual
inductive Rep (K : PySem.W.Frag) (G : Hp) : V -> D -> Prop
 | non : Rep K G .non .none
 | bl (b : Bool) : Rep K G (.bl b) (.bool b)
 | int (i : Int) : Rep K G (.int i) (.int i)
 | str (x : Str) : Rep K G (.str x) (.str x)
 | tup {a : Addr} {xs : List V} {ds : List D} : G a = some (.tup xs) -> Reps K G xs ds -> Rep K G (.ref a) (.tuple ds)
 | lst {a : Addr} {xs : List V} {ds : List D} : Rd G a (.lst xs) -> Reps K G xs ds -> Rep K G (.ref a) (.list ds)
 | dT {a : Addr} {kv : List (List Key × V)} {kvs : List (D × D)} : G a = some (.dT kv) -> RepT K G kv kvs -> Rep K G (.ref a) (.dict kvs)
 | dK {a : Addr} {kv : List (Key × V)} {kvs : List (D × D)} : G a = some (.dK kv) -> RepK K G kv kvs -> Rep K G (.ref a) (.dict ((.none, .none) :: kvs))
inductive Reps (K : PySem.W.Frag) (G : Hp) : List V -> List D -> Prop
 | nil : Reps K G [] []
 | cons {x : V} {xs : List V} {d : D} {ds : List D} : Rep K G x d -> Reps K G xs ds -> Reps K G (x :: xs) (d :: ds)
inductive RepT (K : PySem.W.Frag) (G : Hp) : List (List Key × V) -> List (D × D) -> Prop
 | nil : RepT K G [] []
 | cons {k : List Key} {x : V} {d : D} {kv : List (List Key × V)} {kvs : List (D × D)} : Rep K G x d -> RepT K G kv kvs -> RepT K G ((k, x) :: kv) ((tkD k, d) :: kvs)
inductive RepK (K : PySem.W.Frag) (G : Hp) : List (Key × V) -> List (D × D) -> Prop
 | nil : RepK K G [] []
 | cons {k : Key} {x : V} {d : D} {kv : List (Key × V)} {kvs : List (D × D)} : Rep K G x d -> RepK K G kv kvs -> RepK K G ((k, x) :: kv) ((kD k, d) :: kvs)
end
inductive Cont (K : PySem.W.Frag) (G : Hp) : HO -> D -> Prop
 | lst {xs : List V} {ds : List D} : Reps K G xs ds -> Cont K G (.lst xs) (.list ds)
 | dT {kv : List (List Key × V)} {kvs : List (D × D)} : RepT K G kv kvs -> Cont K G (.dT kv) (.dict kvs)
 | dK {kv : List (Key × V)} {kvs : List (D × D)} : RepK K G kv kvs -> Cont K G (.dK kv) (.dict ((.none, .none) :: kvs))
section
variable {K : PySem.W.Frag} {G G' H H' : Hp}
theorem kS {a : Addr} {u : HO} (s : Same G G') (h : Rd G a u) : Rd G' a u := by
 rcases h with h | ⟨o, h⟩
 ·exact .inl (s _ _ h)
 ·exact .inr ⟨o, s _ _ h⟩
mutual
theorem Rep.mono (s : Same G G') : ∀ {v : V} {d : D}, Rep K G v d -> Rep K G' v d
 | _, _, .non => .non
 | _, _, .bl b => .bl b
 | _, _, .int i => .int i
 | _, _, .str x => .str x
 | _, _, .tup h r => .tup (s _ _ h) (Reps.mono s r)
 | _, _, .lst h r => .lst (kS s h) (Reps.mono s r)
 | _, _, .dT h r => .dT (s _ _ h) (RepT.mono s r)
 | _, _, .dK h r => .dK (s _ _ h) (RepK.mono s r)
theorem Reps.mono (s : Same G G') : ∀ {v : List V} {d : List D}, Reps K G v d -> Reps K G' v d
 | _, _, .nil => .nil
 | _, _, .cons h r => .cons (Rep.mono s h) (Reps.mono s r)
theorem RepT.mono (s : Same G G') : ∀ {v : List (List Key × V)} {d : List (D × D)}, RepT K G v d -> RepT K G' v d
 | _, _, .nil => .nil
 | _, _, .cons h r => .cons (Rep.mono s h) (RepT.mono s r)
theorem RepK.mono (s : Same G G') : ∀ {v : List (Key × V)} {d : List (D × D)}, RepK K G v d -> RepK K G' v d
 | _, _, .nil => .nil
 | _, _, .cons h r => .cons (Rep.mono s h) (RepK.mono s r)
end
theorem Cont.mono (s : Same G G') {o : HO} {d : D} (h : Cont K G o d) : Cont K G' o d := by
 cases h with
 | lst r => exact .lst (r.mono s)
 | dT r => exact .dT (r.mono s)
 | dK r => exact .dK (r.mono s)
theorem Cont.rep {a : Addr} {o : HO} {d : D} (h : Cont K G o d) (e : G a = some o) : Rep K G (.ref a) d := by
 cases h with
 | lst r => exact .lst (.inl e) r
 | dT r => exact .dT e r
 | dK r => exact .dK e r
theorem Reps.length : ∀ {xs : List V} {ds : List D}, Reps K G xs ds -> xs.length = ds.length
 | _, _, .nil => rfl
 | _, _, .cons _ r => by rw [List.length_cons, List.length_cons, Reps.length r]
theorem Reps.get' : ∀ {xs : List V} {ds : List D} {i : Nat} {d : D}, Reps K G xs ds -> ds[i]? = some d -> ∃ x, xs[i]? = some x /\ Rep K G x d
 | _, _, _, _, .nil, e => by simp at e
 | _, _, 0, _, .cons h _, e => by simp at e; subst e; exact ⟨_, rfl, h⟩
 | _, _, i + 1, _, .cons _ r, e => by
  have := Reps.get' (i := i) r (by simpa using e)
  simpa using this
theorem Reps.append : ∀ {xs ys : List V} {ds es : List D}, Reps K G xs ds -> Reps K G ys es -> Reps K G (xs ++ ys) (ds ++ es)
 | _, _, _, _, .nil, r => r
 | _, _, _, _, .cons h t, r => .cons h (Reps.append t r)
end
structure Step (G H G' H' : Hp) : Prop where
 g : Same G G'
 h : Same H H'
 gh : Same G' H'
 new : ∀ b, H b ≠ none -> G b = none -> G' b = none \/ ∃ xs, H b = some (.tup xs)
theorem Step.off {G H G' H' : Hp} (s : Step G H G' H') {b : Addr} {o : HO} (h : H b = some o) (n : ∀ xs, o ≠ .tup xs) (g : G b = none) : G' b = none := by
 rcases s.new b (by rw [h]; exact fun z => nomatch z) g with z | ⟨xs, z⟩
 ·exact z
 ·rw [h] at z; exact absurd (Option.some.inj z) (n xs)
theorem qU {H H' : Hp} (s : Same H H') {b : Addr} (h : H b ≠ none) : H' b ≠ none := by
 cases e : H b with
 | none => exact absurd e h
 | some o => rw [s b o e]; exact fun z => nomatch z
theorem Step.refl {G H : Hp} (s : Same G H) : Step G H G H := ⟨Same.refl _, Same.refl _, s, fun _ _ h => .inl h⟩
theorem Step.trans {G H G1 H1 G2 H2 : Hp} (a : Step G H G1 H1) (b : Step G1 H1 G2 H2) : Step G H G2 H2 :=
 ⟨a.g.trans b.g, a.h.trans b.h, b.gh, fun c hc hg => by
  rcases a.new c hc hg with z | z
  ·rcases b.new c (qU a.h hc) z with y | ⟨xs, y⟩
   ·exact .inl y
   ·cases e : H c with
    | none => exact absurd e hc
    | some o =>
     rw [a.h _ _ e] at y
     exact .inr ⟨xs, y⟩
  ·exact .inr z⟩
theorem Step.put {G H : Hp} {a : Addr} {o : HO} (s : Same G H) (e : H a = none) : Step G H (upd G a o) (upd H a o) :=
 ⟨Same.upd (Same.refl _) (s.free e) o, Same.upd (Same.refl _) e o, fun b u q => by
  by_cases z : b = a
  ·subst z; rw [cG] at q ⊢; exact q
  ·rw [bU z] at q ⊢; exact s b u q, fun b hb hg => by
  have z : b ≠ a := fun z => hb (z ▸ e)
  rw [bU z]; exact .inl hg⟩
theorem Step.lay {G H : Hp} {a : Addr} {o : HO} (s : Same G H) (e : H a = none) : Step G H G (upd H a o) :=
 ⟨Same.refl _, Same.upd (Same.refl _) e o, Same.upd s e o, fun _ _ h => .inl h⟩
def EOk (K : PySem.W.Frag) (W : Addr -> Option Nat) (Hs G H : Hp) (v : V) : Ev -> Prop
 | .p d => Rep K G v d
 | .f d => ∃ a o, v = .ref a /\ Hs a = none /\ G a = none /\ H a = some o /\ Cont K G o d
 | .b d => ∃ a i o, v = .ref a /\ W a = some i /\ H a = some o /\ Cont K G o d
 | .x C => ∃ e, v = .ref e /\ G e = some (s9 e (.ref C))
theorem EOk.step {K : PySem.W.Frag} {W : Addr -> Option Nat} {Hs Hs' G H G' H' : Hp} {v : V} {r : Ev} (h : EOk K W Hs G H v r.c) (s : Step G H G' H') : EOk K W Hs' G' H' v r.c := by
 cases r with
 | p d => exact Rep.mono s.g h
 | f d => exact Rep.mono s.g h
 | b d =>
  obtain ⟨a, i, o, h1, h2, h3, h4⟩ := h
  exact ⟨a, i, o, h1, h2, s.h _ _ h3, h4.mono s.g⟩
 | x C =>
  obtain ⟨e, h1, h2⟩ := h
  exact ⟨e, h1, s.g _ _ h2⟩
theorem EOk.c {K : PySem.W.Frag} {W : Addr -> Option Nat} {G H G1 H1 : Hp} {v : V} {r : Ev} (s : Step G H G1 H1) (h : EOk K W H G1 H1 v r) : ∃ G2, Step G H G2 H1 /\ EOk K W H G2 H1 v r.c := by
 cases r with
 | p d => exact ⟨G1, s, h⟩
 | b d => exact ⟨G1, s, h⟩
 | x d => exact ⟨G1, s, h⟩
 | f d =>
  obtain ⟨a, o, rfl, h1, h2, h3, h4⟩ := h
  refine ⟨upd G1 a o, ⟨s.g.trans (Same.upd (Same.refl _) h2 o), s.h, fun b u q => ?_, fun b hb hg => ?_⟩, (h4.mono (Same.upd (Same.refl _) h2 o)).rep cG⟩
  ·by_cases z : b = a
   ·subst z; rw [cG] at q; rw [h3]; exact q
   ·rw [bU z] at q; exact s.gh b u q
  ·have z : b ≠ a := fun z => hb (z ▸ h1)
   rw [bU z]; exact s.new b hb hg
structure SimH (B G0 G : Hp) (W : Addr -> Option Nat) (H : Hp) : Prop where
 gh : Same G H
 bh : Same B H
 g0 : Same G0 G
 gb : ∀ b, G b ≠ none -> G0 b ≠ none \/ B b = none \/ ∃ xs, B b = some (.tup xs)
 wf : ∀ a i, W a = some i -> G a = none /\ B a = none /\ ∃ o, H a = some o /\ ∀ xs, o ≠ .tup xs
theorem SimH.step {B G0 G H G' H' : Hp} {W : Addr -> Option Nat} (s : SimH B G0 G W H) (t : Step G H G' H') : SimH B G0 G' W H' := by
 refine ⟨t.gh, s.bh.trans t.h, s.g0.trans t.g, fun b hb => ?_, fun a i e => ?_⟩
 ·by_cases z : G b = none
  ·refine .inr ?_
   by_cases y : H b = none
   ·exact .inl (s.bh.free y)
   ·rcases t.new b y z with q | ⟨xs, q⟩
    ·exact absurd q hb
    ·cases e : B b with
     | none => exact .inl rfl
     | some o => rw [s.bh _ _ e] at q; exact .inr ⟨xs, q⟩
  ·exact s.gb b z
 ·obtain ⟨h1, h2, o, h3, h4⟩ := s.wf a i e
  exact ⟨t.off h3 h4 h1, h2, o, t.h _ _ h3, h4⟩
theorem Cont.mut {K : PySem.W.Frag} {G : Hp} {o : HO} {d : D} (h : Cont K G o d) : ∀ xs, o ≠ .tup xs := by
 intro xs z
 subst z
 cases h
def Slot (K : PySem.W.Frag) (W : Addr -> Option Nat) (G H : Hp) (i : Nat) (v : V) : L -> Prop
 | .p d => Rep K G v d
 | .o d => ∃ a o, v = .ref a /\ W a = some i /\ H a = some o /\ Cont K G o d
 | .x C => ∃ e, v = .ref e /\ G e = some (s9 e (.ref C))
 | .h a => v = .ref a
def SimS (K : PySem.W.Frag) (W : Addr -> Option Nat) (G H : Hp) (σ : L2.St) (en : En) : Prop := σ.length = en.length /\ ∀ i l, en[i]? = some (some l) -> ∃ v, σ[i]? = some (some v) /\ Slot K W G H i v l
theorem Slot.step {K : PySem.W.Frag} {W : Addr -> Option Nat} {G H G' H' : Hp} {i : Nat} {v : V} {l : L} (h : Slot K W G H i v l) (s : Step G H G' H') : Slot K W G' H' i v l := by
 cases l with
 | p d => exact Rep.mono s.g h
 | o d =>
  obtain ⟨a, o, h1, h2, h3, h4⟩ := h
  exact ⟨a, o, h1, h2, s.h _ _ h3, h4.mono s.g⟩
 | x C =>
  obtain ⟨e, h1, h2⟩ := h
  exact ⟨e, h1, s.g _ _ h2⟩
 | h a => exact h
theorem SimS.step {K : PySem.W.Frag} {W : Addr -> Option Nat} {G H G' H' : Hp} {σ : L2.St} {en : En} (h : SimS K W G H σ en) (s : Step G H G' H') : SimS K W G' H' σ en :=
 ⟨h.1, fun i l e => let ⟨v, e1, e2⟩ := h.2 i l e; ⟨v, e1, e2.step s⟩⟩
def PostE (K : PySem.W.Frag) (W : Addr -> Option Nat) (G H : Hp) (Q : VK) (r : Ev) : Prop := ∀ G' H' v, Step G H G' H' -> EOk K W H G' H' v r -> Q v H'
def PostB (G H : Hp) (Q : Bool -> Hp -> Prop) (b : Bool) : Prop := ∀ G' H', Step G H G' H' -> Q b H'
def EOks (K : PySem.W.Frag) (W : Addr -> Option Nat) (Hs G H : Hp) : List V -> List Ev -> Prop
 | [], [] => True
 | v :: vs, r :: rs => EOk K W Hs G H v r /\ EOks K W Hs G H vs rs
 | _, _ => False
def vS (K : PySem.W.Frag) (W : Addr -> Option Nat) (G H : Hp) (Q : List V -> Hp -> Prop) (rs : List Ev) : Prop := ∀ G' H' vs, Step G H G' H' -> EOks K W H G' H' vs rs -> Q vs H'
def PostX (E : XK) (G H : Hp) (C : Addr) : Prop := ∀ G' H', Step G H G' H' -> E (.ref C) none H'
theorem PostE.step {K : PySem.W.Frag} {W : Addr -> Option Nat} {G H G' H' : Hp} {Q : VK} {r : Ev} (h : PostE K W G H Q r) (s : Step G H G' H') : PostE K W G' H' Q r := fun G2 H2 v s2 e => h G2 H2 v (s.trans s2) (by
 cases r with
 | p d => exact e
 | b d => exact e
 | x d => exact e
 | f d =>
  obtain ⟨a, o, h1, h2, h3, h4, h5⟩ := e
  exact ⟨a, o, h1, s.h.free h2, h3, h4, h5⟩)
theorem PostX.step {E : XK} {G H G' H' : Hp} {C : Addr} (h : PostX E G H C) (s : Step G H G' H') : PostX E G' H' C := fun G2 H2 s2 => h G2 H2 (s.trans s2)
theorem PostB.step {G H G' H' : Hp} {Q : Bool -> Hp -> Prop} {b : Bool} (h : PostB G H Q b) (s : Step G H G' H') : PostB G' H' Q b := fun G2 H2 s2 => h G2 H2 (s.trans s2)
def tE (K : PySem.W.Frag) (E : L2.St -> XK) (f : En -> Res Ev) : TE := fun σ H Q => ∃ B G0 G W en, SimH B G0 G W H /\ SimS K W G H σ en /\ wpR (f en) (PostE K W G H Q) (PostX (E σ) G H)
def DE (X : Cx) (E : L2.St -> XK) (e : Expr) (f : En -> Res Ev) : Prop := PE X e (tE X.K E f)
theorem DE.out {X : Cx} {E : L2.St -> XK} {e : Expr} {f : En -> Res Ev} (h : DE X E e f) : ∃ t, PE X e t /\ ∀ B G0 G W H σ en Q, SimH B G0 G W H -> SimS X.K W G H σ en -> wpR (f en) (PostE X.K W G H Q) (PostX (E σ) G H) -> t σ H Q :=
 ⟨_, h, fun B G0 G W H σ en Q h1 h2 h3 => ⟨B, G0, G, W, en, h1, h2, h3⟩⟩
theorem DE.in {X : Cx} {E : L2.St -> XK} {e : Expr} {f : En -> Res Ev} (h : ∃ t, PE X e t /\ ∀ B G0 G W H σ en Q, SimH B G0 G W H -> SimS X.K W G H σ en -> wpR (f en) (PostE X.K W G H Q) (PostX (E σ) G H) -> t σ H Q) : DE X E e f :=
 fun pins s σ H Q I ⟨B, G0, G, W, en, h1, h2, h3⟩ => let ⟨_, p, m⟩ := h; p pins s σ H Q I (m B G0 G W H σ en Q h1 h2 h3)
def tT (K : PySem.W.Frag) (E : L2.St -> XK) (f : En -> Res Bool) : TT := fun σ H Q => ∃ B G0 G W en, SimH B G0 G W H /\ SimS K W G H σ en /\ wpR (f en) (PostB G H Q) (PostX (E σ) G H)
def tA (K : PySem.W.Frag) (E : L2.St -> XK) (f : En -> Res (List Ev)) : TA := fun σ H Q => ∃ B G0 G W en, SimH B G0 G W H /\ SimS K W G H σ en /\ wpR (f en) (vS K W G H Q) (PostX (E σ) G H)
def DT (X : Cx) (E : L2.St -> XK) (e : Expr) (f : En -> Res Bool) : Prop := PT X e (tT X.K E f)
def DW (X : Cx) (E : L2.St -> XK) (e : Expr) (f : En -> Res Bool) : Prop := PW X e (tT X.K E f)
def DA (X : Cx) (E : L2.St -> XK) (es : List Expr) (f : En -> Res (List Ev)) : Prop := PA X es (tA X.K E f)
section
variable {X : Cx} {E : L2.St -> XK} {e : Expr} {es : List Expr} {f : En -> Res Bool} {fr : En -> Res (List Ev)}
theorem DT.out (h : DT X E e f) : ∃ t, PT X e t /\ ∀ B G0 G W H σ en Q, SimH B G0 G W H -> SimS X.K W G H σ en -> wpR (f en) (PostB G H Q) (PostX (E σ) G H) -> t σ H Q :=
 ⟨_, h, fun B G0 G W H σ en Q h1 h2 h3 => ⟨B, G0, G, W, en, h1, h2, h3⟩⟩
theorem DT.in (h : ∃ t, PT X e t /\ ∀ B G0 G W H σ en Q, SimH B G0 G W H -> SimS X.K W G H σ en -> wpR (f en) (PostB G H Q) (PostX (E σ) G H) -> t σ H Q) : DT X E e f :=
 fun pins s σ H Q I ⟨B, G0, G, W, en, h1, h2, h3⟩ => let ⟨_, p, m⟩ := h; p pins s σ H Q I (m B G0 G W H σ en Q h1 h2 h3)
theorem DW.out (h : DW X E e f) : ∃ t, PW X e t /\ ∀ B G0 G W H σ en Q, SimH B G0 G W H -> SimS X.K W G H σ en -> wpR (f en) (PostB G H Q) (PostX (E σ) G H) -> t σ H Q :=
 ⟨_, h, fun B G0 G W H σ en Q h1 h2 h3 => ⟨B, G0, G, W, en, h1, h2, h3⟩⟩
theorem DW.in (h : ∃ t, PW X e t /\ ∀ B G0 G W H σ en Q, SimH B G0 G W H -> SimS X.K W G H σ en -> wpR (f en) (PostB G H Q) (PostX (E σ) G H) -> t σ H Q) : DW X E e f :=
 fun wh pins s σ H Q I ⟨B, G0, G, W, en, h1, h2, h3⟩ => let ⟨_, p, m⟩ := h; p wh pins s σ H Q I (m B G0 G W H σ en Q h1 h2 h3)
theorem DA.out (h : DA X E es fr) : ∃ t, PA X es t /\ ∀ B G0 G W H σ en Q, SimH B G0 G W H -> SimS X.K W G H σ en -> wpR (fr en) (vS X.K W G H Q) (PostX (E σ) G H) -> t σ H Q :=
 ⟨_, h, fun B G0 G W H σ en Q h1 h2 h3 => ⟨B, G0, G, W, en, h1, h2, h3⟩⟩
theorem DA.in (h : ∃ t, PA X es t /\ ∀ B G0 G W H σ en Q, SimH B G0 G W H -> SimS X.K W G H σ en -> wpR (fr en) (vS X.K W G H Q) (PostX (E σ) G H) -> t σ H Q) : DA X E es fr :=
 fun pos pins s σ H Q I ⟨B, G0, G, W, en, h1, h2, h3⟩ => let ⟨_, p, m⟩ := h; p pos pins s σ H Q I (m B G0 G W H σ en Q h1 h2 h3)
end
theorem DW.t {X : Cx} {E : L2.St -> XK} {e : Expr} {f : En -> Res Bool} (h : DW X E e f) : DT X E e f := h _
section
variable {X : Cx} {E : L2.St -> XK} {a b c e : Expr} {es : List Expr} {fa fb : En -> Res Ev} {fr : En -> Res (List Ev)} {pos : Pos}
theorem DE.go {K : PySem.W.Frag} {W : Addr -> Option Nat} {G H : Hp} {EE : XK} {Q : VK} {r : Res Ev} {k : Ev -> Res Ev} {Q' : VK} (hw : wpR (r.bind k) (PostE K W G H Q) (PostX EE G H))
  (h : ∀ (x : Ev) G1 H1 v, Step G H G1 H1 -> EOk K W H G1 H1 v x.c -> wpR (k x) (PostE K W G1 H1 Q) (PostX EE G1 H1) -> Q' v H1) : wpR r (PostE K W G H Q') (PostX EE G H) := by
 rw [bO] at hw
 refine a6 hw (fun x hx G1 H1 v s e => ?_) fun C h => h
 obtain ⟨G2, s2, e2⟩ := e.c s
 exact h x G2 H1 v s2 e2 (a6 hx (fun r h => h.step s2) fun C h => h.step s2)
theorem DE.goB {K : PySem.W.Frag} {W : Addr -> Option Nat} {G H : Hp} {EE : XK} {Q : Bool -> Hp -> Prop} {r : Res Ev} {k : Ev -> Res Bool} {Q' : VK} (hw : wpR (r.bind k) (PostB G H Q) (PostX EE G H))
  (h : ∀ (x : Ev) G1 H1 v, Step G H G1 H1 -> EOk K W H G1 H1 v x.c -> wpR (k x) (PostB G1 H1 Q) (PostX EE G1 H1) -> Q' v H1) : wpR r (PostE K W G H Q') (PostX EE G H) := by
 rw [bO] at hw
 refine a6 hw (fun x hx G1 H1 v s e => ?_) fun C h => h
 obtain ⟨G2, s2, e2⟩ := e.c s
 exact h x G2 H1 v s2 e2 (a6 hx (fun r h => h.step s2) fun C h => h.step s2)
def OpM (K : PySem.W.Frag) (r : R2) (op : Ev -> Ev -> Res Ev) : Prop := ∀ (W : Addr -> Option Nat) (G H : Hp) (v u : V) (x y : Ev) (Q : VK), Same G H -> EOk K W H G H v x.c -> EOk K W H G H u y.c -> wpR (op x.c y.c) (PostE K W G H Q) (fun _ => False) -> r v u H Q
def aK (op : Ev -> Ev -> Res Ev) (fa fb : En -> Res Ev) : En -> Res Ev := fun en => (fa en).bind fun x => (fb en).bind fun y => op x.c y.c
def NoX (op : Ev -> Ev -> Res Ev) : Prop := ∀ x y C, op x y ≠ .exc C
theorem noX {α : Type} {r : Res α} {Q : α -> Prop} {E E' : Addr -> Prop} (h : wpR r Q E) (n : ∀ C, r ≠ .exc C) : wpR r Q E' := by
 cases r with
 | ok a => exact h
 | exc C => exact absurd rfl (n C)
 | bad => exact h
theorem j0 {ta tb : TE} {r : R2} {op : Ev -> Ev -> Res Ev} (ma : ∀ B G0 G W H σ en Q, SimH B G0 G W H -> SimS X.K W G H σ en -> wpR (fa en) (PostE X.K W G H Q) (PostX (E σ) G H) -> ta σ H Q)
  (mb : ∀ B G0 G W H σ en Q, SimH B G0 G W H -> SimS X.K W G H σ en -> wpR (fb en) (PostE X.K W G H Q) (PostX (E σ) G H) -> tb σ H Q) (hm : OpM X.K r op) (hn : NoX op) :
  ∀ B G0 G W H σ en Q, SimH B G0 G W H -> SimS X.K W G H σ en -> wpR (aK op fa fb en) (PostE X.K W G H Q) (PostX (E σ) G H) -> tOp r ta tb σ H Q := by
 intro B G0 G W H σ en Q hh hs hw
 refine ma B G0 G W H σ en _ hh hs (DE.go hw fun x G1 H1 v s1 e1 h1 => ?_)
 refine mb B G0 G1 W H1 σ en _ (hh.step s1) (hs.step s1) (DE.go h1 fun y G2 H2 u s2 e2 h2 => ?_)
 exact hm W G2 H2 v u x y Q s2.gh (e1.step s2) (by cases y <;> exact e2) (noX h2 (hn _ _))
theorem aT {op : Operator} {r : R2} {f : Ev -> Ev -> Res Ev} (ho : OpR X (binaryOp op) r) (hm : OpM X.K r f) (hn : NoX f) (ha : DE X E a fa) (hb : DE X E b fb) : DE X E (.BinOp a op b pos) (aK f fa fb) := by
 obtain ⟨ta, pa, ma⟩ := ha.out
 obtain ⟨tb, pb, mb⟩ := hb.out
 refine DE.in ?_
 exact ⟨_, aDi ho pa pb, j0 ma mb hm hn⟩
theorem gK {op : CmpOp} {r : R2} {f : Ev -> Ev -> Res Ev} (ho : OpR X (compareOp op) r) (hm : OpM X.K r f) (hn : NoX f) (ha : DE X E a fa) (hb : DE X E b fb) (hk : behindInMarks op b = false) : DE X E (.Compare a [op] [b] pos) (aK f fa fb) := by
 obtain ⟨ta, pa, ma⟩ := ha.out
 obtain ⟨tb, pb, mb⟩ := hb.out
 refine DE.in ?_
 exact ⟨_, xZ ho pa pb hk, j0 ma mb hm hn⟩
def mV (r : Ev) : Res Bool := match r with
 | .p (.bool b) => .ok b
 | _ => .bad
def bR (f : En -> Res Ev) : En -> Res Bool := fun en => (f en).bind mV
theorem lY {t : TE} (m : ∀ B G0 G W H σ en Q, SimH B G0 G W H -> SimS X.K W G H σ en -> wpR (fa en) (PostE X.K W G H Q) (PostX (E σ) G H) -> t σ H Q) :
  ∀ B G0 G W H σ en Q, SimH B G0 G W H -> SimS X.K W G H σ en -> wpR (bR fa en) (PostB G H Q) (PostX (E σ) G H) -> t σ H fun x H1 => ∃ k, x = .bl k /\ Q k H1 := by
 intro B G0 G W H σ en Q hh hs hw
 refine m B G0 G W H σ en _ hh hs (DE.goB hw fun x G1 H1 v s1 e1 h1 => ?_)
 cases x with
 | p d =>
  cases d with
  | bool k => cases e1; exact ⟨k, rfl, h1 G1 H1 (Step.refl s1.gh)⟩
  | _ => exact False.elim h1
 | _ => exact False.elim h1
theorem cA {op : CmpOp} {r : R2} {f : Ev -> Ev -> Res Ev} (ho : OpR X (compareOp op) r) (hm : OpM X.K r f) (hn : NoX f) (ha : DE X E a fa) (hb : DE X E b fb) (hk : behindInMarks op b = false) : DT X E (.Compare a [op] [b] pos) (bR (aK f fa fb)) := by
 obtain ⟨ta, pa, ma⟩ := ha.out
 obtain ⟨tb, pb, mb⟩ := hb.out
 refine DT.in ?_
 exact ⟨_, xP ho pa pb hk, lY (j0 ma mb hm hn)⟩
theorem fQ (h : DE X E e fa) (he : ∀ whole, isTrue e X.env whole = (do let v <- whole; standAt e.pos; holding [v] (truthy v)) := by intro _; rfl) : DT X E e (bR fa) := by
 obtain ⟨t, p, m⟩ := h.out
 refine DT.in ?_
 exact ⟨_, aBs p he, lY m⟩
def aG (i : Nat) : En -> Res Ev := fun en => match en[i]? with
 | some (some (.p d)) => .ok (.p d)
 | some (some (.o d)) => .ok (.b d)
 | some (some (.x C)) => .ok (.x C)
 | _ => .bad
theorem aAy {i : Nat} {x : Str} (hN : X.N[i]? = some x) (hv : Vis X.env.scope x) (hd : (x == ("__debug__" : Str)) = false := by decide) (hcd : (x == ("__classdict__" : Str)) = false := by decide) : DE X E (.Name x pos) (aG i) := by
 refine DE.in ?_
 refine ⟨_, wK hN hv hd hcd, fun B G0 G W H σ en Q hh hs hw => ?_⟩
 unfold aG at hw
 split at hw
 ·rename_i d e
  obtain ⟨v, e1, e2⟩ := hs.2 i _ e
  exact ⟨v, e1, hw G H v (Step.refl hh.gh) e2⟩
 ·rename_i d e
  obtain ⟨v, e1, a, o, e2, e3, e4, e5⟩ := hs.2 i _ e
  exact ⟨v, e1, hw G H v (Step.refl hh.gh) ⟨a, i, o, e2, e3, e4, e5⟩⟩
 ·rename_i C e
  obtain ⟨v, e1, e2⟩ := hs.2 i _ e
  exact ⟨v, e1, hw G H v (Step.refl hh.gh) e2⟩
 ·exact hw.elim
def mC (d : D) : En -> Res Ev := fun _ => .ok (.p d)
theorem fA {v : V} {d : D} (h : ∀ G, Rep X.K G v d) : ∀ B G0 G W H σ en Q, SimH B G0 G W H -> SimS X.K W G H σ en -> wpR (mC d en) (PostE X.K W G H Q) (PostX (E σ) G H) -> tC v σ H Q :=
 fun B G0 G W H σ en Q hh hs hw => hw G H v (Step.refl hh.gh) (h G)
theorem aC {i j} : DE X E (.Constant (.int i) j pos) (mC (.int i)) := DE.in ⟨_, aCw, fA fun _ => .int i⟩
theorem oP {b j} : DE X E (.Constant (.bool b) j pos) (mC (.bool b)) := DE.in ⟨_, aDc, fA fun _ => .bl b⟩
theorem i9 {j} : DE X E (.Constant .none j pos) (mC .none) := DE.in ⟨_, aBx, fA fun _ => .non⟩
theorem aV {x j} : DE X E (.Constant (.str x) j pos) (mC (.str x)) := DE.in ⟨_, zK, fA fun _ => .str x⟩
theorem uR {x : Str} {i : Int} {t : Tok} (hg : Gl X x) (hm : X.mg x = some (.int i t)) (hd : (x == ("__debug__" : Str)) = false := by decide) : DE X E (.Name x pos) (mC (.int i)) := DE.in ⟨_, eQ (v := .int i) hg hm ⟨t, rfl⟩ hd, fA fun _ => .int i⟩
variable {ga gb : En -> Res Bool} {rest : List Expr}
def qN (f g : En -> Res Bool) : En -> Res Bool := fun en => (f en).bind fun c => if c = true then g en else .ok false
def mOr (f g : En -> Res Bool) : En -> Res Bool := fun en => (f en).bind fun c => if c = true then .ok true else g en
def kW (f : En -> Res Bool) : En -> Res Bool := fun en => (f en).bind fun c => .ok (!c)
theorem oO (ha : DT X E a ga) : DW X E (.BoolOp .And [a] pos) ga := let ⟨t, p, m⟩ := ha.out; DW.in ⟨t, x9 p, m⟩
theorem iU (ha : DT X E a ga) : DW X E (.BoolOp .Or [a] pos) ga := let ⟨t, p, m⟩ := ha.out; DW.in ⟨t, aAt p, m⟩
theorem qY (ha : DT X E a ga) (hb : DW X E (.BoolOp .And (b :: rest) pos) gb) : DW X E (.BoolOp .And (a :: b :: rest) pos) (qN ga gb) := by
 obtain ⟨ta, pa, ma⟩ := ha.out
 obtain ⟨tb, pb, mb⟩ := hb.out
 refine DW.in ?_
 refine ⟨_, aAb pa pb, fun B G0 G W H σ en Q hh hs hw => ma B G0 G W H σ en _ hh hs ?_⟩
 have hw : wpR ((ga en).bind _) _ _ := hw
 rw [bO] at hw
 refine a6 hw (fun c hc G1 H1 s => ?_) fun C h => h
 cases c with
 | true => exact mb B G0 G1 W H1 σ en Q (hh.step s) (hs.step s) (a6 hc (fun _ h => h.step s) fun _ h => h.step s)
 | false => exact hc G1 H1 s
theorem gW (ha : DT X E a ga) (hb : DW X E (.BoolOp .Or (b :: rest) pos) gb) : DW X E (.BoolOp .Or (a :: b :: rest) pos) (mOr ga gb) := by
 obtain ⟨ta, pa, ma⟩ := ha.out
 obtain ⟨tb, pb, mb⟩ := hb.out
 refine DW.in ?_
 refine ⟨_, aD0 pa pb, fun B G0 G W H σ en Q hh hs hw => ma B G0 G W H σ en _ hh hs ?_⟩
 have hw : wpR ((ga en).bind _) _ _ := hw
 rw [bO] at hw
 refine a6 hw (fun c hc G1 H1 s => ?_) fun C h => h
 cases c with
 | false => exact mb B G0 G1 W H1 σ en Q (hh.step s) (hs.step s) (a6 hc (fun _ h => h.step s) fun _ h => h.step s)
 | true => exact hc G1 H1 s
theorem iN (ha : DT X E a ga) : DT X E (.UnaryOp .Not a pos) (kW ga) := by
 obtain ⟨ta, pa, ma⟩ := ha.out
 refine DT.in ?_
 refine ⟨_, zO pa, fun B G0 G W H σ en Q hh hs hw => ma B G0 G W H σ en _ hh hs ?_⟩
 have hw : wpR ((ga en).bind _) _ _ := hw
 rw [bO] at hw
 exact a6 hw (fun c hc => hc) fun C h => h
def kA (f g : En -> Res Ev) : En -> Res Ev := fun en => (f en).bind fun c => match c with
 | .p (.bool true) => g en
 | .p (.bool false) => .ok (.p (.bool false))
 | _ => .bad
def yE (f g : En -> Res Ev) : En -> Res Ev := fun en => (f en).bind fun c => match c with
 | .p (.bool false) => g en
 | .p (.bool true) => .ok (.p (.bool true))
 | _ => .bad
def wB (f : En -> Res Ev) : En -> Res Ev := fun en => (f en).bind fun c => match c with
 | .p (.bool k) => .ok (.p (.bool (!k)))
 | _ => .bad
theorem mL {op} (h : DE X E a fa) : DE X E (.BoolOp op [a] pos) fa := let ⟨t, p, m⟩ := h.out; DE.in ⟨t, aAq p, m⟩
theorem pG (ha : DE X E a fa) (hb : DE X E (.BoolOp .And (b :: rest) pos) fb) : DE X E (.BoolOp .And (a :: b :: rest) pos) (kA fa fb) := by
 obtain ⟨ta, pa, ma⟩ := ha.out
 obtain ⟨tb, pb, mb⟩ := hb.out
 refine DE.in ?_
 refine ⟨_, zM pa pb, fun B G0 G W H σ en Q hh hs hw => ma B G0 G W H σ en _ hh hs (DE.go hw fun x G1 H1 v s1 e1 h1 => ?_)⟩
 cases x with
 | p d =>
  cases d with
  | bool k =>
   cases e1
   cases k with
   | true => exact ⟨true, rfl, mb B G0 G1 W H1 σ en Q (hh.step s1) (hs.step s1) h1⟩
   | false => exact ⟨false, rfl, h1 G1 H1 _ (Step.refl s1.gh) (.bl false)⟩
  | _ => exact False.elim h1
 | _ => exact False.elim h1
theorem aDq (ha : DE X E a fa) (hb : DE X E (.BoolOp .Or (b :: rest) pos) fb) : DE X E (.BoolOp .Or (a :: b :: rest) pos) (yE fa fb) := by
 obtain ⟨ta, pa, ma⟩ := ha.out
 obtain ⟨tb, pb, mb⟩ := hb.out
 refine DE.in ?_
 refine ⟨_, aDg pa pb, fun B G0 G W H σ en Q hh hs hw => ma B G0 G W H σ en _ hh hs (DE.go hw fun x G1 H1 v s1 e1 h1 => ?_)⟩
 cases x with
 | p d =>
  cases d with
  | bool k =>
   cases e1
   cases k with
   | false => exact ⟨false, rfl, mb B G0 G1 W H1 σ en Q (hh.step s1) (hs.step s1) h1⟩
   | true => exact ⟨true, rfl, h1 G1 H1 _ (Step.refl s1.gh) (.bl true)⟩
  | _ => exact False.elim h1
 | _ => exact False.elim h1
theorem aCb (ha : DE X E a fa) : DE X E (.UnaryOp .Not a pos) (wB fa) := by
 obtain ⟨ta, pa, ma⟩ := ha.out
 refine DE.in ?_
 refine ⟨_, aA4 pa, fun B G0 G W H σ en Q hh hs hw => ma B G0 G W H σ en _ hh hs (DE.go hw fun x G1 H1 v s1 e1 h1 => ?_)⟩
 cases x with
 | p d =>
  cases d with
  | bool k =>
   cases e1
   exact ⟨k, rfl, h1 G1 H1 _ (Step.refl s1.gh) (.bl _)⟩
  | _ => exact False.elim h1
 | _ => exact False.elim h1
def mIf (c : En -> Res Bool) (f g : En -> Res Ev) : En -> Res Ev := fun en => (c en).bind fun k => if k = true then f en else g en
theorem aBf (hc : DT X E c ga) (ha : DE X E a fa) (hb : DE X E b fb) : DE X E (.IfExp c a b pos) (mIf ga fa fb) := by
 obtain ⟨tc, pc, mc⟩ := hc.out
 obtain ⟨ta, pa, ma⟩ := ha.out
 obtain ⟨tb, pb, mb⟩ := hb.out
 refine DE.in ?_
 refine ⟨_, uK pc pa pb, fun B G0 G W H σ en Q hh hs hw => mc B G0 G W H σ en _ hh hs ?_⟩
 have hw : wpR ((ga en).bind _) _ _ := hw
 rw [bO] at hw
 refine a6 hw (fun k hk G1 H1 s => ?_) fun C h => h
 have hk' := a6 hk (fun _ h => PostE.step h s) fun _ h => PostX.step h s
 cases k with
 | true => exact ma B G0 G1 W H1 σ en Q (hh.step s) (hs.step s) hk'
 | false => exact mb B G0 G1 W H1 σ en Q (hh.step s) (hs.step s) hk'
def aY : En -> Res (List Ev) := fun _ => .ok []
def aB (f : En -> Res Ev) (g : En -> Res (List Ev)) : En -> Res (List Ev) := fun en => (f en).bind fun x => (g en).bind fun xs => .ok (x.c :: xs)
theorem aM : DA X E [] aY := DA.in ⟨_, pA, fun B G0 G W H σ en Q hh hs hw => hw G H [] (Step.refl hh.gh) trivial⟩
theorem EOk.cc {K : PySem.W.Frag} {W : Addr -> Option Nat} {Hs Hs' G H : Hp} {v : V} {r : Ev} (h : EOk K W Hs G H v r.c) : EOk K W Hs' G H v r.c := by
 cases r <;> exact h
theorem aA (ha : DE X E e fa) (hr : DA X E es fr) (hst : starEach (e :: es) X.env = (false, eval e X.env) :: starEach es X.env := by rfl) : DA X E (e :: es) (aB fa fr) := by
 obtain ⟨ta, pa, ma⟩ := ha.out
 obtain ⟨tr, pr, mr⟩ := hr.out
 refine DA.in ?_
 refine ⟨_, j5 pa pr hst, fun B G0 G W H σ en Q hh hs hw => ma B G0 G W H σ en _ hh hs ?_⟩
 have hw : wpR ((fa en).bind _) _ _ := hw
 rw [bO] at hw
 refine a6 hw (fun x hx G1 H1 v s e1 => ?_) fun C h => h
 obtain ⟨G2, s2, e2⟩ := e1.c s
 refine mr B G0 G2 W H1 σ en _ (hh.step s2) (hs.step s2) ?_
 rw [bO] at hx
 refine a6 hx (fun xs hxs G3 H3 vs s3 e3 => ?_) fun C h => h.step s2
 refine hxs G3 H3 (v :: vs) (s2.trans s3) ⟨e2.step s3, ?_⟩
 clear hxs hx hw
 induction xs generalizing vs with
 | nil => cases vs <;> exact e3
 | cons y ys ih =>
  cases vs with
  | nil => exact e3
  | cons u us =>
   refine ⟨?_, ih us e3.2⟩
   have z := e3.1
   cases y with
   | p d => exact z
   | b d => exact z
   | x d => exact z
   | f d =>
    obtain ⟨a, o, h1, h2, h3⟩ := z
    exact ⟨a, o, h1, s2.h.free h2, h3⟩
end
inductive Out where
 | nx (en : En)
 | rt (l : L)
 | bk (en : En)
 | ct (en : En)
 | ex (C : Addr) (en : En)
abbrev MS := En -> Option Out
def y7 (K : PySem.W.Frag) (B G H : Hp) (v : V) : L -> Prop
 | .p d => Rep K G v d
 | .o d => ∃ a o, v = .ref a /\ G a = none /\ B a = none /\ H a = some o /\ Cont K G o d
 | .x C => ∃ e, v = .ref e /\ G e = some (s9 e (.ref C))
 | .h _ => False
def PostS (K : PySem.W.Frag) (B G0 : Hp) (E : L2.St -> XK) (Dn : Ends) : Out -> Prop
 | .nx en => ∀ G W H σ, SimH B G0 G W H -> SimS K W G H σ en -> Dn.nx σ H
 | .bk en => ∀ G W H σ, SimH B G0 G W H -> SimS K W G H σ en -> Dn.bk σ H
 | .ct en => ∀ G W H σ, SimH B G0 G W H -> SimS K W G H σ en -> Dn.ct σ H
 | .rt l => ∀ G W H v, SimH B G0 G W H -> y7 K B G H v l -> Dn.rt v H
 | .ex C en => ∀ G W H σ, SimH B G0 G W H -> SimS K W G H σ en -> E σ (.ref C) none H
def wpO (o : Option Out) (P : Out -> Prop) : Prop := match o with
 | some r => P r
 | none => False
def tS (K : PySem.W.Frag) (E : L2.St -> XK) (f : MS) : TS := fun Dn σ H => ∃ B G0 G W en, SimH B G0 G W H /\ SimS K W G H σ en /\ wpO (f en) (PostS K B G0 E Dn)
def DS (X : Cx) (E : L2.St -> XK) (st : Stmt) (f : MS) : Prop := PS X st (tS X.K E f)
def DSs (X : Cx) (E : L2.St -> XK) (st : List Stmt) (f : MS) : Prop := PSs X st (tS X.K E f)
section
variable {X : Cx} {E : L2.St -> XK} {st : Stmt} {sts : List Stmt} {f g : MS} {fe : En -> Res Ev} {fc : En -> Res Bool} {e c : Expr} {pos : Pos}
theorem DS.in (h : ∃ t, PS X st t /\ ∀ B G0 G W H σ en Dn, SimH B G0 G W H -> SimS X.K W G H σ en -> wpO (f en) (PostS X.K B G0 E Dn) -> t Dn σ H) : DS X E st f :=
 fun pins s σ H Dn I ⟨B, G0, G, W, en, h1, h2, h3⟩ => let ⟨_, p, m⟩ := h; p pins s σ H Dn I (m B G0 G W H σ en Dn h1 h2 h3)
theorem DSs.in (h : ∃ t, PSs X sts t /\ ∀ B G0 G W H σ en Dn, SimH B G0 G W H -> SimS X.K W G H σ en -> wpO (f en) (PostS X.K B G0 E Dn) -> t Dn σ H) : DSs X E sts f :=
 fun pins s σ H Dn I ⟨B, G0, G, W, en, h1, h2, h3⟩ => let ⟨_, p, m⟩ := h; p pins s σ H Dn I (m B G0 G W H σ en Dn h1 h2 h3)
theorem DS.out (h : DS X E st f) : ∃ t, PS X st t /\ ∀ B G0 G W H σ en Dn, SimH B G0 G W H -> SimS X.K W G H σ en -> wpO (f en) (PostS X.K B G0 E Dn) -> t Dn σ H :=
 ⟨_, h, fun B G0 G W H σ en Dn h1 h2 h3 => ⟨B, G0, G, W, en, h1, h2, h3⟩⟩
theorem DSs.out (h : DSs X E sts f) : ∃ t, PSs X sts t /\ ∀ B G0 G W H σ en Dn, SimH B G0 G W H -> SimS X.K W G H σ en -> wpO (f en) (PostS X.K B G0 E Dn) -> t Dn σ H :=
 ⟨_, h, fun B G0 G W H σ en Dn h1 h2 h3 => ⟨B, G0, G, W, en, h1, h2, h3⟩⟩
def cI : MS := fun en => some (.nx en)
def cF (f g : MS) : MS := fun en => match f en with
 | some (.nx e) => g e
 | r => r
theorem bS : DSs X E [] cI := DSs.in ⟨_, y9, fun B G0 G W H σ en Dn hh hs hw => hw G W H σ hh hs⟩
theorem aO (h : DS X E st f) : DSs X E [st] f := let ⟨t, p, m⟩ := h.out; DSs.in ⟨t, yY p, m⟩
theorem aF (h1 : DS X E st f) (h2 : DSs X E sts g) : DSs X E (st :: sts) (cF f g) := by
 obtain ⟨t, p, m⟩ := h1.out
 obtain ⟨u, q, n⟩ := h2.out
 refine DSs.in ⟨_, vV p q, fun B G0 G W H σ en Dn hh hs hw => m B G0 G W H σ en _ hh hs ?_⟩
 unfold cF at hw
 cases ef : f en with
 | none => rw [ef] at hw; exact hw
 | some r =>
  rw [ef] at hw
  cases r with
  | nx e => exact fun G1 W1 H1 σ1 hh1 hs1 => n B G0 G1 W1 H1 σ1 e Dn hh1 hs1 hw
  | rt l => exact hw
  | bk e => exact hw
  | ct e => exact hw
  | ex C e => exact hw
theorem SimS.set {K : PySem.W.Frag} {W : Addr -> Option Nat} {G H : Hp} {σ : L2.St} {en : En} {i : Nat} {v : V} {l : L} (h : SimS K W G H σ en) (hl : Slot K W G H i v l) : SimS K W G H (σ.set i (some v)) (en.set i (some l)) := by
 refine ⟨by rw [List.length_set, List.length_set]; exact h.1, fun j m e => ?_⟩
 rw [List.getElem?_set] at e
 rw [List.getElem?_set]
 by_cases hj : i = j
 ·subst hj
  rw [if_pos rfl] at e
  split at e
  ·rename_i hlt
   cases e
   rw [if_pos rfl, if_pos (by rw [h.1]; exact hlt)]
   exact ⟨v, rfl, hl⟩
  ·cases e
 ·rw [if_neg hj] at e ⊢
  exact h.2 j m e
def owner (W : Addr -> Option Nat) (a : Addr) (i : Nat) : Addr -> Option Nat := fun b => if b = a then some i else W b
theorem vF {K : PySem.W.Frag} {B G0 G H : Hp} {W : Addr -> Option Nat} {σ : L2.St} {en : En} {i : Nat} {a : Addr} {o : HO} {d : D} (hh : SimH B G0 G W H) (hs : SimS K W G H σ en) (hW : W a = none) (hG : G a = none) (hB : B a = none) (hH : H a = some o) (hc : Cont K G o d) :
  SimH B G0 G (owner W a i) H /\ SimS K (owner W a i) G H (σ.set i (some (.ref a))) (en.set i (some (.o d))) := by
 refine ⟨⟨hh.gh, hh.bh, hh.g0, hh.gb, fun b j e => ?_⟩, SimS.set ⟨hs.1, fun j l e => ?_⟩ ⟨a, o, rfl, if_pos rfl, hH, hc⟩⟩
 ·unfold owner at e
  split at e
  ·rename_i z
   subst z
   exact ⟨hG, hB, o, hH, hc.mut⟩
  ·exact hh.wf b j e
 ·obtain ⟨v, e1, e2⟩ := hs.2 j l e
  refine ⟨v, e1, ?_⟩
  cases l with
  | p d => exact e2
  | x C => exact e2
  | h a => exact e2
  | o d =>
   obtain ⟨b, ob, h1, h2, h3, h4⟩ := e2
   refine ⟨b, ob, h1, ?_, h3, h4⟩
   unfold owner
   rw [if_neg (fun z => by rw [z, hW] at h2; cases h2)]
   exact h2
def dA (i : Nat) (fe : En -> Res Ev) : MS := fun en => match fe en with
 | .ok (.p d) => some (.nx (en.set i (some (.p d))))
 | .ok (.f d) => some (.nx (en.set i (some (.o d))))
 | .ok (.x C) => some (.nx (en.set i (some (.x C))))
 | .ok (.b _) => none
 | .exc C => some (.ex C en)
 | .bad => none
theorem SimH.lone {B G0 G H : Hp} {W : Addr -> Option Nat} (hh : SimH B G0 G W H) {a : Addr} (h : H a = none) : W a = none := by
 cases e : W a with
 | none => rfl
 | some i =>
  obtain ⟨_, _, o, q, _⟩ := hh.wf a i e
  rw [h] at q; cases q
theorem uY {te : TE} {i : Nat} (m : ∀ B G0 G W H σ en Q, SimH B G0 G W H -> SimS X.K W G H σ en -> wpR (fe en) (PostE X.K W G H Q) (PostX (E σ) G H) -> te σ H Q) :
  ∀ B G0 G W H σ en Dn, SimH B G0 G W H -> SimS X.K W G H σ en -> wpO (dA i fe en) (PostS X.K B G0 E Dn) -> te σ H fun x H1 => Dn.nx (σ.set i (some x)) H1 := by
 intro B G0 G W H σ en Dn hh hs hw
 refine m B G0 G W H σ en _ hh hs ?_
 unfold dA at hw
 cases ef : fe en with
 | bad => rw [ef] at hw; exact hw
 | exc C => rw [ef] at hw; exact fun G1 H1 s => hw G1 W H1 σ (hh.step s) (hs.step s)
 | ok r =>
  rw [ef] at hw
  cases r with
  | b d => exact hw.elim
  | p d => exact fun G1 H1 v s e => hw G1 W H1 _ (hh.step s) ((hs.step s).set e)
  | x C => exact fun G1 H1 v s e => hw G1 W H1 _ (hh.step s) ((hs.step s).set e)
  | f d =>
   rintro G1 H1 v s ⟨a, o, rfl, h1, h2, h3, h4⟩
   obtain ⟨q1, q2⟩ := vF (i := i) (hh.step s) (hs.step s) (hh.lone h1) h2 (hh.bh.free h1) h3 h4
   exact hw G1 _ H1 _ q1 q2
theorem aU {i : Nat} {x : Str} {pos' : Pos} (hN : X.N.Nodup) (hi : X.N[i]? = some x) (hx : Loc X.env.scope x) (he : DE X E e fe) (hs : swapsWith e (some (.Name x pos')) pos.line X.env = pure false := by rfl) (hf : X.fn x = true \/ X.env.scope.names.lookup x = some .local := by first | exact .inl rfl | exact .inr rfl | assumption) :
  DS X E (.Assign [.Name x pos'] e pos) (dA i fe) := by
 obtain ⟨t, p, m⟩ := he.out
 exact DS.in ⟨_, zR hN hi hx p hs hf, uY m⟩
def aEv : Ev -> L
 | .p d => .p d
 | .f d => .o d
 | .b d => .o d
 | .x C => .x C
def dW (fe : En -> Res Ev) : MS := fun en => match fe en with
 | .ok r => some (.rt (aEv r))
 | .exc C => some (.ex C en)
 | .bad => none
theorem bE (he : DE X E e fe) : DS X E (.Return (some e) pos) (dW fe) := by
 obtain ⟨t, p, m⟩ := he.out
 refine DS.in ⟨_, aAh p, fun B G0 G W H σ en Dn hh hs hw => m B G0 G W H σ en _ hh hs ?_⟩
 unfold dW at hw
 cases ef : fe en with
 | bad => rw [ef] at hw; exact hw
 | exc C => rw [ef] at hw; exact fun G1 H1 s => hw G1 W H1 σ (hh.step s) (hs.step s)
 | ok r =>
  rw [ef] at hw
  intro G1 H1 v s e
  refine hw G1 W H1 v (hh.step s) ?_
  cases r with
  | p d => exact e
  | x C => exact e
  | f d =>
   obtain ⟨a, o, h0, h1, h2, h3, h4⟩ := e
   exact ⟨a, o, h0, h2, hh.bh.free h1, h3, h4⟩
  | b d =>
   obtain ⟨a, i, o, h0, h1, h3, h4⟩ := e
   have z := (hh.step s).wf a i h1
   exact ⟨a, o, h0, z.1, z.2.1, h3, h4⟩
def fC (c : En -> Res Bool) (f g : MS) : MS := fun en => match c en with
 | .ok k => if k = true then f en else g en
 | .exc C => some (.ex C en)
 | .bad => none
theorem eC {A B : List Stmt} (hc : DT X E c fc) (ha : DSs X E A f) (hb : DSs X E B g) : DS X E (.If c A B pos) (fC fc f g) := by
 obtain ⟨tc, pc, mc⟩ := hc.out
 obtain ⟨t, p, m⟩ := ha.out
 obtain ⟨u, q, n⟩ := hb.out
 refine DS.in ⟨_, aD9 pc p q, fun B G0 G W H σ en Dn hh hs hw => mc B G0 G W H σ en _ hh hs ?_⟩
 unfold fC at hw
 cases ef : fc en with
 | bad => rw [ef] at hw; exact hw
 | exc C => rw [ef] at hw; exact fun G1 H1 s => hw G1 W H1 σ (hh.step s) (hs.step s)
 | ok k =>
  rw [ef] at hw
  intro G1 H1 s
  cases k with
  | true => exact m B G0 G1 W H1 σ en Dn (hh.step s) (hs.step s) hw
  | false => exact n B G0 G1 W H1 σ en Dn (hh.step s) (hs.step s) hw
def frz (i : Nat) (en : En) : En := match en[i]? with
 | some (some (.o d)) => en.set i (some (.p d))
 | _ => en
theorem zX {K : PySem.W.Frag} {B G0 G H : Hp} {W : Addr -> Option Nat} {σ : L2.St} {en : En} (i : Nat) (hh : SimH B G0 G W H) (hs : SimS K W G H σ en) : ∃ G' W', SimH B G0 G' W' H /\ SimS K W' G' H σ (frz i en) := by
 unfold frz
 split
 ·rename_i d e
  obtain ⟨v, e1, a, o, rfl, e2, e3, e4⟩ := hs.2 i _ e
  obtain ⟨w1, w2, w3⟩ := hh.wf a i e2
  have sg : Same G (upd G a o) := Same.upd (Same.refl _) w1 o
  refine ⟨upd G a o, fun b => if b = a then none else W b, ⟨fun b u q => ?_, hh.bh, hh.g0.trans sg, fun b hb => ?_, fun b j e => ?_⟩, by rw [List.length_set]; exact hs.1, fun j l e5 => ?_⟩
  ·by_cases z : b = a
   ·subst z; rw [cG] at q; rw [e3]; exact q
   ·rw [bU z] at q; exact hh.gh b u q
  ·by_cases z : b = a
   ·subst z; exact .inr (.inl w2)
   ·rw [bU z] at hb; exact hh.gb b hb
  ·split at e
   ·cases e
   ·rename_i z
    rw [bU z]; exact hh.wf b j e
  ·rw [List.getElem?_set] at e5
   by_cases hj : i = j
   ·subst hj
    rw [if_pos rfl] at e5
    split at e5
    ·cases e5
     exact ⟨_, e1, (e4.mono sg).rep cG⟩
    ·cases e5
   ·rw [if_neg hj] at e5
    obtain ⟨v, f1, f2⟩ := hs.2 j l e5
    refine ⟨v, f1, ?_⟩
    cases l with
    | p d => exact f2.mono sg
    | x C => obtain ⟨ea, g1, g2⟩ := f2; exact ⟨ea, g1, sg _ _ g2⟩
    | h a => exact f2
    | o d =>
     obtain ⟨b, ob, g1, g2, g3, g4⟩ := f2
     refine ⟨b, ob, g1, ?_, g3, g4.mono sg⟩
     show (if b = a then none else W b) = some j
     rw [if_neg (fun z => by rw [z, e2] at g2; exact hj (Option.some.inj g2))]
     exact g2
 ·exact ⟨G, W, hh, hs⟩
theorem yI (i : Nat) (h : DSs X E sts f) : DSs X E sts (fun en => f (frz i en)) := by
 obtain ⟨t, p, m⟩ := h.out
 refine DSs.in ⟨t, p, fun B G0 G W H σ en Dn hh hs hw => ?_⟩
 obtain ⟨G', W', h1, h2⟩ := zX i hh hs
 exact m B G0 G' W' H σ _ Dn h1 h2 hw
end
def mWh (c : En -> Res Bool) (f : MS) : Nat -> MS
 | 0, _ => none
 | n + 1, en => match c en with
  | .bad => none
  | .exc C => some (.ex C en)
  | .ok false => some (.nx en)
  | .ok true => match f en with
   | some (.nx e) => mWh c f n e
   | some (.ct e) => mWh c f n e
   | some (.bk e) => some (.nx e)
   | r => r
theorem mE {c : En -> Res Bool} {f : MS} : ∀ {n : Nat} {en : En} {r : Out}, mWh c f n en = some r -> mWh c f (n + 1) en = some r
 | 0, _, _, h => by cases h
 | n + 1, en, r, h => by
  unfold mWh at h ⊢
  cases ec : c en with
  | bad => rw [ec] at h; exact h
  | exc C => rw [ec] at h; exact h
  | ok k =>
   rw [ec] at h
   cases k with
   | false => exact h
   | true =>
    dsimp only at h ⊢
    cases ef : f en with
    | none => rw [ef] at h; exact h
    | some o =>
     rw [ef] at h
     cases o with
     | nx e => exact mE (n := n) h
     | ct e => exact mE (n := n) h
     | bk e => exact h
     | rt l => exact h
     | ex C e => exact h
theorem wQ {c : En -> Res Bool} {f : MS} {n m : Nat} {en : En} {r : Out} (h : mWh c f n en = some r) (l : n <= m) : mWh c f m en = some r := by
 induction l with
 | refl => exact h
 | step _ ih => exact mE ih
open Classical in
noncomputable def jX (c : En -> Res Bool) (f : MS) : MS := fun en => if h : ∃ n r, mWh c f n en = some r then mWh c f h.choose en else none
theorem nV {c : En -> Res Bool} {f : MS} {n : Nat} {en : En} {r : Out} (h : mWh c f n en = some r) : jX c f en = some r := by
 unfold jX
 have hx : ∃ n r, mWh c f n en = some r := ⟨n, r, h⟩
 rw [dif_pos hx]
 obtain ⟨r', h'⟩ := hx.choose_spec
 rcases Nat.le_total n hx.choose with l | l
 ·exact wQ h l
 ·have := wQ h' l
  rw [h] at this
  rw [h']; exact this.symm
theorem oE {c : En -> Res Bool} {f : MS} {en : En} {P : Out -> Prop} (h : wpO (jX c f en) P) : ∃ n, wpO (mWh c f n en) P := by
 unfold jX at h
 split at h
 ·exact ⟨_, h⟩
 ·exact h.elim
section
variable {X : Cx} {E : L2.St -> XK} {st : Stmt} {sts : List Stmt} {f g : MS} {fe : En -> Res Ev} {fc : En -> Res Bool} {e c : Expr} {pos : Pos}
theorem pP (hp : PassesOwn (model X.prog X.w) X.A X.env X.xe) (hc : DT X E c fc) (hb : DSs X E sts f) : DS X E (.While c sts [] pos) (jX fc f) := by
 obtain ⟨tc, pc, mc⟩ := hc.out
 obtain ⟨t, p, m⟩ := hb.out
 refine DS.in ⟨_, wA hp pc p, fun B G0 G W H σ en Dn hh hs hw => ?_⟩
 obtain ⟨n0, hw⟩ := oE hw
 refine ⟨fun n σ H => ∃ G W en, SimH B G0 G W H /\ SimS X.K W G H σ en /\ wpO (mWh fc f n en) (PostS X.K B G0 E Dn), ⟨n0, G, W, en, hh, hs, hw⟩, ?_⟩
 rintro n σ H ⟨G, W, en, hh, hs, hw⟩
 cases n with
 | zero => exact hw.elim
 | succ n =>
  refine mc B G0 G W H σ en _ hh hs ?_
  unfold mWh at hw
  cases ec : fc en with
  | bad => rw [ec] at hw; exact hw
  | exc C => rw [ec] at hw; exact fun G1 H1 s => hw G1 W H1 σ (hh.step s) (hs.step s)
  | ok k =>
   rw [ec] at hw
   intro G1 H1 s
   cases k with
   | false => exact hw G1 W H1 σ (hh.step s) (hs.step s)
   | true =>
    refine ⟨fun σ' H' => ∃ G W en, SimH B G0 G W H' /\ SimS X.K W G H' σ' en /\ wpO (mWh fc f n en) (PostS X.K B G0 E Dn), fun σ' H' q => ⟨n, Nat.lt_succ_self n, q⟩, ?_⟩
    refine m B G0 G1 W H1 σ en _ (hh.step s) (hs.step s) ?_
    dsimp only at hw
    cases ef : f en with
    | none => rw [ef] at hw; exact hw
    | some o =>
     rw [ef] at hw
     cases o with
     | nx e => exact fun G2 W2 H2 σ2 h2 s2 => ⟨G2, W2, e, h2, s2, hw⟩
     | ct e => exact fun G2 W2 H2 σ2 h2 s2 => ⟨G2, W2, e, h2, s2, hw⟩
     | bk e => exact hw
     | rt l => exact hw
     | ex C e => exact hw
end
def rM (K : PySem.W.Frag) (ds : List D) (G1 : Hp) (J : It) : Prop := ∀ G H, Same G1 G -> Same G H ->
 (∀ i d, ds[i]? = some d -> J.go i H /\ ∀ v H', J.yld i H v H' -> ∃ G', Step G H G' H' /\ Rep K G' v d) /\ J.stop ds.length H
def tI (K : PySem.W.Frag) (E : L2.St -> XK) (f : En -> Res (List D)) : TI := fun σ H R => ∃ B G0 G W en, SimH B G0 G W H /\ SimS K W G H σ en /\ wpR (f en) (fun ds => ∀ G' H' J, Step G H G' H' -> rM K ds G' J -> R J H') (PostX (E σ) G H)
def DI (X : Cx) (E : L2.St -> XK) (tg e : Expr) (f : En -> Res (List D)) : Prop := PI X tg e (tI X.K E f)
def Kept (ks : List Nat) (σ σ' : L2.St) : Prop := σ'.length = σ.length /\ ∀ j, j ∉ ks -> σ'[j]? = σ[j]?
def tG (K : PySem.W.Frag) (ks : List Nat) (f : D -> En -> Option En) : TG := fun v σ H Q => ∃ G W en d en', Same G H /\ SimS K W G H σ en /\ Rep K G v d /\ f d en = some en' /\ ∀ σ', SimS K W G H σ' en' -> Kept ks σ σ' -> Q σ' H
def DG (X : Cx) (tg : Expr) (ks : List Nat) (f : D -> En -> Option En) : Prop := PG X tg (tG X.K ks f)
def eU (i : Nat) : D -> En -> Option En := fun d en => some (en.set i (some (.p d)))
section
variable {X : Cx} {E : L2.St -> XK} {pos : Pos}
theorem DI.in {tg e : Expr} {f : En -> Res (List D)} (h : ∃ t, PI X tg e t /\ ∀ B G0 G W H σ en R, SimH B G0 G W H -> SimS X.K W G H σ en -> wpR (f en) (fun ds => ∀ G' H' J, Step G H G' H' -> rM X.K ds G' J -> R J H') (PostX (E σ) G H) -> t σ H R) : DI X E tg e f :=
 fun pins s σ H R I ⟨B, G0, G, W, en, h1, h2, h3⟩ => let ⟨_, p, m⟩ := h; p pins s σ H R I (m B G0 G W H σ en R h1 h2 h3)
theorem jW {i : Nat} {x : Str} (hN : X.N.Nodup) (hi : X.N[i]? = some x) (hx : Loc X.env.scope x) (hf : X.fn x = true \/ X.env.scope.names.lookup x = some .local := by first | exact .inl rfl | exact .inr rfl | assumption) : DG X (.Name x pos) [i] (eU i) := by
 intro pins s σ H v u Q I r ⟨G, W, en, d, en', h1, h2, h3, h4, h5⟩
 refine xJ hN hi hx hf pins s σ H v u Q I r ?_
 cases h4
 exact h5 _ (h2.set h3) ⟨List.length_set .., fun j hj => List.getElem?_set_ne (fun z => hj (by rw [z]; exact .head _))⟩
def iL (tg : D -> En -> Option En) (f : MS) : List D -> MS
 | [], en => some (.nx en)
 | d :: ds, en => match tg d en with
  | none => none
  | some e1 => match f e1 with
   | some (.nx e2) => iL tg f ds e2
   | some (.ct e2) => iL tg f ds e2
   | some (.bk e2) => some (.nx e2)
   | r => r
def zH (fi : En -> Res (List D)) (tg : D -> En -> Option En) (f : MS) : MS := fun en => match fi en with
 | .ok ds => iL tg f ds en
 | .exc C => some (.ex C en)
 | .bad => none
theorem SimH.lower {B G0 G1 G H H1 : Hp} {W W1 : Addr -> Option Nat} (h : SimH B G1 G W H) (h1 : SimH B G0 G1 W1 H1) : SimH B G0 G W H :=
 ⟨h.gh, h.bh, h1.g0.trans h.g0, fun b hb => (h.gb b hb).elim (fun z => h1.gb b z) .inr, h.wf⟩
theorem SimH.raise {B G0 G H : Hp} {W : Addr -> Option Nat} (h : SimH B G0 G W H) : SimH B G G W H := ⟨h.gh, h.bh, Same.refl _, fun _ hb => .inl hb, h.wf⟩
theorem PostS.lower {K : PySem.W.Frag} {B G0 G1 H1 : Hp} {W1 : Addr -> Option Nat} {Dn : Ends} {r : Out} (h : PostS K B G0 E Dn r) (h1 : SimH B G0 G1 W1 H1) : PostS K B G1 E Dn r := by
 cases r with
 | nx en => exact fun G W H σ a b => h G W H σ (a.lower h1) b
 | bk en => exact fun G W H σ a b => h G W H σ (a.lower h1) b
 | ct en => exact fun G W H σ a b => h G W H σ (a.lower h1) b
 | rt l => exact fun G W H σ a b => h G W H σ (a.lower h1) b
 | ex C en => exact fun G W H σ a b => h G W H σ (a.lower h1) b
theorem xD {tg iter : Expr} {body : List Stmt} {fi : En -> Res (List D)} {ks : List Nat} {g : D -> En -> Option En} {f : MS} (hp : PassesOwn (model X.prog X.w) X.A X.env X.xe) (hc : X.calm = true) (hi : DI X E tg iter fi) (hg : DG X tg ks g) (hb : DSs X E body f)
  (hs : ∀ x, foldedSetIterable iter X.env x = pure x := by intro _; rfl) : DS X E (.For tg iter body [] pos) (zH fi g f) := by
 obtain ⟨t, p, m⟩ := hb.out
 refine DS.in ⟨_, aCd hp hc hi hg p hs, fun B G0 G W H σ en Dn hh hs hw => ⟨B, G0, G, W, en, hh, hs, ?_⟩⟩
 unfold zH at hw
 cases ef : fi en with
 | bad => rw [ef] at hw; exact hw
 | exc C => rw [ef] at hw; exact fun G1 H1 s => hw G1 W H1 σ (hh.step s) (hs.step s)
 | ok ds =>
  rw [ef] at hw
  intro G1 H1 J s1 hJ
  have hh1 := hh.step s1
  refine ⟨fun i n σ H => n = ds.length - i /\ i <= ds.length /\ ∃ G W en, SimH B G1 G W H /\ SimS X.K W G H σ en /\ wpO (iL g f (ds.drop i) en) (PostS X.K B G0 E Dn),
   ⟨ds.length, rfl, Nat.zero_le _, G1, W, en, hh1.raise, hs.step s1, hw⟩, ?_⟩
  rintro i n σ H ⟨rfl, hi, G, W, en, hh, hs, hw⟩
  obtain ⟨j1, j2⟩ := hJ G H hh.g0 hh.gh
  by_cases hlt : i < ds.length
  ·refine .inr ?_
   obtain ⟨jg, jy⟩ := j1 i ds[i] (List.getElem?_eq_getElem hlt)
   rw [List.drop_eq_getElem_cons hlt] at hw
   unfold iL at hw
   refine ⟨jg, fun σ' H' => ∃ G W en, SimH B G1 G W H' /\ SimS X.K W G H' σ' en /\ wpO (iL g f (ds.drop (i + 1)) en) (PostS X.K B G0 E Dn), fun σ' H' q => ⟨ds.length - (i + 1), by omega, rfl, hlt, q⟩, fun v H' hy => ?_⟩
   obtain ⟨G2, s2, rv⟩ := jy v H' hy
   cases eg : g ds[i] en with
   | none => rw [eg] at hw; exact hw.elim
   | some e1 =>
    rw [eg] at hw
    dsimp only at hw
    refine ⟨G2, W, en, ds[i], e1, s2.gh, hs.step s2, rv, eg, fun σ' hσ _ => ?_⟩
    refine m B G1 G2 W H' σ' e1 _ (hh.step s2) hσ ?_
    cases ef2 : f e1 with
    | none => rw [ef2] at hw; exact hw
    | some o =>
     rw [ef2] at hw
     cases o with
     | nx e => exact fun G2 W2 H2 σ2 h2 s2 => ⟨G2, W2, e, h2, s2, hw⟩
     | ct e => exact fun G2 W2 H2 σ2 h2 s2 => ⟨G2, W2, e, h2, s2, hw⟩
     | bk e => exact PostS.lower (E := E) (Dn := Dn) (r := .nx e) hw hh1
     | rt l => exact PostS.lower (E := E) (Dn := Dn) (r := .rt l) hw hh1
     | ex C e => exact PostS.lower (E := E) (Dn := Dn) (r := .ex C e) hw hh1
  ·have e : i = ds.length := by omega
   subst e
   rw [List.drop_length] at hw
   exact .inl ⟨j2, hw G W H σ (hh.lower hh1) hs⟩
def aDa (r : Ev) : Res (List D) := match r with
 | .p (.list ds) => .ok ds
 | _ => .bad
def aEq (fe : En -> Res Ev) : En -> Res (List D) := fun en => (fe en).bind fun r => aDa r.c
theorem xY {tg e : Expr} {fe : En -> Res Ev} (he : DE X E e fe) : DI X E tg e (aEq fe) := by
 obtain ⟨t, p, m⟩ := he.out
 refine DI.in ⟨_, xX p, fun B G0 G W H σ en R hh hs hw => m B G0 G W H σ en _ hh hs ?_⟩
 have hw : wpR ((fe en).bind _) _ _ := hw
 rw [bO] at hw
 refine a6 hw (fun r hr G1 H1 v s e => ?_) fun C h => h
 obtain ⟨G2, s2, e2⟩ := e.c s
 cases er : r.c with
 | p d =>
  rw [er] at hr e2
  cases d with
  | list ds =>
   cases e2 with
   | @lst a xs _ ha hrs =>
    refine ⟨a, rfl, ⟨xs, s2.gh.seq (.inl ha)⟩, hr G2 H1 _ s2 fun G3 H3 k1 k2 => ⟨fun i d ed => ?_, xs, (k1.trans k2).seq (.inl ha), Nat.le_of_eq hrs.length⟩⟩
    obtain ⟨x, ex, rx⟩ := hrs.get' ed
    refine ⟨⟨xs, x, (k1.trans k2).seq (.inl ha), ex⟩, fun v H' hy => ?_⟩
    obtain ⟨rfl, hy⟩ := hy
    have := hy xs ((k1.trans k2).seq (.inl ha))
    rw [ex] at this
    cases this
    exact ⟨G3, Step.refl k2, rx.mono k1⟩
  | _ => exact False.elim hr
 | f d => rw [er] at hr; exact False.elim hr
 | b d => rw [er] at hr; exact False.elim hr
 | x C => rw [er] at hr; exact False.elim hr
def aC5 (lo : Int) (n : Nat) : List D := (List.range n).map fun (k : Nat) => PyData.int (lo + (k : Int))
def rW (rs : List Ev) : Res (List D) := match rs with
 | [.p (.int j)] => if -(2 ^ 62) <= j /\ j < 2 ^ 62 then .ok (aC5 0 j.toNat) else .bad
 | _ => .bad
theorem pZ (K : PySem.W.Frag) (lo : Int) (n : Nat) (G1 : Hp) : rM K (aC5 lo n) G1 (Itr lo n) := fun G H _ k2 => by
 refine ⟨fun i d ed => ?_, by show n <= _; unfold aC5; rw [List.length_map, List.length_range]; exact Nat.le_refl _⟩
 unfold aC5 at ed
 rw [List.getElem?_map] at ed
 by_cases hi : i < n
 ·rw [List.getElem?_range hi] at ed
  cases ed
  refine ⟨hi, fun v H' hy => ?_⟩
  obtain ⟨rfl, rfl⟩ := hy
  exact ⟨G, Step.refl k2, .int _⟩
 ·rw [List.getElem?_eq_none (by rw [List.length_range]; omega)] at ed
  cases ed
def aC1 (r : List Ev -> Res (List D)) (fr : En -> Res (List Ev)) : En -> Res (List D) := fun en => (fr en).bind r
theorem nG {tg a : Expr} {fr : En -> Res (List Ev)} {p : Pos} (hg : Gl X "range") (hm : X.mg "range" = none) (ha : DA X E [a] fr) (hs : starEach [a] X.env = [(false, eval a X.env)] := by rfl) : DI X E tg (.Call (.Name "range" p) [a] [] pos) (aC1 rW fr) := by
 obtain ⟨t, q, m⟩ := ha.out
 refine DI.in ⟨_, tV hg hm q hs, fun B G0 G W H σ en R hh hs hw => m B G0 G W H σ en _ hh hs ?_⟩
 have hw : wpR ((fr en).bind _) _ _ := hw
 rw [bO] at hw
 refine a6 hw (fun rs hr G1 H1 vs s e => ?_) fun C h => h
 unfold rW at hr
 split at hr
 ·rename_i j
  split at hr
  ·rename_i hj
   match vs, e with
   | [v], ⟨e1, _⟩ =>
    cases e1
    exact ⟨j, rfl, hj.1, hj.2, hr G1 H1 _ s (pZ _ _ _ _)⟩
  ·exact False.elim hr
 ·exact False.elim hr
end
def xA : Ev -> Option L
 | .p d => some (.p d)
 | .x C => some (.x C)
 | .b _ => none
 | .f _ => none
def aAz : Ev -> Option L
 | .p d => some (.p d)
 | .b d => some (.p d)
 | .x _ => none
 | .f _ => none
def hR (g : Ev -> Option L) : List Ev -> Option (List L)
 | [] => some []
 | r :: rs => match g r with
  | none => none
  | some l => match hR g rs with
   | none => none
   | some ls => some (l :: ls)
def u3 : L -> Ev
 | .p d => .p d
 | .o d => .f d
 | .x C => .x C
 | .h a => .x a
mutual
def lfD : D -> Bool
 | .list _ => false
 | .dict _ => false
 | .tuple ds => lfA ds
 | _ => true
def lfA : List D -> Bool
 | [] => true
 | d :: ds => lfD d && lfA ds
end
def lfP : List (D × D) -> Bool
 | [] => true
 | p :: r => lfD p.2 && lfP r
def xG : L -> Bool
 | .p d => lfD d
 | .o (.list ds) => lfA ds
 | .o (.dict kvs) => lfP kvs
 | _ => false
def nA (n : Nat) (m : List L -> Res L) (rs : List Ev) : Res Ev := match hR xA rs with
 | some ls => if ls.length = n then (m ls).bind fun l => .ok (u3 l) else .bad
 | none => match hR aAz rs with
  | some ls => if ls.length = n then (m ls).bind fun l => if xG l = true then .ok (u3 l) else .bad else .bad
  | none => .bad
def a8 (n : Nat) (m : List L -> Res L) (fr : En -> Res (List Ev)) : En -> Res Ev := fun en => (fr en).bind (nA n m)
def aDr (K : PySem.W.Frag) (G : Hp) (v : V) : L -> Prop
 | .p d => Rep K G v d
 | .o _ => False
 | .x C => ∃ e, v = .ref e /\ G e = some (s9 e (.ref C))
 | .h _ => False
def ArgsOk (K : PySem.W.Frag) (G : Hp) : List V -> List L -> Prop
 | [], [] => True
 | v :: vs, l :: ls => aDr K G v l /\ ArgsOk K G vs ls
 | _, _ => False
theorem ArgsOk.length {K : PySem.W.Frag} {G : Hp} : ∀ {vs : List V} {ls : List L}, ArgsOk K G vs ls -> vs.length = ls.length
 | [], [], _ => rfl
 | _ :: _, _ :: _, h => by rw [List.length_cons, List.length_cons, ArgsOk.length h.2]
def spM (K : PySem.W.Frag) (n : Nat) (m : List L -> Res L) : Sp := fun vs H Q E => vs.length = n /\ ∃ G ls, Same G H /\ ArgsOk K G vs ls /\
 wpR (m ls) (fun l => ∀ G' H' v, Step G H G' H' -> y7 K H G' H' v l -> Q v H') (fun C => ∀ G' H', Step G H G' H' -> E (.ref C) none H')
theorem tJ {K : PySem.W.Frag} {W : Addr -> Option Nat} {Hs G H : Hp} : ∀ {rs : List Ev} {ls : List L} {vs : List V}, hR xA rs = some ls -> EOks K W Hs G H vs rs -> ArgsOk K G vs ls
 | [], _, [], h, _ => by cases h; exact trivial
 | [], _, _ :: _, _, e => e.elim
 | _ :: _, _, [], _, e => e.elim
 | r :: rs, ls, v :: vs, h, e => by
  unfold hR at h
  cases r with
  | p d =>
   cases er : hR xA rs with
   | none => rw [er] at h; cases h
   | some ls' => rw [er] at h; cases h; exact ⟨e.1, tJ er e.2⟩
  | x C =>
   cases er : hR xA rs with
   | none => rw [er] at h; cases h
   | some ls' => rw [er] at h; cases h; exact ⟨e.1, tJ er e.2⟩
  | b d => cases h
  | f d => cases h
def both (W : Addr -> Option Nat) (G H : Hp) : Hp := fun b => match W b with
 | some _ => H b
 | none => G b
theorem jU {W : Addr -> Option Nat} {B G0 G H : Hp} (hh : SimH B G0 G W H) : Same G (both W G H) /\ Same (both W G H) H := by
 refine ⟨fun b o e => ?_, fun b o e => ?_⟩
 ·unfold both
  cases ew : W b with
  | none => exact e
  | some i => rw [(hh.wf b i ew).1] at e; cases e
 ·unfold both at e
  cases ew : W b with
  | none => rw [ew] at e; exact hh.gh b o e
  | some i => rw [ew] at e; exact e
theorem sM {K : PySem.W.Frag} {W : Addr -> Option Nat} {Hs B G0 G H : Hp} (hh : SimH B G0 G W H) : ∀ {rs : List Ev} {ls : List L} {vs : List V}, hR aAz rs = some ls -> EOks K W Hs G H vs rs -> ArgsOk K (both W G H) vs ls
 | [], _, [], h, _ => by cases h; exact trivial
 | [], _, _ :: _, _, e => e.elim
 | _ :: _, _, [], _, e => e.elim
 | r :: rs, ls, v :: vs, h, e => by
  unfold hR at h
  cases r with
  | p d =>
   cases er : hR aAz rs with
   | none => rw [er] at h; cases h
   | some ls' => rw [er] at h; cases h; exact ⟨Rep.mono (jU hh).1 e.1, sM hh er e.2⟩
  | b d =>
   cases er : hR aAz rs with
   | none => rw [er] at h; cases h
   | some ls' =>
    rw [er] at h; cases h
    refine ⟨?_, sM hh er e.2⟩
    obtain ⟨a, i, o, rfl, h1, h2, h3⟩ := e.1
    exact (h3.mono (jU hh).1).rep (by unfold both; rw [h1]; exact h2)
  | x d => cases h
  | f d => cases h
mutual
theorem o3 {K : PySem.W.Frag} {G G' : Hp} (k : ∀ b xs, G b = some (.tup xs) -> G' b = some (.tup xs)) : ∀ {v : V} {d : D}, lfD d = true -> Rep K G v d -> Rep K G' v d
 | _, _, _, .non => .non
 | _, _, _, .bl b => .bl b
 | _, _, _, .int i => .int i
 | _, _, _, .str x => .str x
 | _, _, hf, .tup h r => .tup (k _ _ h) (nX k (by unfold lfD at hf; exact hf) r)
 | _, _, hf, .lst _ _ => by unfold lfD at hf; cases hf
 | _, _, hf, .dT _ _ => by unfold lfD at hf; cases hf
 | _, _, hf, .dK _ _ => by unfold lfD at hf; cases hf
theorem nX {K : PySem.W.Frag} {G G' : Hp} (k : ∀ b xs, G b = some (.tup xs) -> G' b = some (.tup xs)) : ∀ {vs : List V} {ds : List D}, lfA ds = true -> Reps K G vs ds -> Reps K G' vs ds
 | _, _, _, .nil => .nil
 | _, _, hf, .cons h r => by
  unfold lfA at hf
  have hf := Bool.and_eq_true_iff.mp hf
  exact .cons (o3 k hf.1 h) (nX k hf.2 r)
end
theorem sI {K : PySem.W.Frag} {G G' : Hp} (k : ∀ b xs, G b = some (.tup xs) -> G' b = some (.tup xs)) : ∀ {kv : List (List Key × V)} {kvs : List (D × D)}, lfP kvs = true -> RepT K G kv kvs -> RepT K G' kv kvs
 | _, _, _, .nil => .nil
 | _, _, hf, .cons h r => by
  unfold lfP at hf
  have hf := Bool.and_eq_true_iff.mp hf
  exact .cons (o3 k hf.1 h) (sI k hf.2 r)
theorem tL {K : PySem.W.Frag} {G G' : Hp} (k : ∀ b xs, G b = some (.tup xs) -> G' b = some (.tup xs)) : ∀ {kv : List (Key × V)} {kvs : List (D × D)}, lfP kvs = true -> RepK K G kv kvs -> RepK K G' kv kvs
 | _, _, _, .nil => .nil
 | _, _, hf, .cons h r => by
  unfold lfP at hf
  have hf := Bool.and_eq_true_iff.mp hf
  exact .cons (o3 k hf.1 h) (tL k hf.2 r)
def kZ (W : Addr -> Option Nat) (G : Hp) : Hp := fun b => match W b with
 | some _ => none
 | none => G b
theorem vC {K : PySem.W.Frag} {W : Addr -> Option Nat} {H1 G H Hs : Hp} {v : V} {l : L} (hf : xG l = true) (hH : Hs = Hs) (hs : ∀ b, H1 b = none -> Hs b = none) (k : ∀ b xs, G b = some (.tup xs) -> kZ W G b = some (.tup xs)) (h : y7 K H1 G H v l) : EOk K W Hs (kZ W G) H v (u3 l) := by
 have n0 : ∀ b, G b = none -> kZ W G b = none := fun b e => by
  unfold kZ
  cases W b with
  | none => exact e
  | some _ => rfl
 cases l with
 | x C => cases hf
 | h a => cases hf
 | p d => exact o3 k hf h
 | o d =>
  obtain ⟨a, o, rfl, h1, h2, h3, h4⟩ := h
  refine ⟨a, o, rfl, hs _ h2, n0 _ h1, h3, ?_⟩
  cases h4 with
  | lst r => exact .lst (nX k hf r)
  | dT r => exact .dT (sI k hf r)
  | dK r => exact .dK (tL k (by unfold xG at hf; unfold lfP at hf; exact (Bool.and_eq_true_iff.mp hf).2) r)
theorem nB {K : PySem.W.Frag} {W : Addr -> Option Nat} {B G0 G H G1 H1 : Hp} {n : Nat} {m : List L -> Res L} {rs : List Ev} {vs : List V} {Q : VK} {EE : XK} (hh : SimH B G0 G W H) (s : Step G H G1 H1) (e : EOks K W H G1 H1 vs rs)
  (hr : wpR (nA n m rs) (PostE K W G H Q) (PostX EE G H)) : spM K n m vs H1 Q EE := by
 unfold nA at hr
 split at hr
 ·rename_i ls el
  split at hr
  ·rename_i hn
   have ha := tJ el e
   refine ⟨by rw [ha.length]; exact hn, G1, ls, s.gh, ha, ?_⟩
   rw [bO] at hr
   refine a6 hr (fun l hl G2 H2 v s2 rv => hl G2 H2 v (s.trans s2) ?_) fun C h G2 H2 s2 => h G2 H2 (s.trans s2)
   cases l with
   | p d => exact rv
   | x C => exact rv
   | h a => exact rv.elim
   | o d =>
    obtain ⟨a, o, h1, h2, h3, h4, h5⟩ := rv
    exact ⟨a, o, h1, s.h.free h3, h2, h4, h5⟩
  ·exact hr.elim
 ·split at hr
  ·rename_i ls el
   split at hr
   ·rename_i hn
    have hh1 := hh.step s
    have ha := sM hh1 el e
    obtain ⟨k1, k2⟩ := jU hh1
    refine ⟨by rw [ha.length]; exact hn, both W G1 H1, ls, k2, ha, ?_⟩
    rw [bO] at hr
    refine a6 hr (fun l hl G2 H2 v s2 rv => ?_) fun C h G2 H2 s2 => h G1 H2 (s.trans ⟨Same.refl _, s2.h, s.gh.trans s2.h, fun _ _ q => .inl q⟩)
    split at hl
    ·rename_i hf
     have kt : ∀ b xs, G2 b = some (.tup xs) -> kZ W G2 b = some (.tup xs) := fun b xs eb => by
      unfold kZ
      cases ew : W b with
      | none => exact eb
      | some i =>
       obtain ⟨_, _, o, e1, e2⟩ := hh1.wf b i ew
       have e3 := s2.gh _ _ eb
       rw [s2.h _ _ e1] at e3
       exact absurd (Option.some.inj e3) (e2 xs)
     refine hl (kZ W G2) H2 v ⟨fun b o eb => ?_, s.h.trans s2.h, fun b o eb => ?_, fun b hb hg => ?_⟩ (vC hf rfl (fun b e => s.h.free e) kt rv)
     ·have e1 := s.g _ _ eb
      unfold kZ
      cases ew : W b with
      | none => exact s2.g _ _ (k1 _ _ e1)
      | some i => rw [(hh1.wf b i ew).1] at e1; cases e1
     ·unfold kZ at eb
      cases ew : W b with
      | none => rw [ew] at eb; exact s2.gh _ _ eb
      | some i => rw [ew] at eb; cases eb
     ·unfold kZ
      cases ew : W b with
      | some i => exact .inl rfl
      | none =>
       rcases s.new b hb hg with z | z
       ·have z2 : both W G1 H1 b = none := by unfold both; rw [ew]; exact z
        rcases s2.new b (qU s.h hb) z2 with y | ⟨xs, y⟩
        ·exact .inl y
        ·cases e : H b with
         | none => exact absurd e hb
         | some o => rw [s.h _ _ e] at y; exact .inr ⟨xs, y⟩
       ·exact .inr z
    ·exact hl.elim
   ·exact hr.elim
  ·exact hr.elim
section
variable {X : Cx} {E : L2.St -> XK} {k : Nat} {f : Addr} {fd : FuncData} {ps : List Str} {x : Str} {p pos : Pos} {e : Expr} {es : List Expr} {fr : En -> Res (List Ev)} {n : Nat} {m : List L -> Res L}
theorem yX (F : FnOk X.prog X.w X.K X.mg X.base (CXr X.prog X.w) k f fd ps (spM X.K n m)) (hr : Room k X.A) (hg : Gl X x) (hm : X.mg x = some (.ref f)) (hk : PySem.W.keepIn X.K (.ref f) = true) (hb : Binds X.K fd ps []) (hx : iA (CXr X.prog X.w) X E)
  (ha : DA X E (e :: es) fr) (hdb : (x == ("__debug__" : Str)) = false := by decide) (he : starEach (e :: es) X.env = (false, eval e X.env) :: starEach es X.env := by rfl) (hpl : (backTo pos (starEach es X.env)).any (·.1) = false := by rfl) :
  DE X E (.Call (.Name x p) (e :: es) [] pos) (a8 n m fr) := by
 obtain ⟨t, q, mm⟩ := ha.out
 refine DE.in ⟨_, vX F hr hg hm hk hb hx q hdb he hpl, fun B G0 G W H σ en Q hh hs hw => mm B G0 G W H σ en _ hh hs ?_⟩
 have hw : wpR ((fr en).bind _) _ _ := hw
 rw [bO] at hw
 exact a6 hw (fun rs hr G1 H1 vs s e => nB hh s e hr) fun C h => h
theorem vY (F : rD X.prog X.w X.K X.mg X.base k f fd ps (spM X.K n m)) (hr : RoomQ k X.A) (hg : Gl X x) (hm : X.mg x = some (.ref f)) (hk : PySem.W.keepIn X.K (.ref f) = true) (hb : Binds X.K fd ps [])
  (ha : DA X (fun _ => E0) (e :: es) fr) (hdb : (x == ("__debug__" : Str)) = false := by decide) (he : starEach (e :: es) X.env = (false, eval e X.env) :: starEach es X.env := by rfl) (hpl : (backTo pos (starEach es X.env)).any (·.1) = false := by rfl) :
  DE X (fun _ => E0) (.Call (.Name x p) (e :: es) [] pos) (a8 n m fr) := by
 obtain ⟨t, q, mm⟩ := ha.out
 refine DE.in ⟨_, vG F hr hg hm hk hb q hdb he hpl, fun B G0 G W H σ en Q hh hs hw => mm B G0 G W H σ en _ hh hs ?_⟩
 have hw : wpR ((fr en).bind _) _ _ := hw
 rw [bO] at hw
 exact a6 hw (fun rs hr G1 H1 vs s e => nB hh s e hr) fun C h => h
def lS (K : PySem.W.Frag) (r : List V -> Hp -> VK -> Prop) (f : List Ev -> Res Ev) : Prop := ∀ (W : Addr -> Option Nat) (Hs G H : Hp) (vs : List V) (rs : List Ev) (Q : VK), Same G H -> EOks K W Hs G H vs rs -> wpR (f rs) (PostE K W G H Q) (fun _ => False) -> r vs H Q
def uI (f : List Ev -> Res Ev) : Prop := ∀ rs C, f rs ≠ .exc C
def aL (f : List Ev -> Res Ev) (fr : En -> Res (List Ev)) : En -> Res Ev := fun en => (fr en).bind f
theorem lH {r : List V -> Hp -> VK -> Prop} {f : List Ev -> Res Ev} {t : TA} (hm : lS X.K r f) (hn : uI f) (mm : ∀ B G0 G W H σ en Q, SimH B G0 G W H -> SimS X.K W G H σ en -> wpR (fr en) (vS X.K W G H Q) (PostX (E σ) G H) -> t σ H Q) :
  ∀ B G0 G W H σ en Q, SimH B G0 G W H -> SimS X.K W G H σ en -> wpR (aL f fr en) (PostE X.K W G H Q) (PostX (E σ) G H) -> tCB r t σ H Q := by
 intro B G0 G W H σ en Q hh hs hw
 refine mm B G0 G W H σ en _ hh hs ?_
 have hw : wpR ((fr en).bind _) _ _ := hw
 rw [bO] at hw
 exact a6 hw (fun rs hr G1 H1 vs s e => hm W H G1 H1 vs rs Q s.gh e (noX (a6 hr (fun _ h => h.step s) fun _ h => h) (hn rs))) fun C h => h
theorem bP {id : String} {r : List V -> Hp -> VK -> Prop} {f : List Ev -> Res Ev} (hc : CallR X (.builtin id) r) (hM : lS X.K r f) (hn : uI f) (hg : Gl X x) (hm : X.mg x = none) (hv : bootBuiltins x = some (.builtin id)) (ha : DA X E (e :: es) fr) (hnn : x ≠ "__name__" := by decide) (hdb : (x == ("__debug__" : Str)) = false := by decide)
  (he : starEach (e :: es) X.env = (false, eval e X.env) :: starEach es X.env := by rfl) (hpl : (backTo pos (starEach es X.env)).any (·.1) = false := by rfl) : DE X E (.Call (.Name x p) (e :: es) [] pos) (aL f fr) := by
 obtain ⟨t, q, mm⟩ := ha.out
 exact DE.in ⟨_, pW hc hg hm hv q hnn hdb he hpl, lH hM hn mm⟩
theorem dU {T : String} {r : List V -> Hp -> VK -> Prop} {f : List Ev -> Res Ev} (hc : CallR X (.type T) r) (hM : lS X.K r f) (hn : uI f) (hg : Gl X x) (hm : X.mg x = none) (hv : bootBuiltins x = some (.type T)) (ha : DA X E (e :: es) fr) (hnn : x ≠ "__name__" := by decide) (hdb : (x == ("__debug__" : Str)) = false := by decide)
  (he : starEach (e :: es) X.env = (false, eval e X.env) :: starEach es X.env := by rfl) (hpl : (backTo pos (starEach es X.env)).any (·.1) = false := by rfl) : DE X E (.Call (.Name x p) (e :: es) [] pos) (aL f fr) := by
 obtain ⟨t, q, mm⟩ := ha.out
 exact DE.in ⟨_, sD hc hg hm hv q hnn hdb he hpl, lH hM hn mm⟩
end
def b9 (n : Nat) (ls : List L) : En := ls.map some ++ List.replicate (n - ls.length) none
def eB (n : Nat) (f : MS) (ls : List L) : Res L := match f (b9 n ls) with
 | some (.nx _) => .ok (.p .none)
 | some (.rt l) => .ok l
 | some (.ex C _) => .exc C
 | _ => .bad
theorem lL {K : PySem.W.Frag} {W : Addr -> Option Nat} {G H : Hp} : ∀ {vs : List V} {ls : List L} (i : Nat) (l : L), ArgsOk K G vs ls -> ls[i]? = some l -> ∃ v, vs[i]? = some v /\ ∀ j, Slot K W G H j v l
 | [], [], _, _, _, e => by simp at e
 | v :: vs, l :: ls, 0, m, h, e => by
  simp at e; subst e
  refine ⟨v, rfl, fun j => ?_⟩
  have z := h.1
  cases l with
  | p d => exact z
  | x C => exact z
  | h a => exact z.elim
  | o d => exact z.elim
 | v :: vs, l :: ls, i + 1, m, h, e => by
  have := lL (W := W) (H := H) i m h.2 (by simpa using e)
  simpa using this
theorem rL {K : PySem.W.Frag} {W : Addr -> Option Nat} {G H : Hp} {N : List Str} {vs : List V} {ls : List L} (h : ArgsOk K G vs ls) : SimS K W G H (L2.start N vs) (b9 N.length ls) := by
 have hl := h.length
 refine ⟨by unfold L2.start b9; simp [hl], fun i l e => ?_⟩
 unfold b9 at e
 by_cases hi : i < ls.length
 ·rw [List.getElem?_append_left (by rw [List.length_map]; exact hi), List.getElem?_map] at e
  cases e2 : ls[i]? with
  | none => rw [e2] at e; cases e
  | some l' =>
   rw [e2] at e
   cases e
   obtain ⟨v, e3, e4⟩ := lL (W := W) (H := H) i l h e2
   refine ⟨v, ?_, e4 i⟩
   unfold L2.start
   rw [List.getElem?_append_left (by rw [List.length_map, hl]; exact hi), List.getElem?_map, e3]
   rfl
 ·rw [List.getElem?_append_right (by rw [List.length_map]; omega), List.getElem?_replicate] at e
  split at e <;> cases e
theorem oK {G H G' H' : Hp} {W : Addr -> Option Nat} (h : SimH H G G' W H') : Step G H G' H' := ⟨h.g0, h.bh, h.gh, fun b hb hg => by
 cases e : G' b with
 | none => exact .inl rfl
 | some o =>
  rcases h.gb b (by rw [e]; exact fun z => nomatch z) with z | z | z
  ·exact absurd hg z
  ·exact absurd z hb
  ·exact .inr z⟩
theorem nJ {K : PySem.W.Frag} {N : List Str} {n : Nat} {m : List L -> Res L} {fm : MS} {vs : List V} {H : Hp} {Q : VK} {E : XK} (h : spM K n m vs H Q E) (hm : ∀ ls, m ls = .bad \/ eB N.length fm ls = m ls) :
  tS K (fun _ => E) fm { nx := fun _ H' => Q .non H', rt := Q } (L2.start N vs) H := by
 obtain ⟨hl, G, ls, gh, ha, hw⟩ := h
 refine ⟨H, G, G, fun _ => none, b9 N.length ls, ⟨gh, Same.refl _, Same.refl _, fun _ hb => .inl hb, fun a i e => nomatch e⟩, rL ha, ?_⟩
 rcases hm ls with e | e
 ·rw [e] at hw; exact hw.elim
 ·rw [<- e] at hw
  unfold eB at hw
  cases ef : fm (b9 N.length ls) with
  | none => rw [ef] at hw; exact hw
  | some o =>
   rw [ef] at hw
   cases o with
   | nx en => exact fun G' W' H' σ' h1 _ => hw G' H' .non (oK h1) .non
   | rt l => exact fun G' W' H' v h1 h2 => hw G' H' v (oK h1) h2
   | bk en => exact hw.elim
   | ct en => exact hw.elim
   | ex C en => exact fun G' W' H' σ' h1 _ => hw G' H' (oK h1)
section
variable {P : Program} {w : World} {K : PySem.W.Frag} {mg : Str -> Option Value} {base : Heap}
theorem dR {N : List Str} {qual : Str} {scope : Scope} {f : Addr} {cd : Value} {A : Around} {outer : List Env} {s : Shared} {H : Hp} {E : XK} : iA (CXr P w) (jM (CXr P w) P w K mg base N qual scope f cd A outer s H E) (fun _ => E) :=
 fun pins σ H s e s' I h => aDz pins σ H s e s' I h
theorem aDt {X : Cx} : iA (CXr P w) X (fun _ => E0) := fun _ _ _ _ _ _ _ ⟨_, _, _, _, _, _, _, z⟩ => z.elim
theorem fnM {x qual : Str} {st : Stmt} {f : Addr} {fd : FuncData} {N ps : List Str} {k n : Nat} {m : List L -> Res L} (F : Fun K x qual st f fd) (S : bF N ps (aI st)) (hn : n = ps.length)
  (hbody : ∀ (cdv : Value) (A : Around) (outer : List Env) (s : Shared) (H : Hp) (E : XK), Room k (A.deeper (envOfC qual (aI st) s.heap.objs.size f cdv)) ->
   ∃ fm, DSs (jM (CXr P w) P w K mg base N qual (aI st) f cdv A outer s H E) (fun _ => E) (dD st) fm /\ ∀ ls, m ls = .bad \/ eB N.length fm ls = m ls) : FnOk P w K mg base (CXr P w) (k + 1) f fd ps (spM K n m) := by
 refine F.okX S (fun vs H Q E h => ?_) (fun cdv A outer s H vs Q E hr h => ?_)
 ·rw [<- hn]; exact h.1
 ·obtain ⟨fm, hd, hm⟩ := hbody cdv A outer s H E hr
  exact ⟨_, hd, nJ h hm⟩
theorem aFj {x qual : Str} {st : Stmt} {f : Addr} {fd : FuncData} {N ps : List Str} {k n : Nat} {m : List L -> Res L} (F : Fun K x qual st f fd) (S : bF N ps (aI st)) (hn : n = ps.length)
  (hbody : ∀ (cdv : Value) (A : Around) (outer : List Env) (s : Shared) (H : Hp), RoomQ k (A.deeper (envOfC qual (aI st) s.heap.objs.size f cdv)) ->
   ∃ fm, DSs (jM CX0 P w K mg base N qual (aI st) f cdv A outer s H E0).quiet (fun _ => E0) (dD st) fm /\ ∀ ls, m ls = .bad \/ eB N.length fm ls = m ls) : rD P w K mg base (k + 1) f fd ps (spM K n m) := by
 refine F.okQ S (fun vs H Q E h => ?_) (fun cdv A outer s H vs Q hr h => ?_)
 ·rw [<- hn]; exact h.1
 ·obtain ⟨fm, hd, hm⟩ := hbody cdv A outer s H hr
  exact ⟨_, hd, nJ h hm⟩
end
def pL (C : Addr) (fr : En -> Res (List Ev)) : MS := fun en => match fr en with
 | .ok rs => if rs.length <= 1000 then some (.ex C en) else none
 | .exc C => some (.ex C en)
 | .bad => none
theorem EOks.length {K : PySem.W.Frag} {W : Addr -> Option Nat} {Hs G H : Hp} : ∀ {vs : List V} {rs : List Ev}, EOks K W Hs G H vs rs -> vs.length = rs.length
 | [], [], _ => rfl
 | [], _ :: _, h => h.elim
 | _ :: _, [], h => h.elim
 | _ :: _, _ :: _, h => by rw [List.length_cons, List.length_cons, EOks.length h.2]
section
variable {X : Cx}
theorem vE {E : XK} {x : Str} {e₀ : Expr} {rest : List Expr} {fr : En -> Res (List Ev)} {C : Addr} {bm : List Value} {B newId initId : String} {np cpos pos : Pos} (hx : tM X E) (hc : X.calm = true) (hg : Gl X x) (O : OwnCls x C bm newId X.mg X.base)
  (FB : ExcBaseFacts B newId initId bm) (ha : DA X (fun _ => E) (e₀ :: rest) fr) (hdb : (x == ("__debug__" : Str)) = false := by decide)
  (he : starEach (e₀ :: rest) X.env = (false, eval e₀ X.env) :: starEach rest X.env := by rfl) (hpl : (backTo cpos (starEach rest X.env)).any (·.1) = false := by rfl) :
  DS X (fun _ => E) (.Raise (some (.Call (.Name x np) (e₀ :: rest) [] cpos)) none pos) (pL C fr) := by
 obtain ⟨t, q, m⟩ := ha.out
 refine DS.in ⟨_, uX hx hc hg O FB q hdb he hpl, fun B G0 G W H σ en Dn hh hs hw => m B G0 G W H σ en _ hh hs ?_⟩
 unfold pL at hw
 cases ef : fr en with
 | bad => rw [ef] at hw; exact hw
 | exc C => rw [ef] at hw; exact fun G1 H1 s => hw G1 W H1 σ (hh.step s) (hs.step s)
 | ok rs =>
  rw [ef] at hw
  intro G1 H1 vs s e
  dsimp only at hw
  split at hw
  ·rename_i hl
   exact ⟨by rw [e.length]; exact Nat.le_trans hl (by decide), hw G1 W H1 σ (hh.step s) (hs.step s)⟩
  ·exact hw.elim
def yS (K : PySem.W.Frag) (R : Addr) (i : Nat) (f fh : MS) : MS := fun en => match f en with
 | some (.ex C e) => if PySem.W.exmOne K (.ref C) (.ref R) = some true then match fh (e.set i (some (.x C))) with
   | some (.nx e') => some (.nx (e'.set i none))
   | some (.bk e') => some (.bk (e'.set i none))
   | some (.ct e') => some (.ct (e'.set i none))
   | some (.rt l) => some (.rt l)
   | _ => none
  else none
 | r => r
theorem SimS.unset {K : PySem.W.Frag} {W : Addr -> Option Nat} {G H : Hp} {σ : L2.St} {en : En} (i : Nat) (h : SimS K W G H σ en) : SimS K W G H (σ.set i none) (en.set i none) := by
 refine ⟨by rw [List.length_set, List.length_set]; exact h.1, fun j m e => ?_⟩
 rw [List.getElem?_set] at e
 rw [List.getElem?_set]
 by_cases hj : i = j
 ·subst hj
  rw [if_pos rfl] at e
  split at e <;> cases e
 ·rw [if_neg hj] at e ⊢
  exact h.2 j m e
theorem zQ {E : L2.St -> XK} {body : List Stmt} {b₀ : Stmt} {suite : List Stmt} {x n : Str} {np hpos pos : Pos} {i : Nat} {R : Addr} {f fh : MS} (hst : X.stack = X.env :: X.outer) (hfr : X.env.frame = some X.env.locals) (hN : X.N.Nodup) (hi : X.N[i]? = some n)
  (hk : X.env.kindOf n = some .local) (hg : Gl X x) (hm : X.mg x = some (.ref R))
  (hb : ∀ (W : Value -> Shared -> Prop) (pn : List (Addr × Obj)) (E : L2.St -> XK), iA (CXr X.prog X.w) (X.wp W pn) E -> DSs (X.wp W pn) E body f) (hh : ∀ e : Addr, DSs (X.hot e) (fun _ => E0) (b₀ :: suite) fh)
  (hdb : (x == ("__debug__" : Str)) = false := by decide) :
  DS X E (.Try body [.ExceptHandler (some (.Name x np)) (some n) (b₀ :: suite) hpos] [] [] pos) (yS X.K R i f fh) := by
 refine DS.in ⟨_, aAo (tb := fun E => tS X.K E f) (th := tS X.K (fun _ => E0) fh) hst hfr hN hi hk hg hm hb hh hdb, fun B G0 G W H σ en Dn hh hs hw => ⟨B, G0, G, W, en, hh, hs, ?_⟩⟩
 unfold yS at hw
 cases ef : f en with
 | none => rw [ef] at hw; exact hw
 | some o =>
  rw [ef] at hw
  cases o with
  | nx e => exact hw
  | bk e => exact hw
  | ct e => exact hw
  | rt l => exact hw
  | ex C e =>
   intro G1 W1 H1 σ1 h1 s1
   dsimp only at hw
   split at hw
   ·rename_i hx
    refine ⟨hx, fun ea he => ?_⟩
    have st := Step.put (o := s9 ea (.ref C)) h1.gh he
    refine ⟨B, G0, upd G1 ea (s9 ea (.ref C)), W1, e.set i (some (.x C)), h1.step st, (s1.step st).set ⟨ea, rfl, cG⟩, ?_⟩
    cases eh : fh (e.set i (some (.x C))) with
    | none => rw [eh] at hw; exact hw
    | some o =>
     rw [eh] at hw
     cases o with
     | nx e' => exact fun G2 W2 H2 σ2 h2 s2 => hw G2 W2 H2 _ h2 (s2.unset i)
     | bk e' => exact fun G2 W2 H2 σ2 h2 s2 => hw G2 W2 H2 _ h2 (s2.unset i)
     | ct e' => exact fun G2 W2 H2 σ2 h2 s2 => hw G2 W2 H2 _ h2 (s2.unset i)
     | rt l => exact hw
     | ex C e' => exact hw.elim
   ·exact hw.elim
end
def mT : List Ev -> Option (List D)
 | [] => some []
 | r :: rs => match r with
  | .p d => match mT rs with
   | some ds => some (d :: ds)
   | none => none
  | _ => none
theorem jV {K : PySem.W.Frag} {W : Addr -> Option Nat} {Hs G H : Hp} : ∀ {rs : List Ev} {ds : List D} {vs : List V}, mT rs = some ds -> EOks K W Hs G H vs rs -> Reps K G vs ds
 | [], _, [], h, _ => by cases h; exact .nil
 | [], _, _ :: _, _, e => e.elim
 | _ :: _, _, [], _, e => e.elim
 | r :: rs, ds, v :: vs, h, e => by
  unfold mT at h
  cases r with
  | p d =>
   dsimp only at h
   cases er : mT rs with
   | none => rw [er] at h; cases h
   | some ds' => rw [er] at h; cases h; exact .cons e.1 (jV er e.2)
  | x C => cases h
  | b d => cases h
  | f d => cases h
def iT (rs : List Ev) : Res Ev := match mT rs with
 | some ds => if ds.length <= 1000 then .ok (.p (.tuple ds)) else .bad
 | none => .bad
def i5 (rs : List Ev) : Res Ev := match mT rs with
 | some ds => if ds.length <= 1000 then .ok (.f (.list ds)) else .bad
 | none => .bad
section
variable {X : Cx} {E : L2.St -> XK} {es : List Expr} {fr : En -> Res (List Ev)} {pos : Pos}
theorem kM {x1} (h : DA X E es fr) : DE X E (.Tuple es x1 pos) (aL iT fr) := by
 obtain ⟨t, q, m⟩ := h.out
 refine DE.in ⟨_, aCh q, fun B G0 G W H σ en Q hh hs hw => m B G0 G W H σ en _ hh hs ?_⟩
 have hw : wpR ((fr en).bind _) _ _ := hw
 rw [bO] at hw
 refine a6 hw (fun rs hr G1 H1 vs s e => ?_) fun C h => h
 unfold iT at hr
 split at hr
 ·rename_i ds el
  have rp := jV el e
  split at hr
  ·rename_i hl
   refine ⟨by rw [rp.length]; exact Nat.le_trans hl (by decide), fun p hp => ?_⟩
   have st := Step.put (o := .tup vs) s.gh hp
   exact hr _ _ _ (s.trans st) (.tup cG (rp.mono st.g))
  ·exact False.elim hr
 ·exact False.elim hr
theorem gU (h : DA X E es fr) : DE X E (.List es pos) (aL i5 fr) := by
 obtain ⟨t, q, m⟩ := h.out
 refine DE.in ⟨_, aBm q, fun B G0 G W H σ en Q hh hs hw => m B G0 G W H σ en _ hh hs ?_⟩
 have hw : wpR ((fr en).bind _) _ _ := hw
 rw [bO] at hw
 refine a6 hw (fun rs hr G1 H1 vs s e => ?_) fun C h => h
 unfold i5 at hr
 split at hr
 ·rename_i ds el
  have rp := jV el e
  split at hr
  ·rename_i hl
   refine ⟨by rw [rp.length]; exact Nat.le_trans hl (by decide), fun p hp => ?_⟩
   have st := Step.lay (o := .lst vs) s.gh hp
   exact hr _ _ _ (s.trans st) ⟨p, _, rfl, s.h.free hp, s.gh.free hp, cG, .lst rp⟩
  ·exact False.elim hr
 ·exact False.elim hr
end
def u5 (g : D -> Option (Option D)) : List D -> Option (List D)
 | [] => some []
 | d :: ds => match g d with
  | none => none
  | some o => match u5 g ds with
   | none => none
   | some r => some (match o with
    | some y => y :: r
    | none => r)
def aA1 (o : Option (Option L)) : Option L := match o with
 | some (some (.p d)) => some (.p d)
 | some (some (.x C)) => some (.x C)
 | _ => none
def zB (js : List Nat) (en : En) : En := js.map fun j => aA1 en[j]?
def uD : En -> Res Bool := fun _ => .ok true
def eH (n : Nat) (js : List Nat) (tg : D -> En -> Option En) (ft : En -> Res Bool) (fe : En -> Res Ev) (en : En) (d : D) : Option (Option D) := match tg d (List.replicate n none ++ zB js en) with
 | none => none
 | some e => match ft e with
  | .ok true => match fe e with
   | .ok r => match r.c with
    | .p y => some (some y)
    | _ => none
   | _ => none
  | .ok false => some none
  | _ => none
def yK (g : D -> Option (Option D)) (ds : List D) : Res Ev := if ds.length <= 100000 then match u5 g ds with
  | some r => .ok (.f (.list r))
  | none => .bad
 else .bad
def lW (n : Nat) (js : List Nat) (fi : En -> Res (List D)) (tg : D -> En -> Option En) (ft : En -> Res Bool) (fe : En -> Res Ev) : En -> Res Ev := fun en => (fi en).bind fun ds => yK (eH n js tg ft fe en) ds
def DTs (X : Cx) (ifs : List Expr) (f : En -> Res Bool) : Prop := PTs X ifs (tT X.K (fun _ => E0) f)
theorem aE3 {G H : Hp} (h : Same G H) : SimH H G G (fun _ => none) H := ⟨h, Same.refl _, Same.refl _, fun _ hb => .inl hb, fun a i e => nomatch e⟩
theorem uT {K : PySem.W.Frag} {W : Addr -> Option Nat} {G H : Hp} {σ : L2.St} {en : En} (n : Nat) (js : List Nat) (h : SimS K W G H σ en) : SimS K (fun _ => none) G H (List.replicate n none ++ pM js σ) (List.replicate n none ++ zB js en) := by
 refine ⟨by unfold pM zB; simp, fun i l e => ?_⟩
 by_cases hi : i < n
 ·rw [List.getElem?_append_left (by rw [List.length_replicate]; exact hi), List.getElem?_replicate] at e
  split at e <;> cases e
 ·rw [List.getElem?_append_right (by rw [List.length_replicate]; omega), List.length_replicate] at e ⊢
  unfold zB at e
  unfold pM
  rw [List.getElem?_map] at e ⊢
  cases ej : js[i - n]? with
  | none => rw [ej] at e; cases e
  | some j =>
   rw [ej] at e
   have e' : aA1 en[j]? = some l := Option.some.inj e
   unfold aA1 at e'
   split at e'
   ·rename_i d q
    cases e'
    obtain ⟨v, h1, h2⟩ := h.2 j _ q
    exact ⟨v, by show some ((σ[j]?).getD none) = _; rw [h1]; rfl, h2⟩
   ·rename_i d q
    cases e'
    obtain ⟨v, h1, h2⟩ := h.2 j _ q
    exact ⟨v, by show some ((σ[j]?).getD none) = _; rw [h1]; rfl, h2⟩
   ·cases e'
section
variable {X : Cx} {E : L2.St -> XK} {pos : Pos}
theorem oS : DTs X [] uD := fun pins s σ H Q I ⟨B, G0, G, W, en, h1, h2, h3⟩ => zD pins s σ H Q I (h3 G H (Step.refl h1.gh))
theorem vT {elt iter tg : Expr} {scope : Scope} {ifs : List Expr} {n : Nat} {js ks : List Nat} {fi : En -> Res (List D)} {g : D -> En -> Option En} {ft : En -> Res Bool} {fe : En -> Res Ev} {xs ys : List Str} {cl : List (Str × Addr)} (hc : X.calm = true) (hi : DI X E tg iter fi)
  (hcl : aBb X scope cl) (hcap : nN X scope cl ys js) (hcell : ∀ y ∈ scope.names, y.2 ≠ .cell) (hkind : scope.kind = .function) (hnames : ∀ y ∈ scope.names, y.2 = .local -> scope.names.lookup y.1 = some .local) (hn : xs.length = n) (hks : ∀ j ∈ ks, j < n)
  (hg : ∀ C s₀ H₀ ex pn, DG (cQ X scope cl C (xs ++ ys) s₀ H₀ ex pn) tg ks g) (ht : ∀ C s₀ H₀ ex pn, DTs (cQ X scope cl C (xs ++ ys) s₀ H₀ ex pn) ifs ft) (hb : ∀ C s₀ H₀ ex pn, DE (cQ X scope cl C (xs ++ ys) s₀ H₀ ex pn) (fun _ => E0) elt fe)
  : ∀ B G0 G W H σ en Q, SimH B G0 G W H -> SimS X.K W G H σ en -> wpR (lW n js fi g ft fe en) (PostE X.K W G H Q) (PostX (E σ) G H) -> rJ (tI X.K E fi) (tG X.K ks g) (tT X.K (fun _ => E0) ft) (tE X.K (fun _ => E0) fe) xs.length js σ H Q := by
 subst hn
 refine fun B G0 G W H σ en Q hh hs hw => ⟨B, G0, G, W, en, hh, hs, ?_⟩
 have hw : wpR ((fi en).bind _) _ _ := hw
 rw [bO] at hw
 refine a6 hw (fun ds hds G1 H1 J s1 hJ D hD => ?_) fun C h => h
 unfold yK at hds
 split at hds
 case isFalse => exact hds.elim
 rename_i hlen
 split at hds
 case h_2 => exact hds.elim
 rename_i r em
 have gD : G1 D = none := s1.gh.free hD
 have aD1 : ∀ {G2 H2 : Hp} {y : List V}, Step G1 H1 G2 H2 -> G2 D = none -> Step G1 H1 G2 (upd H2 D (.lst y)) := fun st hg2 => by
  refine ⟨st.g, fun b o e => ?_, fun b o e => ?_, st.new⟩
  ·rw [bU (cW e hD)]; exact st.h b o e
  ·rw [bU (cW e hg2)]; exact st.gh b o e
 refine ⟨ds.length, fun i ys H2 => i <= ds.length /\ ys.length <= i /\ ∃ G2 rs rest, Step G1 H1 G2 H2 /\ G2 D = none /\ H2 D = some (.lst ys) /\ Reps X.K G2 ys rs /\ u5 (eH xs.length js g ft fe en) (ds.drop i) = some rest /\ rs ++ rest = r,
  ⟨Nat.zero_le _, Nat.zero_le _, G1, [], r, Step.lay s1.gh hD, gD, cG, .nil, em, rfl⟩, ?_⟩
 rintro i zs H2 ⟨hi, hzl, G2, rs, rest, st, g2, h2, rp, em2, er⟩
 obtain ⟨j1, j2⟩ := hJ G2 H2 st.g st.gh
 by_cases hlt : i < ds.length
 ·refine .inr ⟨hlt, ?_⟩
  obtain ⟨jg, jy⟩ := j1 i ds[i] (List.getElem?_eq_getElem hlt)
  refine ⟨jg, fun v H3 hy => ?_⟩
  obtain ⟨G3, s3, rv⟩ := jy v H3 hy
  rw [List.drop_eq_getElem_cons hlt] at em2
  unfold u5 at em2
  cases ec : eH xs.length js g ft fe en ds[i] with
  | none => rw [ec] at em2; cases em2
  | some o =>
   rw [ec] at em2
   dsimp only at em2
   cases em3 : u5 (eH xs.length js g ft fe en) (ds.drop (i + 1)) with
   | none => rw [em3] at em2; cases em2
   | some rest' =>
    rw [em3] at em2
    have em2 := Option.some.inj em2
    unfold eH at ec
    split at ec
    ·cases ec
    ·rename_i e eg
     have in3 := uT xs.length js (hs.step ((s1.trans st).trans s3))
     refine ⟨G3, fun _ => none, _, ds[i], e, s3.gh, in3, rv, eg, fun σ' hσ hk => ⟨⟨?_, ?_⟩, ?_⟩⟩
     ·rw [hk.1]; unfold pM; simp
     ·refine List.ext_getElem? fun j => ?_
      rw [List.getElem?_drop, hk.2 (xs.length + j) fun z => absurd (hks _ z) (by omega), List.getElem?_append_right (by rw [List.length_replicate]; omega), List.length_replicate]
      congr 1
      omega
     ·refine ⟨_, _, G3, fun _ => none, e, aE3 s3.gh, hσ, ?_⟩
      cases et : ft e with
      | bad => rw [et] at ec; cases ec
      | exc C => rw [et] at ec; cases ec
      | ok k =>
       rw [et] at ec
       intro G5 H5 s5
       cases k with
       | false =>
        cases ec
        rw [if_neg Bool.false_ne_true]
        have s25 := s3.trans s5
        exact ⟨hlt, Nat.le_succ_of_le hzl, G5, rs, rest', st.trans s25, s25.off h2 (fun xs z => nomatch z) g2, s25.h _ _ h2, rp.mono s25.g, em3, by rw [<- er, <- em2]⟩
       | true =>
        rw [if_pos rfl]
        refine ⟨_, _, G5, fun _ => none, e, aE3 s5.gh, hσ.step s5, ?_⟩
        dsimp only at ec
        cases ee : fe e with
        | bad => rw [ee] at ec; cases ec
        | exc C => rw [ee] at ec; cases ec
        | ok q =>
         rw [ee] at ec
         intro G6 H6 y s6 ey
         obtain ⟨G7, s7, e7⟩ := EOk.c s6 ey
         dsimp only at ec
         split at ec
         ·rename_i y' eq
          cases ec
          rw [eq] at e7
          have s27 := (s3.trans s5).trans s7
          have g7 := s27.off h2 (fun xs z => nomatch z) g2
          refine ⟨s27.h _ _ h2, Nat.lt_of_le_of_lt (Nat.le_trans hzl (Nat.le_trans hi hlen)) (by decide), hlt, by rw [List.length_append]; exact Nat.succ_le_succ hzl, G7, rs ++ [y'], rest', aD1 (st.trans s27) g7, g7, cG, (rp.mono s27.g).append (.cons e7 .nil), em3, ?_⟩
          rw [<- er, <- em2, List.append_assoc]
          rfl
         ·cases ec
 ·have e : i = ds.length := by omega
  subst e
  rw [List.drop_length] at em2
  cases em2
  rw [List.append_nil] at er
  subst er
  exact .inl ⟨j2, hds G2 H2 _ (s1.trans st) ⟨D, _, rfl, s1.h.free hD, g2, h2, .lst rp⟩⟩
theorem oN {elt iter tg : Expr} {scope : Scope} {ifs : List Expr} {n : Nat} {js ks : List Nat} {fi : En -> Res (List D)} {g : D -> En -> Option En} {ft : En -> Res Bool} {fe : En -> Res Ev} {xs ys : List Str} {cl : List (Str × Addr)} (hc : X.calm = true) (hi : DI X E tg iter fi)
  (hcl : aBb X scope cl) (hcap : nN X scope cl ys js) (hcell : ∀ y ∈ scope.names, y.2 ≠ .cell) (hkind : scope.kind = .function) (hnames : ∀ y ∈ scope.names, y.2 = .local -> scope.names.lookup y.1 = some .local) (hn : xs.length = n) (hks : ∀ j ∈ ks, j < n)
  (hg : ∀ C s₀ H₀ ex pn, DG (cQ X scope cl C (xs ++ ys) s₀ H₀ ex pn) tg ks g) (ht : ∀ C s₀ H₀ ex pn, DTs (cQ X scope cl C (xs ++ ys) s₀ H₀ ex pn) ifs ft) (hb : ∀ C s₀ H₀ ex pn, DE (cQ X scope cl C (xs ++ ys) s₀ H₀ ex pn) (fun _ => E0) elt fe)
  (hs : ∀ x, foldedSetIterable iter X.env x = pure x := by intro _; rfl) : DE X E (.ListComp elt [⟨tg, iter, ifs, 0⟩] scope pos) (lW n js fi g ft fe) :=
 DE.in ⟨_, uQ (xs := xs) (g := tG X.K ks g) (tt := tT X.K (fun _ => E0) ft) (te := tE X.K (fun _ => E0) fe) hc hi hcl hcap hcell hkind hnames hg ht hb hs, vT hc hi hcl hcap hcell hkind hnames hn hks hg ht hb⟩
end
section
variable {X : Cx} {K : PySem.W.Frag}
def rOr (r r' : R2) : R2 := fun x y H Q => r x y H Q \/ r' x y H Q
theorem OpR.or' {f : Value -> Value -> Sem Value} {r r' : R2} (h : OpR X f r) (h' : OpR X f r') : OpR X f (rOr r r') := OpR.or h h'
def aCg : R2 := fun x y H Q => ∃ l b xs zs, x = .ref l /\ y = .ref b /\ Rd H l (.lst xs) /\ Rd H b (.lst zs) /\ xs.length + zs.length <= sizeLine /\ ∀ p, H p = none -> Q (.ref p) (upd H p (.lst (xs ++ zs)))
theorem yW : OpR X (binaryOp .Add) aCg := by
 intro pins s σ H x y v u Q I rx ry h
 obtain ⟨l, b, xs, zs, rfl, rfl, hH, hB, hz, q⟩ := h
 cases rx
 cases ry
 obtain ⟨z, its, n, r, e⟩ := hH.ok I.hok
 obtain ⟨z2, its2, n2, r2, e2⟩ := hB.ok I.hok
 have hl := r.length
 have hl2 := r2.length
 refine PySem.P.add_list e e2 ?_ (by rw [List.size_toArray, List.size_toArray]; omega)
 have ea : its.toArray ++ its2.toArray = (its ++ its2).toArray := by simp
 rw [ea]
 exact ⟨.ref _, _, I.lnew (t' := s.toks) (r.append r2) (by rw [List.length_append]; omega), rfl, q _ I.fresh⟩
def yQ : R2 := fun x y H Q => ∃ i j, x = .str i /\ y = .str j /\ i.length + j.length <= sizeLine /\ Q (.str (i ++ j)) H
def qG : Ev -> Option (List D)
 | .p (.list ds) => some ds
 | .b (.list ds) => some ds
 | _ => none
theorem rN {W : Addr -> Option Nat} {Hs G H : Hp} {v : V} {r : Ev} {ds : List D} (gh : Same G H) (h : EOk K W Hs G H v r) (e : qG r = some ds) : ∃ a xs, v = .ref a /\ Rd H a (.lst xs) /\ Reps K G xs ds := by
 cases r with
 | p d =>
  cases d with
  | list es =>
   cases e
   cases h with
   | @lst a xs _ h1 h2 => exact ⟨a, xs, rfl, kS gh h1, h2⟩
  | _ => cases e
 | b d =>
  cases d with
  | list es =>
   cases e
   obtain ⟨a, i, o, rfl, h1, h2, h3⟩ := h
   cases h3 with
   | @lst xs _ h4 => exact ⟨a, xs, rfl, .inl h2, h4⟩
  | _ => cases e
 | f d => cases e
 | x C => cases e
def dat : Ev -> Option D
 | .p d => some d
 | .b d => some d
 | _ => none
theorem EOk.read {W : Addr -> Option Nat} {Hs G H : Hp} {v : V} {r : Ev} {d : D} (gh : Same G H) (h : EOk K W Hs G H v r) (e : dat r = some d) : Rep K H v d := by
 cases r with
 | p d => cases e; exact Rep.mono gh h
 | b d =>
  cases e
  obtain ⟨a, i, o, rfl, h1, h2, h3⟩ := h
  exact (h3.mono gh).rep h2
 | f d => cases e
 | x C => cases e
open Classical in
noncomputable def qO (C : Int -> Int -> Prop) (g : Int -> Int -> D) (x y : Ev) : Res Ev := match x, y with
 | .p (.int i), .p (.int j) => if C i j then .ok (.p (g i j)) else .bad
 | _, _ => .bad
def kC (g : Int -> Int -> D) (x y : Ev) : Res Ev := match x, y with
 | .p (.int i), .p (.int j) => .ok (.p (g i j))
 | _, _ => .bad
theorem aN {C : Int -> Int -> Prop} {g : Int -> Int -> D} : NoX (qO C g) := by
 intro x y A h
 unfold qO at h
 split at h
 ·split at h <;> cases h
 ·cases h
theorem cL {g : Int -> Int -> D} : NoX (kC g) := by
 intro x y A h
 unfold kC at h
 split at h <;> cases h
theorem pJ {C : Int -> Int -> Prop} {g : Int -> Int -> D} {gv : Int -> Int -> V} (hg : ∀ G i j, Rep K G (gv i j) (g i j)) : OpM K (rI C gv) (qO C g) := by
 intro W G H v u x y Q gh hx hy hw
 unfold qO at hw
 split at hw
 ·rename_i i j e1 e2
  rw [e1] at hx; rw [e2] at hy
  cases hx; cases hy
  split at hw
  ·rename_i hc
   exact ⟨i, j, rfl, rfl, hc, hw G H _ (Step.refl gh) (hg G i j)⟩
  ·exact hw.elim
 ·exact hw.elim
theorem sW {g : Int -> Int -> D} {gv : Int -> Int -> V} (hg : ∀ G i j, Rep K G (gv i j) (g i j)) : OpM K (rI0 gv) (kC g) := by
 intro W G H v u x y Q gh hx hy hw
 unfold kC at hw
 split at hw
 ·rename_i i j e1 e2
  rw [e1] at hx; rw [e2] at hy
  cases hx; cases hy
  exact ⟨i, j, rfl, rfl, hw G H _ (Step.refl gh) (hg G i j)⟩
 ·exact hw.elim
noncomputable abbrev k6 : Ev -> Ev -> Res Ev := qO CMulW fun i j => .int (i * j)
noncomputable abbrev gB : Ev -> Ev -> Res Ev := qO jJ fun i j => .int (i.fdiv j)
noncomputable abbrev fN : Ev -> Ev -> Res Ev := qO (fun _ j => j ≠ 0) fun i j => .int (i.fmod j)
noncomputable abbrev pX : Ev -> Ev -> Res Ev := qO vP fun i j => .int (i ^ j.toNat)
abbrev w8 : Ev -> Ev -> Res Ev := kC fun i j => .int (i - j)
abbrev ltE : Ev -> Ev -> Res Ev := kC fun i j => .bool (decide (i < j))
abbrev gtE : Ev -> Ev -> Res Ev := kC fun i j => .bool (decide (j < i))
theorem gS : OpM K (rI CMulW fun i j => .int (i * j)) k6 := pJ fun _ _ _ => .int _
theorem fW : OpM K (rI jJ fun i j => .int (i.fdiv j)) gB := pJ fun _ _ _ => .int _
theorem dJ : OpM K (rI (fun _ j => j ≠ 0) fun i j => .int (i.fmod j)) fN := pJ fun _ _ _ => .int _
theorem kO : OpM K (rI vP fun i j => .int (i ^ j.toNat)) pX := pJ fun _ _ _ => .int _
theorem oY : OpM K (rI0 fun i j => .int (i - j)) w8 := sW fun _ _ _ => .int _
def dZ (x y : Ev) : Res Ev := match x, y with
 | .p (.int i), .p (.int j) => .ok (.p (.int (i + j)))
 | .p (.str i), .p (.str j) => if i.length + j.length <= 100000 then .ok (.p (.str (i ++ j))) else .bad
 | x, y => match qG x, qG y with
  | some ds, some es => if ds.length + es.length <= 100000 then .ok (.f (.list (ds ++ es))) else .bad
  | _, _ => .bad
theorem bA : NoX dZ := by
 intro x y A h
 unfold dZ at h
 split at h
 ·cases h
 ·split at h <;> cases h
 ·split at h
  ·split at h <;> cases h
  ·cases h
abbrev aAx : R2 := rOr (rI0 fun i j => .int (i + j)) (rOr yQ aCg)
theorem a9 : OpR X (binaryOp .Add) aAx := OpR.or' aC0 (OpR.or' qH yW)
theorem bX : OpM K aAx dZ := by
 intro W G H v u x y Q gh hx hy hw
 unfold dZ at hw
 split at hw
 ·rename_i i j e1 e2
  rw [e1] at hx; rw [e2] at hy
  cases hx; cases hy
  exact .inl ⟨i, j, rfl, rfl, hw G H _ (Step.refl gh) (.int _)⟩
 ·rename_i i j e1 e2
  rw [e1] at hx; rw [e2] at hy
  cases hx; cases hy
  split at hw
  ·rename_i hl
   exact .inr (.inl ⟨i, j, rfl, rfl, Nat.le_trans hl (by decide), hw G H _ (Step.refl gh) (.str _)⟩)
  ·exact hw.elim
 ·split at hw
  ·rename_i ds es e1 e2
   obtain ⟨a, xs, rfl, h1, h2⟩ := rN gh hx e1
   obtain ⟨b, ys, rfl, h3, h4⟩ := rN gh hy e2
   split at hw
   ·rename_i hl
    refine .inr (.inr ⟨a, b, xs, ys, rfl, rfl, h1, h3, by rw [h2.length, h4.length]; exact Nat.le_trans hl (by decide), fun p hp => ?_⟩)
    exact hw _ _ _ (Step.lay gh hp) ⟨p, _, rfl, hp, gh.free hp, cG, .lst (h2.append h4)⟩
   ·exact hw.elim
  ·exact hw.elim
theorem gT {p : Int -> Int -> Bool} : OpM K (rI0 fun i j => .bl (p i j)) (kC fun i j => .bool (p i j)) := sW fun _ _ _ => .bl _
mutual
theorem Rep.reads {P : Program} {w : World} {H : Hp} {h : Heap} (ok : HOk P w H h) : ∀ {v : V} {d : D}, Rep K H v d -> d.canLay0 = true -> ∀ {u : Value}, RelV v u -> ∃ as, Reads h u d as
 | _, _, .non, _, _, e => by cases e; exact ⟨_, Reads.none⟩
 | _, _, .bl b, _, _, e => by cases e; exact ⟨_, Reads.bool b⟩
 | _, _, .int i, _, _, ⟨t, e⟩ => by subst e; exact ⟨_, Reads.int i t⟩
 | _, _, .str i, _, _, ⟨t, e⟩ => by subst e; exact ⟨_, Reads.str i t⟩
 | _, _, .tup hh r, hc, _, e => by
  have e : _ = Value.ref _ := e
  subst e
  obtain ⟨_, its, rv, o, ho, hcl, n, hd⟩ := (show ObjOk P w H h _ _ from ok _ _ hh)
  obtain ⟨as, q⟩ := Reps.reads ok r (by simpa [PyData.canLay0] using hc) rv
  exact ⟨as, reads_tuple_at ho hcl hd (by simpa using q)⟩
 | _, _, .lst hh r, hc, _, e => by
  have e : _ = Value.ref _ := e
  subst e
  obtain ⟨_, its, n, rv, ho⟩ := hh.ok ok
  obtain ⟨as, q⟩ := Reps.reads ok r (by simpa [PyData.canLay0] using hc) rv
  exact ⟨_, reads_list_at ho rfl rfl (by simpa using q)⟩
 | _, _, .dT _ _, hc, _, _ => by simp [PyData.canLay0] at hc
 | _, _, .dK _ _, hc, _, _ => by simp [PyData.canLay0] at hc
theorem Reps.reads {P : Program} {w : World} {H : Hp} {h : Heap} (ok : HOk P w H h) : ∀ {vs : List V} {ds : List D}, Reps K H vs ds -> PyData.canLayAll0 ds = true -> ∀ {us : List Value}, Vals vs us -> ∃ as, ReadsAll h us ds as
 | _, _, .nil, _, _, .nil => ⟨_, ReadsAll.nil⟩
 | _, _, .cons hd r, hc, _, .cons rv rt => by
  simp only [PyData.canLayAll0, Bool.and_eq_true] at hc
  obtain ⟨as, q⟩ := Rep.reads ok hd hc.1 rv
  obtain ⟨bs, p⟩ := Reps.reads ok r hc.2 rt
  exact ⟨_, ReadsAll.cons q p⟩
end
def aDo (K : PySem.W.Frag) (ng : Bool) : R2 := fun x y H Q => ∃ d e, Rep K H x d /\ Rep K H y e /\ SeqAt.shaped d = true /\ SeqAt.shaped e = true /\ Q (.bl (if ng then !PyData.eqv d e else PyData.eqv d e)) H
theorem dO {K : PySem.W.Frag} (hu : X.A.units + 64 < cLine) : OpR X (compareOp .Eq) (aDo K false) := by
 intro pins s σ H x y v u Q I rx ry h
 obtain ⟨d, e, h1, h2, o1, o2, q⟩ := h
 obtain ⟨as, r1⟩ := h1.reads I.hok (Bool.and_eq_true_iff.mp o1).1 rx
 obtain ⟨bs, r2⟩ := h2.reads I.hok (Bool.and_eq_true_iff.mp o2).1 ry
 exact eq_dataH r1 r2 o1 o2 hu ⟨.bl _, H, I, rfl, q⟩
theorem j3 {K : PySem.W.Frag} (hu : X.A.units + 64 < cLine) : OpR X (compareOp .NotEq) (aDo K true) := by
 intro pins s σ H x y v u Q I rx ry h
 obtain ⟨d, e, h1, h2, o1, o2, q⟩ := h
 obtain ⟨as, r1⟩ := h1.reads I.hok (Bool.and_eq_true_iff.mp o1).1 rx
 obtain ⟨bs, r2⟩ := h2.reads I.hok (Bool.and_eq_true_iff.mp o2).1 ry
 exact ne_dataH r1 r2 o1 o2 hu ⟨.bl _, H, I, rfl, q⟩
def eqE (ng : Bool) (x y : Ev) : Res Ev := match dat x, dat y with
 | some d, some e => if SeqAt.shaped d = true /\ SeqAt.shaped e = true then .ok (.p (.bool (if ng then !PyData.eqv d e else PyData.eqv d e))) else .bad
 | _, _ => .bad
theorem cH {ng : Bool} : NoX (eqE ng) := by
 intro x y A h
 unfold eqE at h
 split at h
 ·split at h <;> cases h
 ·cases h
theorem d6 {ng : Bool} : OpM K (aDo K ng) (eqE ng) := by
 intro W G H v u x y Q gh hx hy hw
 unfold eqE at hw
 split at hw
 ·rename_i d e e1 e2
  split at hw
  ·rename_i hs
   exact ⟨d, e, hx.read gh e1, hy.read gh e2, hs.1, hs.2, hw G H _ (Step.refl gh) (.bl _)⟩
  ·exact hw.elim
 ·exact hw.elim
def mQ (ng : Bool) (x : Ev) : Res Ev := match x with
 | .p .none => .ok (.p (.bool (!ng)))
 | .p _ => .ok (.p (.bool ng))
 | .b _ => .ok (.p (.bool ng))
 | _ => .bad
def mUn (op : Ev -> Res Ev) (fa : En -> Res Ev) : En -> Res Ev := fun en => (fa en).bind fun x => op x.c
variable {E : L2.St -> XK} {a b : Expr} {fa fb : En -> Res Ev} {pos : Pos}
theorem pI {ng : Bool} {W : Addr -> Option Nat} {G H : Hp} {v : V} {x : Ev} {Q : VK} (gh : Same G H) (hx : EOk K W H G H v x.c) {EE : XK} (hw : wpR (mQ ng x.c) (PostE K W G H Q) (PostX EE G H)) : Q (.bl (if ng then !decide (v = .non) else decide (v = .non))) H := by
 unfold mQ at hw
 split at hw
 ·rename_i e
  rw [e] at hx
  cases hx
  have z := hw G H _ (Step.refl gh) (.bl _)
  cases ng <;> exact z
 ·rename_i d e e2
  rw [e2] at hx
  have nv : v ≠ .non := by
   intro z
   subst z
   have hx : Rep K G V.non d := hx
   cases hx
   exact e rfl
  have z := hw G H _ (Step.refl gh) (.bl _)
  rw [decide_eq_false nv]
  cases ng <;> exact z
 ·rename_i d e
  rw [e] at hx
  obtain ⟨a, i, o, rfl, h1⟩ := hx
  have z := hw G H _ (Step.refl gh) (.bl _)
  cases ng <;> exact z
 ·exact hw.elim
theorem aBh {j pos'} (ha : DE X E a fa) : DE X E (.Compare a [.Is] [.Constant .none j pos'] pos) (mUn (mQ false) fa) := by
 obtain ⟨t, p, m⟩ := ha.out
 refine DE.in ⟨_, aAk (wG p), fun B G0 G W H σ en Q hh hs hw => m B G0 G W H σ en _ hh hs (DE.go hw fun x G1 H1 v s1 e1 h1 => ?_)⟩
 exact pI (ng := false) s1.gh e1.cc h1
theorem sF {j pos'} (ha : DE X E a fa) : DT X E (.Compare a [.Is] [.Constant .none j pos'] pos) (bR (mUn (mQ false) fa)) := by
 obtain ⟨t, p, m⟩ := ha.out
 refine DT.in ⟨_, aCt (wG p), fun B G0 G W H σ en Q hh hs hw => ?_⟩
 have k := (aBh (pos := pos) (j := j) (pos' := pos') ha)
 refine lY (t := aE0 t) (fa := mUn (mQ false) fa) (E := E) (X := X) (fun B G0 G W H σ en Q hh hs hw => m B G0 G W H σ en _ hh hs (DE.go hw fun x G1 H1 v s1 e1 h1 => pI (ng := false) s1.gh e1.cc h1)) B G0 G W H σ en Q hh hs hw
def aE6 (x : Ev) : Res Ev := match x with
 | .p (.int i) => .ok (.p (.int (-i)))
 | _ => .bad
def jH : Ev -> Option (List D)
 | .p (.list ds) => some ds
 | .b (.list ds) => some ds
 | .p (.tuple ds) => some ds
 | _ => none
def ixE (x y : Ev) : Res Ev := match y with
 | .p (.int i) => match jH x with
  | some ds => match atI ds i with
   | some d => .ok (.p d)
   | none => .bad
  | none => .bad
 | _ => .bad
theorem aCs : NoX ixE := by
 intro x y A h
 unfold ixE at h
 split at h
 ·split at h
  ·split at h <;> cases h
  ·cases h
 ·cases h
theorem n9 {G : Hp} {xs : List V} {ds : List D} {i : Int} {d : D} (r : Reps K G xs ds) (h : atI ds i = some d) : ∃ x, atI xs i = some x /\ Rep K G x d := by
 unfold atI at h ⊢
 rw [r.length]
 cases e : ixN ds.length i with
 | none => rw [e] at h; cases h
 | some j =>
  rw [e] at h
  exact r.get' h
def aE1 (K : PySem.W.Frag) : R2 := fun x y H Q => aEx K x y H Q \/ aEw K x y H Q
theorem aE4 : IxR X (aE1 X.K) := ix_list.or aCc
theorem aD3 : OpM K (aE1 K) ixE := by
 intro W G H v u x y Q gh hx hy hw
 unfold ixE at hw
 split at hw
 ·rename_i i ey
  rw [ey] at hy
  cases hy
  split at hw
  ·rename_i ds ed
   split at hw
   ·rename_i d ea
    cases ex : x.c with
    | p dd =>
     rw [ex] at ed hx
     cases dd with
     | list es =>
      cases ed
      cases hx with
      | @lst a xs _ h1 h2 =>
       obtain ⟨z, h3, h4⟩ := n9 h2 ea
       exact .inl ⟨a, xs, i, z, rfl, rfl, .inl (kS gh h1), h3, hw G H _ (Step.refl gh) h4⟩
     | tuple es =>
      cases ed
      cases hx with
      | @tup a xs _ h1 h2 =>
       obtain ⟨z, h3, h4⟩ := n9 h2 ea
       exact .inr ⟨a, xs, i, z, rfl, rfl, SqT.of (gh _ _ h1), h3, hw G H _ (Step.refl gh) h4⟩
     | _ => cases ed
    | b dd =>
     rw [ex] at ed hx
     cases dd with
     | list es =>
      cases ed
      obtain ⟨a, k, o, rfl, h1, h2, h3⟩ := hx
      cases h3 with
      | @lst xs _ h4 =>
       obtain ⟨z, h5, h6⟩ := n9 h4 ea
       exact .inl ⟨a, xs, i, z, rfl, rfl, .inl (.inl h2), h5, hw G H _ (Step.refl gh) h6⟩
     | _ => cases ed
    | f dd => rw [ex] at ed; cases ed
    | x C => rw [ex] at ed; cases ed
   ·exact hw.elim
  ·exact hw.elim
 ·exact hw.elim
theorem fF (ha : DE X E a fa) (hb : DE X E b fb) (hs : rY b) : DE X E (.Subscript a b pos) (aK ixE fa fb) := by
 obtain ⟨ta, pa, ma⟩ := ha.out
 obtain ⟨tb, pb, mb⟩ := hb.out
 exact DE.in ⟨_, aEa aE4 pa pb hs, j0 ma mb aD3 aCs⟩
def iK (rs : List Ev) : Res Ev := match rs with
 | [x] => match jH x with
  | some ds => .ok (.p (.int ds.length))
  | none => .bad
 | _ => .bad
theorem fS : uI iK := by
 intro rs C h
 unfold iK at h
 split at h
 ·split at h <;> cases h
 ·cases h
theorem iP : lS K (fun xs H Q => ∃ p ys, xs = [.ref p] /\ (SqL K H p ys \/ SqT K H p ys) /\ Q (.int ys.length) H) iK := by
 intro W Hs G H vs rs Q gh he hw
 unfold iK at hw
 split at hw
 ·rename_i x
  match vs, he with
  | [v], ⟨h1, _⟩ =>
   split at hw
   ·rename_i ds ed
    cases x with
    | p dd =>
     cases dd with
     | list es =>
      cases ed
      cases h1 with
      | @lst a xs _ k1 k2 => exact ⟨a, xs, rfl, .inl (.inl (kS gh k1)), by rw [k2.length]; exact hw G H _ (Step.refl gh) (.int _)⟩
     | tuple es =>
      cases ed
      cases h1 with
      | @tup a xs _ k1 k2 => exact ⟨a, xs, rfl, .inr (SqT.of (gh _ _ k1)), by rw [k2.length]; exact hw G H _ (Step.refl gh) (.int _)⟩
     | _ => cases ed
    | b dd =>
     cases dd with
     | list es =>
      cases ed
      obtain ⟨a, k, o, rfl, k1, k2, k3⟩ := h1
      cases k3 with
      | @lst xs _ k4 => exact ⟨a, xs, rfl, .inl (.inl (.inl k2)), by rw [k4.length]; exact hw G H _ (Step.refl gh) (.int _)⟩
     | _ => cases ed
    | f dd => cases ed
    | x C => cases ed
   ·exact hw.elim
 ·exact hw.elim
def wR (rs : List Ev) : Res Ev := match rs with
 | [.p (.int i)] => .ok (.p (.int (if i < 0 then -i else i)))
 | _ => .bad
theorem lX : uI wR := by
 intro rs C h
 unfold wR at h
 split at h <;> cases h
theorem o9 : lS K (fun xs H Q => ∃ i, xs = [.int i] /\ Q (.int (if i < 0 then -i else i)) H) wR := by
 intro W Hs G H vs rs Q gh he hw
 unfold wR at hw
 split at hw
 ·rename_i i
  match vs, he with
  | [v], ⟨h1, _⟩ => cases h1; exact ⟨i, rfl, hw G H _ (Step.refl gh) (.int _)⟩
 ·exact hw.elim
def mM : List D -> Option (List Bool)
 | [] => some []
 | .bool b :: ds => match mM ds with
  | some bs => some (b :: bs)
  | none => none
 | _ => none
theorem oW {G : Hp} : ∀ {ds : List D} {bs : List Bool} {xs : List V}, mM ds = some bs -> Reps K G xs ds -> xs = bs.map V.bl
 | [], _, _, h, .nil => by cases h; rfl
 | d :: ds, bs, _, h, .cons r t => by
  cases d with
  | bool b =>
   unfold mM at h
   cases e : mM ds with
   | none => rw [e] at h; cases h
   | some bs' =>
    rw [e] at h
    cases h
    cases r
    rw [oW e t]
    rfl
  | _ => cases h
def tyD : D -> String
 | .none => "NoneType"
 | .bool _ => "bool"
 | .int _ => "int"
 | .str _ => "str"
 | .list _ => "list"
 | .tuple _ => "tuple"
 | .dict _ => "dict"
def jS (K : PySem.W.Frag) (c : Value) (x : Ev) : Res Ev := match dat x with
 | some d => match PySem.W.kitOne K (.type (tyD d)) c with
  | some b => .ok (.p (.bool b))
  | none => .bad
 | none => .bad
open Classical in
noncomputable def iI (K : PySem.W.Frag) (c : Value) (x : Ev) : Res Ev := match x with
 | .x C => if PySem.W.ExcK K C then match PySem.W.kitOne K (.ref C) c with
   | some b => .ok (.p (.bool b))
   | none => .bad
  else .bad
 | _ => .bad
theorem aBa {H : Hp} {v : V} {d : D} (h : Rep K H v d) : pB K H v (.type (tyD d)) := by
 cases h with
 | non => exact .non
 | bl b => exact .bl b
 | int i => exact .int i
 | str i => exact .str i
 | tup h _ => exact .tup h
 | lst h _ =>
  rcases h with h | ⟨o, h⟩
  ·exact .lst h
  ·exact .frz h
 | dT h _ => exact .dT h
 | dK h _ => exact .dK h
theorem lG {e c : Expr} {v : V} {cv : Value} {p : Pos} (hg : Gl X "isinstance") (hm : X.mg "isinstance" = none) (hv : (∃ n, v = .ty n) \/ ∃ a, v = .ref a) (hr : RelV v cv) (he : DE X E e fa) (hc : PE X c (tC v))
  (h1 : starEach [e, c] X.env = (false, eval e X.env) :: starEach [c] X.env := by rfl) (h2 : (backTo pos (starEach [c] X.env)).any (·.1) = false := by rfl) (h3 : starEach [c] X.env = (false, eval c X.env) :: starEach [] X.env := by rfl) :
  DE X E (.Call (.Name "isinstance" p) [e, c] [] pos) (mUn (jS X.K cv) fa) := by
 obtain ⟨t, q, m⟩ := he.out
 refine DE.in ⟨_, wV hg hm q hc h1 h2 h3, fun B G0 G W H σ en Q hh hs hw => m B G0 G W H σ en _ hh hs (DE.go hw fun x G1 H1 u s1 e1 k1 => ?_)⟩
 unfold jS at k1
 split at k1
 ·rename_i d ed
  split at k1
  ·rename_i b eb
   exact ⟨u, v, .type (tyD d), cv, b, rfl, hv, .plain (aBa (EOk.read s1.gh e1 ed)), hr, eb, k1 G1 H1 _ (Step.refl s1.gh) (.bl _)⟩
  ·exact k1.elim
 ·exact k1.elim
theorem fE {e c : Expr} {v : V} {cv : Value} {p : Pos} (hg : Gl X "isinstance") (hm : X.mg "isinstance" = none) (hv : (∃ n, v = .ty n) \/ ∃ a, v = .ref a) (hr : RelV v cv) (he : DE X E e fa) (hc : PE X c (tC v))
  (h1 : starEach [e, c] X.env = (false, eval e X.env) :: starEach [c] X.env := by rfl) (h2 : (backTo pos (starEach [c] X.env)).any (·.1) = false := by rfl) (h3 : starEach [c] X.env = (false, eval c X.env) :: starEach [] X.env := by rfl) :
  DE X E (.Call (.Name "isinstance" p) [e, c] [] pos) (mUn (iI X.K cv) fa) := by
 obtain ⟨t, q, m⟩ := he.out
 refine DE.in ⟨_, wV hg hm q hc h1 h2 h3, fun B G0 G W H σ en Q hh hs hw => m B G0 G W H σ en _ hh hs (DE.go hw fun x G1 H1 u s1 e1 k1 => ?_)⟩
 unfold iI at k1
 split at k1
 ·rename_i C ed
  split at k1
  ·rename_i hex
   split at k1
   ·rename_i b eb
    rw [ed] at e1
    obtain ⟨ea, rfl, z⟩ := e1
    exact ⟨_, v, .ref C, cv, b, rfl, hv, .exc (s1.gh _ _ z) hex, hr, eb, k1 G1 H1 _ (Step.refl s1.gh) (.bl _)⟩
   ·exact k1.elim
  ·exact k1.elim
 ·exact k1.elim
end
section
variable {P : Program} {w : World} {K : PySem.W.Frag} {mg : Str -> Option Value} {base : Heap}
structure Def (K : PySem.W.Frag) (mg : Str -> Option Value) (x : Str) (ps : List Str) (st : Stmt) : Prop where
 ex : ∃ f fd, Fun K x x st f fd /\ Binds K fd ps [] /\ PySem.W.keepIn K (.ref f) = true /\ mg x = some (.ref f)
structure Cal (P : Program) (w : World) (K : PySem.W.Frag) (mg : Str -> Option Value) (base : Heap) (k : Nat) (x : Str) (n : Nat) (m : List L -> Res L) : Prop where
 ex : ∃ f fd ps, FnOk P w K mg base (CXr P w) k f fd ps (spM K n m) /\ Binds K fd ps [] /\ PySem.W.keepIn K (.ref f) = true /\ mg x = some (.ref f)
structure zS (P : Program) (w : World) (K : PySem.W.Frag) (mg : Str -> Option Value) (base : Heap) (k : Nat) (x : Str) (n : Nat) (m : List L -> Res L) : Prop where
 ex : ∃ f fd ps, rD P w K mg base k f fd ps (spM K n m) /\ Binds K fd ps [] /\ PySem.W.keepIn K (.ref f) = true /\ mg x = some (.ref f)
theorem kX {x : Str} {st : Stmt} {N ps : List Str} {k n : Nat} {m : List L -> Res L} (Df : Def K mg x ps st) (S : bF N ps (aI st)) (hn : n = ps.length)
  (hbody : ∀ (f : Addr) (cdv : Value) (A : Around) (outer : List Env) (s : Shared) (H : Hp) (E : XK), Room k (A.deeper (envOfC x (aI st) s.heap.objs.size f cdv)) ->
   ∃ fm, DSs (jM (CXr P w) P w K mg base N x (aI st) f cdv A outer s H E) (fun _ => E) (dD st) fm /\ ∀ ls, m ls = .bad \/ eB N.length fm ls = m ls) : Cal P w K mg base (k + 1) x n m := by
 obtain ⟨f, fd, F, b, kp, h⟩ := Df.ex
 exact ⟨f, fd, ps, fnM F S hn fun cdv A outer s H E hr => hbody f cdv A outer s H E hr, b, kp, h⟩
theorem aC9 {x : Str} {st : Stmt} {N ps : List Str} {k n : Nat} {m : List L -> Res L} (Df : Def K mg x ps st) (S : bF N ps (aI st)) (hn : n = ps.length)
  (hbody : ∀ (f : Addr) (cdv : Value) (A : Around) (outer : List Env) (s : Shared) (H : Hp), RoomQ k (A.deeper (envOfC x (aI st) s.heap.objs.size f cdv)) ->
   ∃ fm, DSs (jM CX0 P w K mg base N x (aI st) f cdv A outer s H E0).quiet (fun _ => E0) (dD st) fm /\ ∀ ls, m ls = .bad \/ eB N.length fm ls = m ls) : zS P w K mg base (k + 1) x n m := by
 obtain ⟨f, fd, F, b, kp, h⟩ := Df.ex
 exact ⟨f, fd, ps, aFj F S hn fun cdv A outer s H hr => hbody f cdv A outer s H hr, b, kp, h⟩
end
section
variable {X : Cx} {E : L2.St -> XK} {k j : Nat} {x : Str} {p pos : Pos} {e : Expr} {es : List Expr} {fr : En -> Res (List Ev)} {n : Nat} {m : List L -> Res L}
theorem aR (c : Cal X.prog X.w X.K X.mg X.base j x n m) (hr : Room k X.A) (hx : iA (CXr X.prog X.w) X E) (ha : DA X E (e :: es) fr) (hg : Gl X x := by rfl) (hjk : j <= k := by decide) (hdb : (x == ("__debug__" : Str)) = false := by decide)
  (he : starEach (e :: es) X.env = (false, eval e X.env) :: starEach es X.env := by rfl) (hpl : (backTo pos (starEach es X.env)).any (·.1) = false := by rfl) :
  DE X E (.Call (.Name x p) (e :: es) [] pos) (a8 n m fr) := by
 obtain ⟨f, fd, ps, F, b, kp, h⟩ := c.ex
 exact yX (F.mono hjk) hr hg h kp b hx ha hdb he hpl
theorem tH (c : zS X.prog X.w X.K X.mg X.base k x n m) (hr : RoomQ k X.A) (ha : DA X (fun _ => E0) (e :: es) fr) (hg : Gl X x := by rfl) (hdb : (x == ("__debug__" : Str)) = false := by decide)
  (he : starEach (e :: es) X.env = (false, eval e X.env) :: starEach es X.env := by rfl) (hpl : (backTo pos (starEach es X.env)).any (·.1) = false := by rfl) :
  DE X (fun _ => E0) (.Call (.Name x p) (e :: es) [] pos) (a8 n m fr) := by
 obtain ⟨f, fd, ps, F, b, kp, h⟩ := c.ex
 exact vY F hr hg h kp b ha hdb he hpl
theorem dv (i : Nat) (hN : X.N[i]? = some x := by rfl) (hv : Vis X.env.scope x := by first | exact Or.inl rfl | exact Or.inr (Or.inl rfl) | exact Or.inr (Or.inr rfl)) (hd : (x == ("__debug__" : Str)) = false := by decide) (hcd : (x == ("__classdict__" : Str)) = false := by decide) :
  DE X E (.Name x pos) (aG i) := aAy hN hv hd hcd
theorem u64 {A : Around} (hr : Room k A) : A.units + 64 < cLine := by have := hr.un; omega
theorem iZ {scope : Scope} {cl : List (Str × Addr)} : nN X scope cl [] [] := ⟨rfl, fun i y j h _ => by simp at h⟩
theorem oV {scope : Scope} {cl : List (Str × Addr)} {y : Str} {ys : List Str} {j : Nat} {js : List Nat} (h : X.N[j]? = some y /\ (X.env.kindOf y = some .cell \/ X.env.kindOf y = some .free) /\ ((relabel scope X.env).names.lookup y = some .cell \/ (relabel scope X.env).names.lookup y = some .free) /\ (X.env.cells.lookup y).isSome = true /\ cl.lookup y = X.env.cells.lookup y)
  (t : nN X scope cl ys js) : nN X scope cl (y :: ys) (j :: js) :=
 ⟨by rw [List.length_cons, List.length_cons, t.len], fun i z q e1 e2 => by
  cases i with
  | zero => simp at e1 e2; subst e1 e2; exact h
  | succ i => exact t.at_ i z q (by simpa using e1) (by simpa using e2)⟩
theorem xE {scope : Scope} {cl : List (Str × Addr)} {ys : List Str} {js : List Nat} (clos : closureFor scope X.env = pure cl) (sub : ∀ q ∈ cl, X.env.cells.lookup q.1 = some q.2) (cap : nN X scope cl ys js) (hcell : ∀ y ∈ scope.names, y.2 ≠ .cell) (hfree : ∀ q ∈ scope.names, q.2 = .free -> q.1 ∈ ys) : aBb X scope cl := by
 refine ⟨clos, fun y c h => sub _ (PySem.mem_of_lookup h), fun y hy => ?_⟩
 have hm : y ∈ ys := by
  rcases hy with hy | hy
  ·have m := PySem.mem_of_lookup hy
   obtain ⟨⟨n0, k0⟩, m0, e0⟩ := List.mem_map.mp m
   dsimp only at e0
   split at e0
   ·rename_i z
    injection e0 with e1 e2
    subst e1
    have : k0 = .free := by
     cases k0 <;> simp at z ⊢
    exact hfree _ m0 this
   ·injection e0 with e1 e2
    exact absurd e2 (hcell _ m0)
  ·have m := PySem.mem_of_lookup hy
   obtain ⟨⟨n0, k0⟩, m0, e0⟩ := List.mem_map.mp m
   dsimp only at e0
   split at e0
   ·injection e0 with e1 e2
    cases e2
   ·injection e0 with e1 e2
    subst e1
    exact hfree _ m0 e2
 obtain ⟨i, hi, e⟩ := List.mem_iff_getElem.mp hm
 have hj : i < js.length := by rw [<- cap.len]; exact hi
 obtain ⟨_, _, _, h4, h5⟩ := cap.at_ i y js[i] (by rw [List.getElem?_eq_getElem hi, e]) (List.getElem?_eq_getElem hj)
 rw [h5]
 exact Option.isSome_iff_exists.mp h4
theorem uG {K : PySem.W.Frag} {B G0 G H : Hp} {W : Addr -> Option Nat} {σ : L2.St} {en : En} {i : Nat} {a : Addr} {o' : HO} {d' : D} (hh : SimH B G0 G W H) (hs : SimS K W G H σ en) (hW : W a = some i) (hv : σ[i]? = some (some (.ref a))) (hc : Cont K G o' d') :
  SimH B G0 G W (upd H a o') /\ SimS K W G (upd H a o') σ (en.set i (some (.o d'))) := by
 obtain ⟨g1, g2, g3⟩ := hh.wf a i hW
 refine ⟨⟨fun b o e => ?_, fun b o e => ?_, hh.g0, hh.gb, fun b j e => ?_⟩, by rw [List.length_set]; exact hs.1, fun j l e => ?_⟩
 ·rw [bU (cW e g1)]; exact hh.gh b o e
 ·rw [bU (cW e g2)]; exact hh.bh b o e
 ·obtain ⟨k1, k2, o, k3, k4⟩ := hh.wf b j e
  refine ⟨k1, k2, ?_⟩
  by_cases z : b = a
  ·rw [z, cG]; exact ⟨_, rfl, hc.mut⟩
  ·rw [bU z]; exact ⟨o, k3, k4⟩
 ·rw [List.getElem?_set] at e
  by_cases hj : i = j
  ·subst hj
   rw [if_pos rfl] at e
   split at e
   ·cases e
    exact ⟨_, hv, a, o', rfl, hW, cG, hc⟩
   ·cases e
  ·rw [if_neg hj] at e
   obtain ⟨v, e1, e2⟩ := hs.2 j l e
   refine ⟨v, e1, ?_⟩
   cases l with
   | p d => exact e2
   | x C => exact e2
   | h a => exact e2
   | o d =>
    obtain ⟨b, ob, h1, h2, h3, h4⟩ := e2
    refine ⟨b, ob, h1, h2, ?_, h4⟩
    rw [bU (fun z => by rw [z, hW] at h2; exact hj (Option.some.inj h2))]
    exact h3
def jT (i : Nat) (fe : En -> Res Ev) : MS := fun en => match en[i]? with
 | some (some (.o (.list ds))) => match fe en with
  | .ok r => match r.c with
   | .p d => if ds.length <= 100000 then some (.nx (en.set i (some (.o (.list (ds ++ [d])))))) else none
   | _ => none
  | .exc C => some (.ex C en)
  | .bad => none
 | _ => none
theorem qS {i : Nat} {fe : En -> Res Ev} {st : Stmt} (he : DE X E e fe) (hp : ∀ t, PE X e t -> PS X st (aCf (tBM X.K "list" q0 (aEn i) (aBn t aEr)))) : DS X E st (jT i fe) := by
 obtain ⟨t, q, mm⟩ := he.out
 refine DS.in ⟨_, hp t q, fun B G0 G W H σ en Dn hh hs hw => ?_⟩
 unfold jT at hw
 split at hw
 ·rename_i ds ei
  obtain ⟨v, e1, a, o, rfl, e2, e3, e4⟩ := hs.2 i _ ei
  cases e4 with
  | @lst xs _ rp =>
  refine ⟨_, e1, .inl ⟨rfl, _, SqL.of e3⟩, mm B G0 G W H σ en _ hh hs ?_⟩
  cases ef : fe en with
  | bad => rw [ef] at hw; exact hw
  | exc C => rw [ef] at hw; exact fun G1 H1 s => hw G1 W H1 σ (hh.step s) (hs.step s)
  | ok r =>
   rw [ef] at hw
   intro G1 H1 y s ey
   obtain ⟨G2, s2, ey2⟩ := ey.c s
   dsimp only at hw
   cases er : r.c with
   | p d =>
    rw [er] at hw ey2
    dsimp only at hw
    split at hw
    ·rename_i hl
     have hx := s2.h _ _ e3
     refine ⟨a, xs, y, rfl, rfl, hx, Nat.lt_of_le_of_lt (by rw [rp.length]; exact hl) (by decide), ?_⟩
     obtain ⟨w1, w2⟩ := uG (o' := .lst (xs ++ [y])) (d' := .list (ds ++ [d])) (hh.step s2) (hs.step s2) e2 e1 (.lst ((rp.mono s2.g).append (.cons ey2 .nil)))
     exact hw _ _ _ _ w1 w2
    ·exact hw.elim
   | f d => rw [er] at hw; exact hw.elim
   | b d => rw [er] at hw; exact hw.elim
   | x C => rw [er] at hw; exact hw.elim
 ·exact hw.elim
end
section
variable {X : Cx} {K : PySem.W.Frag} {E : L2.St -> XK} {a b : Expr} {fa fb : En -> Res Ev} {pos : Pos}
def mDT : En -> Res Ev := fun _ => .ok (.f (.dict []))
theorem uF : DE X E (.Dict [] [] pos) mDT :=
 DE.in ⟨_, u7, fun B G0 G W H σ en Q hh hs hw p hp => hw _ _ _ (Step.lay hh.gh hp) ⟨p, _, rfl, hp, hh.gh.free hp, cG, .dT .nil⟩⟩
def mG : D -> Bool
 | .none => true
 | .bool _ => true
 | .int _ => true
 | .str _ => true
 | _ => false
theorem oU {G : Hp} {v : V} {d : D} (h : Rep K G v d) (f : mG d = true) : j8 v = true := by
 cases h <;> first | rfl | exact absurd f Bool.false_ne_true
theorem yT {G : Hp} {v u : V} {d e : D} (h : Rep K G v d) (h2 : Rep K G u e) (f : mG d = true) (f2 : mG e = true) : eqV v u = PyData.eqv d e := by
 cases h <;> cases h2 <;> first | rfl | exact absurd f Bool.false_ne_true | exact absurd f2 Bool.false_ne_true | simp only [eqV, PyData.eqv]
def inE (ng : Bool) (x y : Ev) : Res Ev := match x with
 | .p d => match jH y with
  | some ds => if mG d = true /\ ds.all mG = true then .ok (.p (.bool (if ng then !ds.any (fun e => PyData.eqv e d) else ds.any fun e => PyData.eqv e d))) else .bad
  | none => .bad
 | _ => .bad
theorem wN {ng : Bool} : NoX (inE ng) := by
 intro x y A h
 unfold inE at h
 split at h
 ·split at h
  ·split at h <;> cases h
  ·cases h
 ·cases h
theorem sG {G : Hp} {v : V} {d : D} (h : Rep K G v d) (f : mG d = true) : ∀ {xs : List V} {ds : List D}, Reps K G xs ds -> ds.all mG = true -> xs.all j8 = true /\ inV v xs = ds.any (fun e => PyData.eqv e d)
 | _, _, .nil, _ => ⟨rfl, rfl⟩
 | _, _, .cons r t, hf => by
  rw [List.all_cons, Bool.and_eq_true] at hf
  obtain ⟨i1, i2⟩ := sG h f t hf.2
  unfold inV at i2 ⊢
  rw [List.all_cons, List.any_cons, List.any_cons, oU r hf.1, i1, i2, yT r h hf.1 f]
  exact ⟨rfl, rfl⟩
theorem aCa {K : PySem.W.Frag} (h : X.K = K) : OpR X (compareOp .In) (rIn K false) := h ▸ rV
theorem x4 {K : PySem.W.Frag} (h : X.K = K) : OpR X (compareOp .NotIn) (rIn K true) := h ▸ mH
theorem zP {ng : Bool} : OpM K (rIn K ng) (inE ng) := by
 intro W G H v u x y Q gh hx hy hw
 unfold inE at hw
 split at hw
 ·rename_i d ex
  rw [ex] at hx
  split at hw
  ·rename_i ds ed
   split at hw
   ·rename_i hf
    have hx : Rep K G v d := hx
    have fin : ∀ {xs : List V}, Reps K G xs ds -> xs.all j8 = true /\ Q (.bl (if ng then !inV v xs else inV v xs)) H := fun r => by
     obtain ⟨i1, i2⟩ := sG hx hf.1 r hf.2
     rw [i2]
     exact ⟨i1, hw G H _ (Step.refl gh) (.bl _)⟩
    cases ey : y.c with
    | p dd =>
     rw [ey] at ed hy
     cases dd with
     | list es =>
      cases ed
      cases hy with
      | @lst a xs _ h1 h2 => exact ⟨a, xs, rfl, .inl (.inl (kS gh h1)), oU hx hf.1, fin h2⟩
     | tuple es =>
      cases ed
      cases hy with
      | @tup a xs _ h1 h2 => exact ⟨a, xs, rfl, .inr (SqT.of (gh _ _ h1)), oU hx hf.1, fin h2⟩
     | _ => cases ed
    | b dd =>
     rw [ey] at ed hy
     cases dd with
     | list es =>
      cases ed
      obtain ⟨a, k, o, rfl, h1, h2, h3⟩ := hy
      cases h3 with
      | @lst xs _ h4 => exact ⟨a, xs, rfl, .inl (.inl (.inl h2)), oU hx hf.1, fin h4⟩
     | _ => cases ed
    | f dd => rw [ey] at ed; cases ed
    | x C => rw [ey] at ed; cases ed
   ·exact hw.elim
  ·exact hw.elim
 ·exact hw.elim
end
end M
namespace SRT
open PySem PySem.W PyProof.Rows
structure Ord (lt : Nat -> Nat -> Bool) : Prop where
 as : ∀ i j, lt i j = true -> lt j i = false
 tr : ∀ i j k, lt j i = false -> lt k j = false -> lt k i = false
section
variable {lt : Nat -> Nat -> Bool} {n : Nat} {cmp : Nat -> Nat -> (Bool -> Shared -> Prop) -> Shared -> Prop} {s : Shared}
def le (lt : Nat -> Nat -> Bool) (a b : Nat) : Prop := lt b a = false
variable (hc : ∀ i j C, i < n -> j < n -> C (lt i j) s -> cmp i j C s) (hn : 0 < n) (o : Ord lt)
include hc hn
include o
omit hc hn in
omit hc hn in
omit hc hn in
omit hc hn in
omit hc hn in
end
end SRT
namespace SRT
open PySem PySem.W PyProof.Rows L2
section
variable {prog : Program} {w : World} {A : Around} {E : Value -> Shared -> Prop} {s : Shared}
end
section
variable {X : Cx}
end
end SRT
namespace M
open PySem PySem.Spec PyProof.Rows L2
section
variable {X : Cx} {E : L2.St -> XK}
def k7 : En -> Res (Option Int) := fun _ => .ok none
def mPt (fe : En -> Res Ev) : En -> Res (Option Int) := fun en => (fe en).bind fun x => match x.c with
 | .p (.int i) => .ok (some i)
 | _ => .bad
def tP (K : PySem.W.Frag) (E : L2.St -> XK) (f : En -> Res (Option Int)) : TO := fun σ H R => ∃ B G0 G W en, SimH B G0 G W H /\ SimS K W G H σ en /\ wpR (f en) (fun k => ∀ G' H', Step G H G' H' -> R k H') (PostX (E σ) G H)
def DP (X : Cx) (E : L2.St -> XK) (o : Option Expr) (f : En -> Res (Option Int)) : Prop := PO X o (tP X.K E f)
theorem fY : DP X E none k7 := fun pins s σ H R I ⟨B, G0, G, W, en, hh, hs, hw⟩ => x6 pins s σ H R I (hw G H (Step.refl hh.gh))
theorem gE {e : Expr} {fe : En -> Res Ev} (he : DE X E e fe) : DP X E (some e) (mPt fe) := fun pins s σ H R I ⟨B, G0, G, W, en, hh, hs, hw⟩ => by
 obtain ⟨t, p, m⟩ := he.out
 refine xN p pins s σ H R I (m B G0 G W H σ en _ hh hs ?_)
 unfold mPt at hw
 rw [bO] at hw
 refine a6 hw (fun x hx G1 H1 v s1 e1 => ?_) fun C h => h
 obtain ⟨G2, s2, e2⟩ := e1.c s1
 cases ex : x.c with
 | p d =>
  rw [ex] at hx e2
  cases d with
  | int i => cases e2; exact ⟨i, rfl, hx G2 H1 s2⟩
  | _ => exact hx.elim
 | f d => rw [ex] at hx; exact hx.elim
 | b d => rw [ex] at hx; exact hx.elim
 | x C => rw [ex] at hx; exact hx.elim
end
section
variable {K : PySem.W.Frag}
def uE (rs : List Ev) : Res Ev := match rs with
 | [.p (.int i)] => if i.natAbs.log2 < 1920 then .ok (.p (.str (toString i))) else .bad
 | _ => .bad
theorem kN : uI uE := by
 intro rs C h
 unfold uE at h
 split at h
 ·split at h <;> cases h
 ·cases h
theorem nL : lS K (fun xs H Q => ∃ i, xs = [.int i] /\ i.natAbs.log2 < 1920 /\ Q (.str (toString i)) H) uE := by
 intro W Hs G H vs rs Q gh he hw
 unfold uE at hw
 split at hw
 ·rename_i i
  match vs, he with
  | [v], ⟨h1, _⟩ =>
   cases h1
   split at hw
   ·rename_i hl
    exact ⟨i, rfl, hl, hw G H _ (Step.refl gh) (.str _)⟩
   ·exact hw.elim
 ·exact hw.elim
def fU (rs : List Ev) : Res Ev := match rs with
 | [.p (.str z)] => if z.length <= sizeLine then .ok (.p (.int z.length)) else .bad
 | _ => .bad
theorem fZ : uI fU := by
 intro rs C h
 unfold fU at h
 split at h
 ·split at h <;> cases h
 ·cases h
theorem gZ : lS K (fun xs H Q => ∃ z, xs = [.str z] /\ z.length <= sizeLine /\ Q (.int z.length) H) fU := by
 intro W Hs G H vs rs Q gh he hw
 unfold fU at hw
 split at hw
 ·rename_i z
  match vs, he with
  | [v], ⟨h1, _⟩ =>
   cases h1
   split at hw
   ·rename_i hl
    exact ⟨z, rfl, hl, hw G H _ (Step.refl gh) (.int _)⟩
   ·exact hw.elim
 ·exact hw.elim
def nW (x y : Ev) : Res Ev := match x, y with
 | .p (.str z), .p (.int i) => if 0 <= i /\ i < 2 ^ 63 /\ i < z.length then match z.cps[i.toNat]? with
   | some c => .ok (.p (.str ⟨#[c]⟩))
   | none => .bad
  else .bad
 | _, _ => .bad
theorem zF : NoX nW := by
 intro x y C h
 unfold nW at h
 split at h
 ·split at h
  ·split at h <;> cases h
  ·cases h
 ·cases h
theorem aAc : OpM K (fun x y H Q => ∃ z i c, x = .str z /\ y = .int i /\ 0 <= i /\ i < 2 ^ 63 /\ i < z.length /\ z.cps[i.toNat]? = some c /\ Q (.str ⟨#[c]⟩) H) nW := by
 intro W G H v u x y Q gh hx hy hw
 unfold nW at hw
 split at hw
 ·rename_i z i ex ey
  rw [ex] at hx
  rw [ey] at hy
  cases hx
  cases hy
  split at hw
  ·rename_i hc
   split at hw
   ·rename_i c ec
    exact ⟨z, i, c, rfl, rfl, hc.1, hc.2.1, hc.2.2, ec, hw G H _ (Step.refl gh) (.str _)⟩
   ·exact hw.elim
  ·exact hw.elim
 ·exact hw.elim
theorem o7 {X : Cx} {E : L2.St -> XK} {a b : Expr} {fa fb : En -> Res Ev} {pos : Pos} (ha : DE X E a fa) (hb : DE X E b fb) (hs : pK b) : DE X E (.Subscript a b pos) (aK nW fa fb) := by
 obtain ⟨ta, pa, ma⟩ := ha.out
 obtain ⟨tb, pb, mb⟩ := hb.out
 exact DE.in ⟨_, oF pa pb hs, j0 ma mb aAc zF⟩
def pY (ng : Bool) (x y : Ev) : Res Ev := match x, y with
 | .p (.str i), .p (.str j) => .ok (.p (.bool (if ng then (Builtin.Str.occurrences j i 0 j.length 1).isEmpty else !(Builtin.Str.occurrences j i 0 j.length 1).isEmpty)))
 | _, _ => .bad
theorem rZ {ng : Bool} : NoX (pY ng) := by
 intro x y C h
 unfold pY at h
 split at h <;> cases h
theorem aB1 : OpM K (fun x y H Q => ∃ i j, x = .str i /\ y = .str j /\ Q (.bl (!(Builtin.Str.occurrences j i 0 j.length 1).isEmpty)) H) (pY false) := by
 intro W G H v u x y Q gh hx hy hw
 unfold pY at hw
 split at hw
 ·rename_i i j ex ey
  rw [ex] at hx
  rw [ey] at hy
  cases hx
  cases hy
  exact ⟨i, j, rfl, rfl, hw G H _ (Step.refl gh) (.bl _)⟩
 ·exact hw.elim
end
end M
namespace L2
open PySem PySem.Spec PyProof.Rows
section
variable {X : Cx} {pins : List (Addr × Obj)} {σ : St} {H : Hp} {s : Shared}
end
end L2
namespace SRT
open PySem PySem.W PyProof.Rows L2
section
variable {prog : Program} {w : World} {A : Around} {E : Value -> Shared -> Prop} {s : Shared}
end
end SRT
namespace L2
open PySem PySem.Spec PyProof.Rows
section
variable {X : Cx} {pins : List (Addr × Obj)} {σ : St}
end
section
variable {X : Cx} {tg : Expr}
def aEt (K : PySem.W.Frag) : List V -> Hp -> VK -> Prop := fun xs H Q => ∃ (a : Addr) (bs : List Bool), xs = [.ref a] /\ SqL K H a (bs.map V.bl) /\ Q (.bl (bs.all id)) H
theorem all_range (bs : List Bool) : ((List.range bs.length).all fun i => (bs[i]?).getD false) = bs.all id := by
 rw [Bool.eq_iff_iff, List.all_eq_true, List.all_eq_true]
 constructor
 ·intro h b hb
  obtain ⟨i, hi, e2⟩ := List.mem_iff_getElem.mp hb
  have := h i (List.mem_range.mpr hi)
  simpa [hi, e2] using this
 ·intro h i hi
  have hi := List.mem_range.mp hi
  have := h bs[i] (List.getElem_mem hi)
  simpa [hi] using this
theorem pO (hc : X.calm = true) {K : PySem.W.Frag} (hK : X.K = K) : CallR X (.builtin "all") (aEt K) := by
 subst hK
 intro pins s σ H xs us Q I r h
 obtain ⟨a, bs, rfl, hq, q⟩ := h
 obtain ⟨u, rfl, ru⟩ := vals1 r
 cases ru
 obtain ⟨its, rv, p, hz⟩ := I.list hq
 have ei := qP rv
 have hl := p.isList
 have lt : a < s.heap.objs.size := by obtain ⟨_, e, _⟩ := hl; exact Heap.lt_size e
 refine call_all_walk (wpAny_pyIter_list hl ?_)
 refine ⟨s.heap.objs.size, [s.heap.objs.size, a], [s.heap.objs.size], its.toArray.size, _, _, fun i => (bs[i]?).getD false, rfl, Walks.list (A := X.A.in1) (I.ok.hd hc) _ a (Nat.ne_of_lt lt) its.toArray,
  ⟨⟨_, Heap.get?_push_size _ rfl, rfl, rfl⟩, hl.push _⟩, fun i v s' Q' E' hP hQ => ?_, fun h' tk hk => ?_⟩
 ·have e : its[i]? = some v := by simpa using hP
  rw [ei, List.getElem?_map] at e
  cases eb : bs[i]? with
  | none => rw [eb] at e; cases e
  | some b =>
   have hQ : Q' ((bs[i]?).getD false) s' := hQ
   rw [eb] at e hQ
   cases e
   exact wpAny_truthy_bool hQ
 ·have e : its.toArray.size = bs.length := by rw [List.size_toArray, ei, List.length_map]
  rw [e, all_range]
  exact ⟨.bl (bs.all id), H, I.kept (rU hk), rfl, q⟩
def sP : V -> List V -> Hp -> VK -> Prop := fun x xs H Q => ∃ z y, x = .str z /\ xs = [.str y] /\ Q (.bl (Txt.startswith z y)) H
theorem sO : MtR X "str.startswith" sP := by
 intro pins s σ H x xs v us Q I rx rs h
 obtain ⟨z, y, rfl, rfl, q⟩ := h
 obtain ⟨t, rfl⟩ := rx
 obtain ⟨u, rfl, ⟨t', rfl⟩⟩ := vals1 rs
 exact SC.startswith ⟨.bl _, H, I, rfl, q⟩
def sU : V -> List V -> Hp -> VK -> Prop := fun x xs H Q => ∃ z y i r, x = .str z /\ xs = [.str y] /\ Builtin.Str.occurrences z y 0 z.length 1 = i :: r /\ Q (.int (i : Nat)) H
theorem sE : MtR X "str.index" sU := by
 intro pins s σ H x xs v us Q I rx rs h
 obtain ⟨z, y, i, r, rfl, rfl, e, q⟩ := h
 obtain ⟨t, rfl⟩ := rx
 obtain ⟨u, rfl, ⟨t', rfl⟩⟩ := vals1 rs
 exact SC.index e ⟨.int (i : Nat), H, I.tok _, ⟨_, rfl⟩, q⟩
theorem iX : ∀ (ys : List Str) (n : Nat), Vals (ys.map V.str) (strsFrom n ys)
 | [], _ => .nil
 | y :: ys, n => .cons ⟨n, rfl⟩ (iX ys (n + 1))
def w9 : V -> List V -> Hp -> VK -> Prop := fun x xs H Q => ∃ z y, x = .str z /\ xs = [.str y] /\ (y.length == 0) = false /\ z.length + 2 <= sizeLine /\ ∀ p, H p = none -> Q (.ref p) (upd H p (.lst ((Txt.split z y).map V.str)))
theorem l6 : MtR X "str.split" w9 := by
 intro pins s σ H x xs v us Q I rx rs h
 obtain ⟨z, y, rfl, rfl, hy, hz, q⟩ := h
 obtain ⟨t, rfl⟩ := rx
 obtain ⟨u, rfl, ⟨t', rfl⟩⟩ := vals1 rs
 have q := q _ (I.hok.fresh (Nat.le_refl _))
 have one : ∀ S : PySem.Spec, S = listOfItself z t -> Meets (Builtin.«str.split» { pos := [Value.str z t, Value.str y t'] }) S -> Txt.split z y = [z] -> wpAny (model X.prog X.w) X.A (call (.builtin "str.split") [Value.str z t, Value.str y t']) (EP X pins σ Q) X.xe s := fun S eS hm e => by
  rw [e] at q
  subst eS
  refine call_meets F.slot_str_split (typeIs_str s z t) F.entry_str_split (F.args_str_split_2 _ _) hm ?_
  exact ⟨.ref s.heap.objs.size, _, I.laid (t' := s.toks) (o := .lst [V.str z]) (fun b ob q => Heap.get?_push_of_some _ q) (Nat.le_refl _) ⟨by rw [List.length_singleton]; omega, [Value.str z t], 0, .cons ⟨t, rfl⟩ .nil, Heap.get?_push_size _ rfl⟩, rfl, q⟩
 by_cases c1 : (decide (z.length < y.length) || decide (Builtin.Str.strKind z < Builtin.Str.strKind y)) = true
 ·exact one _ rfl (meets_str_split_cannot_occur z y t t' c1) (by unfold Txt.split; rw [if_pos c1])
 ·have c1' := Bool.eq_false_iff.mpr c1
  by_cases c2 : (Builtin.Str.occurrences z y 0 z.length (z.length + 1)).isEmpty = true
  ·exact one _ rfl (meets_str_split_not_found z y t t' c1' hy c2) (by unfold Txt.split; rw [if_neg c1, if_pos c2])
  ·have c2' := Bool.eq_false_iff.mpr c2
   have e : Txt.split z y = Builtin.Str.partsBetween z (Builtin.Str.occurrences z y 0 z.length (z.length + 1)) y.length := by unfold Txt.split; rw [if_neg c1, if_neg c2]
   have ln : (Builtin.Str.partsBetween z (Builtin.Str.occurrences z y 0 z.length (z.length + 1)) y.length).length <= sizeLine := by
    rw [length_partsBetween]
    have := StrLaws.occ_length_le_len z y 0 z.length (z.length + 1)
    omega
   rw [e] at q
   refine call_meets F.slot_str_split (typeIs_str s z t) F.entry_str_split (F.args_str_split_2 _ _) (meets_str_split_sep z y t t' c1' hy c2' (by omega) ln) ?_
   exact ⟨.ref s.heap.objs.size, _, I.laid (o := .lst ((Builtin.Str.partsBetween z (Builtin.Str.occurrences z y 0 z.length (z.length + 1)) y.length).map V.str)) (fun b ob q => Heap.get?_push_of_some _ q) (Nat.le_refl _) ⟨by rw [List.length_map]; exact ln, _, 0, iX _ s.toks, Heap.get?_push_size _ rfl⟩, rfl, q⟩
def aAj : List V -> Hp -> VK -> Prop := fun xs H Q => ∃ z n, xs = [.str z] /\ intText? z = some n /\ z.length <= 640 /\ Q (.int n) H
theorem sY : CallR X (.type "int") aAj := by
 intro pins s σ H xs us Q I r h
 obtain ⟨z, n, rfl, hn, hl, q⟩ := h
 obtain ⟨u, rfl, ⟨t, rfl⟩⟩ := vals1 r
 exact W.KIN.call_text hn hl ⟨.int n, H, I.tok _, ⟨_, rfl⟩, q⟩
def aFm : V -> Option Int -> Option Int -> Hp -> VK -> Prop := fun x lo hi H Q => ∃ z, x = .str z /\ z.length <= sizeLine /\ Q (.str (Txt.slice z lo hi)) H
theorem mZ {v : Value} {o : Option Int} (h : IsPart v o) : ∃ p : Option (Int × Tok), partValue p = v /\ p.map (·.1) = o := by
 cases h with
 | none => exact ⟨none, rfl, rfl⟩
 | int i t => exact ⟨some (i, t), rfl, rfl⟩
theorem aCr : SlR X aFm := by
 intro pins s σ H x v vl vu lo hi sl Q I rx hs pl pu h
 obtain ⟨z, rfl, hz, q⟩ := h
 obtain ⟨t, rfl⟩ := rx
 obtain ⟨l, rfl, el⟩ := mZ pl
 obtain ⟨u, rfl, eu⟩ := mZ pu
 refine ⟨"str", _, slot_str_getitem.lookup, typeIs_str s z t, ?_⟩
 refine wpAny_getItem_str_slice (st := none) (show s.heap.IsSlice sl l u none from hs) rfl ?_
 unfold Txt.slice at q
 unfold sliceMade slicePicked
 rw [el, eu, show (Option.map (fun x : Int × Tok => x.fst) none).getD (1 : Int) = 1 from rfl]
 by_cases c : ((1 : Int) == 1 && (Builtin.Str.strSliceIndices lo hi 1 z.length).length == z.length) = true
 ·rw [if_pos c] at q
  rw [if_pos c]
  exact ⟨.str z, H, I, ⟨t, rfl⟩, q⟩
 ·rw [if_neg c] at q
  rw [if_neg c]
  have le := Txt.slice_le z lo hi
  unfold Txt.slice at le
  rw [if_neg c] at le
  exact ⟨Nat.le_trans le hz, .str _, H, I.tok _, ⟨_, rfl⟩, q⟩
def Its (z : Str) : It := ⟨fun i _ => i < z.cps.size, fun i H x H' => H' = H /\ ∃ c, z.cps[i]? = some c /\ x = .str ⟨#[c]⟩, fun i _ => z.cps.size <= i⟩
theorem vK {P : Program} {w : World} {K : PySem.W.Frag} {tg : Expr} (it : Addr) (z : Str) (t : Tok) : Turn P w K tg (Its z) [it] it (fun i h => h.IsStrIter it (strIterType z) z t i) := by
 have ks : strIterType z = "str_ascii_iterator" \/ strIterType z = "str_iterator" := by
  unfold strIterType
  split
  ·exact .inl rfl
  ·exact .inr rfl
 have W : ∀ {A : Around}, A.handled = none -> Walks P w A it [it] [it] z.cps.size (SignAt z) (fun i h => h.IsStrIter it (strIterType z) z t i) := fun {A} hA => by
  rcases ks with e | e <;> rw [e]
  ·exact Walks.strAscii hA it z t
  ·exact Walks.strWide hA it z t
 refine ⟨by simp, fun i h st b hb => ?_, fun i h h' st k => ?_, ?_, ?_, fun A i s Q E st h => ?_⟩
 ·have e : b = it := by simpa using hb
  subst e
  obtain ⟨o, e, c, d⟩ := st
  exact ⟨o, e, fun v z => by rw [d] at z; cases z⟩
 ·obtain ⟨o, e, c, d⟩ := st
  exact ⟨o, k it (by simp) o e, c, d⟩
 ·intro X hP hw hK hc i pins s σ H E I hf st hg
  subst hP hw hK
  obtain ⟨f0, f1, f2, f3, f4, f5⟩ := hf it (by simp)
  refine (W (I.ok.hd hc)).item i s _ _ hg st fun v h' tk hv st' kk => ?_
  obtain ⟨c, u, ec, rfl⟩ := hv
  have I1 : Inv X pins σ H { s with heap := h', toks := tk } := I.turned (fun b o hb e => kk b o (by simpa using hb) e) f0 f1 f3 f4 f5
  obtain ⟨o, eo, co, d⟩ := id st'
  refine ⟨_, rfl, yM (s := { s with heap := h', toks := tk }) (n := strIterType z) eo co d ?_ ⟨.str ⟨#[c]⟩, H, I1, ⟨u, rfl⟩, ⟨rfl, c, ec, rfl⟩, st', fun b hb => (hf b hb).1⟩⟩
  rcases ks with e | e <;> rw [e] <;> decide
 ·intro X hP hw hK hc i pins s σ H E I hf st hg
  subst hP hw hK
  obtain ⟨f0, f1, f2, f3, f4, f5⟩ := hf it (by simp)
  have en : z.cps[i]? = none := Array.getElem?_eq_none hg
  rcases ks with e | e
  ·rw [e] at st
   exact wpAny_pyNext_ascii_end (I.ok.hd hc) st en fun h' eb => ⟨rfl, I.turned (t' := s.toks) (fun b o hb e => eb b o hb e) f0 f1 f3 f4 f5⟩
  ·rw [e] at st
   exact wpAny_pyNext_wide_end (I.ok.hd hc) st en fun h' eb => ⟨rfl, I.turned (t' := s.toks) (fun b o hb e => eb b o hb e) f0 f1 f3 f4 f5⟩
 ·rcases ks with e | e <;> rw [e] at st
  ·exact wpAny_pyIter_striter_ascii st h
  ·exact wpAny_pyIter_striter_wide st h
def aFf (tl : TE) : TI := fun σ H R => tl σ H fun x H1 => ∃ z, x = .str z /\ R (Its z) H1
theorem aAa {l : Expr} {tl : TE} (hl : PE X l tl) : PI X tg l (aFf tl) := by
 intro pins s σ H R I h
 refine thn (hl pins s σ H _ I h) fun v s1 ⟨x, H1, I1, r1, q1⟩ => ?_
 obtain ⟨z, rfl, q⟩ := q1
 obtain ⟨t, rfl⟩ := r1
 refine wpAny_pyIter_strU ?_
 refine ⟨s1.heap.objs.size, [s1.heap.objs.size], _, _, H1, rfl, I1.kept (t' := s1.toks) fun b o e => Heap.get?_push_of_some _ e, vK _ z t, ⟨_, Heap.get?_push_size _ rfl, rfl, rfl⟩, fun b hb => ?_, q⟩
 have e : b = s1.heap.objs.size := by simpa using hb
 subst e
 exact I1.fpOk (Nat.le_refl _) (I1.hok.fresh (Nat.le_refl _))
end
end L2
namespace M
open PySem PySem.Spec PyProof.Rows L2
section
variable {K : PySem.W.Frag}
def uC (rs : List Ev) : Res Ev := match rs with
 | [x] => match qG x with
  | some ds => match mM ds with
   | some bs => .ok (.p (.bool (bs.all id)))
   | none => .bad
  | none => .bad
 | _ => .bad
theorem rK : uI uC := by
 intro rs C h
 unfold uC at h
 split at h
 ·split at h
  ·split at h <;> cases h
  ·cases h
 ·cases h
theorem w6 : lS K (aEt K) uC := by
 intro W Hs G H vs rs Q gh he hw
 unfold uC at hw
 split at hw
 ·rename_i x
  match vs, he with
  | [v], ⟨h1, _⟩ =>
   split at hw
   ·rename_i ds ed
    obtain ⟨a, xs, rfl, k1, k2⟩ := rN gh h1 ed
    split at hw
    ·rename_i bs eb
     have := oW eb k2
     subst this
     exact ⟨a, bs, rfl, .inl k1, hw G H _ (Step.refl gh) (.bl _)⟩
    ·exact hw.elim
   ·exact hw.elim
 ·exact hw.elim
def gA (rs : List Ev) : Res Ev := match rs with
 | [.p (.int i)] => .ok (.p (.int i))
 | [.p (.bool k)] => .ok (.p (.int (if k then 1 else 0)))
 | [.p (.str z)] => match intText? z with
  | some n => if z.length <= 640 then .ok (.p (.int n)) else .bad
  | none => .bad
 | _ => .bad
theorem iQ : uI gA := by
 intro rs C h
 unfold gA at h
 split at h
 ·cases h
 ·cases h
 ·split at h
  ·split at h <;> cases h
  ·cases h
 ·cases h
def aAl : List V -> Hp -> VK -> Prop := fun xs H Q => ((∃ i, xs = [.int i] /\ Q (.int i) H) \/ ∃ k, xs = [.bl k] /\ Q (.int (if k then 1 else 0)) H) \/ aAj xs H Q
theorem gM {X : Cx} : CallR X (.type "int") aAl := call_int1.or sY
theorem kF : lS K aAl gA := by
 intro W Hs G H vs rs Q gh he hw
 unfold gA at hw
 split at hw
 ·rename_i i
  match vs, he with
  | [v], ⟨h1, _⟩ => cases h1; exact .inl (.inl ⟨i, rfl, hw G H _ (Step.refl gh) (.int _)⟩)
 ·rename_i k
  match vs, he with
  | [v], ⟨h1, _⟩ => cases h1; exact .inl (.inr ⟨k, rfl, hw G H _ (Step.refl gh) (.int _)⟩)
 ·rename_i z
  match vs, he with
  | [v], ⟨h1, _⟩ =>
   cases h1
   split at hw
   ·rename_i n en
    split at hw
    ·rename_i hl
     exact .inr ⟨z, n, rfl, en, hl, hw G H _ (Step.refl gh) (.int _)⟩
    ·exact hw.elim
   ·exact hw.elim
 ·exact hw.elim
def isStr : Ev -> Bool
 | .p (.str _) => true
 | _ => false
def v9 (op : Ev -> Ev -> Res Ev) (fo fe : En -> Res Ev) : En -> Res Ev := fun en => (fo en).bind fun x => if isStr x.c = true then (fe en).bind fun y => op x.c y.c else .bad
theorem nK {X : Cx} {E : L2.St -> XK} {o e : Expr} {fo fe : En -> Res Ev} {name : Str} {id : String} {apos cpos : Pos} {r : V -> List V -> Hp -> VK -> Prop} {f : Ev -> Ev -> Res Ev} (slot : PySem.Slot "str" name id) (hty : typeOf (.builtin id) = pure (.type "method_descriptor")) (hm : MtR X id r) (hM : OpM X.K (fun v u H Q => r v [u] H Q) f) (hn : NoX f) (ho : DE X E o fo) (ha : DE X E e fe)
  (hbase : attributeBase o name X.env (eval o X.env) = eval o X.env := by rfl)
  (hfew : ((backTo cpos (starEach [e] X.env)).all (fun x => !x.1) && (backToKw cpos (keywordEach [] X.env)).all (fun x => x.1.isSome)
   && decide ([e].length + ([] : List Keyword).length + (if ([] : List Keyword).isEmpty then 0 else 1) < 30)) = true := by rfl)
  (hline : (apos.endLine == cpos.line) = true := by rfl) (hs : starEach [e] X.env = (false, eval e X.env) :: starEach [] X.env := by rfl) (hplain : (backTo cpos (starEach [] X.env)).any (·.1) = false := by rfl) :
  DE X E (.Call (.Attribute o name apos) [e] [] cpos) (v9 f fo fe) := by
 obtain ⟨to, po, mo⟩ := ho.out
 obtain ⟨te, pe, me⟩ := ha.out
 refine DE.in ⟨_, aB2 PySem.F.plainAttrs_str slot hty hm po (j5 pe pA hs) hbase hfew hline hs hplain, fun B G0 G W H σ en Q hh hs' hw => ?_⟩
 refine mo B G0 G W H σ en _ hh hs' (DE.go hw fun x G1 H1 v s1 e1 h1 => ?_)
 split at h1
 ·rename_i hx
  obtain ⟨z, ex⟩ : ∃ z, x.c = .p (.str z) := by
   unfold isStr at hx
   split at hx
   ·rename_i z e; exact ⟨z, e⟩
   ·cases hx
  have e1' := e1
  rw [ex] at e1'
  cases e1'
  refine ⟨rfl, ?_⟩
  refine me B G0 G1 W H1 σ en _ (hh.step s1) (hs'.step s1) (DE.go h1 fun y G2 H2 u s2 e2 h2 => ?_)
  exact hM W G2 H2 (.str z) u x y Q s2.gh (e1.step s2) (by cases y <;> exact e2) (noX h2 (hn _ _))
 ·exact h1.elim
def qL (x y : Ev) : Res Ev := match x, y with
 | .p (.str z), .p (.str w) => .ok (.p (.bool (Txt.startswith z w)))
 | _, _ => .bad
theorem qM : NoX qL := by
 intro x y C h
 unfold qL at h
 split at h <;> cases h
theorem r6 : OpM K (fun v u H Q => sP v [u] H Q) qL := by
 intro W G H v u x y Q gh hx hy hw
 unfold qL at hw
 split at hw
 ·rename_i i j ex ey
  rw [ex] at hx
  rw [ey] at hy
  cases hx
  cases hy
  exact ⟨i, j, rfl, rfl, hw G H _ (Step.refl gh) (.bl _)⟩
 ·exact hw.elim
def iJ (x y : Ev) : Res Ev := match x, y with
 | .p (.str z), .p (.str w) => match Builtin.Str.occurrences z w 0 z.length 1 with
  | i :: _ => .ok (.p (.int (i : Nat)))
  | [] => .bad
 | _, _ => .bad
theorem qA : NoX iJ := by
 intro x y C h
 unfold iJ at h
 split at h
 ·split at h <;> cases h
 ·cases h
theorem sN : OpM K (fun v u H Q => sU v [u] H Q) iJ := by
 intro W G H v u x y Q gh hx hy hw
 unfold iJ at hw
 split at hw
 ·rename_i z w ex ey
  rw [ex] at hx
  rw [ey] at hy
  cases hx
  cases hy
  split at hw
  ·rename_i i r e
   exact ⟨z, w, i, r, rfl, rfl, e, hw G H _ (Step.refl gh) (.int _)⟩
  ·exact hw.elim
 ·exact hw.elim
def iV (x y : Ev) : Res Ev := match x, y with
 | .p (.str z), .p (.str w) => if (w.length == 0) = false /\ z.length + 2 <= sizeLine then .ok (.f (.list ((Txt.split z w).map PyData.str))) else .bad
 | _, _ => .bad
theorem kH : NoX iV := by
 intro x y C h
 unfold iV at h
 split at h
 ·split at h <;> cases h
 ·cases h
theorem pU {G : Hp} : ∀ ys : List Str, Reps K G (ys.map V.str) (ys.map PyData.str)
 | [] => .nil
 | y :: ys => .cons (.str y) (pU ys)
theorem lP : OpM K (fun v u H Q => w9 v [u] H Q) iV := by
 intro W G H v u x y Q gh hx hy hw
 unfold iV at hw
 split at hw
 ·rename_i z w ex ey
  rw [ex] at hx
  rw [ey] at hy
  cases hx
  cases hy
  split at hw
  ·rename_i hc
   exact ⟨z, w, rfl, rfl, hc.1, hc.2, fun p hp => hw _ _ _ (Step.lay gh hp) ⟨p, _, rfl, hp, gh.free hp, cG, .lst (pU _)⟩⟩
  ·exact hw.elim
 ·exact hw.elim
theorem rA : OpM K (fun x y H Q => ∃ i j, x = .str i /\ y = .str j /\ Q (.bl (!(!(Builtin.Str.occurrences j i 0 j.length 1).isEmpty))) H) (pY true) := by
 intro W G H v u x y Q gh hx hy hw
 unfold pY at hw
 split at hw
 ·rename_i i j ex ey
  rw [ex] at hx
  rw [ey] at hy
  cases hx
  cases hy
  exact ⟨i, j, rfl, rfl, by rw [Bool.not_not]; exact hw G H _ (Step.refl gh) (.bl _)⟩
 ·exact hw.elim
def jP (fe : En -> Res Ev) (fl fh : En -> Res (Option Int)) : En -> Res Ev := fun en => (fe en).bind fun x => (fl en).bind fun l => (fh en).bind fun u => match x.c with
 | .p (.str z) => if z.length <= sizeLine then .ok (.p (.str (Txt.slice z l u))) else .bad
 | _ => .bad
theorem iM {X : Cx} {E : L2.St -> XK} {e : Expr} {lo hi : Option Expr} {fe : En -> Res Ev} {fl fh : En -> Res (Option Int)} {p2 pos : Pos} (he : DE X E e fe) (hl : DP X E lo fl) (hu : DP X E hi fh) : DE X E (.Subscript e (.Slice lo hi none p2) pos) (jP fe fl fh) := by
 obtain ⟨t, p, m⟩ := he.out
 refine DE.in ⟨_, vA aCr p hl hu, fun B G0 G W H σ en Q hh hs hw => ?_⟩
 unfold jP at hw
 refine m B G0 G W H σ en _ hh hs (DE.go hw fun x G1 H1 v s1 e1 h1 => ?_)
 refine ⟨B, G0, G1, W, en, hh.step s1, hs.step s1, ?_⟩
 rw [bO] at h1
 refine a6 h1 (fun l hx G2 H2 s2 => ?_) fun C h => h
 refine ⟨B, G0, G2, W, en, (hh.step s1).step s2, (hs.step s1).step s2, ?_⟩
 have hx' := a6 hx (fun r h => h.step s2) (fun C h => h.step s2)
 rw [bO] at hx'
 refine a6 hx' (fun u hy G3 H3 s3 => ?_) fun C h => h
 have e3 := e1.step (Hs' := H) (s2.trans s3)
 split at hy
 ·rename_i z ex
  rw [ex] at e3
  cases e3
  split at hy
  ·rename_i hz
   exact ⟨z, rfl, hz, hy G3 H3 _ s3 (.str _)⟩
  ·exact hy.elim
 ·exact hy.elim
def signs (z : Str) : List D := z.cps.toList.map fun c => .str ⟨#[c]⟩
def aD4 (r : Ev) : Res (List D) := match r with
 | .p (.str z) => .ok (signs z)
 | _ => .bad
def yN (fe : En -> Res Ev) : En -> Res (List D) := fun en => (fe en).bind fun r => aD4 r.c
theorem wX {X : Cx} {E : L2.St -> XK} {tg e : Expr} {fe : En -> Res Ev} (he : DE X E e fe) : DI X E tg e (yN fe) := by
 obtain ⟨t, p, m⟩ := he.out
 refine DI.in ⟨_, aAa p, fun B G0 G W H σ en R hh hs hw => m B G0 G W H σ en _ hh hs ?_⟩
 have hw : wpR ((fe en).bind _) _ _ := hw
 rw [bO] at hw
 refine a6 hw (fun r hr G1 H1 v s e => ?_) fun C h => h
 obtain ⟨G2, s2, e2⟩ := e.c s
 unfold aD4 at hr
 split at hr
 ·rename_i z er
  rw [er] at e2
  cases e2
  have hl : (signs z).length = z.cps.size := by unfold signs; rw [List.length_map, Array.length_toList]
  refine ⟨z, rfl, hr G2 H1 _ s2 fun G3 H3 k1 k2 => ⟨fun i d ed => ?_, by show z.cps.size <= _; rw [hl]; exact Nat.le_refl _⟩⟩
  unfold signs at ed
  rw [List.getElem?_map, Array.getElem?_toList] at ed
  cases ec : z.cps[i]? with
  | none => rw [ec] at ed; cases ed
  | some c =>
   rw [ec] at ed
   cases ed
   refine ⟨(Array.getElem?_eq_some_iff.mp ec).1, fun v H' hy => ?_⟩
   obtain ⟨rfl, c', ec', rfl⟩ := hy
   rw [ec] at ec'
   cases ec'
   exact ⟨G3, Step.refl k2, .str _⟩
 ·exact hr.elim
theorem uJ {X : Cx} {E : L2.St -> XK} {pos : Pos} {x : Str} {z : Str} {t : Tok} (hg : Gl X x) (hm : X.mg x = some (.str z t)) (hd : (x == ("__debug__" : Str)) = false := by decide) : DE X E (.Name x pos) (mC (.str z)) := DE.in ⟨_, eQ (v := .str z) hg hm ⟨t, rfl⟩ hd, fA fun _ => .str z⟩
end
section
variable {es : List Expr} {X : Env}
theorem a7 {k j p} : starEach (.Constant k j p :: es) X = (false, eval (.Constant k j p) X) :: starEach es X := rfl
theorem sZ {k p} : starEach (.Name k p :: es) X = (false, eval (.Name k p) X) :: starEach es X := rfl
theorem jK {a o b p} : starEach (.BinOp a o b p :: es) X = (false, eval (.BinOp a o b p) X) :: starEach es X := rfl
theorem uW {a k p} : starEach (.Tuple a k p :: es) X = (false, eval (.Tuple a k p) X) :: starEach es X := rfl
theorem u1 {a p} : starEach (.List a p :: es) X = (false, eval (.List a p) X) :: starEach es X := rfl
theorem uL {a b p} : starEach (.Dict a b p :: es) X = (false, eval (.Dict a b p) X) :: starEach es X := rfl
end
section
open PySem.Spec L2
theorem aS {X : Cx} {E : L2.St -> XK} {e : Expr} {es : List Expr} {fa : En -> Res Ev} {fr : En -> Res (List Ev)} (hst : starEach (e :: es) X.env = (false, eval e X.env) :: starEach es X.env) (ha : DE X E e fa) (hr : DA X E es fr) : DA X E (e :: es) (aB fa fr) := aA ha hr hst
end
end M
namespace L2
open PySem PySem.Spec PyProof.Rows
section
variable {X : Cx}
theorem pN (a : Array Nat) : ∀ (k : Nat) (b : Array Nat), (List.foldl (fun x1 x2 => x1 ++ x2) b (List.replicate k a)).size = b.size + k * a.size
 | 0, b => by simp
 | k + 1, b => by
  rw [List.replicate_succ, List.foldl_cons, pN a k (b ++ a), Array.size_append, Nat.succ_mul]
  omega
def aB6 : R2 := fun x y H Q => ∃ z n, x = .str z /\ y = .int n /\ (2 <= n /\ n <= 1000 /\ z.length ≠ 0 /\ z.length <= 1000) /\ Q (.str (Txt.mul z n)) H
theorem yO : OpR X (binaryOp .Mult) aB6 := by
 intro pins s σ H x y v u Q I rx ry h
 obtain ⟨z, n, rfl, rfl, ⟨h1, h2, h3, h4⟩, q⟩ := h
 obtain ⟨t, rfl⟩ := rx
 obtain ⟨t', rfl⟩ := ry
 have e1 : (n == 1 || z.length == 0) = false := by
  rw [beq_eq_false_iff_ne.mpr (show n ≠ 1 by omega), beq_eq_false_iff_ne.mpr h3]
  rfl
 have big : z.length * n.toNat <= 1000000 := by
  have := Nat.mul_le_mul h4 (show n.toNat <= 1000 by omega)
  omega
 unfold Txt.mul at q
 rw [if_neg (by omega), e1, if_neg Bool.false_ne_true] at q
 refine P.mul_str (by rw [decide_eq_false (by omega), decide_eq_false (by omega)]; rfl) (fun _ _ => ?_) (fun _ _ => ?_) ?_
 ·have : (1000 : Int) <= (2 ^ 63 - 1) / n := Int.le_ediv_of_mul_le (by omega) (by
   have := Int.mul_le_mul_of_nonneg_left h2 (show (0 : Int) <= 1000 by decide)
   omega)
  omega
 ·unfold Builtin.Str.tooLong
  exact decide_eq_false (by rw [sizeLine_eq]; omega)
 ·rw [if_neg (by omega), e1, if_neg Bool.false_ne_true]
  refine ⟨?_, .str _, H, I.tok _, ⟨_, rfl⟩, q⟩
  show (List.foldl (fun x1 x2 => x1 ++ x2) #[] (List.replicate n.toNat z.cps)).size <= _
  rw [pN, sizeLine_eq]
  show 0 + n.toNat * z.length <= _
  rw [Nat.mul_comm]
  omega
end
end L2
namespace M
open PySem PySem.Spec PyProof.Rows L2
section
variable {K : PySem.W.Frag}
def oH (x y : Ev) : Res Ev := match x, y with
 | .p (.str z), .p (.int n) => if 2 <= n /\ n <= 1000 /\ z.length ≠ 0 /\ z.length <= 1000 then .ok (.p (.str (Txt.mul z n))) else .bad
 | _, _ => .bad
theorem vJ : NoX oH := by
 intro x y C h
 unfold oH at h
 split at h
 ·split at h <;> cases h
 ·cases h
theorem xR : OpM K aB6 oH := by
 intro W G H v u x y Q gh hx hy hw
 unfold oH at hw
 split at hw
 ·rename_i z n ex ey
  rw [ex] at hx
  rw [ey] at hy
  cases hx
  cases hy
  split at hw
  ·rename_i hc
   exact ⟨z, n, rfl, rfl, hc, hw G H _ (Step.refl gh) (.str _)⟩
  ·exact hw.elim
 ·exact hw.elim
end
end M
namespace N
open PySem PySem.Spec PyProof.Rows L2 M
def frD (x : Int × Int) : D := .tuple [.int x.1, .int x.2]
abbrev Pl := Int × Int × (Int × Int)
def plD (p : Pl) : D := .tuple [.int p.1, .int p.2.1, frD p.2.2]
theorem at0 {α : Type} (x : α) (r : List α) : atI (x :: r) 0 = some x := oJ (j := 0) rfl
theorem at1 {α : Type} (x y : α) (r : List α) : atI (x :: y :: r) 1 = some y := oJ (j := 1) rfl
theorem at2 {α : Type} (x y z : α) (r : List α) : atI (x :: y :: z :: r) 2 = some z := oJ (j := 2) rfl
theorem nD (i j : Int) : PyData.eqv (.int i) (.int j) = (i == j) := by simp [PyData.eqv]
theorem o5 (i : Int) : SeqAt.shaped (.int i) = true := by simp [SeqAt.shaped, PyData.canLay0, PyData.depth]
theorem jO {α : Type} {g : D -> Option (Option D)} {enc : α -> D} {out : α -> D} : ∀ xs : List α, (∀ x ∈ xs, g (enc x) = some (some (out x))) -> u5 g (xs.map enc) = some (xs.map out)
 | [], _ => rfl
 | x :: xs, h => by
  show (match g (enc x) with | none => none | some o => match u5 g (xs.map enc) with | none => none | some r => some (match o with | some y => y :: r | none => r)) = _
  rw [h x (.head _), jO xs fun y hy => h y (.tail _ hy)]
  rfl
def hT (i : Int) (x : Int × Int) : Int × Int := FR.mk (i * x.1) (1 * x.2)
def hP (x y : Int × Int) : Int × Int := FR.mk (x.1 * y.2 + y.1 * x.2) (x.2 * y.2)
open Classical in
noncomputable def mOf {α : Type} (enc : α -> List L) (P : α -> Prop) (g : α -> Res L) (ls : List L) : Res L := if h : ∃ a, enc a = ls /\ P a then g h.choose else .bad
theorem wW {α : Type} {enc : α -> List L} {P : α -> Prop} {g : α -> Res L} (inj : ∀ a b, enc a = enc b -> a = b) {a : α} (h : P a) : mOf enc P g (enc a) = g a := by
 have hx : ∃ b, enc b = enc a /\ P b := ⟨a, rfl, h⟩
 unfold mOf
 rw [dif_pos hx, inj _ _ hx.choose_spec.1]
theorem wZ {α : Type} {enc : α -> List L} {P : α -> Prop} {g : α -> Res L} {n : Nat} {f : MS} (h : ∀ a, P a -> eB n f (enc a) = g a) : ∀ ls, mOf enc P g ls = .bad \/ eB n f ls = mOf enc P g ls := by
 intro ls
 unfold mOf
 by_cases hx : ∃ a, enc a = ls /\ P a
 ·rw [dif_pos hx]
  exact .inr ((congrArg _ hx.choose_spec.1.symm).trans (h _ hx.choose_spec.2))
 ·exact .inl (dif_neg hx)
theorem qD (a : D) (r : List D) : ixE (.p (.tuple (a :: r))) (.p (.int 0)) = .ok (.p a) := by simp [ixE, jH, at0]
theorem qK (a b : D) (r : List D) : ixE (.p (.tuple (a :: b :: r))) (.p (.int 1)) = .ok (.p b) := by simp [ixE, jH, at1]
theorem aAw (a b d : D) (r : List D) : ixE (.p (.tuple (a :: b :: d :: r))) (.p (.int 2)) = .ok (.p d) := by simp [ixE, jH, at2]
theorem aCu (p : Pl) : ixE (.p (plD p)) (.p (.int 0)) = .ok (.p (.int p.1)) := qD _ _
theorem aAd (p : Pl) : ixE (.p (plD p)) (.p (.int 1)) = .ok (.p (.int p.2.1)) := qK _ _ _
theorem aCj (p : Pl) : ixE (.p (plD p)) (.p (.int 2)) = .ok (.p (frD p.2.2)) := aAw _ _ _ _
theorem aA8 (p : Int × Int) : ixE (.p (frD p)) (.p (.int 0)) = .ok (.p (.int p.1)) := qD _ _
theorem aAp (p : Int × Int) : ixE (.p (frD p)) (.p (.int 1)) = .ok (.p (.int p.2)) := qK _ _ _
section
variable {κ α : Type} [DecidableEq κ]
variable {ek : κ -> D} {ev : α -> D} (inj : ∀ a b, ek a = ek b -> a = b)
include inj
end
theorem tX {α : Type} (f : α -> Bool) : ∀ xs : List α, mM (xs.map fun x => PyData.bool (f x)) = some (xs.map f)
 | [] => rfl
 | x :: xs => by
  show (match mM (xs.map fun x => PyData.bool (f x)) with | some bs => some (f x :: bs) | none => none) = _
  rw [tX f xs]
  rfl
theorem cm {i j : Int} {m n : Nat} (h1 : Sz m i) (h2 : Sz n j) (hm : m <= 60000) (hn : n <= 60000) : CMulW i j := ⟨h1.mono hm, h2.mono hn⟩
theorem dX {a b : Int} (hb : 0 < b) : 0 <= a.fmod b /\ a.fmod b < b := by
 rw [Int.fmod_eq_emod_of_nonneg a (Int.le_of_lt hb)]
 exact ⟨Int.emod_nonneg a (by omega), Int.emod_lt_of_pos a hb⟩
theorem aJ {f g : MS} {en e1 : En} (h : f en = some (.nx e1)) : cF f g en = g e1 := by unfold cF; rw [h]
theorem cR {f g : MS} {en : En} {l : L} (h : f en = some (.rt l)) : cF f g en = some (.rt l) := by unfold cF; rw [h]
theorem cN {i : Nat} {fe : En -> Res Ev} {en : En} {d : D} (h : fe en = .ok (.p d)) : dA i fe en = some (.nx (en.set i (some (.p d)))) := by unfold dA; rw [h]
theorem i8 {i : Nat} {fe : En -> Res Ev} {en : En} {d : D} (h : fe en = .ok (.f d)) : dA i fe en = some (.nx (en.set i (some (.o d)))) := by unfold dA; rw [h]
theorem gG {ft : En -> Res Bool} {f g : MS} {en : En} (h : ft en = .ok true) : fC ft f g en = f en := by unfold fC; rw [h]; rfl
theorem gJ {ft : En -> Res Bool} {f g : MS} {en : En} (h : ft en = .ok false) : fC ft f g en = g en := by unfold fC; rw [h]; rfl
theorem cX {n : Nat} {f : MS} {ls : List L} {l : L} (h : f (b9 n ls) = some (.rt l)) : eB n f ls = .ok l := by unfold eB; rw [h]
theorem aFe {x : Int} (h0 : -100000 <= x) (h1 : x <= 100000) : Sz 100 x := by
 unfold Sz
 omega
theorem zZ (C : Int) {b : Int} (h0 : 1 <= b) (h1 : b <= 100000) : jJ C b := ⟨by omega, (aFe (by omega) h1).mono (by decide)⟩
theorem sV {α : Type} (f : α -> D) (h : ∀ a, PyData.canLay0 (f a) = true) : ∀ xs : List α, PyData.canLayAll0 (xs.map f) = true
 | [] => rfl
 | x :: xs => by rw [List.map_cons, PyData.canLayAll0, h x, sV f h xs]; rfl
theorem uB {α : Type} (f : α -> D) (n : Nat) (h : ∀ a, PyData.depth (f a) <= n) : ∀ xs : List α, PyData.depthAll (xs.map f) <= n
 | [] => Nat.zero_le _
 | x :: xs => by
  rw [List.map_cons, PyData.depthAll]
  exact Nat.max_le.mpr ⟨h x, uB f n h xs⟩
theorem xO {α : Type} (f : α -> D) (h1 : ∀ a, PyData.canLay0 (f a) = true) (h2 : ∀ a, PyData.depth (f a) <= 9) (xs : List α) : SeqAt.shaped (.list (xs.map f)) = true := by
 have a : PyData.canLay0 (.list (xs.map f)) = true := by rw [PyData.canLay0]; exact sV f h1 xs
 have b : PyData.depth (.list (xs.map f)) <= 64 := by
  rw [PyData.depth]
  have := uB f 9 h2 xs
  omega
 unfold SeqAt.shaped
 rw [a, decide_eq_true b]
 rfl
theorem mB {x y : Ev} {d : D} (h1 : dat x = some d) (h2 : dat y = some d) (hs : SeqAt.shaped d = true) (ng : Bool) : eqE ng x y = .ok (.p (.bool (!ng))) := by
 have hc : PyData.canLay0 d = true := by
  unfold SeqAt.shaped at hs
  exact (Bool.and_eq_true_iff.mp hs).1
 unfold eqE
 rw [h1, h2]
 dsimp only
 rw [if_pos ⟨hs, hs⟩, SeqAt.eqv_refl d hc]
 cases ng <;> rfl
theorem zN (x : Int × Int) : SeqAt.shaped (frD x) = true := by simp [SeqAt.shaped, frD, PyData.canLay0, PyData.canLayAll0, PyData.depth, PyData.depthAll]
theorem yJ {fi : En -> Res (List D)} {tg : D -> En -> Option En} {f : MS} {en : En} {ds : List D} (h : fi en = .ok ds) : zH fi tg f en = iL tg f ds en := by unfold zH; rw [h]
theorem Sz.addM {m n : Nat} {x y : Int} (hx : Sz m x) (hy : Sz n y) : Sz (max m n + 1) (x + y) := Sz.add (hx.mono (Nat.le_max_left _ _)) (hy.mono (Nat.le_max_right _ _))
theorem aBe {i j : Int} (h : CMulW i j) : k6 (.p (.int i)) (.p (.int j)) = .ok (.p (.int (i * j))) := by simp [k6, qO, h]
theorem iF {i j : Int} (h : jJ i j) : gB (.p (.int i)) (.p (.int j)) = .ok (.p (.int (i.fdiv j))) := by simp [gB, qO, h]
theorem dS {i j : Int} (h : j ≠ 0) : fN (.p (.int i)) (.p (.int j)) = .ok (.p (.int (i.fmod j))) := by simp [fN, qO, h]
theorem kP {i j : Int} (h : vP i j) : pX (.p (.int i)) (.p (.int j)) = .ok (.p (.int (i ^ j.toNat))) := by simp [pX, qO, h]
theorem jC (i j : Int) : dZ (.p (.int i)) (.p (.int j)) = .ok (.p (.int (i + j))) := by simp [dZ]
theorem nM (i j : Int) : w8 (.p (.int i)) (.p (.int j)) = .ok (.p (.int (i - j))) := by simp [w8, kC]
def eII (a : Int × Int) : List L := [.p (.int a.1), .p (.int a.2)]
theorem rO (a b : Int × Int) (h : eII a = eII b) : a = b := by
 unfold eII at h
 injection h with h1 h2
 injection h2 with h2 _
 injection h1 with h1
 injection h2 with h2
 injection h1 with h1
 injection h2 with h2
 exact Prod.ext h1 h2
theorem yL {α β : Type} (a : α) (f : α -> Res β) : (Res.ok a).bind f = f a := rfl
theorem aA5 {fe : En -> Res Ev} {en : En} {d : D} (h : fe en = .ok (.f d)) : dW fe en = some (.rt (.o d)) := by unfold dW; rw [h]; rfl
theorem bV {fe : En -> Res Ev} {en : En} {d : D} (h : fe en = .ok (.p d)) : dW fe en = some (.rt (.p d)) := by unfold dW; rw [h]; rfl
theorem uA {n : Nat} {js : List Nat} {fi : En -> Res (List D)} {tg : D -> En -> Option En} {ft : En -> Res Bool} {fe : En -> Res Ev} {en : En} {ds es : List D} (h1 : fi en = .ok ds) (h2 : ds.length <= 100000) (h3 : u5 (eH n js tg ft fe en) ds = some es) : lW n js fi tg ft fe en = .ok (.f (.list es)) := by
 unfold lW
 rw [h1, yL]
 unfold yK
 rw [if_pos h2, h3]
end N
local macro_rules | `(tactic| walk_at "z") => `(tactic| repeat (first | assumption | apply L2.Sz.mul | apply N.Sz.addM | apply N.Sz.subM | apply L2.Sz.neg | apply N.sz_fdiv | (apply N.sz_fmod; (first | decide | omega)) | exact N.sz_lit4 (by decide) | exact N.sz_lit (by decide) | exact N.sz_lit70 (by decide) | exact N.sz_big (by decide)))
local macro_rules | `(tactic| walk_at "d") => `(tactic| first | assumption | (first | apply N.cm2 | apply N.cd2) <;> (first | decide | omega | (walk_at "z")) | decide | omega)
namespace N
section
open PySem PySem.Spec PyProof.Rows L2 M
variable {en : En} {f g : En -> Res Ev} {x y : Ev} {o : Res Ev} {a b d r : D}
theorem aH {op : Ev -> Ev -> Res Ev} (h1 : f en = .ok x) (h2 : g en = .ok y) (h : op x.c y.c = o) : aK op f g en = o := by simp only [aK, h1, h2, Res.bind, h]
theorem l7 {op : Ev -> Res Ev} (h1 : f en = .ok x) (h : op x.c = o) : mUn op f en = o := by simp only [mUn, h1, Res.bind, h]
theorem aX {b : Bool} (h : f en = .ok (.p (.bool b))) : bR f en = .ok b := by simp only [bR, h, Res.bind, mV]
theorem x8 {f : En -> Res Bool} {b : Bool} (h : f en = .ok b) : kW f en = .ok (!b) := by simp only [kW, h, Res.bind]
theorem p6 {f : En -> Res Bool} (h : f en = .ok true) : kW f en = .ok false := by simp only [kW, h, Res.bind]; rfl
theorem aBy {f : En -> Res Bool} (h : f en = .ok false) : kW f en = .ok true := by simp only [kW, h, Res.bind]; rfl
theorem oD {f g : En -> Res Bool} (h1 : f en = .ok false) (h2 : g en = .ok false) : mOr f g en = .ok false := by simp only [mOr, h1, h2, Res.bind]; rfl
theorem lI {f g : En -> Res Bool} {o : Res Bool} (h1 : f en = .ok false) (h2 : g en = o) : mOr f g en = o := by simp only [mOr, h1, h2, Res.bind]; rfl
theorem qW {f g : En -> Res Bool} (h1 : f en = .ok true) : mOr f g en = .ok true := by simp only [mOr, h1, Res.bind]; rfl
theorem mR {f g : En -> Res Bool} {o : Res Bool} (h1 : f en = .ok true) (h2 : g en = o) : qN f g en = o := by simp only [qN, h1, h2, Res.bind]; rfl
theorem rP {f g : En -> Res Bool} (h1 : f en = .ok false) : qN f g en = .ok false := by simp only [qN, h1, Res.bind]; rfl
theorem bQ {g : En -> Res (List Ev)} {xs : List Ev} (h1 : f en = .ok x) (h2 : g en = .ok xs) : aB f g en = .ok (x.c :: xs) := by simp only [aB, h1, h2, Res.bind]
theorem yF {n : Nat} {m : List L -> Res L} {fr : En -> Res (List Ev)} {rs : List Ev} {ls : List L} {r : L} (h : fr en = .ok rs) (ha : hR xA rs = some ls) (hn : ls.length = n) (hm : m ls = .ok r) : a8 n m fr en = .ok (u3 r) := by
 unfold a8
 rw [h]
 show nA n m rs = _
 unfold nA
 rw [ha]
 dsimp only
 rw [if_pos hn, hm]
 rfl
theorem c0 {r : List Ev -> Res Ev} {f : En -> Res (List Ev)} {rs : List Ev} (h1 : f en = .ok rs) (h : r rs = o) : aL r f en = o := by simp only [aL, h1, Res.bind, h]
theorem eD {m : List L -> Res L} {r : L} (h1 : f en = .ok x) (hx : x.c = .p a) (hm : m [.p a] = .ok r) : a8 1 m (aB f aY) en = .ok (u3 r) := yF (bQ h1 rfl) (by rw [hx]; rfl) rfl hm
theorem jE {m : List L -> Res L} {r : L} (h1 : f en = .ok x) (h2 : g en = .ok y) (hm : m [.p a, .p b] = .ok r) (hx : x.c = .p a := by rfl) (hy : y.c = .p b := by rfl) : a8 2 m (aB f (aB g aY)) en = .ok (u3 r) := yF (bQ h1 (bQ h2 rfl)) (by rw [hx, hy]; rfl) rfl hm
theorem aDv {h : En -> Res Ev} {z : Ev} {m : List L -> Res L} {r : L} (h1 : f en = .ok x) (h2 : g en = .ok y) (h3 : h en = .ok z) (hm : m [.p a, .p b, .p d] = .ok r) (hx : x.c = .p a := by rfl) (hy : y.c = .p b := by rfl) (hz : z.c = .p d := by rfl) : a8 3 m (aB f (aB g (aB h aY))) en = .ok (u3 r) := yF (bQ h1 (bQ h2 (bQ h3 rfl))) (by rw [hx, hy, hz]; rfl) rfl hm
theorem tF (h1 : f en = .ok x) (h2 : g en = .ok y) (hx : x.c = .p a := by rfl) (hy : y.c = .p b := by rfl) : aL iT (aB f (aB g aY)) en = .ok (.p (.tuple [a, b])) := c0 (bQ h1 (bQ h2 rfl)) (by rw [hx, hy]; rfl)
theorem aAv {tg : D -> En -> Option En} {f : MS} {d : D} {ds : List D} {en e e' : En} (h1 : tg d en = some e) (h2 : f e = some (.nx e')) : iL tg f (d :: ds) en = iL tg f ds e' := by
 rw [iL, h1]
 dsimp only
 rw [h2]
theorem aCe {i : Nat} {ds : List D} (h1 : en[i]? = some (some (.o (.list ds)))) (h2 : f en = .ok x) (h3 : ds.length <= 100000) (hx : x.c = .p d := by rfl) : jT i f en = some (.nx (en.set i (some (.o (.list (ds ++ [d])))))) := by
 unfold jT
 rw [h1]
 dsimp only
 rw [h2]
 dsimp only
 rw [hx]
 dsimp only
 rw [if_pos h3]
theorem aBt {i : Nat} {f : MS} {en e1 : En} {o : Option Out} (h : frz i en = e1) (k : f e1 = o) : f (frz i en) = o := by rw [h]; exact k
theorem pV {α : Type} {enc : α -> D} {xs : List α} {d : α} {k : Nat} {i : Int} (hx : jH x = some (xs.map enc)) (hk : k < xs.length) (hi : i = (k : Int)) : ixE x (.p (.int i)) = .ok (.p (enc (xs.getD k d))) := by
 subst hi
 have e : atI (xs.map enc) (k : Int) = some (enc (xs.getD k d)) := by
  have e1 : ixN (xs.map enc).length (k : Int) = some k := by
   unfold ixN
   rw [List.length_map, if_pos (by omega), if_pos (by omega)]
   rfl
  unfold atI
  rw [e1]
  show (xs.map enc)[k]? = _
  rw [List.getElem?_map, List.getD_eq_getElem?_getD, List.getElem?_eq_getElem hk]
  rfl
 simp only [ixE, hx, e]
theorem aCo {ds : List D} (h1 : f en = .ok x) (hx : jH x.c = some ds) : aL iK (aB f aY) en = .ok (.p (.int (ds.length : Nat))) := by
 refine c0 (bQ h1 rfl) ?_
 cases hc : x.c with
 | p v =>
  rw [hc] at hx
  cases v <;> first | (cases hx; rfl) | cases hx
 | b v =>
  rw [hc] at hx
  cases v <;> first | (cases hx; rfl) | cases hx
 | f v => rw [hc] at hx; cases hx
 | x C => rw [hc] at hx; cases hx
end
end N
namespace N
section
open PySem
abbrev tl (z : Str) : List Nat := z.cps.toList
theorem fO {a b : Str} (h : tl a = tl b) : a = b := by
 cases a with
 | mk a =>
  cases b with
  | mk b =>
   have : a = b := Array.toList_inj.mp h
   rw [this]
theorem iW (a b : Str) : tl (a ++ b) = tl a ++ tl b := by
 show (a.cps ++ b.cps).toList = _
 simp
theorem cS (z : Str) : z.length = (tl z).length := (Array.length_toList).symm
def dg (n : Nat) : List Nat := (Nat.toDigits 10 n).map Char.toNat
theorem mW (n : Nat) : NumText.AllDigits (dg n) := fun c hc => by
 obtain ⟨d, hd, rfl⟩ := List.mem_map.mp hc
 have h := Nat.isDigit_of_mem_toDigits (by decide) (by decide) hd
 unfold Char.isDigit at h
 simp only [Bool.and_eq_true, decide_eq_true_eq, ge_iff_le] at h
 exact ⟨UInt32.le_iff_toNat_le.mp h.1, UInt32.le_iff_toNat_le.mp h.2⟩
theorem aAf (n : Nat) : dg n ≠ [] := fun h => Nat.toDigits_ne_nil (List.map_eq_nil_iff.mp h)
theorem jB (n : Nat) : NumText.digitsVal (dg n) = n := W.KIN.val_back n
theorem aA0 {m n : Nat} (h : dg m = dg n) : m = n := by rw [<- jB m, h, jB]
theorem yG {n : Nat} (h : n ≠ 0) : ∃ c r, dg n = c :: r /\ 49 <= c := by
 have a := NumText.toDigits_all (dg n) (mW n)
 rw [jB] at a
 have ln : (dg n).length = (Nat.toDigits 10 n).length := List.length_map _
 cases e : dg n with
 | nil => exact absurd e (aAf n)
 | cons c r =>
  refine ⟨c, r, rfl, ?_⟩
  have ac := mW n c (by rw [e]; exact .head _)
  by_cases z : c = 48
  ·exfalso
   rw [e, z] at a ln
   rw [List.dropWhile_cons_of_pos (by decide)] at a
   cases e2 : List.dropWhile (fun x => x == 48) r with
   | nil =>
    rw [e2] at a
    dsimp only at a
    have h0 : Nat.toDigits 10 0 = ['0'] := Nat.toDigits_zero _
    have : dg n = dg 0 := by unfold dg; rw [a, h0]
    exact h (aA0 this)
   | cons d r2 =>
    rw [e2] at a
    dsimp only at a
    have l2 := congrArg List.length a
    rw [List.length_map, <- e2] at l2
    have := (List.dropWhile_suffix (l := r) (fun x => x == 48)).length_le
    rw [List.length_cons] at ln
    omega
  ·omega
theorem wM {n k : Nat} (hk : 0 < k) (h : n < 10 ^ k) : (dg n).length <= k := by
 unfold dg
 rw [List.length_map]
 exact (Nat.length_toDigits_le_iff (by decide) hk).mpr h
theorem aCk {n : Nat} (h : n < 10) : dg n = [48 + n] := by
 have : n = 0 \/ n = 1 \/ n = 2 \/ n = 3 \/ n = 4 \/ n = 5 \/ n = 6 \/ n = 7 \/ n = 8 \/ n = 9 := by omega
 rcases this with e | e | e | e | e | e | e | e | e | e <;> subst e <;> decide +kernel
def sg (i : Int) : List Nat := if i < 0 then 45 :: dg i.natAbs else dg i.natAbs
abbrev tx (i : Int) : Str := Str.ofString (toString i)
theorem p9 (i : Int) : tl (tx i) = sg i := by
 unfold sg
 cases i with
 | ofNat m =>
  rw [if_neg (by simp)]
  exact W.KIN.signs_num m
 | negSucc m =>
  rw [if_pos (Int.negSucc_lt_zero m)]
  have e : toString (Int.negSucc m) = "-" ++ toString (m + 1) := rfl
  have s1 := PyProof.Rows.signs_ofString (toString (Int.negSucc m))
  have s2 := W.KIN.signs_num (m + 1)
  have s3 := PyProof.Rows.signs_ofString (toString ((m + 1 : Nat) : Int))
  rw [s2] at s3
  rw [e, String.toList_append, List.map_append] at s1
  have e2 : toString ((m + 1 : Nat) : Int) = toString (m + 1) := rfl
  rw [e2] at s3
  rw [<- s3] at s1
  show tl (Str.ofString (toString (Int.negSucc m))) = _
  rw [e]
  exact s1
theorem rC {i : Int} {c : Nat} (h : c ∈ sg i) : c = 45 \/ 48 <= c /\ c <= 57 := by
 unfold sg at h
 split at h
 ·rcases List.mem_cons.mp h with z | z
  ·exact .inl z
  ·exact .inr (mW _ c z)
 ·exact .inr (mW _ c h)
def jl (c : List Nat) : List (List Nat) -> List Nat
 | [] => []
 | [a] => a
 | a :: b :: r => a ++ c ++ jl c (b :: r)
theorem gL (y : Str) : ∀ ps : List Str, tl (y.join ps) = jl (tl y) (ps.map tl)
 | [] => rfl
 | [a] => by rw [Str.join.eq_2]; rfl
 | a :: b :: r => by
  rw [Str.join.eq_3 y a (b :: r) (fun z => nomatch z), iW, iW, gL y (b :: r)]
  rfl
theorem sL {c : Nat} : ∀ {a b X Y : List Nat}, c ∉ a -> c ∉ b -> a ++ c :: X = b ++ c :: Y -> a = b /\ X = Y
 | [], [], _, _, _, _, h => ⟨rfl, by injection h⟩
 | [], b :: bs, _, _, _, hb, h => by injection h with h1; exact absurd (by rw [h1]; exact .head _) hb
 | a :: as, [], _, _, ha, _, h => by injection h with h1; exact absurd (by rw [h1]; exact .head _) ha
 | a :: as, b :: bs, X, Y, ha, hb, h => by
  injection h with h1 h2
  obtain ⟨e1, e2⟩ := sL (a := as) (b := bs) (fun z => ha (.tail _ z)) (fun z => hb (.tail _ z)) h2
  exact ⟨by rw [h1, e1], e2⟩
theorem wJ {c : Nat} {s : List Nat} : ∀ {ps qs : List (List Nat)}, ps ≠ [] -> qs ≠ [] -> (∀ p ∈ ps, c ∉ p) -> (∀ q ∈ qs, c ∉ q) -> jl (c :: s) ps = jl (c :: s) qs -> ps = qs
 | [], _, h, _, _, _, _ => absurd rfl h
 | _ :: _, [], _, h, _, _, _ => absurd rfl h
 | [a], [b], _, _, _, _, h => by
  have h : a = b := h
  rw [h]
 | [a], b :: b' :: r, _, _, ha, _, h => by
  have h : a = b ++ (c :: s) ++ jl (c :: s) (b' :: r) := h
  exact absurd (by rw [h]; simp) (ha a (.head _))
 | a :: a' :: r, [b], _, _, _, hb, h => by
  have h : a ++ (c :: s) ++ jl (c :: s) (a' :: r) = b := h
  exact absurd (by rw [<- h]; simp) (hb b (.head _))
 | a :: a' :: r, b :: b' :: r', _, _, ha, hb, h => by
  have h : a ++ (c :: s) ++ jl (c :: s) (a' :: r) = b ++ (c :: s) ++ jl (c :: s) (b' :: r') := h
  rw [List.append_assoc, List.append_assoc, List.cons_append, List.cons_append] at h
  obtain ⟨e1, e2⟩ := sL (ha a (.head _)) (hb b (.head _)) h
  have e2 := List.append_cancel_left e2
  rw [e1, wJ (ps := a' :: r) (qs := b' :: r') (List.cons_ne_nil _ _) (List.cons_ne_nil _ _) (fun p hp => ha p (.tail _ hp)) (fun q hq => hb q (.tail _ hq)) e2]
theorem iS (x y : Str) : Txt.split x y ≠ [] := by
 unfold Txt.split
 split
 ·exact List.cons_ne_nil _ _
 ·split
  ·exact List.cons_ne_nil _ _
  ·intro z
   have := congrArg List.length z
   rw [length_partsBetween] at this
   cases this
theorem uS {c : Nat} {s : List Nat} {y : Str} (hy : tl y = c :: s) {ps : List Str} (h0 : ps ≠ []) (hf : ∀ p ∈ ps, c ∉ tl p) (hq : ∀ q ∈ Txt.split (y.join ps) y, c ∉ tl q) : Txt.split (y.join ps) y = ps := by
 have e := StrLaws.join_split (y.join ps) y
 have n := iS (y.join ps) y
 generalize Txt.split (y.join ps) y = qs at *
 have t := congrArg tl e
 rw [gL, gL, hy] at t
 have := wJ (by simpa using n) (by simpa using h0) (fun p hp => by obtain ⟨q, hq', rfl⟩ := List.mem_map.mp hp; exact hq q hq') (fun p hp => by obtain ⟨q, hq', rfl⟩ := List.mem_map.mp hp; exact hf q hq') t
 exact (List.map_inj_right (fun _ _ e => fO e)).mp this
theorem kL {c : Nat} {y : Str} (hy : tl y = [c]) {ps : List Str} (h0 : ps ≠ []) (hf : ∀ p ∈ ps, c ∉ tl p) : Txt.split (y.join ps) y = ps := by
 refine uS hy h0 hf fun q hq => ?_
 have e : y = { cps := #[c] } := fO hy
 rw [e] at hq
 exact StrLaws.split_free _ _ q hq
end
section
open PySem M L2
variable {en : En} {f g : En -> Res Ev} {x y : Ev} {o : Res Ev}
theorem zL {c : En -> Res Bool} (h : c en = .ok true) (k : f en = o) : mIf c f g en = o := by
 unfold mIf
 rw [h]
 exact k
theorem aBi {c : En -> Res Bool} (h : c en = .ok false) (k : g en = o) : mIf c f g en = o := by
 unfold mIf
 rw [h]
 exact k
theorem aC8 (h : f en = .ok (.p (.bool true))) : yE f g en = .ok (.p (.bool true)) := by simp only [yE, h, Res.bind]
theorem aDh (h : f en = .ok (.p (.bool false))) (h2 : g en = o) : yE f g en = o := by simp only [yE, h, Res.bind, h2]
theorem pH (h : f en = .ok (.p (.bool true))) (h2 : g en = o) : kA f g en = o := by simp only [kA, h, Res.bind, h2]
theorem tY (h : f en = .ok (.p (.bool false))) : kA f g en = .ok (.p (.bool false)) := by simp only [kA, h, Res.bind]
theorem qE {op : Ev -> Ev -> Res Ev} {z : Str} (h1 : f en = .ok x) (h2 : g en = .ok y) (h : op (.p (.str z)) y.c = o) (hx : x.c = .p (.str z) := by rfl) : v9 op f g en = o := by
 unfold v9
 rw [h1]
 show (if isStr x.c = true then (g en).bind fun y => op x.c y.c else .bad) = o
 rw [hx, if_pos (show isStr (.p (.str z)) = true from rfl), h2]
 exact h
theorem p7 {fl fh : En -> Res (Option Int)} {l u : Option Int} {z : Str} (h1 : f en = .ok x) (hl : fl en = .ok l) (hu : fh en = .ok u) (hz : z.length <= 100000) (hx : x.c = .p (.str z) := by rfl) : jP f fl fh en = .ok (.p (.str (Txt.slice z l u))) := by
 have e : (if z.length <= sizeLine then Res.ok (Ev.p (.str (Txt.slice z l u))) else .bad) = .ok (.p (.str (Txt.slice z l u))) := if_pos (Nat.le_trans hz (by rw [sizeLine_eq]; decide))
 simp only [jP, h1, hl, hu, Res.bind]
 rw [hx]
 exact e
theorem itS {z : Str} (h1 : f en = .ok x) (hx : x.c = .p (.str z) := by rfl) : yN f en = .ok (signs z) := by
 unfold yN
 rw [h1]
 show aD4 x.c = _
 rw [hx]
 rfl
def P8 (a : Str) : Prop := ∀ c ∈ tl a, c < 256
theorem wF {a : Str} (h : P8 a) : SeqAt.shaped (.str a) = true := by
 have e : PyData.strOk a = true := by
  unfold PyData.strOk
  rw [<- Array.all_toList, List.all_eq_true]
  exact fun c hc => decide_eq_true (Nat.lt_trans (h c hc) (by decide))
 simp [SeqAt.shaped, PyData.canLay0, PyData.depth, e]
theorem P8.app {a b : Str} (ha : P8 a) (hb : P8 b) : P8 (a ++ b) := fun c hc => by
 rw [iW] at hc
 rcases List.mem_append.mp hc with z | z
 ·exact ha c z
 ·exact hb c z
theorem xU (i : Int) : P8 (tx i) := fun c hc => by
 rw [p9] at hc
 rcases rC hc with z | z <;> omega
theorem eq_str (ng : Bool) {a b : Str} (ha : P8 a) (hb : P8 b) : eqE ng (.p (.str a)) (.p (.str b)) = .ok (.p (.bool (if ng then !decide (a = b) else decide (a = b)))) := by
 have e : PyData.eqv (.str a) (.str b) = decide (a = b) := by
  rw [Bool.eq_iff_iff, decide_eq_true_iff]
  simp [PyData.eqv]
 simp [eqE, dat, wF ha, wF hb, e]
theorem eR {i j : Int} : eqE false (.p (.int i)) (.p (.int j)) = .ok (.p (.bool (i == j))) := by simp [eqE, dat, o5, nD]
theorem ne_is {i j : Int} : eqE true (.p (.int i)) (.p (.int j)) = .ok (.p (.bool (!(i == j)))) := by simp [eqE, dat, o5, nD]
theorem aAr (c : Nat) (w : Str) : pY false (.p (.str ⟨#[c]⟩)) (.p (.str w)) = .ok (.p (.bool (decide (c ∈ tl w)))) := by
 unfold pY
 dsimp only
 rw [if_neg Bool.false_ne_true, StrLaws.found_one]
theorem aBw {n : Nat} (h : n < 10 ^ 100) : n.log2 < 1920 := by
 by_cases z : n = 0
 ·rw [z]; decide
 ·exact (Nat.log2_lt z).mpr (Nat.lt_trans h (by decide +kernel))
theorem q5 {i : Int} (h : i.natAbs < 10 ^ 100) : uE [.p (.int i)] = .ok (.p (.str (tx i))) := if_pos (aBw h)
theorem k9 {a b : Str} (h : a.length + b.length <= 100000) : dZ (.p (.str a)) (.p (.str b)) = .ok (.p (.str (a ++ b))) := if_pos h
theorem vN {z : Str} (h : z.length <= 100000) : fU [.p (.str z)] = .ok (.p (.int (z.length : Nat))) := if_pos (Nat.le_trans h (by rw [sizeLine_eq]; decide))
theorem oI {z w : Str} (h1 : (w.length == 0) = false) (h2 : z.length <= 100000) : iV (.p (.str z)) (.p (.str w)) = .ok (.f (.list ((Txt.split z w).map PyData.str))) := if_pos ⟨h1, Nat.le_trans (Nat.add_le_add_right h2 2) (by rw [sizeLine_eq]; decide)⟩
theorem aA7 {α : Type} {y : Ev} {l : List α} {b : α -> Bool} (hy : qG y = some (l.map fun a => PyData.bool (b a))) : uC [y] = .ok (.p (.bool (l.all b))) := by
 have e : mM (l.map fun a => PyData.bool (b a)) = some (l.map b) := by
  exact tX b l
 unfold uC
 dsimp only
 rw [hy]
 dsimp only
 rw [e]
 dsimp only
 congr 3
 rw [List.all_map]
 rfl
end
end N
namespace N
section
open PySem
def dig (c : Nat) : Bool := decide (48 <= c /\ c <= 57)
structure Wh (l : List Nat) : Prop where
 n : l.length ≠ 0
 m : l.length <= 30
 d : ∀ c ∈ l, dig c = true
 h : l = [48] \/ l.head? ≠ some 48
open Classical in
noncomputable def wh (l : List Nat) : Bool := decide (Wh l)
theorem rT {l : List Nat} (h : Wh l) : NumText.AllDigits l := fun c hc => of_decide_eq_true (h.d c hc)
theorem vW {l : List Nat} (h : Wh l) : l ≠ [] := fun z => h.n (by rw [z]; rfl)
def tpP (l : List Nat) : Prop := if l.head? = some 45 then l ≠ [45, 48] /\ Wh l.tail else Wh l
def btP (l : List Nat) : Prop := l ≠ [48] /\ l ≠ [49] /\ Wh l
def iv (l : List Nat) : Int := if l.head? = some 45 then -(NumText.digitsVal l.tail : Int) else NumText.digitsVal l
theorem xH {z : Str} (h : tpP (tl z)) (hl : z.length <= 1000) : intText? z = some (iv (tl z)) := by
 unfold tpP at h
 unfold iv
 by_cases e : (tl z).head? = some 45
 ·rw [if_pos e] at h ⊢
  cases el : tl z with
  | nil => rw [el] at e; cases e
  | cons a r =>
   rw [el] at e h
   have ea : a = 45 := Option.some.inj e
   rw [ea] at el h
   exact intText_neg el (rT h.2) (vW h.2) (by omega)
 ·rw [if_neg e] at h ⊢
  exact intText_digits (rT h) (vW h) (by omega)
theorem aD6 {l : List Nat} (h : Wh l) : NumText.digitsVal l < 10 ^ 30 := by
 have key : ∀ (l : List Nat) (a : Nat), (∀ c ∈ l, dig c = true) -> List.foldl (fun acc c => acc * 10 + (c - 48)) a l + 1 <= (a + 1) * 10 ^ l.length := by
  intro l
  induction l with
  | nil => intro a _; simp
  | cons c l ih =>
   intro a hd
   have hc := of_decide_eq_true (hd c (.head _))
   rw [List.foldl_cons, List.length_cons, Nat.pow_succ]
   have i := ih (a * 10 + (c - 48)) fun x hx => hd x (.tail _ hx)
   have : (a * 10 + (c - 48) + 1) * 10 ^ l.length <= ((a + 1) * 10) * 10 ^ l.length := Nat.mul_le_mul_right _ (by omega)
   have e : (a + 1) * (10 ^ l.length * 10) = ((a + 1) * 10) * 10 ^ l.length := by rw [Nat.mul_assoc, Nat.mul_comm 10 (10 ^ l.length)]
   rw [e]
   omega
 have k := key l 0 h.d
 have p := Nat.pow_le_pow_right (show 0 < 10 by decide) h.m
 unfold NumText.digitsVal
 omega
theorem i6 {l : List Nat} (h : Wh l) : NumText.digitsVal l = 0 ↔ l = [48] := by
 constructor
 ·intro z
  rcases h.h with e | e
  ·exact e
  ·exfalso
   cases el : l with
   | nil => exact vW h el
   | cons c r =>
    rw [el] at z e h
    have hc := of_decide_eq_true (h.d c (.head _))
    have : c ≠ 48 := fun w => e (by rw [w]; rfl)
    have := NumText.digitsVal_pos (c := c) (cs := r) (by omega)
    omega
 ·intro e
  rw [e]
  rfl
theorem tO {l : List Nat} (h : Wh l) : NumText.digitsVal l = 1 ↔ l = [49] := by
 constructor
 ·intro z
  have := NumText.toDigits_all l (rT h)
  rw [z] at this
  cases el : l with
  | nil => exact absurd el (vW h)
  | cons c r =>
   rw [el] at this h z
   have hc := of_decide_eq_true (h.d c (.head _))
   have c48 : c ≠ 48 := fun w => by
    rcases h.h with e | e
    ·rw [e] at z; exact absurd z (by decide)
    ·exact e (by rw [w]; rfl)
   rw [List.dropWhile_cons_of_neg (by rw [beq_iff_eq]; exact c48)] at this
   dsimp only at this
   have ln := congrArg List.length this
   rw [List.length_map, List.length_cons] at ln
   have h1 : (Nat.toDigits 10 1).length = 1 := by decide +kernel
   have : r = [] := List.length_eq_zero_iff.mp (by omega)
   rw [this] at z ⊢
   have z : 0 * 10 + (c - 48) = 1 := z
   rw [show c = 49 by omega]
 ·intro e
  rw [e]
  rfl
theorem qI {z w : Str} {r : List Nat} (hz : tl z = 45 :: r) (hw : tl w = r) : ∃ (a : List Nat) (p : Str) (ps : List Str) (q : Str), Txt.split z "/" = p :: ps /\ tl p = 45 :: a /\ Txt.split w "/" = q :: ps /\ tl q = a := by
 have sl : tl ("/" : Str) = [47] := by decide +kernel
 have e := StrLaws.join_split z "/"
 have n := iS z "/"
 have fr : ∀ q ∈ Txt.split z "/", 47 ∉ tl q := fun q hq => by
  have e : ("/" : Str) = { cps := #[47] } := fO sl
  rw [e] at hq
  exact StrLaws.split_free _ _ q hq
 cases es : Txt.split z "/" with
 | nil => exact absurd es n
 | cons p ps =>
  rw [es] at e fr
  have t := congrArg tl e
  rw [gL, sl, hz, List.map_cons] at t
  cases ep : tl p with
  | nil =>
   exfalso
   rw [ep] at t
   cases ps with
   | nil =>
    have t : ([] : List Nat) = 45 :: r := t
    cases t
   | cons q qs =>
    have t : [] ++ [47] ++ jl [47] ((q :: qs).map tl) = 45 :: r := t
    injection t with t
    cases t
  | cons b a =>
   rw [ep] at t
   have hb : b = 45 /\ jl [47] (a :: ps.map tl) = r := by
    cases ps with
    | nil =>
     have t : b :: a = 45 :: r := t
     injection t with t1 t2
     exact ⟨t1, t2⟩
    | cons q qs =>
     have t : (b :: a) ++ [47] ++ jl [47] ((q :: qs).map tl) = 45 :: r := t
     injection t with t1 t2
     exact ⟨t1, t2⟩
   obtain ⟨rfl, hr⟩ := hb
   refine ⟨a, p, ps, ⟨a.toArray⟩, rfl, ep, ?_, rfl⟩
   have ew : w = ("/" : Str).join (⟨a.toArray⟩ :: ps) := fO (by
    rw [hw, gL, sl, List.map_cons, <- hr])
   rw [ew]
   refine kL sl (List.cons_ne_nil _ _) fun q hq => ?_
   rcases List.mem_cons.mp hq with e | hq
   ·rw [e]
    intro w
    exact fr p (.head _) (by rw [ep]; exact .tail _ w)
   ·exact fr q (.tail _ hq)
theorem split_head {z p : Str} {ps : List Str} (hs : Txt.split z "/" = p :: ps) (hz : (tl z).head? ≠ some 45) : (tl p).head? ≠ some 45 := fun h => by
 have e := StrLaws.join_split z "/"
 rw [hs] at e
 have t := congrArg tl e
 rw [gL, List.map_cons] at t
 refine hz ?_
 cases ep : tl p with
 | nil => rw [ep] at h; cases h
 | cons b a =>
  rw [ep] at h t
  have hb : b = 45 := Option.some.inj h
  rw [<- t, hb]
  cases ps with
  | nil => rfl
  | cons q qs => rfl
theorem split_len (z : Str) {p : Str} (h : p ∈ Txt.split z "/") : p.length <= z.length := by
 have e := StrLaws.join_split z "/"
 have key : ∀ (s : List Nat) (ls : List (List Nat)) (l : List Nat), l ∈ ls -> l.length <= (jl s ls).length := by
  intro s ls
  induction ls with
  | nil => intro l h; exact nomatch h
  | cons a r ih =>
   intro l h
   cases r with
   | nil => rw [List.mem_singleton.mp h]; exact Nat.le_refl _
   | cons b r =>
    show _ <= (a ++ s ++ jl s (b :: r)).length
    rw [List.length_append, List.length_append]
    rcases List.mem_cons.mp h with e | h
    ·rw [e]; omega
    ·have := ih l h; omega
 rw [cS, cS]
 have t := congrArg tl e
 rw [gL] at t
 rw [<- t]
 exact key _ _ _ (List.mem_map.mpr ⟨p, h, rfl⟩)
end
end N
namespace My
open PySem PySem.Spec PyProof.Rows L2 M N
local macro_rules | `(tactic| walk_at "z") => `(tactic| repeat (first | assumption | apply L2.Sz.mul | apply N.Sz.addM | apply N.Sz.subM | apply L2.Sz.neg | apply N.sz_fdiv | (apply N.sz_fmod; (first | decide | omega)) | exact N.sz_lit4 (by decide) | exact N.sz_lit (by decide) | exact N.sz_lit70 (by decide) | exact N.sz_big (by decide)))
local macro_rules | `(tactic| walk_at "d") => `(tactic| first | assumption | (first | apply N.cm2 | apply N.cd2) <;> (first | decide | omega | (walk_at "z")) | decide | omega)
local macro_rules | `(tactic| ktr_call 2 ⟨$xs,*⟩) => `(tactic| simp only [cF, dA, dW, fC, aG, mC, aK, mUn, aB, aY, a8, nA, hR, xA, aAz, Res.bind, Ev.c, aEv, u3, aL, iT, i5, mT, bR, mV, qN, mOr, kW, kA, yE, wB, pL, cI, dZ, kC, aE6, qG, dat, iK, eqE, o5, nD, aCj, aCu, aAd, aA8, aAp, qD, qK, aAw, List.getElem?_cons_zero, List.getElem?_cons_succ, List.set_cons_zero, List.set_cons_succ, List.length_cons, List.length_nil, List.length_map, List.length_append, if_true, if_false, ite_true, ite_false, decide_true, decide_false, Bool.false_eq_true, Nat.zero_add, Nat.reduceAdd, Nat.reduceEqDiff, Nat.reduceLeDiff, reduceIte, List.map_append, List.map_cons, List.map_nil, $[$xs:term],*])
local macro_rules | `(tactic| ktr_call 3 ⟨$xs,*⟩) => `(tactic| simp only [List.getElem?_cons_zero, List.getElem?_cons_succ, List.set_cons_zero, List.set_cons_succ, List.length_cons, List.length_nil, List.length_map, List.length_append, if_true, if_false, ite_true, ite_false, decide_true, decide_false, Bool.false_eq_true, Nat.zero_add, Nat.reduceAdd, Nat.reduceEqDiff, Nat.reduceLeDiff, reduceIte, List.map_append, List.map_cons, List.map_nil, $[$xs:term],*])
local macro_rules | `(tactic| ktr_call 13 ⟨$xs,*⟩) => `(tactic| simp (disch := assumption) only [List.getElem?_cons_zero, List.getElem?_cons_succ, List.set_cons_zero, List.set_cons_succ, List.length_cons, List.length_nil, List.length_map, List.length_append, if_true, if_false, ite_true, ite_false, decide_true, decide_false, Bool.false_eq_true, Nat.zero_add, Nat.reduceAdd, Nat.reduceEqDiff, Nat.reduceLeDiff, reduceIte, List.map_append, List.map_cons, List.map_nil, $[$xs:term],*])
def top (i : Nat) : Stmt := PySem.Challenge.pw_creasecurve_k04_numbers_written.main.body.getD i (.Pass ⟨0, 0, 0, 0⟩)
abbrev dH : Stmt := top 13
abbrev gP : Stmt := top 17
abbrev jR : Stmt := top 18
abbrev fV : Stmt := top 19
abbrev fT : Stmt := top 20
abbrev fR : Stmt := top 21
abbrev eY : Stmt := top 22
abbrev eI : Stmt := top 24
abbrev fG : Stmt := top 25
abbrev eM : Stmt := top 26
abbrev eA : Stmt := top 27
abbrev dF : Stmt := top 28
abbrev fL : Stmt := top 29
abbrev gC : Stmt := top 30
abbrev dY : Stmt := top 31
abbrev dN : Stmt := top 32
abbrev eL : Stmt := top 33
abbrev eW : Stmt := top 34
abbrev eK : Stmt := top 35
abbrev eG : Stmt := top 36
abbrev gQ : Stmt := top 37
abbrev fH : Stmt := top 38
abbrev dM : Stmt := top 39
abbrev mO : Stmt := top 40
theorem lZ : bootBuiltins "ValueError" = some (.type "ValueError") := by decide +kernel
theorem pR : bootBuiltins "abs" = some (.builtin "abs") := by decide +kernel
theorem wL : bootBuiltins "all" = some (.builtin "all") := by decide +kernel
theorem yU : bootBuiltins "bool" = some (.type "bool") := by decide +kernel
theorem lJ : bootBuiltins "int" = some (.type "int") := by decide +kernel
theorem jA : bootBuiltins "str" = some (.type "str") := by decide +kernel
theorem uU : bootBuiltins "tuple" = some (.type "tuple") := by decide +kernel
structure Blt (mg : Str -> Option Value) : Prop where
 ValueError_ : mg "ValueError" = none
 abs_ : mg "abs" = none
 all_ : mg "all" = none
 bool_ : mg "bool" = none
 int_ : mg "int" = none
 isinstance_ : mg "isinstance" = none
 len_ : mg "len" = none
 range_ : mg "range" = none
 str_ : mg "str" = none
 tuple_ : mg "tuple" = none
structure Cls where
 RoofError : Addr
 NoFraction : Addr
 NoRoof : Addr
 TooSteep : Addr
 TooMany : Addr
 NoNumber : Addr
 NoCorner : Addr
 NoDealing : Addr
 NoRow : Addr
 NoText : Addr
 NoName : Addr
structure jD (mg : Str -> Option Value) (c : Cls) : Prop where
 mRoofError : mg "RoofError" = some (.ref c.RoofError)
 mNoFraction : mg "NoFraction" = some (.ref c.NoFraction)
 mNoRoof : mg "NoRoof" = some (.ref c.NoRoof)
 mTooSteep : mg "TooSteep" = some (.ref c.TooSteep)
 mTooMany : mg "TooMany" = some (.ref c.TooMany)
 mNoNumber : mg "NoNumber" = some (.ref c.NoNumber)
 mNoCorner : mg "NoCorner" = some (.ref c.NoCorner)
 mNoDealing : mg "NoDealing" = some (.ref c.NoDealing)
 mNoRow : mg "NoRow" = some (.ref c.NoRow)
 mNoText : mg "NoText" = some (.ref c.NoText)
 mNoName : mg "NoName" = some (.ref c.NoName)
structure jF (mg : Str -> Option Value) (base : Heap) (c : Cls) : Prop where
 NoNumber : PyProof.Rows.OwnCls "NoNumber" c.NoNumber [.type "ValueError", .type "Exception", .type "BaseException", .type "object"] "ValueError.__new__" mg base
noncomputable def bB (K : PySem.W.Frag) (c : Cls) : List L -> Res L := mOf eII (fun _ => True) fun a => .ok (.p (.int (Int.gcd a.1 a.2 : Nat)))
noncomputable def bK (K : PySem.W.Frag) (c : Cls) : En -> Res Bool := (bR (aK (eqE true) (aG 3) (mC (.int 0))))
noncomputable def bW (K : PySem.W.Frag) (c : Cls) : MS := (cF (dA 4 (aK fN (aG 2) (aG 3))) (cF (dA 2 (aG 3)) (dA 3 (aG 4))))
noncomputable def fI (K : PySem.W.Frag) (c : Cls) : MS := (cF (dA 2 (aL wR (aB (aG 0) aY))) (cF (dA 3 (aL wR (aB (aG 1) aY))) (cF (jX (bK K c) (bW K c)) (dW (aG 2)))))
theorem aDl (K : PySem.W.Frag) (c : Cls) (A B : Option L) : ∀ (n : Nat) (l s : Int) (r : Option L), 0 <= l -> 0 <= s -> s.toNat <= n -> ∃ r', mWh (bK K c) (bW K c) (n + 1) [A, B, some (.p (.int l)), some (.p (.int s)), r] = some (.nx [A, B, some (.p (.int (Int.gcd l s : Nat))), some (.p (.int 0)), r']) := by
 intro n
 have hc : ∀ (l s : Int) (r : Option L), bK K c [A, B, some (.p (.int l)), some (.p (.int s)), r] = .ok (!(s == 0)) := fun l s r => by
  ktr_call 3 ⟨bK, bR, aK, aG, mC, Res.bind, Ev.c, eqE, dat, o5, nD, mV⟩
  rfl
 have done : ∀ (n : Nat) (l : Int) (r : Option L), 0 <= l -> mWh (bK K c) (bW K c) (n + 1) [A, B, some (.p (.int l)), some (.p (.int 0)), r] = some (.nx [A, B, some (.p (.int (Int.gcd l 0 : Nat))), some (.p (.int 0)), r]) := fun n l r hl => by
  unfold mWh
  rw [hc, FR.tU hl]
  rfl
 induction n with
 | zero =>
  intro l s r hl hs hn
  have : s = 0 := by omega
  subst this
  exact ⟨r, done 0 l r hl⟩
 | succ n ih =>
  intro l s r hl hs hn
  by_cases h0 : s = 0
  ·subst h0
   exact ⟨r, done _ l r hl⟩
  ·have em : l.fmod s = l % s := Int.fmod_eq_emod_of_nonneg l hs
   have m0 := Int.emod_nonneg l h0
   have m1 := Int.emod_lt_of_pos l (show 0 < s by omega)
   obtain ⟨r', ih⟩ := ih s (l.fmod s) (some (.p (.int (l.fmod s)))) hs (by omega) (by omega)
   refine ⟨r', ?_⟩
   rw [em, FR.o4 hl hs] at ih
   have hb : bW K c [A, B, some (.p (.int l)), some (.p (.int s)), r] = some (.nx [A, B, some (.p (.int s)), some (.p (.int (l % s))), some (.p (.int (l % s)))]) := by
    ktr_call 13 ⟨bW, aK, aG, mC, cF, dA, Res.bind, Ev.c, dS, em⟩
   have ht : bK K c [A, B, some (.p (.int l)), some (.p (.int s)), r] = .ok true := by rw [hc, beq_false_of_ne h0]; rfl
   unfold mWh
   rw [ht]
   dsimp only
   rw [hb]
   exact ih
theorem hZ (K : PySem.W.Frag) (c : Cls) : ∀ ls, bB K c ls = .bad \/ eB 5 (fI K c) ls = bB K c ls := wZ fun x _ => by
 obtain ⟨a, b⟩ := x
 obtain ⟨r', h⟩ := aDl K c (some (.p (.int a))) (some (.p (.int b))) _ (if a < 0 then -a else a) (if b < 0 then -b else b) none (by split <;> omega) (by split <;> omega) (Nat.le_refl _)
 have h := nV h
 rw [FR.sX] at h
 refine cX ?_
 rw [show b9 5 (eII (a, b)) = [some (.p (.int a)), some (.p (.int b)), none, none, none] from rfl]
 refine (aJ (cN (d := .int (if a < 0 then -a else a)) rfl)).trans ((aJ (cN (d := .int (if b < 0 then -b else b)) rfl)).trans ((aJ h).trans ?_))
 rfl
theorem vQ (K : PySem.W.Frag) (c : Cls) (a b : Int) : bB K c [.p (.int a), .p (.int b)] = .ok (.p (.int (Int.gcd a b : Nat))) := wW (a := (a, b)) rO trivial
theorem aCn {b : Int} (t : Int) (hb : b ≠ 0) (hz : Sz 8000 b) : jJ t ((Int.gcd t b : Nat) : Int) /\ jJ t (-((Int.gcd t b : Nat) : Int)) := by
 have g0 := FR.oA (t := t) hb
 have gle : Int.gcd t b <= b.natAbs := Nat.le_of_dvd (by omega) (Int.gcd_dvd_natAbs_right t b)
 refine ⟨⟨by omega, Sz.le hz (by rw [Int.natAbs_natCast]; exact gle)⟩, by omega, Sz.le hz (by rw [Int.natAbs_neg, Int.natAbs_natCast]; exact gle)⟩
structure gH (K : PySem.W.Frag) (c : Cls) : Prop where
 ii : PySem.W.kitOne K (.type "int") (.type "int") = some true
 ib : PySem.W.kitOne K (.type "int") (.type "bool") = some false
 tt : PySem.W.kitOne K (.type "tuple") (.type "tuple") = some true
 ss : PySem.W.kitOne K (.type "str") (.type "str") = some true
 si : PySem.W.kitOne K (.type "int") (.type "str") = some false
 sn : PySem.W.kitOne K (.type "NoneType") (.type "str") = some false
 st : PySem.W.kitOne K (.type "tuple") (.type "str") = some false
 sl : PySem.W.kitOne K (.type "list") (.type "str") = some false
 sb : PySem.W.kitOne K (.type "bool") (.type "str") = some false
 sd : PySem.W.kitOne K (.type "dict") (.type "str") = some false
 nx : PySem.W.ExcK K c.NoNumber
 nr : PySem.W.exmOne K (.ref c.NoNumber) (.ref c.RoofError) = some true
 nv : PySem.W.kitOne K (.ref c.NoNumber) (.type "ValueError") = some true
 nn : PySem.W.kitOne K (.ref c.NoNumber) (.ref c.NoNumber) = some true
 n0 : PySem.W.kitOne K (.ref c.NoNumber) (.ref c.NoFraction) = some false
 n1 : PySem.W.kitOne K (.ref c.NoNumber) (.ref c.NoRoof) = some false
 n2 : PySem.W.kitOne K (.ref c.NoNumber) (.ref c.TooSteep) = some false
 n3 : PySem.W.kitOne K (.ref c.NoNumber) (.ref c.TooMany) = some false
 n4 : PySem.W.kitOne K (.ref c.NoNumber) (.ref c.NoCorner) = some false
 n5 : PySem.W.kitOne K (.ref c.NoNumber) (.ref c.NoDealing) = some false
 n6 : PySem.W.kitOne K (.ref c.NoNumber) (.ref c.NoRow) = some false
 n7 : PySem.W.kitOne K (.ref c.NoNumber) (.ref c.NoText) = some false
 n8 : PySem.W.kitOne K (.ref c.NoNumber) (.ref c.NoName) = some false
open Classical in
theorem yB {l : List Nat} (h : Wh l) : wh l = true := decide_eq_true h
open Classical in
theorem qV {l : List Nat} (h : ¬ Wh l) : wh l = false := decide_eq_false h
open Classical in
theorem xM {l : List Nat} (h : wh l = true) : Wh l := of_decide_eq_true h
structure TZ (z : Str) : Prop where
 p : P8 z
 l : z.length <= 1000
theorem wO (c : Nat) : decide (c ∈ tl ("0123456789" : Str)) = dig c := by
 rw [show tl ("0123456789" : Str) = [48, 49, 50, 51, 52, 53, 54, 55, 56, 57] by decide +kernel]
 unfold dig
 rw [decide_eq_decide]
 simp only [List.mem_cons, List.not_mem_nil, or_false]
 omega
theorem aDm {c : Nat} (h : c < 256) : P8 ⟨#[c]⟩ := fun d hd => by
 have : d = c := List.mem_singleton.mp hd
 omega
theorem aEf : tl ("0" : Str) = [48] := by decide +kernel
theorem aC4 : P8 ("0" : Str) := by unfold P8; rw [aEf]; intro c hc; rw [List.mem_singleton.mp hc]; decide
theorem aDn {z : Str} : decide (z = ("0" : Str)) = decide (tl z = [48]) := by
 rw [decide_eq_decide, <- aEf]
 exact ⟨fun h => by rw [h], fO⟩
theorem aEs {z : Str} {a : Nat} {r : List Nat} (e : tl z = a :: r) : nW (.p (.str z)) (.p (.int 0)) = .ok (.p (.str ⟨#[a]⟩)) := by
 have ec : z.cps[(0 : Int).toNat]? = some a := by
  rw [<- Array.getElem?_toList]
  show (tl z)[0]? = some a
  rw [e]
  rfl
 have ln : z.length = r.length + 1 := by rw [cS, e]; rfl
 unfold nW
 dsimp only
 rw [if_pos ⟨by decide, by decide, by omega⟩, ec]
noncomputable def eZ (K : PySem.W.Frag) (c : Cls) : En -> Res Ev := (aK (pY false) (aG 0) (mC (.str "0123456789")))
noncomputable def gN (K : PySem.W.Frag) (c : Cls) : MS := (cF (fC (mOr (bR (aK (eqE false) (aL fU (aB (aG 0) aY)) (mC (.int 0)))) (mOr (bR (aK gtE (aL fU (aB (aG 0) aY)) (mC (.int 30)))) (kW (bR (aL uC (aB (lW 1 [] (yN (aG 0)) (eU 0) uD (eZ K c)) aY)))))) (dW (mC (.bool false))) cI) (dW (yE (aK (eqE false) (aG 0) (mC (.str "0"))) (aK (eqE true) (aK nW (aG 0) (mC (.int 0))) (mC (.str "0"))))))
noncomputable def cU (K : PySem.W.Frag) (c : Cls) (ls : List L) : Res L := eB 1 (gN K c) ls
theorem oG (K : PySem.W.Frag) (c : Cls) : ∀ ls, cU K c ls = .bad \/ eB 1 (gN K c) ls = cU K c ls := fun _ => .inr rfl
theorem xS (K : PySem.W.Frag) (c : Cls) {z : Str} (hz : TZ z) : cU K c [.p (.str z)] = .ok (.p (.bool (wh (tl z)))) := by
 have hl := hz.l
 have zl := cS z
 have ln := vN (z := z) (by omega)
 have cm : lW 1 [] (yN (aG 0)) (eU 0) uD (eZ K c) [some (.p (.str z))] = .ok (.f (.list ((tl z).map fun c => PyData.bool (dig c)))) := by
  refine uA (ds := M.signs z) (itS rfl) (by unfold M.signs; rw [List.length_map, <- cS]; omega) ?_
  refine jO (enc := fun c : Nat => PyData.str ⟨#[c]⟩) (tl z) fun d hd => ?_
  have e : eZ K c [some (.p (.str ⟨#[d]⟩))] = .ok (.p (.bool (dig d))) := (aH rfl rfl (aAr d _)).trans (by rw [wO])
  unfold eH
  ktr_call 3 ⟨eU, uD, zB, aA1, List.replicate, List.cons_append, List.nil_append, List.append_nil, e, Ev.c⟩
 have al : uC [.p (.list ((tl z).map fun c => PyData.bool (dig c)))] = .ok (.p (.bool ((tl z).all dig))) := aA7 (b := dig) rfl
 have t1 : bR (aK (eqE false) (aL fU (aB (aG 0) aY)) (mC (.int 0))) [some (.p (.str z))] = .ok (((z.length : Nat) : Int) == 0) := aX (aH (c0 (bQ rfl rfl) ln) rfl eR)
 have t2 : bR (aK gtE (aL fU (aB (aG 0) aY)) (mC (.int 30))) [some (.p (.str z))] = .ok (decide (((z.length : Nat) : Int) > 30)) := aX (aH (c0 (bQ rfl rfl) ln) rfl rfl)
 have t3 : kW (bR (aL uC (aB (lW 1 [] (yN (aG 0)) (eU 0) uD (eZ K c)) aY))) [some (.p (.str z))] = .ok (!((tl z).all dig)) := x8 (aX (c0 (bQ cm rfl) al))
 unfold cU
 refine cX ?_
 rw [show b9 1 [.p (.str z)] = [some (.p (.str z))] from rfl]
 unfold gN
 by_cases n0 : (tl z).length = 0
 ·rw [beq_iff_eq.mpr (show ((z.length : Nat) : Int) = 0 by omega)] at t1
  rw [qV (fun h => h.n n0)]
  exact cR ((gG (qW t1)).trans (bV rfl))
 rw [beq_eq_false_iff_ne.mpr (show ((z.length : Nat) : Int) ≠ 0 by omega)] at t1
 by_cases m0 : (tl z).length <= 30
 case neg =>
  rw [decide_eq_true (show ((z.length : Nat) : Int) > 30 by omega)] at t2
  rw [qV (fun h => m0 h.m)]
  exact cR ((gG (lI t1 (qW t2))).trans (bV rfl))
 rw [decide_eq_false (show ¬ ((z.length : Nat) : Int) > 30 by omega)] at t2
 by_cases d0 : (tl z).all dig = true
 case neg =>
  rw [Bool.eq_false_iff.mpr d0] at t3
  rw [qV (fun h => d0 (List.all_eq_true.mpr h.d))]
  exact cR ((gG (lI t1 (lI t2 t3))).trans (bV rfl))
 rw [d0] at t3
 refine (aJ (gJ (oD t1 (oD t2 t3)))).trans (bV ?_)
 cases e : tl z with
 | nil => exact absurd (by rw [e]; rfl) n0
 | cons a r =>
  have i0 := aDn (z := z)
  rw [e] at i0 n0 m0 d0
  have da := of_decide_eq_true (List.all_eq_true.mp d0 a (.head _))
  by_cases h0 : a :: r = [48]
  ·rw [decide_eq_true h0] at i0
   rw [yB (l := a :: r) ⟨n0, m0, List.all_eq_true.mp d0, .inl h0⟩]
   exact aC8 ((aH rfl rfl (eq_str false hz.p aC4)).trans (by rw [i0]; rfl))
  ·rw [decide_eq_false h0] at i0
   have i1 := aDn (z := ⟨#[a]⟩)
   refine aDh ((aH rfl rfl (eq_str false hz.p aC4)).trans (by rw [i0]; rfl)) ((aH (aH rfl rfl (aEs e)) rfl (eq_str true (aDm (by omega)) aC4)).trans ?_)
   rw [i1]
   by_cases a0 : a = 48
   ·rw [decide_eq_true (show tl (⟨#[a]⟩ : Str) = [48] by rw [a0]), qV (l := a :: r) (fun h => h.h.elim h0 fun w => w (by rw [a0]; rfl))]
    rfl
   ·rw [decide_eq_false (show tl (⟨#[a]⟩ : Str) ≠ [48] from fun w => a0 (by injection w)), yB (l := a :: r) ⟨n0, m0, List.all_eq_true.mp d0, .inr fun w => a0 (Option.some.inj w)⟩]
    rfl
noncomputable def jL (K : PySem.W.Frag) (c : Cls) : MS := (cF (fC (bR (v9 qL (aG 0) (mC (.str "-")))) (dW (kA (aK (eqE true) (aG 0) (mC (.str "-0"))) (a8 1 (cU K c) (aB (jP (aG 0) (mPt (mC (.int 1))) k7) aY)))) cI) (dW (a8 1 (cU K c) (aB (aG 0) aY))))
noncomputable def dQ (K : PySem.W.Frag) (c : Cls) (ls : List L) : Res L := eB 1 (jL K c) ls
theorem rH (K : PySem.W.Frag) (c : Cls) : ∀ ls, dQ K c ls = .bad \/ eB 1 (jL K c) ls = dQ K c ls := fun _ => .inr rfl
open Classical in
noncomputable def tp (l : List Nat) : Bool := decide (tpP l)
open Classical in
noncomputable def bt (l : List Nat) : Bool := decide (btP l)
open Classical in
theorem aC2 {l : List Nat} (h : tpP l) : tp l = true := decide_eq_true h
open Classical in
theorem aEc {l : List Nat} (h : ¬ tpP l) : tp l = false := decide_eq_false h
open Classical in
theorem xW {l : List Nat} (h : tp l = true) : tpP l := of_decide_eq_true h
open Classical in
theorem aDf {l : List Nat} (h : btP l) : bt l = true := decide_eq_true h
open Classical in
theorem zG {l : List Nat} (h : ¬ btP l) : bt l = false := decide_eq_false h
open Classical in
theorem xF {l : List Nat} (h : bt l = true) : btP l := of_decide_eq_true h
theorem xC {l : List Nat} (h : l.head? ≠ some 45) : tp l = wh l := by
 by_cases w : Wh l
 ·rw [yB w, aC2 (by unfold tpP; rw [if_neg h]; exact w)]
 ·rw [qV w, aEc (by unfold tpP; rw [if_neg h]; exact w)]
theorem wI {r : List Nat} (h : r ≠ [48]) : tp (45 :: r) = wh r := by
 have h : 45 :: r ≠ [45, 48] := fun e => h (by injection e)
 by_cases w : Wh r
 ·rw [yB w, aC2 (by unfold tpP; rw [if_pos (show (45 :: r).head? = some 45 from rfl)]; exact ⟨h, w⟩)]
 ·rw [qV w, aEc (by unfold tpP; rw [if_pos (show (45 :: r).head? = some 45 from rfl)]; exact fun z => w z.2)]
theorem aB0 {r : List Nat} (h : r = [48]) : tp (45 :: r) = false := aEc (by unfold tpP; rw [if_pos (show (45 :: r).head? = some 45 from rfl), h]; exact fun z => z.1 rfl)
theorem s8 : tl ("-" : Str) = [45] := by decide +kernel
theorem sH (z : Str) : Txt.startswith z "-" = decide ((tl z).head? = some 45) := by
 unfold Txt.startswith
 rw [StrLaws.subAt_eq, show ("-" : Str).cps.toList = [45] from s8, show ("-" : Str).length = 1 from (by rw [cS, s8]; rfl), List.drop_zero]
 have zl := cS z
 have e : z.cps.toList = tl z := rfl
 rw [e]
 cases h : tl z with
 | nil =>
  rw [h] at zl
  rw [zl]
  rfl
 | cons a r =>
  rw [h, List.length_cons] at zl
  rw [decide_eq_true (show 0 + 1 <= z.length by omega), Bool.true_and, List.take_succ_cons, List.take_zero, List.head?_cons, Bool.eq_iff_iff, beq_iff_eq, decide_eq_true_iff]
  constructor
  ·intro w; injection w with w; rw [w]
  ·intro w; rw [Option.some.inj w]
theorem sl1 {z : Str} {r : List Nat} (e : tl z = 45 :: r) : tl (Txt.slice z (some 1) none) = r := by
 have e : z.cps.toList = 45 :: r := e
 have := StrLaws.sliceText_from (x := z) (i := 1) ⟨by decide, by rw [e, List.length_cons]; omega⟩
 have this : Txt.slice z (some 1) none = _ := this
 rw [this, e]
 show List.take _ _ = _
 rw [show (1 : Int).toNat = 1 from rfl, List.drop_succ_cons, List.drop_zero, List.length_cons]
 exact List.take_of_length_le (by omega)
theorem r9 {z w : Str} (hz : TZ z) (h : ∀ c ∈ tl w, c ∈ tl z) (hl : w.length <= z.length) : TZ w := ⟨fun c hc => hz.p c (h c hc), Nat.le_trans hl hz.l⟩
theorem aEi (K : PySem.W.Frag) (c : Cls) {z : Str} (hz : TZ z) : dQ K c [.p (.str z)] = .ok (.p (.bool (tp (tl z)))) := by
 have hl := hz.l
 have st : qL (.p (.str z)) (.p (.str "-")) = .ok (.p (.bool (decide ((tl z).head? = some 45)))) := by
  show Res.ok (Ev.p (.bool (Txt.startswith z "-"))) = _
  rw [sH]
 unfold dQ
 refine cX ?_
 rw [show b9 1 [.p (.str z)] = [some (.p (.str z))] from rfl]
 unfold jL
 by_cases h : (tl z).head? = some 45
 ·rw [decide_eq_true h] at st
  cases e : tl z with
  | nil => rw [e] at h; cases h
  | cons a r =>
   rw [e] at h
   have ea : a = 45 := Option.some.inj h
   rw [ea] at e ⊢
   have sc := sl1 e
   have tw : TZ (Txt.slice z (some 1) none) := r9 hz (fun c hc => by rw [sc] at hc; rw [e]; exact .tail _ hc) (Txt.slice_le _ _ _)
   have wb := xS K c tw
   rw [sc] at wb
   have p8n : P8 ("-0" : Str) := by unfold P8; rw [show tl ("-0" : Str) = [45, 48] by decide +kernel]; intro c hc; simp only [List.mem_cons, List.not_mem_nil, or_false] at hc; omega
   have is : decide (z = ("-0" : Str)) = decide (45 :: r = [45, 48]) := by
    rw [decide_eq_decide, <- e, <- show tl ("-0" : Str) = [45, 48] by decide +kernel]
    exact ⟨fun h => by rw [h], fO⟩
   refine cR ((gG (aX (qE rfl rfl st))).trans (bV ?_))
   by_cases h0 : r = [48]
   ·rw [aB0 h0]
    exact tY ((aH rfl rfl (eq_str true hz.p p8n)).trans (by rw [is, decide_eq_true (by rw [h0])]; rfl))
   ·rw [wI h0]
    exact pH ((aH rfl rfl (eq_str true hz.p p8n)).trans (by rw [is, decide_eq_false (fun w => h0 (by injection w))]; rfl)) (eD (p7 rfl rfl rfl (by omega)) rfl wb)
 ·rw [decide_eq_false h] at st
  rw [xC h]
  exact (aJ (gJ (aX (qE rfl rfl st)))).trans (bV (eD rfl rfl (xS K c hz)))
noncomputable def fX (K : PySem.W.Frag) (c : Cls) : MS := (dW (kA (aK (inE true) (aG 0) (aL iT (aB (mC (.str "0")) (aB (mC (.str "1")) aY)))) (a8 1 (cU K c) (aB (aG 0) aY))))
noncomputable def cP (K : PySem.W.Frag) (c : Cls) (ls : List L) : Res L := eB 1 (fX K c) ls
theorem nH (K : PySem.W.Frag) (c : Cls) : ∀ ls, cP K c ls = .bad \/ eB 1 (fX K c) ls = cP K c ls := fun _ => .inr rfl
theorem aC6 (K : PySem.W.Frag) (c : Cls) {z : Str} (hz : TZ z) : cP K c [.p (.str z)] = .ok (.p (.bool (bt (tl z)))) := by
 have wb := xS K c hz
 have t1 : tl ("1" : Str) = [49] := by decide +kernel
 have e0 : PyData.eqv (.str "0") (.str z) = decide (tl z = [48]) := by
  rw [Bool.eq_iff_iff, decide_eq_true_iff, <- aEf]
  simp only [PyData.eqv, beq_iff_eq]
  exact ⟨fun h => by rw [h], fun h => (fO h).symm⟩
 have e1 : PyData.eqv (.str "1") (.str z) = decide (tl z = [49]) := by
  rw [Bool.eq_iff_iff, decide_eq_true_iff, <- t1]
  simp only [PyData.eqv, beq_iff_eq]
  exact ⟨fun h => by rw [h], fun h => (fO h).symm⟩
 have ni : inE true (.p (.str z)) (.p (.tuple [.str "0", .str "1"])) = .ok (.p (.bool (!(decide (tl z = [48]) || decide (tl z = [49]))))) := by
  simp [inE, jH, mG, e0, e1]
 unfold cP
 refine cX ?_
 rw [show b9 1 [.p (.str z)] = [some (.p (.str z))] from rfl]
 unfold fX
 by_cases h0 : tl z = [48]
 ·rw [zG (fun w => w.1 h0)]
  exact bV (tY ((aH rfl (tF rfl rfl) ni).trans (by rw [decide_eq_true h0]; rfl)))
 ·by_cases h1 : tl z = [49]
  ·rw [zG (fun w => w.2.1 h1)]
   exact bV (tY ((aH rfl (tF rfl rfl) ni).trans (by rw [decide_eq_true h1, Bool.or_true]; rfl)))
  ·have e : bt (tl z) = wh (tl z) := by
    by_cases w : Wh (tl z)
    ·rw [yB w, aDf ⟨h0, h1, w⟩]
    ·rw [qV w, zG fun q => w q.2.2]
   rw [e]
   exact bV (pH ((aH rfl (tF rfl rfl) ni).trans (by rw [decide_eq_false h0, decide_eq_false h1]; rfl)) (eD rfl rfl wb))
structure GH (h : Int × Int) : Prop where
 f : FR.Fr h
 t : h.1.natAbs < 10 ^ 30
 b : h.2.natAbs < 10 ^ 30
theorem aAm {n : Nat} (h : n < 10 ^ 30) : n < 10 ^ 100 := Nat.lt_trans h (by decide +kernel)
theorem lK {i : Int} (h : i.natAbs < 10 ^ 30) : (tx i).length <= 31 := by
 rw [cS, p9]
 have := wM (k := 30) (by decide) h
 unfold sg
 split
 ·rw [List.length_cons]; omega
 ·omega
def nT (h : Int × Int) : Str := if h.2 = 1 then tx h.1 else tx h.1 ++ "/" ++ tx h.2
theorem aDp (h : Int × Int) : P8 (nT h) := by
 unfold nT
 split
 ·exact xU _
 ·exact ((xU _).app (fun c hc => by rw [show tl ("/" : Str) = [47] by decide +kernel] at hc; rw [List.mem_singleton.mp hc]; decide)).app (xU _)
theorem yP (a b d : Str) : tl (a ++ b ++ d) = tl a ++ tl b ++ tl d := by rw [iW, iW]
theorem qT : tl ("/" : Str) = [47] := by decide +kernel
theorem aB5 {z : Str} {l : List Nat} (h : tl z = l) : z.length = l.length := by rw [cS, h]
theorem aCv {h : Int × Int} (g : GH h) : (nT h).length <= 63 := by
 have l1 := lK g.t
 have l2 := lK g.b
 unfold nT
 split
 ·omega
 ·rw [cS, yP, List.length_append, List.length_append, qT, <- cS, <- cS]
  simp only [List.length_singleton]
  omega
theorem yD {i : Int} {c : Nat} (hc : c ≠ 45) (hd : c < 48) : c ∉ tl (tx i) := fun z => by
 rw [p9] at z
 rcases rC z with w | w <;> omega
theorem vR (h : Int × Int) : Txt.split (nT h) "/" = if h.2 = 1 then [tx h.1] else [tx h.1, tx h.2] := by
 unfold nT
 have fr : ∀ i : Int, 47 ∉ tl (tx i) := fun i => yD (by decide) (by decide)
 split
 ·have := kL (y := ("/" : Str)) qT (ps := [tx h.1]) (List.cons_ne_nil _ _) fun p hp => by rw [List.mem_singleton.mp hp]; exact fr _
  rw [Str.join.eq_2] at this
  exact this
 ·have := kL (y := ("/" : Str)) qT (ps := [tx h.1, tx h.2]) (List.cons_ne_nil _ _) fun p hp => by
   rcases List.mem_cons.mp hp with e | hp
   ·rw [e]; exact fr _
   ·rw [List.mem_singleton.mp hp]; exact fr _
  rw [Str.join.eq_3 _ _ [tx h.2] (fun z => nomatch z), Str.join.eq_2] at this
  exact this
noncomputable def eV (K : PySem.W.Frag) (c : Cls) : MS := (cF (dA 1 (aL uE (aB (aK ixE (aG 0) (mC (.int 0))) aY))) (dW (mIf (bR (aK (eqE false) (aK ixE (aG 0) (mC (.int 1))) (mC (.int 1)))) (aG 1) (aK dZ (aK dZ (aG 1) (mC (.str "/"))) (aL uE (aB (aK ixE (aG 0) (mC (.int 1))) aY))))))
noncomputable def cK (K : PySem.W.Frag) (c : Cls) (ls : List L) : Res L := eB 2 (eV K c) ls
theorem k8 (K : PySem.W.Frag) (c : Cls) : ∀ ls, cK K c ls = .bad \/ eB 2 (eV K c) ls = cK K c ls := fun _ => .inr rfl
theorem aB4 (K : PySem.W.Frag) (c : Cls) {h : Int × Int} (g : GH h) : cK K c [.p (frD h)] = .ok (.p (.str (nT h))) := by
 have i0 : ixE (.p (frD h)) (.p (.int 0)) = .ok (.p (.int h.1)) := qD _ _
 have i1 : ixE (.p (frD h)) (.p (.int 1)) = .ok (.p (.int h.2)) := qK _ _ _
 have l1 := lK g.t
 have l2 := lK g.b
 have sl := aB5 qT
 unfold cK
 refine cX ?_
 rw [show b9 2 [.p (frD h)] = [some (.p (frD h)), none] from rfl]
 unfold eV nT
 refine (aJ (cN (c0 (bQ (aH rfl rfl i0) rfl) (q5 (aAm g.t))))).trans ?_
 by_cases z : h.2 = 1
 ·rw [if_pos z]
  exact bV (zL (aX ((aH (aH rfl rfl i1) rfl eR).trans (by rw [beq_iff_eq.mpr z]))) rfl)
 ·rw [if_neg z]
  refine bV (aBi (aX ((aH (aH rfl rfl i1) rfl eR).trans (by rw [beq_eq_false_iff_ne.mpr z]))) (aH (aH rfl rfl (k9 ?_)) (c0 (bQ (aH rfl rfl i1) rfl) (q5 (aAm g.b))) (k9 ?_)))
  ·rw [sl]; show _ + 1 <= _; omega
  ·rw [cS, iW, List.length_append, <- cS, <- cS, sl]; show _ + 1 + _ <= _; omega
theorem uV {K : PySem.W.Frag} {c : Cls} (hk : gH K c) (z : Str) : jS K (.type "str") (.p (.str z)) = .ok (.p (.bool true)) := by simp [jS, dat, tyD, hk.ss]
theorem w1 : (("/" : Str).length == 0) = false := by decide +kernel
noncomputable def nb (z : Str) : Bool := match Txt.split z "/" with
 | [p] => tp (tl p)
 | [p, q] => tp (tl p) && bt (tl q) && decide (Int.gcd (iv (tl p)) (iv (tl q)) = 1)
 | _ => false
noncomputable def nv (z : Str) : Int × Int := match Txt.split z "/" with
 | [p] => (iv (tl p), 1)
 | [p, q] => (iv (tl p), iv (tl q))
 | _ => (0, 1)
theorem tQ {z p : Str} {c : Nat} (h : p ∈ Txt.split z "/") (hc : c ∈ tl p) : c ∈ tl z := by
 have e := congrArg tl (StrLaws.join_split z "/")
 rw [gL] at e
 have key : ∀ (s : List Nat) (ls : List (List Nat)) (l : List Nat), l ∈ ls -> c ∈ l -> c ∈ jl s ls := by
  intro s ls
  induction ls with
  | nil => intro l h; exact nomatch h
  | cons a r ih =>
   intro l h hc
   cases r with
   | nil => rw [List.mem_singleton.mp h] at hc; exact hc
   | cons b r =>
    show c ∈ a ++ s ++ jl s (b :: r)
    rcases List.mem_cons.mp h with e | h
    ·rw [e] at hc; exact List.mem_append.mpr (.inl (List.mem_append.mpr (.inl hc)))
    ·exact List.mem_append.mpr (.inr (ih l h hc))
 rw [<- e]
 exact key _ _ _ (List.mem_map.mpr ⟨p, h, rfl⟩) hc
theorem iB {z p : Str} (hz : TZ z) (h : p ∈ Txt.split z "/") : TZ p := ⟨fun c hc => hz.p c (tQ h hc), Nat.le_trans (split_len z h) hz.l⟩
theorem u6 {z p : Str} (h : Txt.split z "/" = [p]) : z = p := by
 have := StrLaws.join_split z "/"
 rw [h, Str.join.eq_2] at this
 exact this.symm
theorem xT {l : List Nat} (h : btP l) : tpP l /\ 2 <= iv l := by
 have hh : l.head? ≠ some 45 := fun e => by
  have := of_decide_eq_true (h.2.2.d 45 (List.mem_of_head? e))
  omega
 refine ⟨by unfold tpP; rw [if_neg hh]; exact h.2.2, ?_⟩
 unfold iv
 rw [if_neg hh]
 have a := (not_congr (i6 h.2.2)).mpr h.1
 have b := (not_congr (tO h.2.2)).mpr h.2.1
 omega
theorem tK {z : Str} (hz : TZ z) (h : tpP (tl z)) : gA [.p (.str z)] = .ok (.p (.int (iv (tl z)))) := by
 have hl := hz.l
 have zl : z.length <= 31 := by
  rw [cS]
  unfold tpP at h
  split at h
  ·have := h.2.m
   cases e : tl z with
   | nil => simp
   | cons a r => rw [e] at this; rw [List.length_cons]; exact Nat.succ_le_succ this
  ·have := h.m; omega
 unfold gA
 dsimp only
 rw [xH h hz.l]
 exact if_pos (by omega)
theorem yC (xs : List Str) (n : Nat) {i : Nat} {en : En} (hi : aG i en = .ok (.b (.list (xs.map PyData.str)))) (e : xs.length = n) : aL iK (aB (aG i) aY) en = .ok (.p (.int (n : Int))) := by
 have := aCo (f := aG i) (en := en) (x := .b (.list (xs.map PyData.str))) hi rfl
 rw [List.length_map, e] at this
 exact this
noncomputable def fB (K : PySem.W.Frag) (c : Cls) : MS := (cF (fC (kW (bR (mUn (jS K (.type "str")) (aG 0)))) (dW (mC (.bool false))) cI) (cF (dA 1 (v9 iV (aG 0) (mC (.str "/")))) (cF (fC (bR (aK (eqE false) (aL iK (aB (aG 1) aY)) (mC (.int 1)))) (dW (a8 1 (dQ K c) (aB (aG 0) aY))) cI) (cF (fC (mOr (bR (aK gtE (aL iK (aB (aG 1) aY)) (mC (.int 2)))) (mOr (kW (bR (a8 1 (dQ K c) (aB (aK ixE (aG 1) (mC (.int 0))) aY)))) (kW (bR (a8 1 (cP K c) (aB (aK ixE (aG 1) (mC (.int 1))) aY)))))) (dW (mC (.bool false))) cI) (dW (aK (eqE false) (a8 2 (bB K c) (aB (aL gA (aB (aK ixE (aG 1) (mC (.int 0))) aY)) (aB (aL gA (aB (aK ixE (aG 1) (mC (.int 1))) aY)) aY))) (mC (.int 1))))))))
noncomputable def bZ (K : PySem.W.Frag) (c : Cls) (ls : List L) : Res L := eB 2 (fB K c) ls
theorem mP (K : PySem.W.Frag) (c : Cls) : ∀ ls, bZ K c ls = .bad \/ eB 2 (fB K c) ls = bZ K c ls := fun _ => .inr rfl
theorem aCl (K : PySem.W.Frag) (c : Cls) (hk : gH K c) {z : Str} (hz : TZ z) : bZ K c [.p (.str z)] = .ok (.p (.bool (nb z))) := by
 have sp := oI (z := z) w1 (by have := hz.l; omega)
 have st : ∀ {b : Bool}, (cF (fC (bR (aK (eqE false) (aL iK (aB (aG 1) aY)) (mC (.int 1)))) (dW (a8 1 (dQ K c) (aB (aG 0) aY))) cI) (cF (fC (mOr (bR (aK gtE (aL iK (aB (aG 1) aY)) (mC (.int 2)))) (mOr (kW (bR (a8 1 (dQ K c) (aB (aK ixE (aG 1) (mC (.int 0))) aY)))) (kW (bR (a8 1 (cP K c) (aB (aK ixE (aG 1) (mC (.int 1))) aY)))))) (dW (mC (.bool false))) cI) (dW (aK (eqE false) (a8 2 (bB K c) (aB (aL gA (aB (aK ixE (aG 1) (mC (.int 0))) aY)) (aB (aL gA (aB (aK ixE (aG 1) (mC (.int 1))) aY)) aY))) (mC (.int 1)))))) [some (.p (.str z)), some (.o (.list ((Txt.split z "/").map PyData.str)))] = some (.rt (.p (.bool b))) -> bZ K c [.p (.str z)] = .ok (.p (.bool b)) := fun h => by
  unfold bZ
  refine cX ?_
  rw [show b9 2 [.p (.str z)] = [some (.p (.str z)), none] from rfl]
  unfold fB
  refine (aJ (gJ (p6 (aX (l7 rfl (uV hk _)))))).trans ?_
  refine (aJ (i8 (qE rfl rfl sp))).trans ?_
  exact h
 unfold nb
 cases es : Txt.split z "/" with
 | nil => exact absurd es (iS z "/")
 | cons p ps =>
  rw [es] at st
  have tp1 := aEi K c (iB hz (by rw [es]; exact .head _) : TZ p)
  cases ps with
  | nil =>
   refine st ?_
   rw [u6 es]
   exact cR ((gG (aX ((aH (yC [p] 1 rfl rfl) rfl eR).trans rfl))).trans (bV (eD rfl rfl tp1)))
  | cons q ps =>
   have tzq : TZ q := iB hz (by rw [es]; exact .tail _ (.head _))
   have tzp : TZ p := iB hz (by rw [es]; exact .head _)
   have bt1 := aC6 K c tzq
   cases ps with
   | nil =>
    dsimp only
    have l1 := gJ (f := dW (a8 1 (dQ K c) (aB (aG 0) aY))) (g := cI) (aX ((aH (yC [p, q] 2 (i := 1) (en := [some (.p (.str z)), some (.o (.list ([p, q].map PyData.str)))]) rfl rfl) (g := mC (.int 1)) rfl eR).trans (show Res.ok (Ev.p (.bool (((2 : Nat) : Int) == 1))) = .ok (.p (.bool false)) from rfl)))
    have g2 : bR (aK gtE (aL iK (aB (aG 1) aY)) (mC (.int 2))) [some (.p (.str z)), some (.o (.list ([p, q].map PyData.str)))] = .ok false := aX (aH (yC [p, q] 2 rfl rfl) rfl rfl)
    have a1 : kW (bR (a8 1 (dQ K c) (aB (aK ixE (aG 1) (mC (.int 0))) aY))) [some (.p (.str z)), some (.o (.list ([p, q].map PyData.str)))] = .ok (!tp (tl p)) := x8 (aX (eD (a := .str p) (aH rfl rfl rfl) rfl tp1))
    have a2 : kW (bR (a8 1 (cP K c) (aB (aK ixE (aG 1) (mC (.int 1))) aY))) [some (.p (.str z)), some (.o (.list ([p, q].map PyData.str)))] = .ok (!bt (tl q)) := x8 (aX (eD (a := .str q) (aH rfl rfl rfl) rfl bt1))
    refine st ?_
    refine (aJ l1).trans ?_
    cases ht : tp (tl p) with
    | false =>
     rw [ht] at a1
     exact cR ((gG (lI g2 (qW a1))).trans (bV rfl))
    | true =>
     rw [ht] at a1
     cases hb : bt (tl q) with
     | false =>
      rw [hb] at a2
      exact cR ((gG (lI g2 (lI a1 a2))).trans (bV rfl))
     | true =>
      rw [hb] at a2
      refine (aJ (gJ (oD g2 (oD a1 a2)))).trans (bV ?_)
      have i1 := tK tzp (xW ht)
      have i2 := tK tzq (xT (xF hb)).1
      refine (aH (jE (c0 (bQ (x := .p (.str p)) (aH rfl rfl rfl) rfl) i1) (c0 (bQ (x := .p (.str q)) (aH rfl rfl rfl) rfl) i2) (vQ K c _ _)) rfl eR).trans ?_
      show Res.ok (Ev.p (.bool _)) = .ok (.p (.bool _))
      congr 3
      rw [Bool.true_and, Bool.true_and, Bool.eq_iff_iff, beq_iff_eq, decide_eq_true_iff]
      omega
   | cons r ps =>
    dsimp only
    have ln := yC (p :: q :: r :: ps) (ps.length + 3) (i := 1) (en := [some (.p (.str z)), some (.o (.list ((p :: q :: r :: ps).map PyData.str)))]) rfl rfl
    refine st ?_
    refine (aJ (gJ (aX ((aH ln rfl eR).trans (by rw [beq_eq_false_iff_ne.mpr (by omega)]))))).trans ?_
    have g2 : gtE (.p (.int ((ps.length + 3 : Nat) : Int))) (.p (.int 2)) = .ok (.p (.bool true)) := by
     show Res.ok (Ev.p (.bool (decide (((ps.length + 3 : Nat) : Int) > 2)))) = _
     rw [decide_eq_true (by omega)]
    exact cR ((gG (qW (aX (aH ln rfl g2)))).trans (bV rfl))
theorem aAe {n : Nat} {f : MS} {ls : List L} {C : Addr} {e : En} (h : f (b9 n ls) = some (.ex C e)) : eB n f ls = .exc C := by unfold eB; rw [h]
theorem aBz (K : PySem.W.Frag) (c : Cls) {d : D} (hd : jS K (.type "str") (.p d) = .ok (.p (.bool false))) : bZ K c [.p d] = .ok (.p (.bool false)) := by
 unfold bZ
 refine cX ?_
 rw [show b9 2 [.p d] = [some (.p d), none] from rfl]
 unfold fB
 exact cR ((gG (aBy (aX (l7 rfl hd)))).trans (bV rfl))
noncomputable def fD (K : PySem.W.Frag) (c : Cls) : MS := (cF (fC (kW (bR (a8 1 (bZ K c) (aB (aG 0) aY)))) (pL c.NoNumber (aB (mC (.str "a number is written as TOP or TOP/BOTTOM, in lowest terms, with at most thirty figures each")) aY)) cI) (cF (dA 1 (v9 iV (aG 0) (mC (.str "/")))) (cF (dA 2 (mIf (bR (aK (eqE false) (aL iK (aB (aG 1) aY)) (mC (.int 1)))) (mC (.int 1)) (aL gA (aB (aK ixE (aG 1) (mC (.int 1))) aY)))) (dW (aL iT (aB (aL gA (aB (aK ixE (aG 1) (mC (.int 0))) aY)) (aB (aG 2) aY)))))))
noncomputable def bJ (K : PySem.W.Frag) (c : Cls) (ls : List L) : Res L := eB 3 (fD K c) ls
theorem mX (K : PySem.W.Frag) (c : Cls) : ∀ ls, bJ K c ls = .bad \/ eB 3 (fD K c) ls = bJ K c ls := fun _ => .inr rfl
theorem wU (K : PySem.W.Frag) (c : Cls) {d : D} (hd : bZ K c [.p d] = .ok (.p (.bool false))) : bJ K c [.p d] = .exc c.NoNumber := by
 unfold bJ
 refine aAe (e := [some (.p d), none, none]) ?_
 rw [show b9 3 [.p d] = [some (.p d), none, none] from rfl]
 unfold fD cF
 rw [gG (aBy (aX (eD rfl rfl hd)))]
 rfl
theorem aBc (K : PySem.W.Frag) (c : Cls) (hk : gH K c) {z : Str} (hz : TZ z) (hn : nb z = true) : bJ K c [.p (.str z)] = .ok (.p (frD (nv z))) := by
 have sp := oI (z := z) w1 (by have := hz.l; omega)
 have nk := aCl K c hk hz
 rw [hn] at nk
 have st : ∀ {d : D}, (cF (dA 2 (mIf (bR (aK (eqE false) (aL iK (aB (aG 1) aY)) (mC (.int 1)))) (mC (.int 1)) (aL gA (aB (aK ixE (aG 1) (mC (.int 1))) aY)))) (dW (aL iT (aB (aL gA (aB (aK ixE (aG 1) (mC (.int 0))) aY)) (aB (aG 2) aY))))) [some (.p (.str z)), some (.o (.list ((Txt.split z "/").map PyData.str))), none] = some (.rt (.p d)) -> bJ K c [.p (.str z)] = .ok (.p d) := fun h => by
  unfold bJ
  refine cX ?_
  rw [show b9 3 [.p (.str z)] = [some (.p (.str z)), none, none] from rfl]
  unfold fD
  refine (aJ (gJ (p6 (aX (eD rfl rfl nk))))).trans ?_
  refine (aJ (i8 (qE rfl rfl sp))).trans ?_
  exact h
 unfold nb at hn
 unfold nv
 cases es : Txt.split z "/" with
 | nil => exact absurd es (iS z "/")
 | cons p ps =>
  rw [es] at st hn
  have tzp : TZ p := iB hz (by rw [es]; exact .head _)
  cases ps with
  | nil =>
   refine st ?_
   refine (aJ (cN (d := .int 1) (zL (aX ((aH (yC [p] 1 rfl rfl) rfl eR).trans rfl)) rfl))).trans (bV ?_)
   exact tF (c0 (bQ (x := .p (.str p)) (aH rfl rfl rfl) rfl) (tK tzp (xW hn))) rfl
  | cons q ps =>
   have tzq : TZ q := iB hz (by rw [es]; exact .tail _ (.head _))
   cases ps with
   | nil =>
    have hn : (tp (tl p) && bt (tl q) && decide (Int.gcd (iv (tl p)) (iv (tl q)) = 1)) = true := hn
    rw [Bool.and_eq_true, Bool.and_eq_true] at hn
    refine st ?_
    refine (aJ (cN (d := .int (iv (tl q))) (aBi (aX ((aH (yC [p, q] 2 rfl rfl) rfl eR).trans rfl)) (c0 (bQ (x := .p (.str q)) (aH rfl rfl rfl) rfl) (tK tzq (xT (xF hn.1.2)).1))))).trans (bV ?_)
    exact tF (c0 (bQ (x := .p (.str p)) (aH rfl rfl rfl) rfl) (tK tzp (xW hn.1.1))) rfl
   | cons r ps => cases hn
noncomputable def aW (K : PySem.W.Frag) (c : Cls) : List L -> Res L := mOf eII (fun _ => True) fun a => .ok (.p (.int (Int.gcd a.1 a.2 : Nat)))
noncomputable def cV (K : PySem.W.Frag) (c : Cls) : En -> Res Bool := (bR (aK gtE (aG 1) (mC (.int 0))))
noncomputable def cT (K : PySem.W.Frag) (c : Cls) : MS := (cF (dA 2 (aK fN (aG 0) (aG 1))) (cF (dA 0 (aG 1)) (dA 1 (aG 2))))
noncomputable def gR (K : PySem.W.Frag) (c : Cls) : MS := (cF (dA 0 (aL wR (aB (aG 0) aY))) (cF (dA 1 (aL wR (aB (aG 1) aY))) (cF (jX (cV K c) (cT K c)) (dW (aG 0)))))
theorem aEb (K : PySem.W.Frag) (c : Cls) : ∀ (n : Nat) (l s : Int) (r : Option L), 0 <= l -> 0 <= s -> s.toNat <= n -> ∃ r', mWh (cV K c) (cT K c) (n + 1) [some (.p (.int l)), some (.p (.int s)), r] = some (.nx [some (.p (.int (Int.gcd l s : Nat))), some (.p (.int 0)), r']) := by
 intro n
 have hc : ∀ (l s : Int) (r : Option L), cV K c [some (.p (.int l)), some (.p (.int s)), r] = .ok (decide (0 < s)) := fun l s r => aX (aH rfl rfl rfl)
 have done : ∀ (n : Nat) (l : Int) (r : Option L), 0 <= l -> mWh (cV K c) (cT K c) (n + 1) [some (.p (.int l)), some (.p (.int 0)), r] = some (.nx [some (.p (.int (Int.gcd l 0 : Nat))), some (.p (.int 0)), r]) := fun n l r hl => by
  unfold mWh
  rw [hc, FR.tU hl]
  rfl
 induction n with
 | zero =>
  intro l s r hl hs hn
  have : s = 0 := by omega
  subst this
  exact ⟨r, done 0 l r hl⟩
 | succ n ih =>
  intro l s r hl hs hn
  by_cases h0 : s = 0
  ·subst h0
   exact ⟨r, done _ l r hl⟩
  ·have em : l.fmod s = l % s := Int.fmod_eq_emod_of_nonneg l hs
   have m0 := Int.emod_nonneg l h0
   have m1 := Int.emod_lt_of_pos l (show 0 < s by omega)
   obtain ⟨r', ih⟩ := ih s (l % s) (some (.p (.int (l % s)))) hs m0 (by omega)
   refine ⟨r', ?_⟩
   rw [FR.o4 hl hs] at ih
   have hb : cT K c [some (.p (.int l)), some (.p (.int s)), r] = some (.nx [some (.p (.int s)), some (.p (.int (l % s))), some (.p (.int (l % s)))]) := by
    ktr_call 13 ⟨cT, aK, aG, mC, cF, dA, Res.bind, Ev.c, dS, em⟩
   have ht : cV K c [some (.p (.int l)), some (.p (.int s)), r] = .ok true := by rw [hc, decide_eq_true (by omega)]
   unfold mWh
   rw [ht]
   dsimp only
   rw [hb]
   exact ih
theorem jZ (K : PySem.W.Frag) (c : Cls) : ∀ ls, aW K c ls = .bad \/ eB 3 (gR K c) ls = aW K c ls := wZ fun x _ => by
 obtain ⟨a, b⟩ := x
 obtain ⟨r', h⟩ := aEb K c _ (if a < 0 then -a else a) (if b < 0 then -b else b) none (by split <;> omega) (by split <;> omega) (Nat.le_refl _)
 have h := nV h
 rw [FR.sX] at h
 refine cX ?_
 rw [show b9 3 (eII (a, b)) = [some (.p (.int a)), some (.p (.int b)), none] from rfl]
 refine (aJ (cN (d := .int (if a < 0 then -a else a)) rfl)).trans ((aJ (cN (d := .int (if b < 0 then -b else b)) rfl)).trans ((aJ h).trans ?_))
 rfl
theorem oT (K : PySem.W.Frag) (c : Cls) (a b : Int) : aW K c [.p (.int a), .p (.int b)] = .ok (.p (.int (Int.gcd a b : Nat))) := wW (a := (a, b)) rO trivial
noncomputable def d8 (K : PySem.W.Frag) (c : Cls) : MS := (cF (dA 2 (a8 2 (aW K c) (aB (aG 0) (aB (aG 1) aY)))) (dW (aL iT (aB (aK gB (aG 0) (aG 2)) (aB (aK gB (aG 1) (aG 2)) aY)))))
noncomputable def bN (K : PySem.W.Frag) (c : Cls) (ls : List L) : Res L := eB 3 (d8 K c) ls
theorem jI (K : PySem.W.Frag) (c : Cls) : ∀ ls, bN K c ls = .bad \/ eB 3 (d8 K c) ls = bN K c ls := fun _ => .inr rfl
theorem wC (K : PySem.W.Frag) (c : Cls) {t b : Int} (hb : 1 <= b) (hz : Sz 8000 b) : bN K c [.p (.int t), .p (.int b)] = .ok (.p (frD (FR.mk t b))) := by
 obtain ⟨q1, _⟩ := aCn t (show b ≠ 0 by omega) hz
 obtain ⟨q2, _⟩ := aCn t (show b ≠ 0 by omega) hz
 have q3 : jJ b ((Int.gcd t b : Nat) : Int) := ⟨q1.1, q1.2⟩
 unfold bN
 refine cX ?_
 rw [show b9 3 [.p (.int t), .p (.int b)] = [some (.p (.int t)), some (.p (.int b)), none] from rfl]
 unfold d8
 refine (aJ (cN (jE rfl rfl (oT K c t b)))).trans (bV ((tF (aH rfl rfl (iF q1)) (aH rfl rfl (iF q3))).trans ?_))
 unfold FR.mk FR.sgn
 rw [if_neg (by omega)]
 rfl
structure GT (h : Int × Int) : Prop where
 f : FR.Fr h
 t : h.1.natAbs <= 10 ^ 29
 b : h.2 <= 10 ^ 29
theorem GT.g {h : Int × Int} (g : GT h) : GH h := by
 have e1 : (10 : Nat) ^ 29 < 10 ^ 30 := by decide
 have e2 : (10 : Int) ^ 29 = ((10 ^ 29 : Nat) : Int) := by decide
 have h1 := g.t
 have h2 := g.b
 have h3 := g.f.pos
 exact ⟨g.f, by omega, by omega⟩
theorem aB8 {t b : Int} (ht : t.natAbs <= 10 ^ 29) (h1 : 1 <= b) (hb : b <= 10 ^ 29) : GT (FR.mk t b) := by
 have f := (FR.aEg (t := t) (b := b) (by omega)).1
 have l1 : (FR.mk t b).1.natAbs <= t.natAbs := natAbs_fdiv_le _ _
 have l2 : (FR.mk t b).2.natAbs <= b.natAbs := natAbs_fdiv_le _ _
 have := f.pos
 exact ⟨f, by omega, by omega⟩
theorem p29 : (10 : Int) ^ 29 = 100000000000000000000000000000 := by decide
noncomputable def dB (K : PySem.W.Frag) (c : Cls) : MS := (cF (dA 2 (mC (.int 0))) (cF (fC (bR (aK ltE (aG 1) (aL iK (aB (aG 0) aY)))) (dA 2 (aK fN (aK ixE (aG 0) (aG 1)) (aK pX (mC (.int 10)) (mC (.int 60))))) cI) (dW (aK dZ (aK k6 (aG 2) (mC (.int 1000003))) (aK fN (aK k6 (aK fN (aK k6 (aK dZ (aK dZ (aK dZ (aG 2) (aK k6 (aK k6 (mC (.int 7)) (aG 1)) (aG 1))) (aK k6 (mC (.int 13)) (aG 1))) (mC (.int 5))) (mC (.int 48271))) (mC (.int 2147483647))) (mC (.int 69621))) (mC (.int 1000000007)))))))
noncomputable def aQ (K : PySem.W.Frag) (c : Cls) (ls : List L) : Res L := eB 3 (dB K c) ls
theorem kT (K : PySem.W.Frag) (c : Cls) : ∀ ls, aQ K c ls = .bad \/ eB 3 (dB K c) ls = aQ K c ls := fun _ => .inr rfl
theorem ml9 {n : Nat} {x y : Int} (hx : Sz n x) (hy : Sz n y) (hn : n <= 2000) : k6 (.p (.int x)) (.p (.int y)) = .ok (.p (.int (x * y))) := aBe ⟨hx.mono (by omega), hy.mono (by omega)⟩
theorem lM (K : PySem.W.Frag) (c : Cls) (ns : List Int) (k : Nat) (hk : k <= 100) : ∃ v : Int, 0 <= v /\ aQ K c [.p (.list (ns.map .int)), .p (.int (k : Int))] = .ok (.p (.int v)) := by
 have hlen : iK [.p (.list (ns.map .int))] = .ok (.p (.int (ns.length : Nat))) := by simp [iK, jH]
 have p60 : vP 10 60 := ⟨by decide, by decide, by decide⟩
 have pn : (10 : Int) ^ Int.toNat 60 ≠ 0 := by decide
 have d1 : (2147483647 : Int) ≠ 0 := by decide
 have d2 : (1000000007 : Int) ≠ 0 := by decide
 have zk : Sz 20 (k : Int) := by unfold Sz; omega
 have z7 : Sz 20 (7 : Int) := by unfold Sz; decide
 have z13 : Sz 20 (13 : Int) := by unfold Sz; decide
 have zkk : Sz 40 (7 * (k : Int)) := Sz.mul z7 zk
 have zc : Sz 40 (48271 : Int) := by unfold Sz; decide
 have zd : Sz 40 (69621 : Int) := by unfold Sz; decide
 have ze : Sz 40 (1000003 : Int) := by unfold Sz; decide
 have fin : ∀ (v : Int), 0 <= v -> v < 10 ^ 60 -> ∃ w : Int, 0 <= w /\ dW (aK dZ (aK k6 (aG 2) (mC (.int 1000003))) (aK fN (aK k6 (aK fN (aK k6 (aK dZ (aK dZ (aK dZ (aG 2) (aK k6 (aK k6 (mC (.int 7)) (aG 1)) (aG 1))) (aK k6 (mC (.int 13)) (aG 1))) (mC (.int 5))) (mC (.int 48271))) (mC (.int 2147483647))) (mC (.int 69621))) (mC (.int 1000000007)))) [some (.p (.list (ns.map .int))), some (.p (.int (k : Int))), some (.p (.int v))] = some (.rt (.p (.int w))) := fun v v0 v1 => by
  have zv : Sz 200 v := by
   have : (10 : Int) ^ 60 < 2 ^ 200 := by decide
   unfold Sz
   have : (2 : Int) ^ 200 = ((2 ^ 200 : Nat) : Int) := by decide
   omega
  have zs : Sz 300 (v + 7 * (k : Int) * (k : Int) + 13 * (k : Int) + 5) := (N.Sz.addM (N.Sz.addM (N.Sz.addM zv (Sz.mul zkk zk)) (Sz.mul z13 zk)) (show Sz 20 (5 : Int) by unfold Sz; decide)).mono (by decide)
  have f1 := dX (a := (v + 7 * (k : Int) * (k : Int) + 13 * (k : Int) + 5) * 48271) (b := 2147483647) (by decide)
  have zm : Sz 40 (((v + 7 * (k : Int) * (k : Int) + 13 * (k : Int) + 5) * 48271).fmod 2147483647) := by unfold Sz; omega
  have f2 := dX (a := ((v + 7 * (k : Int) * (k : Int) + 13 * (k : Int) + 5) * 48271).fmod 2147483647 * 69621) (b := 1000000007) (by decide)
  refine ⟨v * 1000003 + (((v + 7 * (k : Int) * (k : Int) + 13 * (k : Int) + 5) * 48271).fmod 2147483647 * 69621).fmod 1000000007, by omega, ?_⟩
  exact bV (aH (aH rfl rfl (ml9 zv (ze.mono (by decide)) (by decide))) (aH (aH (aH (aH (aH (aH (aH rfl (aH (aH rfl rfl (ml9 z7 zk (by decide))) rfl (ml9 zkk (zk.mono (by decide)) (by decide))) (jC _ _)) (aH rfl rfl (ml9 z13 zk (by decide))) (jC _ _)) rfl (jC _ _)) rfl (ml9 zs (zc.mono (by decide)) (by decide))) rfl (dS d1)) rfl (ml9 zm zd (by decide))) rfl (dS d2)) (jC _ _))
 have ht : bR (aK ltE (aG 1) (aL iK (aB (aG 0) aY))) [some (.p (.list (ns.map .int))), some (.p (.int (k : Int))), some (.p (.int 0))] = .ok (decide (k < ns.length)) := by
  simp [bR, aK, aG, aL, aB, aY, Res.bind, Ev.c, hlen, kC, mV]
 have run : ∀ {w : Int}, dB K c [some (.p (.list (ns.map .int))), some (.p (.int (k : Int))), none] = some (.rt (.p (.int w))) -> aQ K c [.p (.list (ns.map .int)), .p (.int (k : Int))] = .ok (.p (.int w)) := fun h => by
  unfold aQ
  exact cX h
 by_cases h : k < ns.length
 ·rw [decide_eq_true h] at ht
  have ix : ixE (.p (.list (ns.map .int))) (.p (.int (k : Int))) = .ok (.p (.int (ns.getD k 0))) := pV (xs := ns) (enc := PyData.int) rfl h rfl
  have fp := dX (a := ns.getD k 0) (b := 10 ^ Int.toNat 60) (by decide)
  obtain ⟨w, w0, e⟩ := fin ((ns.getD k 0).fmod (10 ^ Int.toNat 60)) fp.1 fp.2
  refine ⟨w, w0, run ?_⟩
  unfold dB
  exact (aJ (cN rfl)).trans ((aJ ((gG ht).trans (cN (aH (aH rfl rfl ix) (aH rfl rfl (kP p60)) (dS pn))))).trans e)
 ·rw [decide_eq_false h] at ht
  obtain ⟨w, w0, e⟩ := fin 0 (by decide) (by decide)
  refine ⟨w, w0, run ?_⟩
  unfold dB
  exact (aJ (cN rfl)).trans ((aJ (gJ ht)).trans e)
noncomputable def bY (K : PySem.W.Frag) (c : Cls) : MS := (cF (dA 2 (aK fN (aG 0) (aK pX (mC (.int 10)) (mC (.int 60))))) (cF (fC (bR (aK (eqE false) (aK fN (aG 1) (mC (.int 3))) (mC (.int 0)))) (dW (aL iT (aB (aK w8 (aK fN (aG 2) (mC (.int 7))) (mC (.int 3))) (aB (mC (.int 1)) aY)))) cI) (cF (fC (bR (aK (eqE false) (aK fN (aG 1) (mC (.int 3))) (mC (.int 1)))) (dW (a8 2 (bN K c) (aB (aK w8 (aK fN (aG 2) (mC (.int 41))) (mC (.int 20))) (aB (aK dZ (mC (.int 1)) (aK fN (aK gB (aG 2) (mC (.int 41))) (mC (.int 12)))) aY)))) cI) (cF (dA 3 (aK dZ (mC (.int 1)) (aK fN (aK k6 (aG 2) (mC (.int 48271))) (aK pX (mC (.int 10)) (mC (.int 29)))))) (dW (a8 2 (bN K c) (aB (aK w8 (aK fN (aK k6 (aG 2) (aK pX (mC (.int 1000003)) (mC (.int 4)))) (aK dZ (aK k6 (mC (.int 2)) (aK pX (mC (.int 10)) (mC (.int 29)))) (mC (.int 1)))) (aK pX (mC (.int 10)) (mC (.int 29)))) (aB (aG 3) aY))))))))
noncomputable def bI (K : PySem.W.Frag) (c : Cls) (ls : List L) : Res L := eB 4 (bY K c) ls
theorem i7 (K : PySem.W.Frag) (c : Cls) : ∀ ls, bI K c ls = .bad \/ eB 4 (bY K c) ls = bI K c ls := fun _ => .inr rfl
theorem aBo (K : PySem.W.Frag) (c : Cls) (cell kind : Int) : ∃ h, GT h /\ bI K c [.p (.int cell), .p (.int kind)] = .ok (.p (frD h)) := by
 have p60 : vP 10 60 := ⟨by decide, by decide, by decide⟩
 have p29' : vP 10 29 := ⟨by decide, by decide, by decide⟩
 have p4 : vP 1000003 4 := ⟨by decide, by decide, by decide⟩
 have pn : (10 : Int) ^ Int.toNat 60 ≠ 0 := by decide
 have pn29 : (10 : Int) ^ Int.toNat 29 ≠ 0 := by decide
 have e29 : (10 : Int) ^ Int.toNat 29 = 100000000000000000000000000000 := by decide
 have d3 : (3 : Int) ≠ 0 := by decide
 have fp := dX (a := cell) (b := 10 ^ Int.toNat 60) (by decide)
 have run : ∀ {w : Int × Int}, bY K c [some (.p (.int cell)), some (.p (.int kind)), none, none] = some (.rt (.p (frD w))) -> bI K c [.p (.int cell), .p (.int kind)] = .ok (.p (frD w)) := fun h => by
  unfold bI
  exact cX h
 have s1 := aH (en := [some (.p (.int cell)), some (.p (.int kind)), none, none]) (f := aG 0) (g := aK pX (mC (.int 10)) (mC (.int 60))) rfl (aH rfl rfl (kP p60)) (dS (i := cell) pn)
 generalize cell.fmod (10 ^ Int.toNat 60) = v at *
 have zv : Sz 200 v := by
  have : (10 : Int) ^ Int.toNat 60 < 2 ^ 200 := by decide
  unfold Sz
  have : (2 : Int) ^ 200 = ((2 ^ 200 : Nat) : Int) := by decide
  omega
 have tt : ∀ (n : Int) (B : Option L), bR (aK (eqE false) (aK fN (aG 1) (mC (.int 3))) (mC (.int n))) [some (.p (.int cell)), some (.p (.int kind)), some (.p (.int v)), B] = .ok (kind.fmod 3 == n) := fun n B => aX (aH (aH rfl rfl (dS d3)) rfl eR)
 by_cases h0 : kind.fmod 3 = 0
 ·have f7 := dX (a := v) (b := 7) (by decide)
  have b10 : 10 <= (10 : Nat) ^ 29 := by decide
  have gz : (v.fmod 7 - 3).natAbs <= 10 ^ 29 := by omega
  refine ⟨(v.fmod 7 - 3, 1), ⟨⟨Int.le_refl 1, Int.gcd_one⟩, gz, show (1 : Int) <= 10 ^ 29 by decide⟩, run ?_⟩
  unfold bY
  exact (aJ (cN s1)).trans (cR ((gG ((tt 0 none).trans (by rw [beq_iff_eq.mpr h0]))).trans (bV (tF (aH (aH rfl rfl (dS (by decide))) rfl (nM _ _)) rfl))))
 ·by_cases h1 : kind.fmod 3 = 1
  ·have f41 := dX (a := v) (b := 41) (by decide)
   have f12 := dX (a := v.fdiv 41) (b := 12) (by decide)
   have c41 : jJ v 41 := zZ _ (by decide) (by decide)
   have b29 : (41 : Nat) <= 10 ^ 29 := by decide
   have b29' : (41 : Int) <= 10 ^ 29 := by decide
   refine ⟨FR.mk (v.fmod 41 - 20) (1 + (v.fdiv 41).fmod 12), aB8 (by omega) (by omega) (by omega), run ?_⟩
   unfold bY
   exact (aJ (cN s1)).trans ((aJ (gJ ((tt 0 none).trans (by rw [beq_eq_false_iff_ne.mpr h0])))).trans (cR ((gG ((tt 1 none).trans (by rw [beq_iff_eq.mpr h1]))).trans (bV (jE (aH (aH rfl rfl (dS (by decide))) rfl (nM _ _)) (aH rfl (aH (aH rfl rfl (iF c41)) rfl (dS (by decide))) (jC _ _)) (wC K c (by omega) ((show Sz 10 (1 + (v.fdiv 41).fmod 12) by unfold Sz; omega).mono (by decide))))))))
  ·have z4 : Sz 40 (48271 : Int) := by unfold Sz; decide
   have zp : Sz 200 ((1000003 : Int) ^ Int.toNat 4) := by unfold Sz; decide
   have m1 := ml9 zv (z4.mono (by decide)) (by decide)
   have m2 := ml9 zv zp (by decide)
   have m3 : k6 (.p (.int 2)) (.p (.int (10 ^ Int.toNat 29))) = .ok (.p (.int (2 * 10 ^ Int.toNat 29))) := ml9 (n := 200) (by unfold Sz; decide) (by unfold Sz; decide) (by decide)
   have dn : (2 * 10 ^ Int.toNat 29 + 1 : Int) ≠ 0 := by decide
   have fb := dX (a := v * 48271) (b := 10 ^ Int.toNat 29) (by decide)
   have ft := dX (a := v * 1000003 ^ Int.toNat 4) (b := 2 * 10 ^ Int.toNat 29 + 1) (by decide)
   have n29 : (10 : Nat) ^ 29 = 100000000000000000000000000000 := by decide
   have zb : Sz 200 (1 + (v * 48271).fmod (10 ^ Int.toNat 29)) := by
    have : (100000000000000000000000000000 : Nat) < 2 ^ 200 := by decide
    unfold Sz
    omega
   refine ⟨FR.mk ((v * 1000003 ^ Int.toNat 4).fmod (2 * 10 ^ Int.toNat 29 + 1) - 10 ^ Int.toNat 29) (1 + (v * 48271).fmod (10 ^ Int.toNat 29)), aB8 (by omega) (by omega) (by rw [p29]; omega), run ?_⟩
   unfold bY
   refine (aJ (cN s1)).trans ((aJ (gJ ((tt 0 none).trans (by rw [beq_eq_false_iff_ne.mpr h0])))).trans ((aJ (gJ ((tt 1 none).trans (by rw [beq_eq_false_iff_ne.mpr h1])))).trans ?_))
   refine (aJ (cN (aH rfl (aH (aH rfl rfl m1) (aH rfl rfl (kP p29')) (dS pn29)) (jC _ _)))).trans ?_
   exact bV (jE (aH (aH (aH rfl (aH rfl rfl (kP p4)) m2) (aH (aH rfl (aH rfl rfl (kP p29')) m3) rfl (jC _ _)) (dS dn)) (aH rfl rfl (kP p29')) (nM _ _)) rfl (wC K c (by omega) (zb.mono (by decide))))
noncomputable def dE (K : PySem.W.Frag) (c : Cls) : MS := (cF (fC (bR (aK (eqE false) (aK ixE (aG 0) (mC (.int 1))) (mC (.int 1)))) (dW (aL uE (aB (aK ixE (aG 0) (mC (.int 0))) aY))) cI) (dW (aK dZ (aK dZ (aL uE (aB (aK ixE (aG 0) (mC (.int 0))) aY)) (mC (.str "/"))) (aL uE (aB (aK ixE (aG 0) (mC (.int 1))) aY)))))
noncomputable def bD (K : PySem.W.Frag) (c : Cls) (ls : List L) : Res L := eB 1 (dE K c) ls
theorem hV (K : PySem.W.Frag) (c : Cls) : ∀ ls, bD K c ls = .bad \/ eB 1 (dE K c) ls = bD K c ls := fun _ => .inr rfl
theorem aBd (K : PySem.W.Frag) (c : Cls) {h : Int × Int} (g : GH h) : bD K c [.p (frD h)] = .ok (.p (.str (nT h))) := by
 have i0 : ixE (.p (frD h)) (.p (.int 0)) = .ok (.p (.int h.1)) := qD _ _
 have i1 : ixE (.p (frD h)) (.p (.int 1)) = .ok (.p (.int h.2)) := qK _ _ _
 have l1 := lK g.t
 have l2 := lK g.b
 have sl := aB5 qT
 unfold bD
 refine cX ?_
 rw [show b9 1 [.p (frD h)] = [some (.p (frD h))] from rfl]
 unfold dE nT
 by_cases z : h.2 = 1
 ·rw [if_pos z]
  exact cR ((gG (aX ((aH (aH rfl rfl i1) rfl eR).trans (by rw [beq_iff_eq.mpr z])))).trans (bV (c0 (bQ (aH rfl rfl i0) rfl) (q5 (aAm g.t)))))
 ·rw [if_neg z]
  refine (aJ (gJ (aX ((aH (aH rfl rfl i1) rfl eR).trans (by rw [beq_eq_false_iff_ne.mpr z]))))).trans ?_
  refine bV (aH (aH (c0 (bQ (aH rfl rfl i0) rfl) (q5 (aAm g.t))) rfl (k9 ?_)) (c0 (bQ (aH rfl rfl i1) rfl) (q5 (aAm g.b))) (k9 ?_))
  ·rw [sl]; show _ + 1 <= _; omega
  ·rw [cS, iW, List.length_append, <- cS, <- cS, sl]; show _ + 1 + _ <= _; omega
noncomputable def fJ (K : PySem.W.Frag) (c : Cls) : MS := (dW (kA (mUn (jS K (.type "int")) (aG 0)) (wB (mUn (jS K (.type "bool")) (aG 0)))))
noncomputable def cO (K : PySem.W.Frag) (c : Cls) (ls : List L) : Res L := eB 1 (fJ K c) ls
theorem lO (K : PySem.W.Frag) (c : Cls) : ∀ ls, cO K c ls = .bad \/ eB 1 (fJ K c) ls = cO K c ls := fun _ => .inr rfl
theorem pS (K : PySem.W.Frag) (c : Cls) (hk : gH K c) (i : Int) : cO K c [.p (.int i)] = .ok (.p (.bool true)) := by
 have i1 : jS K (.type "int") (.p (.int i)) = .ok (.p (.bool true)) := by simp [jS, dat, tyD, hk.ii]
 have i2 : jS K (.type "bool") (.p (.int i)) = .ok (.p (.bool false)) := by simp [jS, dat, tyD, hk.ib]
 unfold cO
 refine cX ?_
 rw [show b9 1 [.p (.int i)] = [some (.p (.int i))] from rfl]
 unfold fJ
 refine bV (pH (l7 rfl i1) ?_)
 simp only [wB, l7 (f := aG 0) (en := [some (.p (.int i))]) rfl i2, Res.bind]
 rfl
noncomputable def dG (K : PySem.W.Frag) (c : Cls) : MS := (cF (fC (mOr (kW (bR (mUn (jS K (.type "tuple")) (aG 0)))) (bR (aK (eqE true) (aL iK (aB (aG 0) aY)) (mC (.int 2))))) (dW (mC (.bool false))) cI) (cF (fC (mOr (kW (bR (a8 1 (cO K c) (aB (aK ixE (aG 0) (mC (.int 0))) aY)))) (mOr (kW (bR (a8 1 (cO K c) (aB (aK ixE (aG 0) (mC (.int 1))) aY)))) (bR (aK ltE (aK ixE (aG 0) (mC (.int 1))) (mC (.int 1)))))) (dW (mC (.bool false))) cI) (dW (aK (eqE false) (a8 2 (aW K c) (aB (aK ixE (aG 0) (mC (.int 0))) (aB (aK ixE (aG 0) (mC (.int 1))) aY))) (mC (.int 1))))))
noncomputable def aZ (K : PySem.W.Frag) (c : Cls) (ls : List L) : Res L := eB 1 (dG K c) ls
theorem iH (K : PySem.W.Frag) (c : Cls) : ∀ ls, aZ K c ls = .bad \/ eB 1 (dG K c) ls = aZ K c ls := fun _ => .inr rfl
theorem zV (K : PySem.W.Frag) (c : Cls) (hk : gH K c) {h : Int × Int} (f : FR.Fr h) : aZ K c [.p (frD h)] = .ok (.p (.bool true)) := by
 have it : jS K (.type "tuple") (.p (frD h)) = .ok (.p (.bool true)) := by simp [jS, dat, frD, tyD, hk.tt]
 have ln : iK [.p (frD h)] = .ok (.p (.int 2)) := by simp [iK, jH, frD]
 have i0 : ixE (.p (frD h)) (.p (.int 0)) = .ok (.p (.int h.1)) := qD _ _
 have i1 : ixE (.p (frD h)) (.p (.int 1)) = .ok (.p (.int h.2)) := qK _ _ _
 have lt : ltE (.p (.int h.2)) (.p (.int 1)) = .ok (.p (.bool false)) := by
  show Res.ok (Ev.p (.bool (decide (h.2 < 1)))) = _
  rw [decide_eq_false (by have := f.pos; omega)]
 have dv := oT K c h.1 h.2
 rw [show Int.gcd h.1 h.2 = 1 from f.2] at dv
 unfold aZ
 refine cX ?_
 rw [show b9 1 [.p (frD h)] = [some (.p (frD h))] from rfl]
 unfold dG
 refine (aJ (gJ (oD (p6 (aX (l7 rfl it))) (aX ((aH (c0 (bQ rfl rfl) ln) rfl ne_is).trans rfl))))).trans ?_
 refine (aJ (gJ (oD (p6 (aX (eD (aH rfl rfl i0) rfl (pS K c hk _)))) (oD (p6 (aX (eD (aH rfl rfl i1) rfl (pS K c hk _)))) (aX (aH (aH rfl rfl i1) rfl lt)))))).trans (bV ?_)
 exact (aH (jE (aH rfl rfl i0) (aH rfl rfl i1) dv) rfl eR).trans rfl
theorem yR (c : Nat) (w : Str) : pY true (.p (.str ⟨#[c]⟩)) (.p (.str w)) = .ok (.p (.bool (!decide (c ∈ tl w)))) := by
 unfold pY
 dsimp only
 rw [if_pos rfl, <- StrLaws.found_one, Bool.not_not]
theorem aBp {c : Nat} (h : dig c = true) : iJ (.p (.str "0123456789")) (.p (.str ⟨#[c]⟩)) = .ok (.p (.int ((c - 48 : Nat) : Int))) := by
 have h := of_decide_eq_true h
 have : c = 48 \/ c = 49 \/ c = 50 \/ c = 51 \/ c = 52 \/ c = 53 \/ c = 54 \/ c = 55 \/ c = 56 \/ c = 57 := by omega
 have key : ∀ k : Nat, k < 10 -> ∃ r, Builtin.Str.occurrences ("0123456789" : Str) ⟨#[48 + k]⟩ 0 ("0123456789" : Str).length 1 = k :: r := by
  intro k hk
  have : k = 0 \/ k = 1 \/ k = 2 \/ k = 3 \/ k = 4 \/ k = 5 \/ k = 6 \/ k = 7 \/ k = 8 \/ k = 9 := by omega
  rcases this with e | e | e | e | e | e | e | e | e | e <;> subst e <;> exact ⟨[], by decide +kernel⟩
 obtain ⟨r, e⟩ := key (c - 48) (by omega)
 rw [show 48 + (c - 48) = c by omega] at e
 unfold iJ
 dsimp only
 rw [e]
noncomputable def bT (K : PySem.W.Frag) (c : Cls) : MS := (cF (fC (bR (aK (pY true) (aG 2) (mC (.str "0123456789")))) (dW (mC (.none))) cI) (dA 1 (aK dZ (aK k6 (aG 1) (mC (.int 10))) (v9 iJ (mC (.str "0123456789")) (aG 2)))))
noncomputable def eE (K : PySem.W.Frag) (c : Cls) : MS := (cF (fC (mOr (bR (aK (eqE false) (aL fU (aB (aG 0) aY)) (mC (.int 0)))) (mOr (bR (aK gtE (aL fU (aB (aG 0) aY)) (mC (.int 30)))) (qN (bR (aK (eqE false) (aK nW (aG 0) (mC (.int 0))) (mC (.str "0")))) (bR (aK gtE (aL fU (aB (aG 0) aY)) (mC (.int 1))))))) (dW (mC (.none))) cI) (cF (dA 1 (mC (.int 0))) (cF (zH (yN (aG 0)) (eU 2) (bT K c)) (dW (aG 1)))))
noncomputable def bH (K : PySem.W.Frag) (c : Cls) (ls : List L) : Res L := eB 3 (eE K c) ls
theorem kG (K : PySem.W.Frag) (c : Cls) : ∀ ls, bH K c ls = .bad \/ eB 3 (eE K c) ls = bH K c ls := fun _ => .inr rfl
theorem sQ (K : PySem.W.Frag) (c : Cls) (A : Option L) : ∀ (cs : List Nat) (a k : Nat) (r : Option L), a < 10 ^ k -> k + cs.length <= 60 -> (cs.all dig = true -> ∃ q, iL (eU 2) (bT K c) (cs.map fun c => PyData.str ⟨#[c]⟩) [A, some (.p (.int (a : Int))), r] = some (.nx [A, some (.p (.int ((cs.foldl (fun acc c => acc * 10 + (c - 48)) a : Nat) : Int))), q])) /\ (cs.all dig = false -> iL (eU 2) (bT K c) (cs.map fun c => PyData.str ⟨#[c]⟩) [A, some (.p (.int (a : Int))), r] = some (.rt (.p .none)))
 | [], a, k, r, _, _ => ⟨fun _ => ⟨r, rfl⟩, fun z => nomatch z⟩
 | d :: cs, a, k, r, ha, hk => by
  rw [List.length_cons] at hk
  have ni := yR d "0123456789"
  rw [wO] at ni
  have tn : bR (aK (pY true) (aG 2) (mC (.str "0123456789"))) [A, some (.p (.int (a : Int))), some (.p (.str ⟨#[d]⟩))] = .ok (!dig d) := aX (aH rfl rfl ni)
  rw [List.all_cons]
  cases hd : dig d with
  | false =>
   rw [hd] at tn
   refine ⟨(fun z => nomatch z), fun _ => ?_⟩
   rw [List.map_cons]
   have hb : bT K c [A, some (.p (.int (a : Int))), some (.p (.str ⟨#[d]⟩))] = some (.rt (.p .none)) := by
    unfold bT
    exact cR ((gG tn).trans (bV rfl))
   unfold iL
   rw [show eU 2 (PyData.str ⟨#[d]⟩) [A, some (.p (.int (a : Int))), r] = some [A, some (.p (.int (a : Int))), some (.p (.str ⟨#[d]⟩))] from rfl]
   dsimp only
   rw [hb]
  | true =>
   rw [hd] at tn
   have h8 := of_decide_eq_true hd
   have za : Sz 250 (a : Int) := by
    have p1 : (10 : Nat) ^ k <= 10 ^ 60 := Nat.pow_le_pow_right (by decide) (by omega)
    have p2 : (10 : Nat) ^ 60 < 2 ^ 300 := by decide
    unfold Sz
    omega
   have hb : bT K c [A, some (.p (.int (a : Int))), some (.p (.str ⟨#[d]⟩))] = some (.nx [A, some (.p (.int ((a * 10 + (d - 48) : Nat) : Int))), some (.p (.str ⟨#[d]⟩))]) := by
    unfold bT
    refine (aJ (gJ tn)).trans ?_
    refine (cN (d := .int ((a : Int) * 10 + ((d - 48 : Nat) : Int))) (aH (aH rfl rfl (ml9 za (by unfold Sz; decide) (by decide))) (qE rfl rfl (aBp hd)) (jC _ _))).trans ?_
    rw [show (a : Int) * 10 + ((d - 48 : Nat) : Int) = ((a * 10 + (d - 48) : Nat) : Int) by omega]
    rfl
   have lt : a * 10 + (d - 48) < 10 ^ (k + 1) := by rw [Nat.pow_succ]; omega
   obtain ⟨i1, i2⟩ := sQ K c A cs (a * 10 + (d - 48)) (k + 1) (some (.p (.str ⟨#[d]⟩))) lt (by omega)
   rw [List.map_cons, aAv rfl hb, Bool.true_and]
   exact ⟨i1, i2⟩
theorem aAg (K : PySem.W.Frag) (c : Cls) {z : Str} (hz : TZ z) : bH K c [.p (.str z)] = .ok (.p (if wh (tl z) = true then .int (NumText.digitsVal (tl z) : Int) else .none)) := by
 have hl := hz.l
 have zl := cS z
 have ln := vN (z := z) (by omega)
 have t1 : bR (aK (eqE false) (aL fU (aB (aG 0) aY)) (mC (.int 0))) [some (.p (.str z)), none, none] = .ok (((z.length : Nat) : Int) == 0) := aX (aH (c0 (bQ rfl rfl) ln) rfl eR)
 have t2 : bR (aK gtE (aL fU (aB (aG 0) aY)) (mC (.int 30))) [some (.p (.str z)), none, none] = .ok (decide (((z.length : Nat) : Int) > 30)) := aX (aH (c0 (bQ rfl rfl) ln) rfl rfl)
 have t4 : bR (aK gtE (aL fU (aB (aG 0) aY)) (mC (.int 1))) [some (.p (.str z)), none, none] = .ok (decide (((z.length : Nat) : Int) > 1)) := aX (aH (c0 (bQ rfl rfl) ln) rfl rfl)
 unfold bH
 refine cX ?_
 rw [show b9 3 [.p (.str z)] = [some (.p (.str z)), none, none] from rfl]
 unfold eE
 by_cases n0 : (tl z).length = 0
 ·rw [beq_iff_eq.mpr (show ((z.length : Nat) : Int) = 0 by omega)] at t1
  rw [qV (fun h => h.n n0)]
  exact cR ((gG (qW t1)).trans (bV rfl))
 rw [beq_eq_false_iff_ne.mpr (show ((z.length : Nat) : Int) ≠ 0 by omega)] at t1
 by_cases m0 : (tl z).length <= 30
 case neg =>
  rw [decide_eq_true (show ((z.length : Nat) : Int) > 30 by omega)] at t2
  rw [qV (fun h => m0 h.m)]
  exact cR ((gG (lI t1 (qW t2))).trans (bV rfl))
 rw [decide_eq_false (show ¬ ((z.length : Nat) : Int) > 30 by omega)] at t2
 cases e : tl z with
 | nil => exact absurd (by rw [e]; rfl) n0
 | cons a r =>
  have zr : z.length = r.length + 1 := by rw [zl, e]; rfl
  have i1 := aDn (z := ⟨#[a]⟩)
  have pa : a < 256 := hz.p a (by rw [e]; exact .head _)
  have t3 : bR (aK (eqE false) (aK nW (aG 0) (mC (.int 0))) (mC (.str "0"))) [some (.p (.str z)), none, none] = .ok (decide (tl (⟨#[a]⟩ : Str) = [48])) := aX ((aH (aH rfl rfl (aEs e)) rfl (eq_str false (aDm pa) aC4)).trans (by rw [i1]; rfl))
  have dc : decide (tl (⟨#[a]⟩ : Str) = [48]) = decide (a = 48) := by
   rw [decide_eq_decide]
   exact ⟨fun w => by injection w, fun w => by rw [w]⟩
  rw [dc] at t3
  rw [e] at n0 m0
  by_cases bad : a = 48 /\ 1 < z.length
  ·rw [decide_eq_true bad.1] at t3
   rw [decide_eq_true (show ((z.length : Nat) : Int) > 1 by omega)] at t4
   rw [qV (l := a :: r) (fun h => h.h.elim (fun w => by
    injection w with _ w
    rw [w] at zr
    have := bad.2
    rw [zr] at this
    exact absurd this (by decide)) fun w => w (by rw [bad.1]; rfl))]
   exact cR ((gG (lI t1 (lI t2 (mR t3 t4)))).trans (bV rfl))
  ·have ff : qN (bR (aK (eqE false) (aK nW (aG 0) (mC (.int 0))) (mC (.str "0")))) (bR (aK gtE (aL fU (aB (aG 0) aY)) (mC (.int 1)))) [some (.p (.str z)), none, none] = .ok false := by
    by_cases a0 : a = 48
    ·rw [decide_eq_true a0] at t3
     rw [decide_eq_false (show ¬ ((z.length : Nat) : Int) > 1 from fun w => bad ⟨a0, by omega⟩)] at t4
     exact mR t3 t4
    ·rw [decide_eq_false a0] at t3
     exact rP t3
   have hh : a :: r = [48] \/ (a :: r).head? ≠ some 48 := by
    by_cases a0 : a = 48
    ·have : r.length = 0 := Nat.eq_zero_of_not_pos fun w => bad ⟨a0, by omega⟩
     exact .inl (by rw [a0, List.length_eq_zero_iff.mp this])
    ·exact .inr fun w => a0 (Option.some.inj w)
   obtain ⟨l1, l2⟩ := sQ K c (some (.p (.str z))) (tl z) 0 0 none (by decide) (by rw [e]; omega)
   refine (aJ (gJ (oD t1 (oD t2 ff)))).trans ((aJ (cN (d := .int 0) rfl)).trans ?_)
   cases hd : (tl z).all dig with
   | true =>
    obtain ⟨q, lp⟩ := l1 hd
    rw [e] at hd
    rw [if_pos (yB (l := a :: r) ⟨n0, m0, List.all_eq_true.mp hd, hh⟩), <- e]
    exact (aJ ((yJ (itS rfl)).trans lp)).trans (bV rfl)
   | false =>
    have lp := l2 hd
    rw [e] at hd
    rw [qV (l := a :: r) (fun h => by rw [List.all_eq_true.mpr h.d] at hd; cases hd)]
    exact cR ((yJ (itS rfl)).trans lp)
theorem yZ (z : Str) : tl (Txt.slice z none (some 1)) = (tl z).take 1 := by
 cases e : tl z with
 | nil =>
  have l := Txt.slice_le z none (some 1)
  rw [cS, cS, e] at l
  exact List.length_eq_zero_iff.mp (Nat.le_zero.mp l)
 | cons a r =>
  have e' : z.cps.toList = a :: r := e
  have := StrLaws.sliceText_to (x := z) (j := 1) ⟨by decide, by rw [e', List.length_cons]; omega⟩
  have this : Txt.slice z none (some 1) = _ := this
  rw [this, e']
  rfl
theorem aEz (z : Str) : tl (Txt.slice z (some 0) none) = tl z := by
 have := StrLaws.sliceText_from (x := z) (i := 0) ⟨by decide, by omega⟩
 have this : Txt.slice z (some 0) none = _ := this
 rw [this]
 show List.take (((tl z).length : Int) - 0).toNat (List.drop 0 (tl z)) = _
 rw [List.drop_zero]
 exact List.take_of_length_le (by omega)
theorem aEk {l : List Nat} (h : Wh l) : l.head? ≠ some 45 := fun e => by
 have := of_decide_eq_true (h.d 45 (List.mem_of_head? e))
 omega
theorem u0 {z : Str} {b : Bool} (hb : b = decide ((tl z).head? = some 45)) : ∃ (q p : Str) (ps : List Str), Txt.split (Txt.slice z (some (if b = true then 1 else 0)) none) "/" = q :: ps /\ Txt.split z "/" = p :: ps /\ (tp (tl p) = (wh (tl q) && !(b && decide (tl q = [48])))) /\ (wh (tl q) = true -> iv (tl p) = if b = true then -(NumText.digitsVal (tl q) : Int) else NumText.digitsVal (tl q)) := by
 by_cases h : (tl z).head? = some 45
 ·rw [decide_eq_true h] at hb
  subst hb
  cases e : tl z with
  | nil => rw [e] at h; cases h
  | cons a r =>
   rw [e] at h
   have ea : a = 45 := Option.some.inj h
   rw [ea] at e
   obtain ⟨l, p, ps, q, e1, e2, e3, e4⟩ := qI e (sl1 e)
   refine ⟨q, p, ps, e3, e1, ?_, fun _ => ?_⟩
   ·rw [e2, e4, Bool.true_and]
    by_cases l0 : l = [48]
    ·rw [aB0 l0, decide_eq_true l0, Bool.not_true, Bool.and_false]
    ·rw [wI l0, decide_eq_false l0, Bool.not_false, Bool.and_true]
   ·rw [e2, e4]
    unfold iv
    rw [if_pos (show (45 :: l).head? = some 45 from rfl), if_pos rfl]
    rfl
 ·rw [decide_eq_false h] at hb
  subst hb
  have ez : Txt.slice z (some (if false = true then 1 else 0)) none = z := fO (aEz z)
  rw [ez]
  cases es : Txt.split z "/" with
  | nil => exact absurd es (iS z "/")
  | cons p ps =>
   have hp := split_head es h
   refine ⟨p, p, ps, rfl, rfl, ?_, fun _ => ?_⟩
   ·rw [xC hp, Bool.false_and, Bool.not_false, Bool.and_true]
   ·unfold iv
    rw [if_neg hp, if_neg Bool.false_ne_true]
noncomputable def eX (K : PySem.W.Frag) (c : Cls) : MS := (cF (dA 1 (aK (eqE false) (jP (aG 0) k7 (mPt (mC (.int 1)))) (mC (.str "-")))) (cF (dA 2 (v9 iV (jP (aG 0) (mPt (aL gA (aB (aG 1) aY))) k7) (mC (.str "/")))) (cF (fC (bR (aK gtE (aL iK (aB (aG 2) aY)) (mC (.int 2)))) (dW (mC (.none))) cI) (cF (dA 3 (a8 1 (bH K c) (aB (aK ixE (aG 2) (mC (.int 0))) aY))) (cF (dA 4 (mC (.int 1))) (cF (fC (bR (aK (eqE false) (aL iK (aB (aG 2) aY)) (mC (.int 2)))) (dA 4 (a8 1 (bH K c) (aB (aK ixE (aG 2) (mC (.int 1))) aY))) cI) (cF (fC (mOr (bR (mUn (mQ false) (aG 3))) (mOr (bR (mUn (mQ false) (aG 4))) (qN (bR (aG 1)) (bR (aK (eqE false) (aG 3) (mC (.int 0))))))) (dW (mC (.none))) cI) (cF (fC (qN (bR (aK (eqE false) (aL iK (aB (aG 2) aY)) (mC (.int 2)))) (mOr (bR (aK ltE (aG 4) (mC (.int 2)))) (bR (aK (eqE true) (a8 2 (aW K c) (aB (aG 3) (aB (aG 4) aY))) (mC (.int 1)))))) (dW (mC (.none))) cI) (cF (fC (bR (aG 1)) (dA 3 (aK w8 (mC (.int 0)) (aG 3))) cI) (dW (aL iT (aB (aG 3) (aB (aG 4) aY)))))))))))))
noncomputable def cB (K : PySem.W.Frag) (c : Cls) (ls : List L) : Res L := eB 5 (eX K c) ls
theorem lF (K : PySem.W.Frag) (c : Cls) : ∀ ls, cB K c ls = .bad \/ eB 5 (eX K c) ls = cB K c ls := fun _ => .inr rfl
abbrev eN (z : Str) (b : Bool) (xs : List Str) (t u : Option L) : En := [some (.p (.str z)), some (.p (.bool b)), some (.o (.list (xs.map PyData.str))), t, u]
theorem aEe {l : List Nat} (h : Wh l) : bt l = !(decide ((NumText.digitsVal l : Int) < 2)) := by
 have a := i6 h
 have b := tO h
 by_cases h0 : l = [48]
 ·rw [zG (fun w => w.1 h0), decide_eq_true (by have := a.mpr h0; omega)]
  rfl
 ·by_cases h1 : l = [49]
  ·rw [zG (fun w => w.2.1 h1), decide_eq_true (by have := b.mpr h1; omega)]
   rfl
  ·rw [aDf ⟨h0, h1, h⟩, decide_eq_false (by have := (not_congr a).mpr h0; have := (not_congr b).mpr h1; omega)]
   rfl
theorem aBk (K : PySem.W.Frag) (c : Cls) {z : Str} (hz : TZ z) : cB K c [.p (.str z)] = .ok (.p (if nb z = true then frD (nv z) else .none)) := by
 have hl := hz.l
 obtain ⟨b, hb⟩ : ∃ b, b = decide ((tl z).head? = some 45) := ⟨_, rfl⟩
 obtain ⟨q, p, ps, e1, e2, e3, e4⟩ := u0 hb
 have sz := Txt.slice_le z (some (if b = true then 1 else 0)) none
 have tw : TZ (Txt.slice z (some (if b = true then 1 else 0)) none) := by
  refine ⟨fun c hc => hz.p c ?_, Nat.le_trans sz hl⟩
  cases b with
  | true =>
   cases e : tl z with
   | nil => rw [e] at hb; cases hb
   | cons a r =>
    rw [e] at hb
    have ea : a = 45 := Option.some.inj (of_decide_eq_true hb.symm)
    rw [ea] at e
    have hc : c ∈ tl (Txt.slice z (some 1) none) := hc
    rw [sl1 e] at hc
    exact .tail _ hc
  | false =>
   have hc : c ∈ tl (Txt.slice z (some 0) none) := hc
   rw [aEz] at hc
   exact hc
 have tq : TZ q := iB tw (by rw [e1]; exact .head _)
 have fq := aAg K c tq
 have s1 : aK (eqE false) (jP (aG 0) k7 (mPt (mC (.int 1)))) (mC (.str "-")) [some (.p (.str z)), none, none, none, none] = .ok (.p (.bool b)) := by
  have p8s : P8 (Txt.slice z none (some 1)) := fun c hc => by
   rw [yZ] at hc
   exact hz.p c (List.mem_of_mem_take hc)
  have p8m : P8 ("-" : Str) := by unfold P8; rw [s8]; intro c hc; rw [List.mem_singleton.mp hc]; decide
  refine (aH (p7 rfl rfl rfl (by omega)) rfl (eq_str false p8s p8m)).trans ?_
  have : decide (Txt.slice z none (some 1) = ("-" : Str)) = b := by
   rw [hb, decide_eq_decide]
   constructor
   ·intro w
    have w := congrArg tl w
    rw [yZ, s8] at w
    cases e : tl z with
    | nil => rw [e] at w; cases w
    | cons a r =>
     rw [e] at w
     injection w with w
     rw [w]
     rfl
   ·intro w
    refine fO ?_
    rw [yZ, s8]
    cases e : tl z with
    | nil => rw [e] at w; cases w
    | cons a r =>
     rw [e] at w
     rw [Option.some.inj w]
     rfl
  rw [this]
  rfl
 have s2 : v9 iV (jP (aG 0) (mPt (aL gA (aB (aG 1) aY))) k7) (mC (.str "/")) [some (.p (.str z)), some (.p (.bool b)), none, none, none] = .ok (.f (.list ((q :: ps).map PyData.str))) := by
  have sp := oI (z := Txt.slice z (some (if b = true then 1 else 0)) none) w1 (by omega)
  rw [e1] at sp
  have pt : mPt (aL gA (aB (aG 1) aY)) [some (.p (.str z)), some (.p (.bool b)), none, none, none] = .ok (some (if b = true then 1 else 0)) := by
   have ib : gA [.p (.bool b)] = .ok (.p (.int (if b = true then 1 else 0))) := rfl
   have cb : aL gA (aB (aG 1) aY) [some (.p (.str z)), some (.p (.bool b)), none, none, none] = .ok (.p (.int (if b = true then 1 else 0))) := c0 (bQ rfl rfl) ib
   unfold mPt
   rw [cb]
   rfl
  exact qE (z := Txt.slice z (some (if b = true then 1 else 0)) none) (p7 (z := z) rfl pt rfl (by omega)) rfl sp
 have go : ∀ {d : D}, (cF (fC (bR (aK gtE (aL iK (aB (aG 2) aY)) (mC (.int 2)))) (dW (mC (.none))) cI) (cF (dA 3 (a8 1 (bH K c) (aB (aK ixE (aG 2) (mC (.int 0))) aY))) (cF (dA 4 (mC (.int 1))) (cF (fC (bR (aK (eqE false) (aL iK (aB (aG 2) aY)) (mC (.int 2)))) (dA 4 (a8 1 (bH K c) (aB (aK ixE (aG 2) (mC (.int 1))) aY))) cI) (cF (fC (mOr (bR (mUn (mQ false) (aG 3))) (mOr (bR (mUn (mQ false) (aG 4))) (qN (bR (aG 1)) (bR (aK (eqE false) (aG 3) (mC (.int 0))))))) (dW (mC (.none))) cI) (cF (fC (qN (bR (aK (eqE false) (aL iK (aB (aG 2) aY)) (mC (.int 2)))) (mOr (bR (aK ltE (aG 4) (mC (.int 2)))) (bR (aK (eqE true) (a8 2 (aW K c) (aB (aG 3) (aB (aG 4) aY))) (mC (.int 1)))))) (dW (mC (.none))) cI) (cF (fC (bR (aG 1)) (dA 3 (aK w8 (mC (.int 0)) (aG 3))) cI) (dW (aL iT (aB (aG 3) (aB (aG 4) aY))))))))))) (eN z b (q :: ps) none none) = some (.rt (.p d)) -> cB K c [.p (.str z)] = .ok (.p d) := fun h => by
  unfold cB
  refine cX ?_
  rw [show b9 5 [.p (.str z)] = [some (.p (.str z)), none, none, none, none] from rfl]
  unfold eX
  refine (aJ (cN s1)).trans ?_
  refine (aJ (i8 s2)).trans ?_
  exact h
 have ln : ∀ (t u : Option L), aL iK (aB (aG 2) aY) (eN z b (q :: ps) t u) = .ok (.p (.int ((ps.length + 1 : Nat) : Int))) := fun t u => yC (q :: ps) (ps.length + 1) rfl rfl
 have iq : ixE (.b (.list ((q :: ps).map PyData.str))) (.p (.int 0)) = .ok (.p (.str q)) := pV (k := 0) (d := q) (xs := q :: ps) (enc := PyData.str) rfl (Nat.zero_lt_succ _) rfl
 refine go ?_
 unfold nb nv
 rw [e2]
 match ps, e1, e2, ln, iq with
 | [], e1, e2, ln, iq =>
  dsimp only
  have t1 : gtE (.p (.int ((0 + 1 : Nat) : Int))) (.p (.int 2)) = .ok (.p (.bool false)) := rfl
  refine (aJ (gJ (aX (aH (ln _ _) rfl t1)))).trans ((aJ (cN (eD (aH rfl rfl iq) rfl fq))).trans ((aJ (cN (d := .int 1) rfl)).trans ?_))
  refine (aJ (gJ (aX ((aH (ln _ _) rfl eR).trans rfl)))).trans ?_
  refine Eq.trans (b := some (Out.rt (L.p (if tp (tl p) = true then frD (iv (tl p), 1) else .none)))) ?_ rfl
  rw [e3]
  cases hw : wh (tl q) with
  | false =>
   rw [Bool.false_and, if_neg Bool.false_ne_true]
   exact cR ((gG (qW (aX (l7 rfl rfl)))).trans (bV rfl))
  | true =>
   have W := xM hw
   rw [Bool.true_and, e4 hw]
   have z0 : ((NumText.digitsVal (tl q) : Int) == 0) = decide (tl q = [48]) := by
    rw [Bool.eq_iff_iff, beq_iff_eq, decide_eq_true_iff, <- i6 W]
    omega
   have tz : bR (aK (eqE false) (aG 3) (mC (.int 0))) (eN z b [q] (some (.p (.int (NumText.digitsVal (tl q) : Int)))) (some (.p (.int 1)))) = .ok (decide (tl q = [48])) := aX ((aH rfl rfl eR).trans (by rw [z0]))
   rw [if_pos rfl]
   have i3 : bR (mUn (mQ false) (aG 3)) (eN z b [q] (some (.p (.int (NumText.digitsVal (tl q) : Int)))) (some (.p (.int 1)))) = .ok false := aX (l7 rfl rfl)
   have i4 : bR (mUn (mQ false) (aG 4)) (eN z b [q] (some (.p (.int (NumText.digitsVal (tl q) : Int)))) (some (.p (.int 1)))) = .ok false := aX (l7 rfl rfl)
   cases b with
   | true =>
    rw [Bool.true_and]
    cases hz0 : decide (tl q = [48]) with
    | true =>
     rw [hz0] at tz
     rw [Bool.not_true, if_neg Bool.false_ne_true]
     exact cR ((gG (lI i3 (lI i4 (mR (aX rfl) tz)))).trans (bV rfl))
    | false =>
     rw [hz0] at tz
     rw [Bool.not_false, if_pos rfl, if_pos rfl]
     refine (aJ (gJ (oD i3 (oD i4 (mR (aX rfl) tz))))).trans ?_
     refine (aJ (gJ (rP (aX ((aH (ln _ _) rfl eR).trans rfl))))).trans ?_
     refine (aJ ((gG (aX rfl)).trans (cN (aH rfl rfl (nM _ _))))).trans (bV ?_)
     refine (tF rfl rfl).trans ?_
     rw [Int.zero_sub]
     rfl
   | false =>
    rw [Bool.false_and, Bool.not_false, if_pos rfl, if_neg Bool.false_ne_true]
    refine (aJ (gJ (oD i3 (oD i4 (rP (aX rfl)))))).trans ?_
    refine (aJ (gJ (rP (aX ((aH (ln _ _) rfl eR).trans rfl))))).trans ?_
    exact (aJ (gJ (aX rfl))).trans (bV (tF rfl rfl))
 | [r], e1, e2, ln, iq =>
  dsimp only
  have tr : TZ r := iB tw (by rw [e1]; exact .tail _ (.head _))
  have fr := aAg K c tr
  have ir : ixE (.b (.list ([q, r].map PyData.str))) (.p (.int 1)) = .ok (.p (.str r)) := pV (k := 1) (d := q) (xs := [q, r]) (enc := PyData.str) rfl (Nat.lt_succ_self 1) rfl
  have t1 : gtE (.p (.int (([r].length + 1 : Nat) : Int))) (.p (.int 2)) = .ok (.p (.bool false)) := rfl
  refine (aJ (gJ (aX (aH (ln _ _) rfl t1)))).trans ((aJ (cN (eD (aH rfl rfl iq) rfl fq))).trans ((aJ (cN (d := .int 1) rfl)).trans ?_))
  refine (aJ ((gG (aX ((aH (ln _ _) rfl eR).trans rfl))).trans (cN (eD (aH rfl rfl ir) rfl fr)))).trans ?_
  refine Eq.trans (b := some (Out.rt (L.p (if (tp (tl p) && bt (tl r) && decide (Int.gcd (iv (tl p)) (iv (tl r)) = 1)) = true then frD (iv (tl p), iv (tl r)) else .none)))) ?_ rfl
  rw [e3]
  cases hw : wh (tl q) with
  | false =>
   rw [Bool.false_and, Bool.false_and, Bool.false_and, if_neg Bool.false_ne_true]
   exact cR ((gG (qW (aX (l7 rfl rfl)))).trans (bV rfl))
  | true =>
   have W := xM hw
   rw [Bool.true_and, if_pos rfl]
   cases hv : wh (tl r) with
   | false =>
    have nr : ¬ Wh (tl r) := fun w => by rw [yB w] at hv; cases hv
    rw [zG (fun w => nr w.2.2), Bool.and_false, Bool.false_and, if_neg Bool.false_ne_true]
    exact cR ((gG (lI (aX (l7 rfl rfl)) (qW (aX (l7 rfl rfl))))).trans (bV rfl))
   | true =>
    have V := xM hv
    rw [if_pos rfl]
    have ivr : iv (tl r) = (NumText.digitsVal (tl r) : Int) := by unfold iv; rw [if_neg (aEk V)]
    have ivp := e4 hw
    rw [aEe V]
    have z0 : ((NumText.digitsVal (tl q) : Int) == 0) = decide (tl q = [48]) := by
     rw [Bool.eq_iff_iff, beq_iff_eq, decide_eq_true_iff, <- i6 W]
     omega
    have zq : Sz 200 (NumText.digitsVal (tl q) : Int) := by
     have := aD6 W
     have : (10 : Nat) ^ 30 < 2 ^ 200 := by decide
     unfold Sz
     omega
    generalize hA : (NumText.digitsVal (tl q) : Int) = A at *
    generalize hB : (NumText.digitsVal (tl r) : Int) = B at *
    have tz : bR (aK (eqE false) (aG 3) (mC (.int 0))) (eN z b [q, r] (some (.p (.int A))) (some (.p (.int B)))) = .ok (decide (tl q = [48])) := aX ((aH rfl rfl eR).trans (by rw [z0]))
    have i3 : bR (mUn (mQ false) (aG 3)) (eN z b [q, r] (some (.p (.int A))) (some (.p (.int B)))) = .ok false := aX (l7 rfl rfl)
    have i4 : bR (mUn (mQ false) (aG 4)) (eN z b [q, r] (some (.p (.int A))) (some (.p (.int B)))) = .ok false := aX (l7 rfl rfl)
    have l2 : bR (aK (eqE false) (aL iK (aB (aG 2) aY)) (mC (.int 2))) (eN z b [q, r] (some (.p (.int A))) (some (.p (.int B)))) = .ok true := aX ((aH (ln _ _) rfl eR).trans rfl)
    have l3 : bR (aK ltE (aG 4) (mC (.int 2))) (eN z b [q, r] (some (.p (.int A))) (some (.p (.int B)))) = .ok (decide (B < 2)) := aX (aH rfl rfl rfl)
    have l4 : bR (aK (eqE true) (a8 2 (aW K c) (aB (aG 3) (aB (aG 4) aY))) (mC (.int 1))) (eN z b [q, r] (some (.p (.int A))) (some (.p (.int B)))) = .ok (!(((Int.gcd A B : Nat) : Int) == 1)) := aX (aH (jE rfl rfl (oT K c A B)) rfl ne_is)
    have gg : decide (Int.gcd (iv (tl p)) (iv (tl r)) = 1) = (((Int.gcd A B : Nat) : Int) == 1) := by
     rw [ivr, ivp, Bool.eq_iff_iff, beq_iff_eq, decide_eq_true_iff]
     have : Int.gcd (if b = true then -A else A) B = Int.gcd A B := by
      cases b with
      | true => rw [if_pos rfl, Int.neg_gcd]
      | false => rw [if_neg Bool.false_ne_true]
     rw [this]
     omega
    rw [gg]
    have first : mOr (bR (mUn (mQ false) (aG 3))) (mOr (bR (mUn (mQ false) (aG 4))) (qN (bR (aG 1)) (bR (aK (eqE false) (aG 3) (mC (.int 0)))))) (eN z b [q, r] (some (.p (.int A))) (some (.p (.int B)))) = .ok (b && decide (tl q = [48])) := by
     cases b with
     | true => exact lI i3 (lI i4 (mR (aX rfl) (tz.trans (by rw [Bool.true_and]))))
     | false => exact lI i3 (lI i4 (rP (aX rfl)))
    cases h1 : (b && decide (tl q = [48])) with
    | true =>
     rw [h1] at first
     rw [Bool.not_true, Bool.false_and, Bool.false_and, if_neg Bool.false_ne_true]
     exact cR ((gG first).trans (bV rfl))
    | false =>
     rw [h1] at first
     rw [Bool.not_false, Bool.true_and]
     refine (aJ (gJ first)).trans ?_
     cases h2 : decide (B < 2) with
     | true =>
      rw [h2] at l3
      rw [Bool.not_true, Bool.false_and, if_neg Bool.false_ne_true]
      exact cR ((gG (mR l2 (qW l3))).trans (bV rfl))
     | false =>
      rw [h2] at l3
      rw [Bool.not_false, Bool.true_and]
      cases h3 : (((Int.gcd A B : Nat) : Int) == 1) with
      | false =>
       rw [h3] at l4
       rw [if_neg Bool.false_ne_true]
       exact cR ((gG (mR l2 (lI l3 l4))).trans (bV rfl))
      | true =>
       rw [h3] at l4
       rw [if_pos rfl, ivr, ivp]
       refine (aJ (gJ (mR l2 (lI l3 l4)))).trans ?_
       cases b with
       | true =>
        refine (aJ ((gG (aX rfl)).trans (cN (aH rfl rfl (nM _ _))))).trans (bV ?_)
        refine (tF rfl rfl).trans ?_
        rw [Int.zero_sub]
        rfl
       | false => exact (aJ (gJ (aX rfl))).trans (bV (tF rfl rfl))
 | r :: r' :: ps, e1, e2, ln, iq =>
  dsimp only
  have t1 : gtE (.p (.int (((r :: r' :: ps).length + 1 : Nat) : Int))) (.p (.int 2)) = .ok (.p (.bool true)) := by
   show Res.ok (Ev.p (.bool (decide ((((r :: r' :: ps).length + 1 : Nat) : Int) > 2)))) = _
   rw [decide_eq_true (by rw [List.length_cons, List.length_cons]; omega)]
  exact cR ((gG (aX (aH (ln _ _) rfl t1))).trans (bV rfl))
theorem qZ {z : Str} {l u : Option Int} {c : Nat} (h : c ∈ tl (Txt.slice z l u)) : c ∈ tl z := by
 unfold Txt.slice at h
 split at h
 ·exact h
 ·obtain ⟨i, _, e⟩ := List.mem_filterMap.mp (show c ∈ List.filterMap _ _ from h)
  exact Array.mem_toList_iff.mpr (Array.mem_of_getElem? e)
theorem uH {z : Str} (l u : Option Int) (hz : TZ z) : TZ (Txt.slice z l u) := r9 hz (fun _ => qZ) (Txt.slice_le z l u)
theorem nC {a b : Str} {m n : Nat} (ha : TZ a) (hb : TZ b) (l1 : a.length <= m) (l2 : b.length <= n) (h : m + n <= 1000) : TZ (a ++ b) /\ (a ++ b).length <= m + n /\ dZ (.p (.str a)) (.p (.str b)) = .ok (.p (.str (a ++ b))) := by
 have e : (a ++ b).length = a.length + b.length := by rw [cS, cS, cS, iW, List.length_append]
 exact ⟨⟨ha.p.app hb.p, by omega⟩, by omega, k9 (by omega)⟩
theorem aEy {z : Str} (hz : TZ z) {i : Int} (h0 : 0 <= i) (h1 : i < z.length) : ∃ w, TZ w /\ w.length <= 1 /\ nW (.p (.str z)) (.p (.int i)) = .ok (.p (.str w)) := by
 have h1' : i < z.cps.size := h1
 have hl := hz.l
 have ec : z.cps[i.toNat]? = some (z.cps[i.toNat]'(by omega)) := Array.getElem?_eq_getElem (by omega)
 have cm : (z.cps[i.toNat]'(by omega)) ∈ tl z := Array.mem_toList_iff.mpr (Array.getElem_mem _)
 refine ⟨⟨#[z.cps[i.toNat]'(by omega)]⟩, ⟨aDm (hz.p _ cm), by show 1 <= 1000; decide⟩, Nat.le_refl _, ?_⟩
 unfold nW
 dsimp only
 rw [if_pos ⟨h0, by omega, h1⟩, ec]
def sgW : Str := " !\"#$&'()*+,-./0123456789:;<=>?@ABCDEFGHIJKLMNOPQRSTUVWXYZ[\\]^_`"
def sgV : Str := "abcdefghijklmnopqrstuvwxyz{|}~"
theorem aDb : TZ sgW /\ TZ sgV /\ sgW.length <= 100 /\ sgV.length = 30 := by
 have a : ∀ c ∈ tl sgW, c < 256 := by decide +kernel
 have b : ∀ c ∈ tl sgV, c < 256 := by decide +kernel
 have l1 : sgW.length <= 100 := by decide +kernel
 have l2 : sgV.length = 30 := by decide +kernel
 exact ⟨⟨a, by omega⟩, ⟨b, by omega⟩, l1, l2⟩
noncomputable def eJ (K : PySem.W.Frag) (c : Cls) : MS := (cF (dA 1 (mC (.str " !\"#$&'()*+,-./0123456789:;<=>?@ABCDEFGHIJKLMNOPQRSTUVWXYZ[\\]^_`"))) (cF (dA 1 (aK dZ (aG 1) (mC (.str "abcdefghijklmnopqrstuvwxyz{|}~")))) (dW (aK nW (aG 1) (aK fN (aG 0) (aL fU (aB (aG 1) aY)))))))
noncomputable def cD (K : PySem.W.Frag) (c : Cls) (ls : List L) : Res L := eB 2 (eJ K c) ls
theorem kE (K : PySem.W.Frag) (c : Cls) : ∀ ls, cD K c ls = .bad \/ eB 2 (eJ K c) ls = cD K c ls := fun _ => .inr rfl
theorem yA (K : PySem.W.Frag) (c : Cls) (v : Int) : ∃ w, TZ w /\ w.length <= 1 /\ cD K c [.p (.int v)] = .ok (.p (.str w)) := by
 obtain ⟨a, b, l1, l2⟩ := aDb
 obtain ⟨t, tl', ad⟩ := nC a b l1 (Nat.le_of_eq l2) (by decide)
 have ln : (sgW ++ sgV).length = sgW.length + sgV.length := by rw [cS, cS, cS, iW, List.length_append]
 have fp := dX (a := v) (b := ((sgW ++ sgV).length : Nat)) (by omega)
 obtain ⟨w, tw, lw, ew⟩ := aEy t fp.1 fp.2
 refine ⟨w, tw, lw, ?_⟩
 unfold cD
 refine cX ?_
 rw [show b9 2 [.p (.int v)] = [some (.p (.int v)), none] from rfl]
 unfold eJ
 refine (aJ (cN (d := .str sgW) rfl)).trans ((aJ (cN (aH rfl rfl ad))).trans (bV ?_))
 exact aH rfl (aH rfl (c0 (bQ rfl rfl) (vN (by omega))) (dS (by omega))) ew
noncomputable def eF (K : PySem.W.Frag) (c : Cls) : MS := (cF (dA 3 (aK fN (aG 2) (aK dZ (aL fU (aB (aG 0) aY)) (mC (.int 1))))) (cF (dA 4 (a8 1 (cD K c) (aB (aK gB (aG 2) (mC (.int 1009))) aY))) (cF (fC (bR (aK (eqE false) (aK fN (aG 1) (mC (.int 4))) (mC (.int 1)))) (dA 4 (aK nW (mC (.str "0123456789-/ ;")) (aK fN (aK gB (aG 2) (mC (.int 1009))) (mC (.int 14))))) cI) (cF (fC (bR (aK ltE (aK fN (aG 1) (mC (.int 4))) (mC (.int 2)))) (dW (aK dZ (aK dZ (jP (aG 0) k7 (mPt (aG 3))) (aG 4)) (jP (aG 0) (mPt (aG 3)) k7))) cI) (cF (fC (bR (aK (eqE false) (aK fN (aG 1) (mC (.int 4))) (mC (.int 2)))) (dW (aK dZ (jP (aG 0) k7 (mPt (aG 3))) (jP (aG 0) (mPt (aK dZ (aG 3) (mC (.int 1)))) k7))) cI) (dW (aK dZ (aK dZ (jP (aG 0) k7 (mPt (aG 3))) (aG 4)) (jP (aG 0) (mPt (aK dZ (aG 3) (mC (.int 1)))) k7))))))))
noncomputable def bG (K : PySem.W.Frag) (c : Cls) (ls : List L) : Res L := eB 5 (eF K c) ls
theorem kQ (K : PySem.W.Frag) (c : Cls) : ∀ ls, bG K c ls = .bad \/ eB 5 (eF K c) ls = bG K c ls := fun _ => .inr rfl
theorem aCi (K : PySem.W.Frag) (c : Cls) {z : Str} (hz : P8 z) (hl : z.length <= 400) (way cell : Int) : ∃ w, TZ w /\ bG K c [.p (.str z), .p (.int way), .p (.int cell)] = .ok (.p (.str w)) := by
 have tz : TZ z := ⟨hz, by omega⟩
 have d9 : jJ cell 1009 := ⟨by decide, (show Sz 100 (1009 : Int) by unfold Sz; decide).mono (by decide)⟩
 have d4 : (4 : Int) ≠ 0 := by decide
 obtain ⟨s, ts, ls, es⟩ := yA K c (cell.fdiv 1009)
 have s3 : (aK fN (aG 2) (aK dZ (aL fU (aB (aG 0) aY)) (mC (.int 1)))) [some (.p (.str z)), some (.p (.int way)), some (.p (.int cell)), none, none] = .ok (.p (.int (cell.fmod ((z.length : Nat) + 1)))) := aH rfl (aH (c0 (bQ rfl rfl) (vN (by omega))) rfl rfl) (dS (by omega))
 generalize cell.fmod ((z.length : Nat) + 1) = a at s3
 obtain ⟨s', ts', ls', es'⟩ : ∃ s', TZ s' /\ s'.length <= 1 /\ (fC (bR (aK (eqE false) (aK fN (aG 1) (mC (.int 4))) (mC (.int 1)))) (dA 4 (aK nW (mC (.str "0123456789-/ ;")) (aK fN (aK gB (aG 2) (mC (.int 1009))) (mC (.int 14))))) cI) [some (.p (.str z)), some (.p (.int way)), some (.p (.int cell)), some (.p (.int a)), some (.p (.str s))] = some (.nx [some (.p (.str z)), some (.p (.int way)), some (.p (.int cell)), some (.p (.int a)), some (.p (.str s'))]) := by
  have tw : TZ ("0123456789-/ ;" : Str) /\ ("0123456789-/ ;" : Str).length = 14 := by
   have a : ∀ c ∈ tl ("0123456789-/ ;" : Str), c < 256 := by decide +kernel
   have l : ("0123456789-/ ;" : Str).length = 14 := by decide +kernel
   exact ⟨⟨a, by omega⟩, l⟩
  have fp := dX (a := cell.fdiv 1009) (b := 14) (by decide)
  obtain ⟨w, tw, lw, ew⟩ := aEy tw.1 fp.1 (by rw [tw.2]; exact fp.2)
  by_cases h : (way.fmod 4 == 1) = true
  ·exact ⟨w, tw, lw, (gG (aX ((aH (aH rfl rfl (dS d4)) rfl eR).trans (by rw [h])))).trans (cN (aH rfl (aH (aH rfl rfl (iF d9)) rfl (dS (by decide))) ew))⟩
  ·exact ⟨s, ts, ls, gJ (aX ((aH (aH rfl rfl (dS d4)) rfl eR).trans (by rw [eq_false_of_ne_true h])))⟩
 have go : ∀ {w : Str}, (cF (fC (bR (aK ltE (aK fN (aG 1) (mC (.int 4))) (mC (.int 2)))) (dW (aK dZ (aK dZ (jP (aG 0) k7 (mPt (aG 3))) (aG 4)) (jP (aG 0) (mPt (aG 3)) k7))) cI) (cF (fC (bR (aK (eqE false) (aK fN (aG 1) (mC (.int 4))) (mC (.int 2)))) (dW (aK dZ (jP (aG 0) k7 (mPt (aG 3))) (jP (aG 0) (mPt (aK dZ (aG 3) (mC (.int 1)))) k7))) cI) (dW (aK dZ (aK dZ (jP (aG 0) k7 (mPt (aG 3))) (aG 4)) (jP (aG 0) (mPt (aK dZ (aG 3) (mC (.int 1)))) k7))))) [some (.p (.str z)), some (.p (.int way)), some (.p (.int cell)), some (.p (.int a)), some (.p (.str s'))] = some (.rt (.p (.str w))) -> bG K c [.p (.str z), .p (.int way), .p (.int cell)] = .ok (.p (.str w)) := fun h => by
  unfold bG
  refine cX ?_
  rw [show b9 5 [.p (.str z), .p (.int way), .p (.int cell)] = [some (.p (.str z)), some (.p (.int way)), some (.p (.int cell)), none, none] from rfl]
  unfold eF
  refine (aJ (cN s3)).trans ?_
  refine (aJ (cN (eD (aH rfl rfl (iF d9)) rfl es))).trans ?_
  exact (aJ es').trans h
 have q1 : ∀ l u, TZ (Txt.slice z l u) /\ (Txt.slice z l u).length <= 400 := fun l u => ⟨uH l u tz, Nat.le_trans (Txt.slice_le z l u) hl⟩
 have l5 : z.length <= 100000 := by omega
 have sA : jP (aG 0) k7 (mPt (aG 3)) [some (.p (.str z)), some (.p (.int way)), some (.p (.int cell)), some (.p (.int a)), some (.p (.str s'))] = .ok (.p (.str (Txt.slice z none (some a)))) := p7 (z := z) rfl rfl rfl l5
 have sB : jP (aG 0) (mPt (aG 3)) k7 [some (.p (.str z)), some (.p (.int way)), some (.p (.int cell)), some (.p (.int a)), some (.p (.str s'))] = .ok (.p (.str (Txt.slice z (some a) none))) := p7 (z := z) rfl rfl rfl l5
 have sC : jP (aG 0) (mPt (aK dZ (aG 3) (mC (.int 1)))) k7 [some (.p (.str z)), some (.p (.int way)), some (.p (.int cell)), some (.p (.int a)), some (.p (.str s'))] = .ok (.p (.str (Txt.slice z (some (a + 1)) none))) := p7 (z := z) rfl rfl rfl l5
 obtain ⟨tA, lA⟩ := q1 none (some a)
 obtain ⟨tB, lB⟩ := q1 (some a) none
 obtain ⟨tC, lC⟩ := q1 (some (a + 1)) none
 obtain ⟨tD, lD, aD⟩ := nC tA ts' lA ls' (by decide)
 have t2 : bR (aK ltE (aK fN (aG 1) (mC (.int 4))) (mC (.int 2))) [some (.p (.str z)), some (.p (.int way)), some (.p (.int cell)), some (.p (.int a)), some (.p (.str s'))] = .ok (decide (way.fmod 4 < 2)) := aX (aH (aH rfl rfl (dS d4)) rfl rfl)
 have t3 : bR (aK (eqE false) (aK fN (aG 1) (mC (.int 4))) (mC (.int 2))) [some (.p (.str z)), some (.p (.int way)), some (.p (.int cell)), some (.p (.int a)), some (.p (.str s'))] = .ok (way.fmod 4 == 2) := aX (aH (aH rfl rfl (dS d4)) rfl eR)
 cases h2 : decide (way.fmod 4 < 2) with
 | true =>
  rw [h2] at t2
  obtain ⟨tE, _, aE⟩ := nC tD tB lD lB (by decide)
  exact ⟨_, tE, go (cR ((gG t2).trans (bV (aH (aH sA rfl aD) sB aE))))⟩
 | false =>
  rw [h2] at t2
  cases h3 : (way.fmod 4 == 2) with
  | true =>
   rw [h3] at t3
   obtain ⟨tE, _, aE⟩ := nC tA tC lA lC (by decide)
   exact ⟨_, tE, go ((aJ (gJ t2)).trans (cR ((gG t3).trans (bV (aH sA sC aE)))))⟩
  | false =>
   rw [h3] at t3
   obtain ⟨tE, _, aE⟩ := nC tD tC lD lC (by decide)
   exact ⟨_, tE, go ((aJ (gJ t2)).trans ((aJ (gJ t3)).trans (bV (aH (aH sA rfl aD) sC aE))))⟩
def Thg (K : PySem.W.Frag) (d : D) : Prop := (∃ z, TZ z /\ d = .str z) \/ jS K (.type "str") (.p d) = .ok (.p (.bool false))
def lg : Str := "1" ++ Txt.mul "0" 29
def odT : List Str := ["", "-", "/", "-0", "00", "01", "1/", "/2", "2/4", "3/1", "0/5", "0/1", "1/0", "1/-2", "--1", "+1", "1/2/3", lg, lg ++ "0", "-" ++ lg, "7/" ++ lg, "7/" ++ lg ++ "0", " 1", "1 ", "1_0", "1.5", "-1/3", "-2/3", "1\n", "1/2\n"]
def odR : List D := [.none, .int 3, .tuple [.int 1, .int 2], .list [.str "1"], .bool true, .dict []]
theorem aAi (K : PySem.W.Frag) (c : Cls) (hk : gH K c) : ∀ d ∈ odT.map PyData.str ++ odR, Thg K d := fun d hd => by
 have ht : ∀ z ∈ odT, (∀ c ∈ tl z, c < 256) /\ z.length <= 1000 := by decide +kernel
 rcases List.mem_append.mp hd with h | h
 ·obtain ⟨z, hz, rfl⟩ := List.mem_map.mp h
  exact .inl ⟨z, ⟨(ht z hz).1, (ht z hz).2⟩, rfl⟩
 ·right
  simp only [odR, List.mem_cons, List.not_mem_nil, or_false] at h
  rcases h with rfl | rfl | rfl | rfl | rfl | rfl
  ·simp [jS, dat, tyD, hk.sn]
  ·simp [jS, dat, tyD, hk.si]
  ·simp [jS, dat, tyD, hk.st]
  ·simp [jS, dat, tyD, hk.sl]
  ·simp [jS, dat, tyD, hk.sb]
  ·simp [jS, dat, tyD, hk.sd]
noncomputable def gO (K : PySem.W.Frag) (c : Cls) : MS := (cF (dA 1 (aK dZ (mC (.str "1")) (aK oH (mC (.str "0")) (mC (.int 29))))) (cF (dA 2 (aL i5 (aB (mC (.str "")) (aB (mC (.str "-")) (aB (mC (.str "/")) (aB (mC (.str "-0")) (aB (mC (.str "00")) (aB (mC (.str "01")) (aB (mC (.str "1/")) (aB (mC (.str "/2")) (aB (mC (.str "2/4")) (aB (mC (.str "3/1")) (aB (mC (.str "0/5")) (aB (mC (.str "0/1")) (aB (mC (.str "1/0")) (aB (mC (.str "1/-2")) (aB (mC (.str "--1")) (aB (mC (.str "+1")) (aB (mC (.str "1/2/3")) aY))))))))))))))))))) (cF (dA 2 (aK dZ (aG 2) (aL i5 (aB (aG 1) (aB (aK dZ (aG 1) (mC (.str "0"))) (aB (aK dZ (mC (.str "-")) (aG 1)) (aB (aK dZ (mC (.str "7/")) (aG 1)) (aB (aK dZ (aK dZ (mC (.str "7/")) (aG 1)) (mC (.str "0"))) aY)))))))) (cF (dA 2 (aK dZ (aG 2) (aL i5 (aB (mC (.str " 1")) (aB (mC (.str "1 ")) (aB (mC (.str "1_0")) (aB (mC (.str "1.5")) (aB (mC (.str "-1/3")) (aB (mC (.str "-2/3")) (aB (mC (.str "1\n")) (aB (mC (.str "1/2\n")) aY))))))))))) (cF (dA 2 (aK dZ (aG 2) (aL i5 (aB (mC (.none)) (aB (mC (.int 3)) (aB (aL iT (aB (mC (.int 1)) (aB (mC (.int 2)) aY))) (aB (aL i5 (aB (mC (.str "1")) aY)) (aB (mC (.bool true)) (aB mDT aY))))))))) (dW (aK ixE (aG 2) (aK fN (aG 0) (aL iK (aB (aG 2) aY))))))))))
noncomputable def dC (K : PySem.W.Frag) (c : Cls) (ls : List L) : Res L := eB 3 (gO K c) ls
theorem nY (K : PySem.W.Frag) (c : Cls) : ∀ ls, dC K c ls = .bad \/ eB 3 (gO K c) ls = dC K c ls := fun _ => .inr rfl
theorem wD (K : PySem.W.Frag) (c : Cls) (hk : gH K c) (v : Int) : ∃ d, Thg K d /\ dC K c [.p (.int v)] = .ok (.p d) := by
 have ll : lg.length = 30 := by decide +kernel
 have fp := dX (a := v) (b := 36) (by decide)
 obtain ⟨k, hk1⟩ := Int.eq_ofNat_of_zero_le fp.1
 have k36 : k < (odT.map PyData.str ++ odR).length := by show k < 36; omega
 refine ⟨(odT.map PyData.str ++ odR).getD k .none, aAi K c hk _ ?_, ?_⟩
 ·rw [List.getD_eq_getElem?_getD, List.getElem?_eq_getElem k36]
  exact List.getElem_mem _
 unfold dC
 refine cX ?_
 rw [show b9 3 [.p (.int v)] = [some (.p (.int v)), none, none] from rfl]
 unfold gO
 have a1 : dZ (.p (.str "1")) (.p (.str (Txt.mul "0" 29))) = .ok (.p (.str lg)) := k9 (by decide +kernel)
 have m1 : oH (.p (.str "0")) (.p (.int 29)) = .ok (.p (.str (Txt.mul "0" 29))) := by unfold oH; dsimp only; rw [if_pos (by decide +kernel)]
 have a2 : dZ (.p (.str lg)) (.p (.str "0")) = .ok (.p (.str (lg ++ "0"))) := k9 (by decide +kernel)
 have a3 : dZ (.p (.str "-")) (.p (.str lg)) = .ok (.p (.str ("-" ++ lg))) := k9 (by decide +kernel)
 have a4 : dZ (.p (.str "7/")) (.p (.str lg)) = .ok (.p (.str ("7/" ++ lg))) := k9 (by decide +kernel)
 have a5 : dZ (.p (.str ("7/" ++ lg))) (.p (.str "0")) = .ok (.p (.str ("7/" ++ lg ++ "0"))) := k9 (by decide +kernel)
 have la : ∀ (as bs : List D), as.length + bs.length <= 100000 -> dZ (.b (.list as)) (.b (.list bs)) = .ok (.f (.list (as ++ bs))) := fun as bs h => if_pos h
 refine (aJ (cN (aH rfl (aH rfl rfl m1) a1))).trans ?_
 refine (aJ (i8 (d := .list ((odT.take 17).map PyData.str)) rfl)).trans ?_
 refine (aJ (i8 (aH (y := .f (.list [.str lg, .str (lg ++ "0"), .str ("-" ++ lg), .str ("7/" ++ lg), .str ("7/" ++ lg ++ "0")])) rfl ?_ (la _ _ (by show 17 + 5 <= 100000; decide))))).trans ?_
 ·refine c0 (bQ rfl (bQ (aH rfl rfl a2) (bQ (aH rfl rfl a3) (bQ (aH rfl rfl a4) (bQ (aH (aH rfl rfl a4) rfl a5) rfl))))) rfl
 refine (aJ (i8 (aH (y := .f (.list ((odT.drop 22).map PyData.str))) rfl rfl (la _ _ (by show 22 + 8 <= 100000; decide))))).trans ?_
 refine (aJ (i8 (aH (y := .f (.list odR)) rfl rfl (la _ _ (by show 30 + 6 <= 100000; decide))))).trans (bV ?_)
 refine aH rfl (aH rfl (aCo rfl rfl) (dS (by show (36 : Int) ≠ 0; decide))) ?_
 exact pV (k := k) (d := PyData.none) (xs := odT.map PyData.str ++ odR) (enc := id) (by rw [List.map_id]; rfl) k36 hk1
def oR (n : Nat) : List D := (List.range 11).map fun (k : Nat) => PyData.bool (decide (k = 0 \/ k = n))
theorem x5 (n : Nat) : SeqAt.shaped (.list (oR n)) = true := xO (fun (k : Nat) => PyData.bool (decide (k = 0 \/ k = n))) (fun _ => rfl) (fun _ => Nat.zero_le _) _
theorem isx {K : PySem.W.Frag} {C : Addr} {v : Value} {b : Bool} (h : PySem.W.ExcK K C) (e : PySem.W.kitOne K (.ref C) v = some b) : iI K v (.x C) = .ok (.p (.bool b)) := by
 unfold iI
 dsimp only
 rw [if_pos h, e]
noncomputable def fK (K : PySem.W.Frag) (c : Cls) : MS := (cF (dA 1 (aL i5 (aB (mUn (iI K (.type "ValueError")) (aG 0)) (aB (mUn (iI K (.ref c.NoFraction)) (aG 0)) (aB (mUn (iI K (.ref c.NoRoof)) (aG 0)) aY))))) (cF (dA 1 (aK dZ (aG 1) (aL i5 (aB (mUn (iI K (.ref c.TooSteep)) (aG 0)) (aB (mUn (iI K (.ref c.TooMany)) (aG 0)) (aB (mUn (iI K (.ref c.NoNumber)) (aG 0)) aY)))))) (cF (dA 1 (aK dZ (aG 1) (aL i5 (aB (mUn (iI K (.ref c.NoCorner)) (aG 0)) (aB (mUn (iI K (.ref c.NoDealing)) (aG 0)) (aB (mUn (iI K (.ref c.NoRow)) (aG 0)) aY)))))) (dW (aK dZ (aG 1) (aL i5 (aB (mUn (iI K (.ref c.NoText)) (aG 0)) (aB (mUn (iI K (.ref c.NoName)) (aG 0)) aY))))))))
noncomputable def cM (K : PySem.W.Frag) (c : Cls) (ls : List L) : Res L := eB 2 (fK K c) ls
theorem mF (K : PySem.W.Frag) (c : Cls) : ∀ ls, cM K c ls = .bad \/ eB 2 (fK K c) ls = cM K c ls := fun _ => .inr rfl
theorem uN (K : PySem.W.Frag) (c : Cls) (hk : gH K c) : cM K c [.x c.NoNumber] = .ok (.o (.list (oR 5))) := by
 have a0 := isx hk.nx hk.nv
 have a1 := isx hk.nx hk.nn
 have b0 := isx hk.nx hk.n0
 have b1 := isx hk.nx hk.n1
 have b2 := isx hk.nx hk.n2
 have b3 := isx hk.nx hk.n3
 have b4 := isx hk.nx hk.n4
 have b5 := isx hk.nx hk.n5
 have b6 := isx hk.nx hk.n6
 have b7 := isx hk.nx hk.n7
 have b8 := isx hk.nx hk.n8
 unfold cM
 refine cX ?_
 rw [show b9 2 [.x c.NoNumber] = [some (.x c.NoNumber), none] from rfl]
 unfold fK
 refine (aJ (i8 (d := .list [.bool true, .bool false, .bool false]) ?_)).trans ((aJ (i8 (d := .list [.bool true, .bool false, .bool false, .bool false, .bool false, .bool true]) ?_)).trans ((aJ (i8 (d := .list [.bool true, .bool false, .bool false, .bool false, .bool false, .bool true, .bool false, .bool false, .bool false]) ?_)).trans (aA5 (d := .list (oR 5)) ?_)))
 ·ktr_call 2 ⟨a0, b0, b1⟩
 ·ktr_call 2 ⟨b2, b3, a1⟩
  rfl
 ·ktr_call 2 ⟨b4, b5, b6⟩
  rfl
 ·ktr_call 2 ⟨b7, b8⟩
  rfl
noncomputable def fP (K : PySem.W.Frag) (c : Cls) : En -> Res Ev := (aK (inE false) (aG 0) (aL iT (aB (mC (.int 0)) (aB (aG 1) aY))))
noncomputable def gF (K : PySem.W.Frag) (c : Cls) : MS := (dW (lW 1 [0] (aC1 rW (aB (mC (.int 11)) aY)) (eU 0) uD (fP K c)))
noncomputable def cZ (K : PySem.W.Frag) (c : Cls) (ls : List L) : Res L := eB 1 (gF K c) ls
theorem mK (K : PySem.W.Frag) (c : Cls) : ∀ ls, cZ K c ls = .bad \/ eB 1 (gF K c) ls = cZ K c ls := fun _ => .inr rfl
theorem xQ (K : PySem.W.Frag) (c : Cls) : cZ K c [.p (.int 5)] = .ok (.o (.list (oR 5))) := by
 have hm : u5 (eH 1 [0] (eU 0) uD (fP K c) [some (.p (.int 5))]) ((List.range 11).map fun (k : Nat) => PyData.int (0 + (k : Int))) = some ((List.range 11).map fun (k : Nat) => PyData.bool (decide (k = 0 \/ k = 5))) := jO (enc := fun (k : Nat) => PyData.int (0 + (k : Int))) (List.range 11) (fun k hk => by
  have e : (List.any [PyData.int 0, .int 5] fun e => PyData.eqv e (.int (0 + (k : Int)))) = decide (k = 0 \/ k = 5) := by
   simp [nD]
   rw [Bool.eq_iff_iff]
   simp
   omega
  simp [eH, eU, zB, aA1, uD, fP, aK, aG, mC, aL, aB, aY, iT, mT, Res.bind, Ev.c, inE, jH, mG]
  simp at e
  exact e)
 have hr : (aC1 rW (aB (mC (.int 11)) aY)) [some (.p (.int 5))] = .ok ((List.range 11).map fun (k : Nat) => PyData.int (0 + (k : Int))) := rfl
 unfold cZ
 refine cX ?_
 rw [show b9 1 [.p (.int 5)] = [some (.p (.int 5))] from rfl]
 unfold gF
 exact aA5 (uA (n := 1) (js := [0]) hr (by rw [List.length_map, List.length_range]; decide) hm)
theorem aCq {K : PySem.W.Frag} {RE C : Addr} {i : Nat} {f fh : MS} {en e e' : En} (h : f en = some (.ex C e)) (hr : PySem.W.exmOne K (.ref C) (.ref RE) = some true) (h2 : fh (e.set i (some (.x C))) = some (.nx e')) : yS K RE i f fh en = some (.nx (e'.set i none)) := by
 unfold yS
 rw [h]
 dsimp only
 rw [if_pos hr, h2]
theorem aA6 {K : PySem.W.Frag} {RE : Addr} {i : Nat} {f fh : MS} {en e : En} (h : f en = some (.nx e)) : yS K RE i f fh en = some (.nx e) := by
 unfold yS
 rw [h]
noncomputable def eP (K : PySem.W.Frag) (c : Cls) : MS := (cF (dA 1 (mC (.none))) (cF (yS K c.RoofError 2 (dA 1 (a8 1 (bJ K c) (aB (aG 0) aY))) (dA 1 (a8 1 (cM K c) (aB (aG 2) aY)))) (dW (aG 1))))
noncomputable def bL (K : PySem.W.Frag) (c : Cls) (ls : List L) : Res L := eB 3 (eP K c) ls
theorem lQ (K : PySem.W.Frag) (c : Cls) : ∀ ls, bL K c ls = .bad \/ eB 3 (eP K c) ls = bL K c ls := fun _ => .inr rfl
theorem aBl (K : PySem.W.Frag) (c : Cls) (hk : gH K c) {d : D} (h : bJ K c [.p d] = .exc c.NoNumber) : bL K c [.p d] = .ok (.o (.list (oR 5))) := by
 have e1 : (dA 1 (a8 1 (bJ K c) (aB (aG 0) aY))) [some (.p d), some (.p .none), none] = some (.ex c.NoNumber [some (.p d), some (.p .none), none]) := by
  ktr_call 3 ⟨dA, a8, aB, aY, aG, Res.bind, Ev.c, nA, hR, xA, h⟩
 have e2 : (dA 1 (a8 1 (cM K c) (aB (aG 2) aY))) [some (.p d), some (.p .none), some (.x c.NoNumber)] = some (.nx [some (.p d), some (.o (.list (oR 5))), some (.x c.NoNumber)]) := i8 (by ktr_call 3 ⟨a8, aB, aY, aG, Res.bind, Ev.c, nA, hR, xA, uN K c hk, u3⟩)
 unfold bL
 refine cX ?_
 rw [show b9 3 [.p d] = [some (.p d), none, none] from rfl]
 unfold eP
 refine (aJ (cN (d := .none) rfl)).trans ?_
 exact (aJ (aCq e1 hk.nr e2)).trans rfl
theorem aB7 (K : PySem.W.Frag) (c : Cls) {d a : D} (h : bJ K c [.p d] = .ok (.p a)) : bL K c [.p d] = .ok (.p a) := by
 unfold bL
 refine cX ?_
 rw [show b9 3 [.p d] = [some (.p d), none, none] from rfl]
 unfold eP
 refine (aJ (cN (d := .none) rfl)).trans ?_
 exact (aJ (aA6 (cN (eD rfl rfl h)))).trans rfl
theorem aD8 {z : Str} (h : nb z = true) : FR.Fr (nv z) := by
 unfold nb at h
 unfold nv
 match Txt.split z "/", h with
 | [p], _ => exact ⟨by show (1 : Int) <= 1; decide, Int.gcd_one_right _⟩
 | [p, q], h =>
  have h := Bool.and_eq_true_iff.mp h
  have h1 := Bool.and_eq_true_iff.mp h.1
  have b := (xT (xF h1.2)).2
  exact ⟨by show (1 : Int) <= iv (tl q); omega, of_decide_eq_true h.2⟩
noncomputable def dI (K : PySem.W.Frag) (c : Cls) : MS := (cF (dA 1 (mC (.none))) (cF (fC (bR (mUn (jS K (.type "str")) (aG 0))) (dA 1 (a8 1 (cB K c) (aB (aG 0) aY))) cI) (cF (dA 2 (a8 1 (bL K c) (aB (aG 0) aY))) (cF (fC (bR (mUn (mQ false) (aG 1))) (dW (aK (eqE false) (aG 2) (a8 1 (cZ K c) (aB (mC (.int 5)) aY)))) cI) (dW (kA (a8 1 (aZ K c) (aB (aG 2) aY)) (aK (eqE false) (aG 2) (aG 1))))))))
noncomputable def bC (K : PySem.W.Frag) (c : Cls) (ls : List L) : Res L := eB 3 (dI K c) ls
theorem hU (K : PySem.W.Frag) (c : Cls) : ∀ ls, bC K c ls = .bad \/ eB 3 (dI K c) ls = bC K c ls := fun _ => .inr rfl
theorem vD (K : PySem.W.Frag) (c : Cls) (hk : gH K c) {d : D} (h : Thg K d) : bC K c [.p d] = .ok (.p (.bool true)) := by
 unfold bC
 refine cX ?_
 rw [show b9 3 [.p d] = [some (.p d), none, none] from rfl]
 unfold dI
 refine (aJ (cN (d := .none) rfl)).trans ?_
 have no : ∀ {A : MS}, bJ K c [.p d] = .exc c.NoNumber -> (cF (dA 2 (a8 1 (bL K c) (aB (aG 0) aY))) (cF (fC (bR (mUn (mQ false) (aG 1))) (dW (aK (eqE false) (aG 2) (a8 1 (cZ K c) (aB (mC (.int 5)) aY)))) cI) (dW (kA (a8 1 (aZ K c) (aB (aG 2) aY)) (aK (eqE false) (aG 2) (aG 1)))))) [some (.p d), some (.p .none), none] = some (.rt (.p (.bool true))) := fun hn => by
  refine (aJ (i8 (eD rfl rfl (aBl K c hk hn)))).trans ?_
  exact cR ((gG (aX (l7 rfl rfl))).trans (bV (aH rfl (eD rfl rfl (xQ K c)) (mB (d := .list (oR 5)) rfl rfl (x5 5) false))))
 rcases h with ⟨z, tz, rfl⟩ | h
 ·have ln := aBk K c tz
  cases hn : nb z with
  | false =>
   rw [hn, if_neg Bool.false_ne_true] at ln
   refine (aJ ((gG (aX (l7 rfl (uV hk z)))).trans (cN (eD rfl rfl ln)))).trans (no (A := cI) (wU K c ?_))
   rw [aCl K c hk tz, hn]
  | true =>
   rw [hn, if_pos rfl] at ln
   refine (aJ ((gG (aX (l7 rfl (uV hk z)))).trans (cN (eD rfl rfl ln)))).trans ?_
   refine (aJ (cN (eD rfl rfl (aB7 K c (aBc K c hk tz hn))))).trans ?_
   refine (aJ (gJ (aX (l7 rfl rfl)))).trans (bV ?_)
   exact pH (eD rfl rfl (zV K c hk (aD8 hn))) (aH rfl rfl (mB rfl rfl (zN _) false))
 ·exact (aJ (gJ (aX (l7 rfl h)))).trans (no (A := cI) (wU K c (aBz K c h)))
theorem zT {n : Nat} (h : n < 10 ^ 30) : Wh (dg n) := by
 refine ⟨fun z => aAf n (List.length_eq_zero_iff.mp z), wM (by decide) h, fun c hc => decide_eq_true (mW n c hc), ?_⟩
 by_cases z : n = 0
 ·exact .inl (by rw [z]; exact aCk (by decide))
 ·obtain ⟨a, r, e, ha⟩ := yG z
  refine .inr fun w => ?_
  rw [e] at w
  have := Option.some.inj w
  omega
theorem aCm {i : Int} (h : i.natAbs < 10 ^ 30) : tpP (sg i) /\ iv (sg i) = i := by
 have w := zT h
 unfold sg tpP iv
 by_cases n : i < 0
 ·rw [if_pos n, if_pos (show (45 :: dg i.natAbs).head? = some 45 from rfl), if_pos (show (45 :: dg i.natAbs).head? = some 45 from rfl)]
  refine ⟨⟨fun e => ?_, w⟩, ?_⟩
  ·have := (i6 w).mpr (List.cons.inj e).2
   rw [jB] at this
   omega
  ·show -((NumText.digitsVal (dg i.natAbs) : Nat) : Int) = i
   rw [jB]
   omega
 ·rw [if_neg n, if_neg (aEk w), if_neg (aEk w), jB]
  exact ⟨w, by omega⟩
theorem aDe {i : Int} (h : i.natAbs < 10 ^ 30) (h2 : 2 <= i) : btP (sg i) := by
 have w := zT h
 unfold sg
 rw [if_neg (by omega)]
 refine ⟨fun e => ?_, fun e => ?_, w⟩
 ·have := (i6 w).mpr e
  rw [jB] at this
  omega
 ·have := (tO w).mpr e
  rw [jB] at this
  omega
theorem aDx {h : Int × Int} (g : GH h) : nb (nT h) = true /\ nv (nT h) = h := by
 have a := aCm g.t
 have b := aCm g.b
 have e := vR h
 unfold nb nv
 by_cases o : h.2 = 1
 ·rw [if_pos o] at e
  rw [e]
  show tp (tl (tx h.1)) = true /\ (iv (tl (tx h.1)), (1 : Int)) = h
  rw [p9, a.2]
  exact ⟨aC2 a.1, by rw [<- o]⟩
 ·rw [if_neg o] at e
  rw [e]
  show (tp (tl (tx h.1)) && bt (tl (tx h.2)) && decide (Int.gcd (iv (tl (tx h.1))) (iv (tl (tx h.2))) = 1)) = true /\ (iv (tl (tx h.1)), iv (tl (tx h.2))) = h
  have p := g.f.pos
  rw [p9, p9, a.2, b.2, aC2 a.1, aDf (aDe g.b (by omega)), decide_eq_true g.f.low]
  exact ⟨rfl, rfl⟩
noncomputable def oZ (K : PySem.W.Frag) (c : Cls) : En -> Res Ev := (a8 1 (bC K c) (aB (aG 0) aY))
noncomputable def l8 (K : PySem.W.Frag) (c : Cls) : MS := (jT 5 (a8 1 (dC K c) (aB (a8 2 (aQ K c) (aB (aG 0) (aB (aK dZ (mC (.int 3)) (aG 6)) aY))) aY)))
noncomputable def vM (K : PySem.W.Frag) (c : Cls) : MS := (cF (dA 1 (a8 2 (aQ K c) (aB (aG 0) (aB (mC (.int 0)) aY)))) (cF (dA 2 (a8 2 (bI K c) (aB (a8 2 (aQ K c) (aB (aG 0) (aB (mC (.int 1)) aY))) (aB (aG 1) aY)))) (cF (dA 3 (a8 1 (cK K c) (aB (aG 2) aY))) (cF (fC (mOr (kW (bR (mUn (jS K (.type "str")) (aG 3)))) (mOr (bR (aK (eqE true) (aG 3) (a8 1 (bD K c) (aB (aG 2) aY)))) (bR (aK (eqE true) (a8 1 (bL K c) (aB (aG 3) aY)) (aG 2))))) (dW (mC (.bool false))) cI) (cF (dA 4 (aG 3)) (cF (fC (mOr (bR (aK (eqE false) (aK fN (aK gB (aG 1) (mC (.int 3))) (mC (.int 4))) (mC (.int 1)))) (bR (aK (eqE false) (aK fN (aK gB (aG 1) (mC (.int 3))) (mC (.int 4))) (mC (.int 2))))) (dA 4 (a8 3 (bG K c) (aB (aG 3) (aB (aK gB (aG 1) (mC (.int 12))) (aB (aK fN (a8 2 (aQ K c) (aB (aG 0) (aB (mC (.int 2)) aY))) (aK pX (mC (.int 10)) (mC (.int 20)))) aY))))) cI) (cF (fC (bR (aK (eqE false) (aK fN (aK gB (aG 1) (mC (.int 3))) (mC (.int 4))) (mC (.int 3)))) (dA 4 (a8 1 (dC K c) (aB (a8 2 (aQ K c) (aB (aG 0) (aB (mC (.int 2)) aY))) aY))) cI) (cF (dA 5 (aL i5 (aB (aG 4) (aB (aG 4) aY)))) (cF (zH (aC1 rW (aB (mC (.int 5)) aY)) (eU 6) (l8 K c)) (fun en => (dW (aL uC (aB (lW 1 [] (aEq (aG 5)) (eU 0) uD (oZ K c)) aY))) (frz 5 en)))))))))))
noncomputable def qB (K : PySem.W.Frag) (c : Cls) (ls : List L) : Res L := eB 7 (vM K c) ls
theorem aA2 (K : PySem.W.Frag) (c : Cls) : ∀ ls, qB K c ls = .bad \/ eB 7 (vM K c) ls = qB K c ls := fun _ => .inr rfl
theorem sS (K : PySem.W.Frag) (c : Cls) (hk : gH K c) (ns : List Int) (A B C E : Option L) : ∀ (ks : List Nat) (ds : List D) (r : Option L), (∀ k ∈ ks, k <= 10) -> ds.length + ks.length <= 100 -> (∀ d ∈ ds, Thg K d) -> ∃ ds' q, (∀ d ∈ ds', Thg K d) /\ ds'.length <= 100 /\ iL (eU 6) (l8 K c) (ks.map fun (k : Nat) => PyData.int (k : Int)) [some (.p (.list (ns.map .int))), A, B, C, E, some (.o (.list ds)), r] = some (.nx [some (.p (.list (ns.map .int))), A, B, C, E, some (.o (.list ds')), q])
 | [], ds, r, _, hl, h => ⟨ds, r, h, hl, rfl⟩
 | k :: ks, ds, r, hs, hl, h => by
  obtain ⟨v, _, ev⟩ := lM K c ns (3 + k) (by have := hs k (.head _); omega)
  obtain ⟨d, td, ed⟩ := wD K c hk v
  rw [List.length_cons] at hl
  have ev : aQ K c [.p (.list (ns.map .int)), .p (.int (3 + (k : Int)))] = .ok (.p (.int v)) := ev
  have hb : l8 K c [some (.p (.list (ns.map .int))), A, B, C, E, some (.o (.list ds)), some (.p (.int (k : Int)))] = some (.nx [some (.p (.list (ns.map .int))), A, B, C, E, some (.o (.list (ds ++ [d]))), some (.p (.int (k : Int)))]) := aCe (i := 5) (ds := ds) rfl (eD (jE rfl (aH rfl rfl rfl) ev) rfl ed) (by omega)
  obtain ⟨ds', q, h', l', e'⟩ := sS K c hk ns A B C E ks (ds ++ [d]) (some (.p (.int (k : Int)))) (fun x hx => hs x (.tail _ hx)) (by rw [List.length_append]; show ds.length + 1 + _ <= _; omega) (fun x hx => by
   rcases List.mem_append.mp hx with z | z
   ·exact h x z
   ·rw [List.mem_singleton.mp z]; exact td)
  exact ⟨ds', q, h', l', (aAv rfl hb).trans e'⟩
theorem aBq (K : PySem.W.Frag) (c : Cls) (hk : gH K c) (ns : List Int) (hn : ns.length <= 63) : qB K c [.p (.list (ns.map .int))] = .ok (.p (.bool true)) := by
 obtain ⟨kind, _, e0⟩ := lM K c ns 0 (by decide)
 obtain ⟨v1, _, e1⟩ := lM K c ns 1 (by decide)
 obtain ⟨v2, _, e2⟩ := lM K c ns 2 (by decide)
 obtain ⟨h, gt, e3⟩ := aBo K c v1 kind
 have g := gt.g
 have nx := aDx g
 have p8 := aDp h
 have l63 := aCv g
 have tw : TZ (nT h) := ⟨p8, by omega⟩
 have ak := aB7 K c (aBc K c hk tw nx.1)
 rw [nx.2] at ak
 have nt := aB4 K c g
 have lt := aBd K c g
 generalize nT h = w at *
 have q3 : jJ kind 3 := ⟨by decide, (show Sz 100 (3 : Int) by unfold Sz; decide).mono (by decide)⟩
 have q12 : jJ kind 12 := ⟨by decide, (show Sz 100 (12 : Int) by unfold Sz; decide).mono (by decide)⟩
 have d4 : (4 : Int) ≠ 0 := by decide
 have p20 : vP 10 20 := ⟨by decide, by decide, by decide⟩
 have n20 : (10 : Int) ^ Int.toNat 20 ≠ 0 := by decide
 have hk' : ∀ (n : Int) (E : L), bR (aK (eqE false) (aK fN (aK gB (aG 1) (mC (.int 3))) (mC (.int 4))) (mC (.int n))) [some (.p (.list (ns.map .int))), some (.p (.int kind)), some (.p (frD h)), some (.p (.str w)), some E, none, none] = .ok ((kind.fdiv 3).fmod 4 == n) := fun n E => aX (aH (aH (aH rfl rfl (iF q3)) rfl (dS d4)) rfl eR)
 obtain ⟨d1, t1, s5⟩ : ∃ d1, Thg K d1 /\ (fC (mOr (bR (aK (eqE false) (aK fN (aK gB (aG 1) (mC (.int 3))) (mC (.int 4))) (mC (.int 1)))) (bR (aK (eqE false) (aK fN (aK gB (aG 1) (mC (.int 3))) (mC (.int 4))) (mC (.int 2))))) (dA 4 (a8 3 (bG K c) (aB (aG 3) (aB (aK gB (aG 1) (mC (.int 12))) (aB (aK fN (a8 2 (aQ K c) (aB (aG 0) (aB (mC (.int 2)) aY))) (aK pX (mC (.int 10)) (mC (.int 20)))) aY))))) cI) [some (.p (.list (ns.map .int))), some (.p (.int kind)), some (.p (frD h)), some (.p (.str w)), some (.p (.str w)), none, none] = some (.nx [some (.p (.list (ns.map .int))), some (.p (.int kind)), some (.p (frD h)), some (.p (.str w)), some (.p d1), none, none]) := by
  obtain ⟨u, tu, eu⟩ := aCi K c p8 (by omega) (kind.fdiv 12) (v2.fmod (10 ^ Int.toNat 20))
  have st : (dA 4 (a8 3 (bG K c) (aB (aG 3) (aB (aK gB (aG 1) (mC (.int 12))) (aB (aK fN (a8 2 (aQ K c) (aB (aG 0) (aB (mC (.int 2)) aY))) (aK pX (mC (.int 10)) (mC (.int 20)))) aY))))) [some (.p (.list (ns.map .int))), some (.p (.int kind)), some (.p (frD h)), some (.p (.str w)), some (.p (.str w)), none, none] = some (.nx [some (.p (.list (ns.map .int))), some (.p (.int kind)), some (.p (frD h)), some (.p (.str w)), some (.p (.str u)), none, none]) := cN (aDv rfl (aH rfl rfl (iF q12)) (aH (jE rfl rfl e2) (aH rfl rfl (kP p20)) (dS n20)) eu)
  have k1 := hk' 1 (.p (.str w))
  have k2 := hk' 2 (.p (.str w))
  cases z1 : ((kind.fdiv 3).fmod 4 == 1) with
  | true =>
   rw [z1] at k1
   exact ⟨.str u, .inl ⟨u, tu, rfl⟩, (gG (qW k1)).trans st⟩
  | false =>
   rw [z1] at k1
   cases z2 : ((kind.fdiv 3).fmod 4 == 2) with
   | true =>
    rw [z2] at k2
    exact ⟨.str u, .inl ⟨u, tu, rfl⟩, (gG (lI k1 k2)).trans st⟩
   | false =>
    rw [z2] at k2
    exact ⟨.str w, .inl ⟨w, tw, rfl⟩, gJ (lI k1 k2)⟩
 obtain ⟨d2, t2, s6⟩ : ∃ d2, Thg K d2 /\ (fC (bR (aK (eqE false) (aK fN (aK gB (aG 1) (mC (.int 3))) (mC (.int 4))) (mC (.int 3)))) (dA 4 (a8 1 (dC K c) (aB (a8 2 (aQ K c) (aB (aG 0) (aB (mC (.int 2)) aY))) aY))) cI) [some (.p (.list (ns.map .int))), some (.p (.int kind)), some (.p (frD h)), some (.p (.str w)), some (.p d1), none, none] = some (.nx [some (.p (.list (ns.map .int))), some (.p (.int kind)), some (.p (frD h)), some (.p (.str w)), some (.p d2), none, none]) := by
  obtain ⟨u, tu, eu⟩ := wD K c hk v2
  have k3 := hk' 3 (.p d1)
  cases z1 : ((kind.fdiv 3).fmod 4 == 3) with
  | true =>
   rw [z1] at k3
   exact ⟨u, tu, (gG k3).trans (cN (eD (jE rfl rfl e2) rfl eu))⟩
  | false =>
   rw [z1] at k3
   exact ⟨d1, t1, gJ k3⟩
 obtain ⟨ds, q, hd, ld, lp⟩ := sS K c hk ns (some (.p (.int kind))) (some (.p (frD h))) (some (.p (.str w))) (some (.p d2)) [0, 1, 2, 3, 4] [d2, d2] none (by decide) (by show 2 + 5 <= 100; decide) (fun x hx => by
  rcases List.mem_cons.mp hx with z | z
  ·rw [z]; exact t2
  ·rw [List.mem_singleton.mp z]; exact t2)
 unfold qB
 refine cX ?_
 rw [show b9 7 [.p (.list (ns.map .int))] = [some (.p (.list (ns.map .int))), none, none, none, none, none, none] from rfl]
 unfold vM
 refine (aJ (cN (jE rfl rfl e0))).trans ?_
 refine (aJ (cN (jE (jE rfl rfl e1) rfl e3))).trans ?_
 refine (aJ (cN (eD rfl rfl nt))).trans ?_
 refine (aJ (gJ (oD (p6 (aX (l7 rfl (uV hk _)))) (oD (aX ((aH rfl (eD rfl rfl lt) (eq_str true p8 p8)).trans (by rw [decide_eq_true rfl]; rfl))) (aX (aH (eD rfl rfl ak) rfl (mB rfl rfl (zN _) true))))))).trans ?_
 refine (aJ (cN (d := .str w) rfl)).trans ?_
 refine (aJ s5).trans ?_
 refine (aJ s6).trans ?_
 refine (aJ (i8 (d := .list [d2, d2]) (c0 (bQ rfl (bQ rfl rfl)) rfl))).trans ?_
 refine (aJ ((yJ (ds := [0, 1, 2, 3, 4].map fun (k : Nat) => PyData.int (k : Int)) rfl).trans lp)).trans ?_
 refine aBt (i := 5) (e1 := [some (.p (.list (ns.map .int))), some (.p (.int kind)), some (.p (frD h)), some (.p (.str w)), some (.p d2), some (.p (.list ds)), q]) rfl ?_
 refine bV (c0 (bQ (uA (ds := ds.map id) (es := ds.map fun _ => PyData.bool true) ?_ (by rw [List.length_map]; omega) (jO (out := fun _ => PyData.bool true) ds fun p hp => ?_)) rfl) ((aA7 (b := fun _ => true) rfl).trans (by rw [List.all_eq_true.mpr fun _ _ => rfl])))
 ·rw [List.map_id]
  rfl
 ·have e : oZ K c [some (.p p)] = .ok (.p (.bool true)) := eD rfl rfl (vD K c hk (hd p hp))
  unfold eH
  ktr_call 3 ⟨id, eU, uD, zB, List.replicate, List.cons_append, List.nil_append, List.append_nil, e, Ev.c⟩
theorem aFq {j k : Nat} {A : Around} {e : Value} (hr : Room k A) (h : j <= k) : RoomQ j (A.mark e) := ⟨(hr.mono h).dp, (hr.mono h).un⟩
section
variable {P : Program} {w : World} {K : PySem.W.Frag} {mg : Str -> Option Value} {base : Heap}
theorem sc_number_text : bF ["a", "top"] ["a"] (aI eY) := ⟨rfl, rfl, rfl, by decide +kernel, rfl, by decide +kernel, by decide +kernel⟩
theorem lE {c : Cls} (Df : Def K mg "number_text" ["a"] eY) (B : Blt mg) (C : jD mg c) (O : jF mg base c) (hk : gH K c) : Cal P w K mg base 1 "number_text" 1 (cK K c) := by
 refine kX (k := 0) Df sc_number_text rfl (fun f cdv A outer s H E hr => ⟨eV K c, ?_, k8 K c⟩)
 exact (aF (aU (i := 1) sc_number_text.nd rfl (Or.inl rfl) (dU eO nL kN rfl B.str_ jA (aA (fF (dv 0) aC (fun _ _ => rfl)) aM))) (aO (bE (aBf (cA (dO (u64 hr)) d6 cH (fF (dv 0) aC (fun _ _ => rfl)) aC (bM _)) (dv 1) (aT a9 bX bA (aT a9 bX bA (dv 1) aV) (dU eO nL kN rfl B.str_ jA (aA (fF (dv 0) aC (fun _ _ => rfl)) aM)))))))
theorem sc__law_odd : bF ["_law_cell", "_law_long", "_law_some"] ["_law_cell"] (aI gQ) := ⟨rfl, rfl, rfl, by decide +kernel, rfl, by decide +kernel, by decide +kernel⟩
theorem oM {c : Cls} (Df : Def K mg "_law_odd" ["_law_cell"] gQ) (B : Blt mg) (C : jD mg c) (O : jF mg base c) (hk : gH K c) : Cal P w K mg base 1 "_law_odd" 1 (dC K c) := by
 refine kX (k := 0) Df sc__law_odd rfl (fun f cdv A outer s H E hr => ⟨gO K c, ?_, nY K c⟩)
 refine aF ?a0 ?y0
 case a0 => exact (aU (i := 1) sc__law_odd.nd rfl (Or.inl rfl) (aT a9 bX bA aV (aT yO xR vJ aV aC)) (hf := .inr rfl))
 case y0 =>
   refine aF ?a1 ?y1
   case a1 => ((refine aU (i := 2) ?n_153 ?h1_153 ?h2_153 ?e_153 ?s_153 ?f_153); (case n_153 => exact sc__law_odd.nd); (case h1_153 => rfl); (case h2_153 => exact (Or.inl rfl)); (case s_153 => rfl); (case f_153 => exact .inr rfl); (case e_153 => ((refine gU ?l_153); (refine aS ?_ ?_ ?_); (exact a7); (exact aV); (refine aS ?_ ?_ ?_); (exact a7); (exact aV); (refine aS ?_ ?_ ?_); (exact a7); (exact aV); (refine aS ?_ ?_ ?_); (exact a7); (exact aV); (refine aS ?_ ?_ ?_); (exact a7); (exact aV); (refine aS ?_ ?_ ?_); (exact a7); (exact aV); (refine aS ?_ ?_ ?_); (exact a7); (exact aV); (refine aS ?_ ?_ ?_); (exact a7); (exact aV); (refine aS ?_ ?_ ?_); (exact a7); (exact aV); (refine aS ?_ ?_ ?_); (exact a7); (exact aV); (refine aS ?_ ?_ ?_); (exact a7); (exact aV); (refine aS ?_ ?_ ?_); (exact a7); (exact aV); (refine aS ?_ ?_ ?_); (exact a7); (exact aV); (refine aS ?_ ?_ ?_); (exact a7); (exact aV); (refine aS ?_ ?_ ?_); (exact a7); (exact aV); (refine aS ?_ ?_ ?_); (exact a7); (exact aV); (refine aS ?_ ?_ ?_); (exact a7); (exact aV); (exact aM))))
   case y1 =>
  refine aF ?a2 ?y2
  case a2 => ((refine aU (i := 2) ?n_154 ?h1_154 ?h2_154 ?e_154 ?s_154 ?f_154); (case n_154 => exact sc__law_odd.nd); (case h1_154 => rfl); (case h2_154 => exact (Or.inl rfl)); (case s_154 => rfl); (case f_154 => exact .inr rfl); (case e_154 => ((refine aT a9 bX bA (dv 2) ?r_154); (refine gU ?l_154); (refine aS ?_ ?_ ?_); (exact sZ); (exact (dv 1)); (refine aS ?_ ?_ ?_); (exact jK); (exact (aT a9 bX bA (dv 1) aV)); (refine aS ?_ ?_ ?_); (exact jK); (exact (aT a9 bX bA aV (dv 1))); (refine aS ?_ ?_ ?_); (exact jK); (exact (aT a9 bX bA aV (dv 1))); (refine aS ?_ ?_ ?_); (exact jK); (exact (aT a9 bX bA (aT a9 bX bA aV (dv 1)) aV)); (exact aM))))
  case y2 =>
    refine aF ?a3 ?y3
    case a3 => ((refine aU (i := 2) ?n_155 ?h1_155 ?h2_155 ?e_155 ?s_155 ?f_155); (case n_155 => exact sc__law_odd.nd); (case h1_155 => rfl); (case h2_155 => exact (Or.inl rfl)); (case s_155 => rfl); (case f_155 => exact .inr rfl); (case e_155 => ((refine aT a9 bX bA (dv 2) ?r_155); (refine gU ?l_155); (refine aS ?_ ?_ ?_); (exact a7); (exact aV); (refine aS ?_ ?_ ?_); (exact a7); (exact aV); (refine aS ?_ ?_ ?_); (exact a7); (exact aV); (refine aS ?_ ?_ ?_); (exact a7); (exact aV); (refine aS ?_ ?_ ?_); (exact a7); (exact aV); (refine aS ?_ ?_ ?_); (exact a7); (exact aV); (refine aS ?_ ?_ ?_); (exact a7); (exact aV); (refine aS ?_ ?_ ?_); (exact a7); (exact aV); (exact aM))))
    case y3 =>
   refine aF ?a4 ?y4
   case a4 => ((refine aU (i := 2) ?n_156 ?h1_156 ?h2_156 ?e_156 ?s_156 ?f_156); (case n_156 => exact sc__law_odd.nd); (case h1_156 => rfl); (case h2_156 => exact (Or.inl rfl)); (case s_156 => rfl); (case f_156 => exact .inr rfl); (case e_156 => ((refine aT a9 bX bA (dv 2) ?r_156); (refine gU ?l_156); (refine aS ?_ ?_ ?_); (exact a7); (exact i9); (refine aS ?_ ?_ ?_); (exact a7); (exact aC); (refine aS ?_ ?_ ?_); (exact uW); (exact (kM (aA aC (aA aC aM)))); (refine aS ?_ ?_ ?_); (exact u1); (exact (gU (aA aV aM))); (refine aS ?_ ?_ ?_); (exact a7); (exact oP); (refine aS ?_ ?_ ?_); (exact uL); (exact uF); (exact aM))))
   case y4 =>
     exact (aO (bE (fF (dv 2) (aT cC dJ aN (dv 0) (bP cJ iP fS rfl B.len_ PySem.boot_len (aA (dv 2) aM))) (fun _ _ => rfl))))
end
section
variable {P : Program} {w : World} {K : PySem.W.Frag} {mg : Str -> Option Value} {base : Heap}
theorem sc__law_asked : bF ["_law_thing", "_law_told", "_law_e"] ["_law_thing"] (aI fH) := ⟨rfl, rfl, rfl, by decide +kernel, rfl, by decide +kernel, by decide +kernel⟩
theorem lU {c : Cls} (Df : Def K mg "_law_asked" ["_law_thing"] fH) (B : Blt mg) (C : jD mg c) (O : jF mg base c) (hk : gH K c) (c_number_of : Cal P w K mg base 4 "number_of" 1 (bJ K c)) (c__law_marks : zS P w K mg base 1 "_law_marks" 1 (cM K c)) : Cal P w K mg base 5 "_law_asked" 1 (bL K c) := by
 refine kX (k := 4) Df sc__law_asked rfl (fun f cdv A outer s H E hr => ⟨eP K c, ?_, lQ K c⟩)
 exact (aF (aU (i := 1) sc__law_asked.nd rfl (Or.inl rfl) i9) (aF (zQ (i := 2) rfl rfl sc__law_asked.nd rfl rfl rfl C.mRoofError (fun W pn E hx => (aO (aU (i := 1) sc__law_asked.nd rfl (Or.inl rfl) (aR c_number_of hr hx (aA (dv 0) aM))))) (fun e => (aO (aU (i := 1) sc__law_asked.nd rfl (Or.inl rfl) (tH c__law_marks (aFq hr (by decide)) (aA (dv 2) aM)))))) (aO (bE (dv 1)))))
theorem sc_law : bF ["_law_script", "_law_kind", "_law_a", "_law_word", "_law_thing", "_law_things", "_law_k"] ["_law_script"] (aI mO) := ⟨rfl, rfl, rfl, by decide +kernel, rfl, by decide +kernel, by decide +kernel⟩
theorem aBr {c : Cls} {f : Addr} {fd : FuncData} (F : Fun K "law" "law" mO f fd) (B : Blt mg) (C : jD mg c) (O : jF mg base c) (hk : gH K c) (c__law_thing_right : Cal P w K mg base 6 "_law_thing_right" 1 (bC K c)) (c__law_odd : Cal P w K mg base 1 "_law_odd" 1 (dC K c)) (c__law_cell_at : Cal P w K mg base 1 "_law_cell_at" 2 (aQ K c)) (c__law_changed : Cal P w K mg base 2 "_law_changed" 3 (bG K c)) (c__law_number_text : Cal P w K mg base 1 "_law_number_text" 1 (bD K c)) (c__law_asked : Cal P w K mg base 5 "_law_asked" 1 (bL K c)) (c_number_text : Cal P w K mg base 1 "number_text" 1 (cK K c)) (c__law_number_by : Cal P w K mg base 3 "_law_number_by" 2 (bI K c)) : FnOk P w K mg base (CXr P w) 7 f fd ["_law_script"] (spM K 1 (qB K c)) := by
 refine fnM (k := 6) F sc_law rfl (fun cdv A outer s H E hr => ⟨vM K c, ?_, aA2 K c⟩)
 exact (aF (aU (i := 1) sc_law.nd rfl (Or.inl rfl) (aR c__law_cell_at hr dR (aA (dv 0) (aA aC aM)))) (aF (aU (i := 2) sc_law.nd rfl (Or.inl rfl) (aR c__law_number_by hr dR (aA (aR c__law_cell_at hr dR (aA (dv 0) (aA aC aM))) (aA (dv 1) aM)))) (aF (aU (i := 3) sc_law.nd rfl (Or.inl rfl) (aR c_number_text hr dR (aA (dv 2) aM))) (aF (eC (DW.t (gW (iN (fQ (lG (cv := .type "str") rfl B.isinstance_ (.inl ⟨_, rfl⟩) rfl (dv 3) (hX (v := .ty "str") rfl B.str_ jA rfl)))) (gW (cA (j3 (u64 hr)) d6 cH (dv 3) (aR c__law_number_text hr dR (aA (dv 2) aM)) (bM _)) (iU (cA (j3 (u64 hr)) d6 cH (aR c__law_asked hr dR (aA (dv 3) aM)) (dv 2) (bM _)))))) (aO (bE oP)) bS) (aF (aU (i := 4) sc_law.nd rfl (Or.inl rfl) (dv 3)) (aF (eC (DW.t (gW (cA (dO (u64 hr)) d6 cH (aT cC dJ aN (aT e8 fW aN (dv 1) aC) aC) aC (bM _)) (iU (cA (dO (u64 hr)) d6 cH (aT cC dJ aN (aT e8 fW aN (dv 1) aC) aC) aC (bM _))))) (aO (aU (i := 4) sc_law.nd rfl (Or.inl rfl) (aR c__law_changed hr dR (aA (dv 3) (aA (aT e8 fW aN (dv 1) aC) (aA (aT cC dJ aN (aR c__law_cell_at hr dR (aA (dv 0) (aA aC aM))) (aT j4 kO aN aC aC)) aM)))))) bS) (aF (eC (cA (dO (u64 hr)) d6 cH (aT cC dJ aN (aT e8 fW aN (dv 1) aC) aC) aC (bM _)) (aO (aU (i := 4) sc_law.nd rfl (Or.inl rfl) (aR c__law_odd hr dR (aA (aR c__law_cell_at hr dR (aA (dv 0) (aA aC aM))) aM)))) bS) (aF (aU (i := 5) sc_law.nd rfl (Or.inl rfl) (gU (aA (dv 4) (aA (dv 4) aM)))) (aF (xD PassesOwn.leaving rfl (nG rfl B.range_ (aA aC aM)) (jW (i := 6) sc_law.nd rfl (Or.inl rfl)) (aO (qS (i := 5) (aR c__law_odd hr dR (aA (aR c__law_cell_at hr dR (aA (dv 0) (aA (aT a9 bX bA aC (dv 6)) aM))) aM)) (fun t q => zC (aB2 PySem.F.plainAttrs_list PySem.F.slot_list_append PySem.F.type_list_append qQ (pv 5) (j5 q pA)))))) (yI 5 (aO (bE (bP (pO rfl rfl) w6 rK rfl B.all_ wL (aA (oN (xs := ["_law_one"]) (ys := []) (js := []) (cl := []) rfl (xY (dv 5)) (xE (ys := []) (js := []) rfl (fun _ h => nomatch h) iZ (by decide +kernel) (by decide +kernel)) iZ (by decide +kernel) rfl (by decide +kernel) rfl (by decide) (fun C s₀ H₀ ex pn => (jW (i := 0) (show (["_law_one"] : List Str).Nodup by decide +kernel) rfl (Or.inl rfl))) (fun C s₀ H₀ ex pn => oS) (fun C s₀ H₀ ex pn => (aR c__law_thing_right hr aDt (aA (dv 0) aM)))) aM))))))))))))))
end
section
variable {P : Program} {w : World} {K : PySem.W.Frag} {mg : Str -> Option Value} {base : Heap}
theorem mS : bF ["word"] ["word"] (aI fV) := ⟨rfl, rfl, rfl, by decide +kernel, rfl, by decide +kernel, by decide +kernel⟩
theorem nF {c : Cls} (Df : Def K mg "is_bottom" ["word"] fV) (B : Blt mg) (C : jD mg c) (O : jF mg base c) (hk : gH K c) (c_is_whole : Cal P w K mg base 1 "is_whole" 1 (cU K c)) : Cal P w K mg base 2 "is_bottom" 1 (cP K c) := by
 refine kX (k := 1) Df mS rfl (fun f cdv A outer s H E hr => ⟨fX K c, ?_, nH K c⟩)
 exact (aO (bE (pG (gK (x4 rfl) zP wN (dv 0) (kM (aA aV (aA aV aM))) (by with_unfolding_all rfl)) (mL (aR c_is_whole hr dR (aA (dv 0) aM))))))
theorem sc__law_cell_at : bF ["_law_script", "_law_k", "_law_cell"] ["_law_script", "_law_k"] (aI eI) := ⟨rfl, rfl, rfl, by decide +kernel, rfl, by decide +kernel, by decide +kernel⟩
theorem kR {c : Cls} (Df : Def K mg "_law_cell_at" ["_law_script", "_law_k"] eI) (B : Blt mg) (C : jD mg c) (O : jF mg base c) (hk : gH K c) : Cal P w K mg base 1 "_law_cell_at" 2 (aQ K c) := by
 refine kX (k := 0) Df sc__law_cell_at rfl (fun f cdv A outer s H E hr => ⟨dB K c, ?_, kT K c⟩)
 exact (aF (aU (i := 2) sc__law_cell_at.nd rfl (Or.inl rfl) aC) (aF (eC (cA vO gT cL (dv 1) (bP cJ iP fS rfl B.len_ PySem.boot_len (aA (dv 0) aM)) (bM _)) (aO (aU (i := 2) sc__law_cell_at.nd rfl (Or.inl rfl) (aT cC dJ aN (fF (dv 0) (dv 1) (fun _ _ => rfl)) (aT j4 kO aN aC aC)))) bS) (aO (bE (aT a9 bX bA (aT fM gS aN (dv 2) aC) (aT cC dJ aN (aT fM gS aN (aT cC dJ aN (aT fM gS aN (aT a9 bX bA (aT a9 bX bA (aT a9 bX bA (dv 2) (aT fM gS aN (aT fM gS aN aC (dv 1)) (dv 1))) (aT fM gS aN aC (dv 1))) aC) aC) aC) aC) aC))))))
theorem gX : bF ["_law_a"] ["_law_a"] (aI dN) := ⟨rfl, rfl, rfl, by decide +kernel, rfl, by decide +kernel, by decide +kernel⟩
theorem iG {c : Cls} (Df : Def K mg "_law_number_text" ["_law_a"] dN) (B : Blt mg) (C : jD mg c) (O : jF mg base c) (hk : gH K c) : Cal P w K mg base 1 "_law_number_text" 1 (bD K c) := by
 refine kX (k := 0) Df gX rfl (fun f cdv A outer s H E hr => ⟨dE K c, ?_, hV K c⟩)
 exact (aF (eC (cA (dO (u64 hr)) d6 cH (fF (dv 0) aC (fun _ _ => rfl)) aC (bM _)) (aO (bE (dU eO nL kN rfl B.str_ jA (aA (fF (dv 0) aC (fun _ _ => rfl)) aM)))) bS) (aO (bE (aT a9 bX bA (aT a9 bX bA (dU eO nL kN rfl B.str_ jA (aA (fF (dv 0) aC (fun _ _ => rfl)) aM)) aV) (dU eO nL kN rfl B.str_ jA (aA (fF (dv 0) aC (fun _ _ => rfl)) aM))))))
theorem sc__law_number : bF ["_law_word", "_law_below", "_law_parts", "_law_top", "_law_bottom"] ["_law_word"] (aI eW) := ⟨rfl, rfl, rfl, by decide +kernel, rfl, by decide +kernel, by decide +kernel⟩
theorem kY {c : Cls} (Df : Def K mg "_law_number" ["_law_word"] eW) (B : Blt mg) (C : jD mg c) (O : jF mg base c) (hk : gH K c) (c__law_divisor : Cal P w K mg base 1 "_law_divisor" 2 (aW K c)) (c__law_figures : Cal P w K mg base 1 "_law_figures" 1 (bH K c)) : Cal P w K mg base 2 "_law_number" 1 (cB K c) := by
 refine kX (k := 1) Df sc__law_number rfl (fun f cdv A outer s H E hr => ⟨eX K c, ?_, lF K c⟩)
 exact (aF (aU (i := 1) sc__law_number.nd rfl (Or.inl rfl) (gK (dO (u64 hr)) d6 cH (iM (dv 0) fY (gE aC)) aV (bM _))) (aF (aU (i := 2) sc__law_number.nd rfl (Or.inl rfl) (nK PySem.F.slot_str_split PySem.F.type_str_split l6 lP kH (iM (dv 0) (gE (dU gM kF iQ rfl B.int_ lJ (aA (dv 1) aM))) fY) aV)) (aF (eC (cA qF gT cL (bP cJ iP fS rfl B.len_ PySem.boot_len (aA (dv 2) aM)) aC (bM _)) (aO (bE i9)) bS) (aF (aU (i := 3) sc__law_number.nd rfl (Or.inl rfl) (aR c__law_figures hr dR (aA (fF (dv 2) aC (fun _ _ => rfl)) aM))) (aF (aU (i := 4) sc__law_number.nd rfl (Or.inl rfl) aC) (aF (eC (cA (dO (u64 hr)) d6 cH (bP cJ iP fS rfl B.len_ PySem.boot_len (aA (dv 2) aM)) aC (bM _)) (aO (aU (i := 4) sc__law_number.nd rfl (Or.inl rfl) (aR c__law_figures hr dR (aA (fF (dv 2) aC (fun _ _ => rfl)) aM)))) bS) (aF (eC (DW.t (gW (sF (dv 3)) (gW (sF (dv 4)) (iU (DW.t (qY (fQ (dv 1)) (oO (cA (dO (u64 hr)) d6 cH (dv 3) aC (bM _))))))))) (aO (bE i9)) bS) (aF (eC (DW.t (qY (cA (dO (u64 hr)) d6 cH (bP cJ iP fS rfl B.len_ PySem.boot_len (aA (dv 2) aM)) aC (bM _)) (oO (DW.t (gW (cA vO gT cL (dv 4) aC (bM _)) (iU (cA (j3 (u64 hr)) d6 cH (aR c__law_divisor hr dR (aA (dv 3) (aA (dv 4) aM))) aC (bM _)))))))) (aO (bE i9)) bS) (aF (eC (fQ (dv 1)) (aO (aU (i := 3) sc__law_number.nd rfl (Or.inl rfl) (aT o6 oY cL aC (dv 3)))) bS) (aO (bE (kM (aA (dv 3) (aA (dv 4) aM))))))))))))))
end
section
variable {P : Program} {w : World} {K : PySem.W.Frag} {mg : Str -> Option Value} {base : Heap}
theorem sc__law_divisor : bF ["_law_a", "_law_b", "_law_rest"] ["_law_a", "_law_b"] (aI eM) := ⟨rfl, rfl, rfl, by decide +kernel, rfl, by decide +kernel, by decide +kernel⟩
theorem kK {c : Cls} (Df : Def K mg "_law_divisor" ["_law_a", "_law_b"] eM) (B : Blt mg) (C : jD mg c) (O : jF mg base c) (hk : gH K c) : Cal P w K mg base 1 "_law_divisor" 2 (aW K c) := by
 refine kX (k := 0) Df sc__law_divisor rfl (fun f cdv A outer s H E hr => ⟨gR K c, ?_, jZ K c⟩)
 exact (aF (aU (i := 0) sc__law_divisor.nd rfl (Or.inl rfl) (bP jN o9 lX rfl B.abs_ pR (aA (dv 0) aM))) (aF (aU (i := 1) sc__law_divisor.nd rfl (Or.inl rfl) (bP jN o9 lX rfl B.abs_ pR (aA (dv 1) aM))) (aF (pP PassesOwn.leaving (cA qF gT cL (dv 1) aC (bM _)) (aF (aU (i := 2) sc__law_divisor.nd rfl (Or.inl rfl) (aT cC dJ aN (dv 0) (dv 1))) (aF (aU (i := 0) sc__law_divisor.nd rfl (Or.inl rfl) (dv 1)) (aO (aU (i := 1) sc__law_divisor.nd rfl (Or.inl rfl) (dv 2)))))) (aO (bE (dv 0))))))
theorem iD : bF ["_law_found"] ["_law_found"] (aI dF) := ⟨rfl, rfl, rfl, by decide +kernel, rfl, by decide +kernel, by decide +kernel⟩
theorem gY {c : Cls} (Df : Def K mg "_law_is_fraction" ["_law_found"] dF) (B : Blt mg) (C : jD mg c) (O : jF mg base c) (hk : gH K c) (c__law_divisor : Cal P w K mg base 1 "_law_divisor" 2 (aW K c)) (c__law_whole : Cal P w K mg base 1 "_law_whole" 1 (cO K c)) : Cal P w K mg base 2 "_law_is_fraction" 1 (aZ K c) := by
 refine kX (k := 1) Df iD rfl (fun f cdv A outer s H E hr => ⟨dG K c, ?_, iH K c⟩)
 exact (aF (eC (DW.t (gW (iN (fQ (lG (cv := .type "tuple") rfl B.isinstance_ (.inl ⟨_, rfl⟩) rfl (dv 0) (hX (v := .ty "tuple") rfl B.tuple_ uU rfl)))) (iU (cA (j3 (u64 hr)) d6 cH (bP cJ iP fS rfl B.len_ PySem.boot_len (aA (dv 0) aM)) aC (bM _))))) (aO (bE oP)) bS) (aF (eC (DW.t (gW (iN (fQ (aR c__law_whole hr dR (aA (fF (dv 0) aC (fun _ _ => rfl)) aM)))) (gW (iN (fQ (aR c__law_whole hr dR (aA (fF (dv 0) aC (fun _ _ => rfl)) aM)))) (iU (cA vO gT cL (fF (dv 0) aC (fun _ _ => rfl)) aC (bM _)))))) (aO (bE oP)) bS) (aO (bE (gK (dO (u64 hr)) d6 cH (aR c__law_divisor hr dR (aA (fF (dv 0) aC (fun _ _ => rfl)) (aA (fF (dv 0) aC (fun _ _ => rfl)) aM))) aC (bM _))))))
theorem sc__law_marks : bF ["_law_e", "_law_marks_here"] ["_law_e"] (aI fL) := ⟨rfl, rfl, rfl, by decide +kernel, rfl, by decide +kernel, by decide +kernel⟩
theorem lR {c : Cls} (Df : Def K mg "_law_marks" ["_law_e"] fL) (B : Blt mg) (C : jD mg c) (O : jF mg base c) (hk : gH K c) : zS P w K mg base 1 "_law_marks" 1 (cM K c) := by
 refine aC9 (k := 0) Df sc__law_marks rfl (fun f cdv A outer s H hrq => ⟨fK K c, ?_, mF K c⟩)
 exact (aF (aU (i := 1) sc__law_marks.nd rfl (Or.inl rfl) (gU (aA (fE (cv := .type "ValueError") rfl B.isinstance_ (.inl ⟨_, rfl⟩) rfl (dv 0) (hX (v := .ty "ValueError") rfl B.ValueError_ lZ rfl)) (aA (fE (cv := .ref c.NoFraction) rfl B.isinstance_ (.inr ⟨_, rfl⟩) rfl (dv 0) (eQ (v := .ref c.NoFraction) rfl C.mNoFraction rfl)) (aA (fE (cv := .ref c.NoRoof) rfl B.isinstance_ (.inr ⟨_, rfl⟩) rfl (dv 0) (eQ (v := .ref c.NoRoof) rfl C.mNoRoof rfl)) aM))))) (aF (aU (i := 1) sc__law_marks.nd rfl (Or.inl rfl) (aT a9 bX bA (dv 1) (gU (aA (fE (cv := .ref c.TooSteep) rfl B.isinstance_ (.inr ⟨_, rfl⟩) rfl (dv 0) (eQ (v := .ref c.TooSteep) rfl C.mTooSteep rfl)) (aA (fE (cv := .ref c.TooMany) rfl B.isinstance_ (.inr ⟨_, rfl⟩) rfl (dv 0) (eQ (v := .ref c.TooMany) rfl C.mTooMany rfl)) (aA (fE (cv := .ref c.NoNumber) rfl B.isinstance_ (.inr ⟨_, rfl⟩) rfl (dv 0) (eQ (v := .ref c.NoNumber) rfl C.mNoNumber rfl)) aM)))))) (aF (aU (i := 1) sc__law_marks.nd rfl (Or.inl rfl) (aT a9 bX bA (dv 1) (gU (aA (fE (cv := .ref c.NoCorner) rfl B.isinstance_ (.inr ⟨_, rfl⟩) rfl (dv 0) (eQ (v := .ref c.NoCorner) rfl C.mNoCorner rfl)) (aA (fE (cv := .ref c.NoDealing) rfl B.isinstance_ (.inr ⟨_, rfl⟩) rfl (dv 0) (eQ (v := .ref c.NoDealing) rfl C.mNoDealing rfl)) (aA (fE (cv := .ref c.NoRow) rfl B.isinstance_ (.inr ⟨_, rfl⟩) rfl (dv 0) (eQ (v := .ref c.NoRow) rfl C.mNoRow rfl)) aM)))))) (aO (bE (aT a9 bX bA (dv 1) (gU (aA (fE (cv := .ref c.NoText) rfl B.isinstance_ (.inr ⟨_, rfl⟩) rfl (dv 0) (eQ (v := .ref c.NoText) rfl C.mNoText rfl)) (aA (fE (cv := .ref c.NoName) rfl B.isinstance_ (.inr ⟨_, rfl⟩) rfl (dv 0) (eQ (v := .ref c.NoName) rfl C.mNoName rfl)) aM)))))))))
theorem sc__law_sign_by : bF ["_law_cell", "_law_some"] ["_law_cell"] (aI eK) := ⟨rfl, rfl, rfl, by decide +kernel, rfl, by decide +kernel, by decide +kernel⟩
theorem jY {c : Cls} (Df : Def K mg "_law_sign_by" ["_law_cell"] eK) (B : Blt mg) (C : jD mg c) (O : jF mg base c) (hk : gH K c) : Cal P w K mg base 1 "_law_sign_by" 1 (cD K c) := by
 refine kX (k := 0) Df sc__law_sign_by rfl (fun f cdv A outer s H E hr => ⟨eJ K c, ?_, kE K c⟩)
 exact (aF (aU (i := 1) sc__law_sign_by.nd rfl (Or.inl rfl) aV) (aF (aU (i := 1) sc__law_sign_by.nd rfl (Or.inl rfl) (aT a9 bX bA (dv 1) aV)) (aO (bE (o7 (dv 1) (aT cC dJ aN (dv 0) (bP dP gZ fZ rfl B.len_ PySem.boot_len (aA (dv 1) aM))) (fun _ _ => rfl))))))
end
section
variable {P : Program} {w : World} {K : PySem.W.Frag} {mg : Str -> Option Value} {base : Heap}
theorem sc_number_of : bF ["word", "parts", "bottom"] ["word"] (aI fR) := ⟨rfl, rfl, rfl, by decide +kernel, rfl, by decide +kernel, by decide +kernel⟩
theorem nE {c : Cls} (Df : Def K mg "number_of" ["word"] fR) (B : Blt mg) (C : jD mg c) (O : jF mg base c) (hk : gH K c) (c_is_number : Cal P w K mg base 3 "is_number" 1 (bZ K c)) : Cal P w K mg base 4 "number_of" 1 (bJ K c) := by
 refine kX (k := 3) Df sc_number_of rfl (fun f cdv A outer s H E hr => ⟨fD K c, ?_, mX K c⟩)
 exact (aF (eC (iN (fQ (aR c_is_number hr dR (aA (dv 0) aM)))) (aO (vE yH rfl rfl O.NoNumber PySem.F.excBase_ValueError (aA aV aM))) bS) (aF (aU (i := 1) sc_number_of.nd rfl (Or.inl rfl) (nK PySem.F.slot_str_split PySem.F.type_str_split l6 lP kH (dv 0) aV)) (aF (aU (i := 2) sc_number_of.nd rfl (Or.inl rfl) (aBf (cA (dO (u64 hr)) d6 cH (bP cJ iP fS rfl B.len_ PySem.boot_len (aA (dv 1) aM)) aC (bM _)) aC (dU gM kF iQ rfl B.int_ lJ (aA (fF (dv 1) aC (fun _ _ => rfl)) aM)))) (aO (bE (kM (aA (dU gM kF iQ rfl B.int_ lJ (aA (fF (dv 1) aC (fun _ _ => rfl)) aM)) (aA (dv 2) aM))))))))
theorem lN : bF ["_law_found"] ["_law_found"] (aI fG) := ⟨rfl, rfl, rfl, by decide +kernel, rfl, by decide +kernel, by decide +kernel⟩
theorem lT {c : Cls} (Df : Def K mg "_law_whole" ["_law_found"] fG) (B : Blt mg) (C : jD mg c) (O : jF mg base c) (hk : gH K c) : Cal P w K mg base 1 "_law_whole" 1 (cO K c) := by
 refine kX (k := 0) Df lN rfl (fun f cdv A outer s H E hr => ⟨fJ K c, ?_, lO K c⟩)
 exact (aO (bE (pG (lG (cv := .type "int") rfl B.isinstance_ (.inl ⟨_, rfl⟩) rfl (dv 0) (hX (v := .ty "int") rfl B.int_ lJ rfl)) (mL (aCb (lG (cv := .type "bool") rfl B.isinstance_ (.inl ⟨_, rfl⟩) rfl (dv 0) (hX (v := .ty "bool") rfl B.bool_ yU rfl)))))))
theorem sc__law_changed : bF ["_law_text", "_law_way", "_law_cell", "_law_at", "_law_sign"] ["_law_text", "_law_way", "_law_cell"] (aI eG) := ⟨rfl, rfl, rfl, by decide +kernel, rfl, by decide +kernel, by decide +kernel⟩
theorem j9 {c : Cls} (Df : Def K mg "_law_changed" ["_law_text", "_law_way", "_law_cell"] eG) (B : Blt mg) (C : jD mg c) (O : jF mg base c) (hk : gH K c) (c__law_sign_by : Cal P w K mg base 1 "_law_sign_by" 1 (cD K c)) : Cal P w K mg base 2 "_law_changed" 3 (bG K c) := by
 refine kX (k := 1) Df sc__law_changed rfl (fun f cdv A outer s H E hr => ⟨eF K c, ?_, kQ K c⟩)
 exact (aF (aU (i := 3) sc__law_changed.nd rfl (Or.inl rfl) (aT cC dJ aN (dv 2) (aT a9 bX bA (bP dP gZ fZ rfl B.len_ PySem.boot_len (aA (dv 0) aM)) aC))) (aF (aU (i := 4) sc__law_changed.nd rfl (Or.inl rfl) (aR c__law_sign_by hr dR (aA (aT e8 fW aN (dv 2) aC) aM))) (aF (eC (cA (dO (u64 hr)) d6 cH (aT cC dJ aN (dv 1) aC) aC (bM _)) (aO (aU (i := 4) sc__law_changed.nd rfl (Or.inl rfl) (o7 aV (aT cC dJ aN (aT e8 fW aN (dv 2) aC) aC) (fun _ _ => rfl)))) bS) (aF (eC (cA vO gT cL (aT cC dJ aN (dv 1) aC) aC (bM _)) (aO (bE (aT a9 bX bA (aT a9 bX bA (iM (dv 0) fY (gE (dv 3))) (dv 4)) (iM (dv 0) (gE (dv 3)) fY)))) bS) (aF (eC (cA (dO (u64 hr)) d6 cH (aT cC dJ aN (dv 1) aC) aC (bM _)) (aO (bE (aT a9 bX bA (iM (dv 0) fY (gE (dv 3))) (iM (dv 0) (gE (aT a9 bX bA (dv 3) aC)) fY)))) bS) (aO (bE (aT a9 bX bA (aT a9 bX bA (iM (dv 0) fY (gE (dv 3))) (dv 4)) (iM (dv 0) (gE (aT a9 bX bA (dv 3) aC)) fY)))))))))
theorem sc__law_thing_right : bF ["_law_thing", "_law_due", "_law_found"] ["_law_thing"] (aI dM) := ⟨rfl, rfl, rfl, by decide +kernel, rfl, by decide +kernel, by decide +kernel⟩
theorem iC {c : Cls} (Df : Def K mg "_law_thing_right" ["_law_thing"] dM) (B : Blt mg) (C : jD mg c) (O : jF mg base c) (hk : gH K c) (c__law_is_fraction : Cal P w K mg base 2 "_law_is_fraction" 1 (aZ K c)) (c__law_only : Cal P w K mg base 1 "_law_only" 1 (cZ K c)) (c__law_asked : Cal P w K mg base 5 "_law_asked" 1 (bL K c)) (c__law_number : Cal P w K mg base 2 "_law_number" 1 (cB K c)) : Cal P w K mg base 6 "_law_thing_right" 1 (bC K c) := by
 refine kX (k := 5) Df sc__law_thing_right rfl (fun f cdv A outer s H E hr => ⟨dI K c, ?_, hU K c⟩)
 exact (aF (aU (i := 1) sc__law_thing_right.nd rfl (Or.inl rfl) i9) (aF (eC (fQ (lG (cv := .type "str") rfl B.isinstance_ (.inl ⟨_, rfl⟩) rfl (dv 0) (hX (v := .ty "str") rfl B.str_ jA rfl))) (aO (aU (i := 1) sc__law_thing_right.nd rfl (Or.inl rfl) (aR c__law_number hr dR (aA (dv 0) aM)))) bS) (aF (aU (i := 2) sc__law_thing_right.nd rfl (Or.inl rfl) (aR c__law_asked hr dR (aA (dv 0) aM))) (aF (eC (sF (dv 1)) (aO (bE (gK (dO (u64 hr)) d6 cH (dv 2) (aR c__law_only hr dR (aA aC aM)) (bM _)))) bS) (aO (bE (pG (aR c__law_is_fraction hr dR (aA (dv 2) aM)) (mL (gK (dO (u64 hr)) d6 cH (dv 2) (dv 1) (bM _))))))))))
end
section
variable {P : Program} {w : World} {K : PySem.W.Frag} {mg : Str -> Option Value} {base : Heap}
theorem sR : bF ["word"] ["word"] (aI jR) := ⟨rfl, rfl, rfl, by decide +kernel, rfl, by decide +kernel, by decide +kernel⟩
theorem q4 {c : Cls} (Df : Def K mg "is_top" ["word"] jR) (B : Blt mg) (C : jD mg c) (O : jF mg base c) (hk : gH K c) (c_is_whole : Cal P w K mg base 1 "is_whole" 1 (cU K c)) : Cal P w K mg base 2 "is_top" 1 (dQ K c) := by
 refine kX (k := 1) Df sR rfl (fun f cdv A outer s H E hr => ⟨jL K c, ?_, rH K c⟩)
 exact (aF (eC (fQ (nK PySem.F.slot_str_startswith PySem.F.type_str_startswith sO r6 qM (dv 0) aV)) (aO (bE (pG (gK (j3 (u64 hr)) d6 cH (dv 0) aV (bM _)) (mL (aR c_is_whole hr dR (aA (iM (dv 0) (gE aC) fY) aM)))))) bS) (aO (bE (aR c_is_whole hr dR (aA (dv 0) aM)))))
theorem nR : bF ["_law_at"] ["_law_at"] (aI gC) := ⟨rfl, rfl, rfl, by decide +kernel, rfl, by decide +kernel, by decide +kernel⟩
theorem nP {c : Cls} (Df : Def K mg "_law_only" ["_law_at"] gC) (B : Blt mg) (C : jD mg c) (O : jF mg base c) (hk : gH K c) : Cal P w K mg base 1 "_law_only" 1 (cZ K c) := by
 refine kX (k := 0) Df nR rfl (fun f cdv A outer s H E hr => ⟨gF K c, ?_, mK K c⟩)
 exact (aO (bE (oN (xs := ["_law_k"]) (ys := ["_law_at"]) (js := [0]) (cl := [("_law_at", s.heap.objs.size + 1)]) rfl (nG rfl B.range_ (aA aC aM)) (xE (ys := ["_law_at"]) (js := [0]) rfl (List.forall_mem_cons.mpr ⟨rfl, (fun _ h => nomatch h)⟩) (oV ⟨rfl, .inl rfl, .inl rfl, rfl, rfl⟩ iZ) (by decide +kernel) (by decide +kernel)) (oV ⟨rfl, .inl rfl, .inl rfl, rfl, rfl⟩ iZ) (by decide +kernel) rfl (by decide +kernel) rfl (by decide) (fun C s₀ H₀ ex pn => (jW (i := 0) (show (["_law_k", "_law_at"] : List Str).Nodup by decide +kernel) rfl (Or.inl rfl))) (fun C s₀ H₀ ex pn => oS) (fun C s₀ H₀ ex pn => (gK (aCa rfl) zP wN (dv 0) (kM (aA aC (aA (dv 1) aM))) (by with_unfolding_all rfl))))))
theorem sc__law_number_by : bF ["_law_cell", "_law_kind", "_law_c", "_law_bottom"] ["_law_cell", "_law_kind"] (aI dY) := ⟨rfl, rfl, rfl, by decide +kernel, rfl, by decide +kernel, by decide +kernel⟩
theorem iY {c : Cls} (Df : Def K mg "_law_number_by" ["_law_cell", "_law_kind"] dY) (B : Blt mg) (C : jD mg c) (O : jF mg base c) (hk : gH K c) (c__law_fraction : Cal P w K mg base 2 "_law_fraction" 2 (bN K c)) : Cal P w K mg base 3 "_law_number_by" 2 (bI K c) := by
 refine kX (k := 2) Df sc__law_number_by rfl (fun f cdv A outer s H E hr => ⟨bY K c, ?_, i7 K c⟩)
 exact (aF (aU (i := 2) sc__law_number_by.nd rfl (Or.inl rfl) (aT cC dJ aN (dv 0) (aT j4 kO aN aC aC))) (aF (eC (cA (dO (u64 hr)) d6 cH (aT cC dJ aN (dv 1) aC) aC (bM _)) (aO (bE (kM (aA (aT o6 oY cL (aT cC dJ aN (dv 2) aC) aC) (aA aC aM))))) bS) (aF (eC (cA (dO (u64 hr)) d6 cH (aT cC dJ aN (dv 1) aC) aC (bM _)) (aO (bE (aR c__law_fraction hr dR (aA (aT o6 oY cL (aT cC dJ aN (dv 2) aC) aC) (aA (aT a9 bX bA aC (aT cC dJ aN (aT e8 fW aN (dv 2) aC) aC)) aM))))) bS) (aF (aU (i := 3) sc__law_number_by.nd rfl (Or.inl rfl) (aT a9 bX bA aC (aT cC dJ aN (aT fM gS aN (dv 2) aC) (aT j4 kO aN aC aC)))) (aO (bE (aR c__law_fraction hr dR (aA (aT o6 oY cL (aT cC dJ aN (aT fM gS aN (dv 2) (aT j4 kO aN aC aC)) (aT a9 bX bA (aT fM gS aN aC (aT j4 kO aN aC aC)) aC)) (aT j4 kO aN aC aC)) (aA (dv 3) aM)))))))))
theorem sc__law_figures : bF ["_law_text", "_law_number_here", "_law_sign"] ["_law_text"] (aI eL) := ⟨rfl, rfl, rfl, by decide +kernel, rfl, by decide +kernel, by decide +kernel⟩
theorem j6 {c : Cls} (Df : Def K mg "_law_figures" ["_law_text"] eL) (B : Blt mg) (C : jD mg c) (O : jF mg base c) (hk : gH K c) : Cal P w K mg base 1 "_law_figures" 1 (bH K c) := by
 refine kX (k := 0) Df sc__law_figures rfl (fun f cdv A outer s H E hr => ⟨eE K c, ?_, kG K c⟩)
 exact (aF (eC (DW.t (gW (cA (dO (u64 hr)) d6 cH (bP dP gZ fZ rfl B.len_ PySem.boot_len (aA (dv 0) aM)) aC (bM _)) (gW (cA qF gT cL (bP dP gZ fZ rfl B.len_ PySem.boot_len (aA (dv 0) aM)) aC (bM _)) (iU (DW.t (qY (cA (dO (u64 hr)) d6 cH (o7 (dv 0) aC (fun _ _ => rfl)) aV (bM _)) (oO (cA qF gT cL (bP dP gZ fZ rfl B.len_ PySem.boot_len (aA (dv 0) aM)) aC (bM _))))))))) (aO (bE i9)) bS) (aF (aU (i := 1) sc__law_figures.nd rfl (Or.inl rfl) aC) (aF (xD PassesOwn.leaving rfl (wX (dv 0)) (jW (i := 2) sc__law_figures.nd rfl (Or.inl rfl)) (aF (eC (cA mJ rA rZ (dv 2) aV (by with_unfolding_all rfl)) (aO (bE i9)) bS) (aO (aU (i := 1) sc__law_figures.nd rfl (Or.inl rfl) (aT a9 bX bA (aT fM gS aN (dv 1) aC) (nK PySem.F.slot_str_index PySem.F.type_str_index sE sN qA aV (dv 2))))))) (aO (bE (dv 1))))))
end
section
variable {P : Program} {w : World} {K : PySem.W.Frag} {mg : Str -> Option Value} {base : Heap}
theorem sc_greatest_divisor : bF ["a", "b", "larger", "smaller", "rest"] ["a", "b"] (aI dH) := ⟨rfl, rfl, rfl, by decide +kernel, rfl, by decide +kernel, by decide +kernel⟩
theorem iE {c : Cls} (Df : Def K mg "greatest_divisor" ["a", "b"] dH) (B : Blt mg) (C : jD mg c) (O : jF mg base c) (hk : gH K c) : Cal P w K mg base 1 "greatest_divisor" 2 (bB K c) := by
 refine kX (k := 0) Df sc_greatest_divisor rfl (fun f cdv A outer s H E hr => ⟨fI K c, ?_, hZ K c⟩)
 exact (aF (aU (i := 2) sc_greatest_divisor.nd rfl (Or.inl rfl) (bP jN o9 lX rfl B.abs_ pR (aA (dv 0) aM))) (aF (aU (i := 3) sc_greatest_divisor.nd rfl (Or.inl rfl) (bP jN o9 lX rfl B.abs_ pR (aA (dv 1) aM))) (aF (pP PassesOwn.leaving (cA (j3 (u64 hr)) d6 cH (dv 3) aC (bM _)) (aF (aU (i := 4) sc_greatest_divisor.nd rfl (Or.inl rfl) (aT cC dJ aN (dv 2) (dv 3))) (aF (aU (i := 2) sc_greatest_divisor.nd rfl (Or.inl rfl) (dv 3)) (aO (aU (i := 3) sc_greatest_divisor.nd rfl (Or.inl rfl) (dv 4)))))) (aO (bE (dv 2))))))
theorem oQ : bF ["word"] ["word"] (aI gP) := ⟨rfl, rfl, rfl, by decide +kernel, rfl, by decide +kernel, by decide +kernel⟩
theorem oC {c : Cls} (Df : Def K mg "is_whole" ["word"] gP) (B : Blt mg) (C : jD mg c) (O : jF mg base c) (hk : gH K c) {t_MOST_FIGURES : Tok} (c_MOST_FIGURES : mg "MOST_FIGURES" = some (.int 30 t_MOST_FIGURES)) {t_FIGURES : Tok} (c_FIGURES : mg "FIGURES" = some (.str "0123456789" t_FIGURES)) : Cal P w K mg base 1 "is_whole" 1 (cU K c) := by
 refine kX (k := 0) Df oQ rfl (fun f cdv A outer s H E hr => ⟨gN K c, ?_, oG K c⟩)
 exact (aF (eC (DW.t (gW (cA (dO (u64 hr)) d6 cH (bP dP gZ fZ rfl B.len_ PySem.boot_len (aA (dv 0) aM)) aC (bM _)) (gW (cA qF gT cL (bP dP gZ fZ rfl B.len_ PySem.boot_len (aA (dv 0) aM)) (uR rfl c_MOST_FIGURES) (bM _)) (iU (iN (fQ (bP (pO rfl rfl) w6 rK rfl B.all_ wL (aA (oN (xs := ["sign"]) (ys := []) (js := []) (cl := []) rfl (wX (dv 0)) (xE (ys := []) (js := []) rfl (fun _ h => nomatch h) iZ (by decide +kernel) (by decide +kernel)) iZ (by decide +kernel) rfl (by decide +kernel) rfl (by decide) (fun C s₀ H₀ ex pn => (jW (i := 0) (show (["sign"] : List Str).Nodup by decide +kernel) rfl (Or.inl rfl))) (fun C s₀ H₀ ex pn => oS) (fun C s₀ H₀ ex pn => (gK rF aB1 rZ (dv 0) (uJ rfl c_FIGURES) (by with_unfolding_all rfl)))) aM)))))))) (aO (bE oP)) bS) (aO (bE (aDq (gK (dO (u64 hr)) d6 cH (dv 0) aV (bM _)) (mL (gK (j3 (u64 hr)) d6 cH (o7 (dv 0) aC (fun _ _ => rfl)) aV (bM _)))))))
theorem sc_is_number : bF ["thing", "parts"] ["thing"] (aI fT) := ⟨rfl, rfl, rfl, by decide +kernel, rfl, by decide +kernel, by decide +kernel⟩
theorem nS {c : Cls} (Df : Def K mg "is_number" ["thing"] fT) (B : Blt mg) (C : jD mg c) (O : jF mg base c) (hk : gH K c) (c_greatest_divisor : Cal P w K mg base 1 "greatest_divisor" 2 (bB K c)) (c_is_top : Cal P w K mg base 2 "is_top" 1 (dQ K c)) (c_is_bottom : Cal P w K mg base 2 "is_bottom" 1 (cP K c)) : Cal P w K mg base 3 "is_number" 1 (bZ K c) := by
 refine kX (k := 2) Df sc_is_number rfl (fun f cdv A outer s H E hr => ⟨fB K c, ?_, mP K c⟩)
 exact (aF (eC (iN (fQ (lG (cv := .type "str") rfl B.isinstance_ (.inl ⟨_, rfl⟩) rfl (dv 0) (hX (v := .ty "str") rfl B.str_ jA rfl)))) (aO (bE oP)) bS) (aF (aU (i := 1) sc_is_number.nd rfl (Or.inl rfl) (nK PySem.F.slot_str_split PySem.F.type_str_split l6 lP kH (dv 0) aV)) (aF (eC (cA (dO (u64 hr)) d6 cH (bP cJ iP fS rfl B.len_ PySem.boot_len (aA (dv 1) aM)) aC (bM _)) (aO (bE (aR c_is_top hr dR (aA (dv 0) aM)))) bS) (aF (eC (DW.t (gW (cA qF gT cL (bP cJ iP fS rfl B.len_ PySem.boot_len (aA (dv 1) aM)) aC (bM _)) (gW (iN (fQ (aR c_is_top hr dR (aA (fF (dv 1) aC (fun _ _ => rfl)) aM)))) (iU (iN (fQ (aR c_is_bottom hr dR (aA (fF (dv 1) aC (fun _ _ => rfl)) aM)))))))) (aO (bE oP)) bS) (aO (bE (gK (dO (u64 hr)) d6 cH (aR c_greatest_divisor hr dR (aA (dU gM kF iQ rfl B.int_ lJ (aA (fF (dv 1) aC (fun _ _ => rfl)) aM)) (aA (dU gM kF iQ rfl B.int_ lJ (aA (fF (dv 1) aC (fun _ _ => rfl)) aM)) aM))) aC (bM _))))))))
theorem sc__law_fraction : bF ["_law_top", "_law_bottom", "_law_by"] ["_law_top", "_law_bottom"] (aI eA) := ⟨rfl, rfl, rfl, by decide +kernel, rfl, by decide +kernel, by decide +kernel⟩
theorem jG {c : Cls} (Df : Def K mg "_law_fraction" ["_law_top", "_law_bottom"] eA) (B : Blt mg) (C : jD mg c) (O : jF mg base c) (hk : gH K c) (c__law_divisor : Cal P w K mg base 1 "_law_divisor" 2 (aW K c)) : Cal P w K mg base 2 "_law_fraction" 2 (bN K c) := by
 refine kX (k := 1) Df sc__law_fraction rfl (fun f cdv A outer s H E hr => ⟨d8 K c, ?_, jI K c⟩)
 exact (aF (aU (i := 2) sc__law_fraction.nd rfl (Or.inl rfl) (aR c__law_divisor hr dR (aA (dv 0) (aA (dv 1) aM)))) (aO (bE (kM (aA (aT e8 fW aN (dv 0) (dv 2)) (aA (aT e8 fW aN (dv 1) (dv 2)) aM))))))
end
theorem aBu {K : PySem.W.Frag} {C R : Addr} {cd : ClassData} (r1 : PySem.W.clsIn K R = some cd) (r2 : PySem.W.typeIn K (.ref R) = some (.type "type")) (r3 : PySem.W.subIn K (.ref R) (.type "BaseException") = some true) {b : Bool} (r4 : PySem.W.subIn K (.ref C) (.ref R) = some b) : PySem.W.exmOne K (.ref C) (.ref R) = some b := by
 show (if (PySem.W.subIn K (.ref R) (.type "BaseException") == some true) = true then (if ((PySem.W.clsIn K R).isSome && PySem.W.typeIn K (.ref R) == some (.type "type")) = true then PySem.W.subIn K (.ref C) (.ref R) else none) else none) = some b
 rw [r3, r1, r2, r4]
 rfl
theorem aA3 {K : PySem.W.Frag} {h₀ : Heap} {mg : Str -> Option Value} {x : Str} {C : Addr} {bmB : List Value} {newId : String} (X : K.In h₀) (G : h₀.Ns mainGlobals mg) (e : PySem.W.nsIn K mainGlobals x = some (some (.ref C))) (q : PySem.W.excIn K C bmB newId = true) : PyProof.Rows.OwnCls x C bmB newId mg h₀ := by
 refine ⟨PySem.W.mg_of X G e, ?_⟩
 unfold PySem.W.excIn at q
 split at q
 ·rename_i d1 cd1 sl1 ho1
  split at q
  ·rename_i C1 bm1 s0 s1 s2 s3 n1 s5 hm1 hs1
   simp only [Bool.and_eq_true, beq_iff_eq, Bool.not_eq_true'] at q
   obtain ⟨⟨⟨⟨⟨rfl, rfl⟩, hdl⟩, htl⟩, hnok⟩, hini⟩ := q
   obtain ⟨c1, c2, c3, c4, c5, c6, c7, c8, c9, c10, c11⟩ := cd1
   dsimp only at hm1 hdl hnok hini
   subst hm1 hdl
   obtain ⟨sll⟩ := sl1
   simp only at hs1
   subst hs1
   exact ⟨bm1, c4, c1, c5, c2, c6, c7, c8, c9, c10, d1, s0, s1, s2, s3, s5, _, X _ _ ho1, .of_isNs (PySem.W.isNs_of_in X hnok), PySem.W.nsMap_none_of_in X hnok hini, PySem.W.tail_of_in X htl⟩
  ·cases q
 ·cases q
theorem gI {α : Type} {us : List α} (h : us.length = 1) : ∃ a, us = [a] := List.length_eq_one_iff.mp h
theorem qJ {α : Type} {us : List α} (h : us.length = 2) : ∃ a b, us = [a, b] := by
 cases us with
 | nil => cases h
 | cons a r => obtain ⟨b, rfl⟩ := gI (Nat.succ.inj h); exact ⟨a, b, rfl⟩
theorem aDs {α : Type} {us : List α} (h : us.length = 3) : ∃ a b c, us = [a, b, c] := by
 cases us with
 | nil => cases h
 | cons a r => obtain ⟨b, c, rfl⟩ := qJ (Nat.succ.inj h); exact ⟨a, b, c, rfl⟩
def qR (K : PySem.W.Frag) : Bool := K.all fun p => match p.2.cls with
 | .type n => !(n == "list")
 | _ => true
theorem lookup_mem {a : Addr} {o : Obj} : ∀ {l : List (Addr × Obj)}, l.lookup a = some o -> (a, o) ∈ l
 | (k, v) :: r, h => by
  unfold List.lookup at h
  split at h
  ·rename_i z
   have e : a = k := by simpa using z
   cases h
   rw [e]
   exact .head _
  ·exact .tail _ (lookup_mem h)
theorem qC {K : PySem.W.Frag} (h : qR K = true) {a : Addr} {o : Obj} (e : K.lookup a = some o) (hc : o.cls = .type "list") : False := by
 have := List.all_eq_true.mp h (a, o) (lookup_mem e)
 dsimp only at this
 rw [hc] at this
 cases this
def vI : Sp := fun vs H Q _ => ∃ (a : Addr) (ns : List Int), vs = [.ref a] /\ Rd H a (.lst (ns.map V.int)) /\ ns.length <= 63 /\ ∀ H', Q (.bl true) H'
theorem nO {K : PySem.W.Frag} {G : Hp} : ∀ ns : List Int, Reps K G (ns.map V.int) (ns.map PyData.int)
 | [] => .nil
 | i :: r => .cons (.int i) (nO r)
theorem aCp {P : Program} {w : World} {K : PySem.W.Frag} {mg : Str -> Option Value} {base : Heap} {f : Addr} {fd : FuncData} {c : Cls} (hk : gH K c) (F : FnOk P w K mg base (CXr P w) 7 f fd ["_law_script"] (spM K 1 (qB K c))) : FnOk P w K mg base (CXr P w) 7 f fd ["_law_script"] vI :=
 F.imp fun vs H Q E h => by
  obtain ⟨a, ns, rfl, rd, hl, hq⟩ := h
  refine ⟨rfl, H, [.p (.list (ns.map .int))], Same.refl _, ⟨.lst rd (nO ns), trivial⟩, ?_⟩
  rw [aBq K c hk ns hl]
  intro G' H' v st r
  cases r
  exact hq H'
structure FnAt (K : PySem.W.Frag) (x : Str) (st : Stmt) (f : Addr) (m : Value) (c : Addr) : Prop where
 a : PySem.W.nsIn K mainGlobals x = some (some (.ref f))
 l : K.lookup f = some ⟨.type "function", none, .func (PySem.W.fnOf x x (eT st) (dD st) (aI st) .none .none .none m none (.ref c) .none), #[]⟩
 c : PySem.W.codeIn K (.ref c) x = true
 k : PySem.W.keepIn K (.ref f) = true
theorem FnAt.df {K : PySem.W.Frag} {h : Heap} {mg : Str -> Option Value} {x : Str} {st : Stmt} {f c : Addr} {m : Value} {ps : List Str} (A : FnAt K x st f m c) (X : K.In h) (G : h.Ns mainGlobals mg)
  (hb : ∀ (kV doc pm : Value) (an : Option Addr) (cdv ct : Value) (us : List Value), us.length = ps.length -> bindArgs (PySem.W.fnOf x x (eT st) (dD st) (aI st) .none kV doc pm an cdv ct) ⟨us, []⟩ = pure (ps.zip us)) : Def K mg x ps st :=
 have F := xB (st := st) A.l A.c A.k
 ⟨_, _, F, F.binds hb, A.k, PySem.W.mg_of X G A.a⟩
theorem all_mk {l : PySem.W.OpenLaw} {w : World} {K : PySem.W.Frag} {h : Heap} {mg : Str -> Option Value} {fa : Addr} {f1 c1 f2 c2 f3 c3 f4 c4 f5 c5 f6 c6 f7 c7 f8 c8 f9 c9 f10 c10 f11 c11 f12 c12 f13 c13 f14 c14 f15 c15 f16 c16 f17 c17 f18 c18 f19 c19 f20 c20 f21 c21 f22 c22 f23 c23 f24 c24 CRoofError CNoFraction CNoRoof CTooSteep CTooMany CNoNumber CNoCorner CNoDealing CNoRow CNoText CNoName : Addr} {t__name__ tFIGURES tMOST_FIGURES : Tok} (X : K.In h) (G : h.Ns mainGlobals mg) (hfa : mg "law" = some (.ref fa))
  {m1 m2 m3 m4 m5 m6 m7 m8 m9 m10 m11 m12 m13 m14 m15 m16 m17 m18 m19 m20 m21 m22 m23 m24 : Value}
  (h1 : FnAt K "greatest_divisor" dH f1 m1 c1)
  (h2 : FnAt K "is_whole" gP f2 m2 c2)
  (h3 : FnAt K "is_top" jR f3 m3 c3)
  (h4 : FnAt K "is_bottom" fV f4 m4 c4)
  (h5 : FnAt K "is_number" fT f5 m5 c5)
  (h6 : FnAt K "number_of" fR f6 m6 c6)
  (h7 : FnAt K "number_text" eY f7 m7 c7)
  (h8 : FnAt K "_law_cell_at" eI f8 m8 c8)
  (h9 : FnAt K "_law_whole" fG f9 m9 c9)
  (h10 : FnAt K "_law_divisor" eM f10 m10 c10)
  (h11 : FnAt K "_law_fraction" eA f11 m11 c11)
  (h12 : FnAt K "_law_is_fraction" dF f12 m12 c12)
  (h13 : FnAt K "_law_marks" fL f13 m13 c13)
  (h14 : FnAt K "_law_only" gC f14 m14 c14)
  (h15 : FnAt K "_law_number_by" dY f15 m15 c15)
  (h16 : FnAt K "_law_number_text" dN f16 m16 c16)
  (h17 : FnAt K "_law_figures" eL f17 m17 c17)
  (h18 : FnAt K "_law_number" eW f18 m18 c18)
  (h19 : FnAt K "_law_sign_by" eK f19 m19 c19)
  (h20 : FnAt K "_law_changed" eG f20 m20 c20)
  (h21 : FnAt K "_law_odd" gQ f21 m21 c21)
  (h22 : FnAt K "_law_asked" fH f22 m22 c22)
  (h23 : FnAt K "_law_thing_right" dM f23 m23 c23)
  (h24 : FnAt K "law" mO f24 m24 c24)
  (z0 : PySem.W.nsIn K mainGlobals "ValueError" = some none)
  (z1 : PySem.W.nsIn K mainGlobals "abs" = some none)
  (z2 : PySem.W.nsIn K mainGlobals "all" = some none)
  (z3 : PySem.W.nsIn K mainGlobals "bool" = some none)
  (z4 : PySem.W.nsIn K mainGlobals "int" = some none)
  (z5 : PySem.W.nsIn K mainGlobals "isinstance" = some none)
  (z6 : PySem.W.nsIn K mainGlobals "len" = some none)
  (z7 : PySem.W.nsIn K mainGlobals "range" = some none)
  (z8 : PySem.W.nsIn K mainGlobals "str" = some none)
  (z9 : PySem.W.nsIn K mainGlobals "tuple" = some none)
  (v__name__ : PySem.W.nsIn K mainGlobals "__name__" = some (some (.str "law_creasecurve_k04_numbers_written" t__name__)))
  (vFIGURES : PySem.W.nsIn K mainGlobals "FIGURES" = some (some (.str "0123456789" tFIGURES)))
  (vMOST_FIGURES : PySem.W.nsIn K mainGlobals "MOST_FIGURES" = some (some (.int 30 tMOST_FIGURES)))
  (nRoofError : PySem.W.nsIn K mainGlobals "RoofError" = some (some (.ref CRoofError)))
  (nNoFraction : PySem.W.nsIn K mainGlobals "NoFraction" = some (some (.ref CNoFraction)))
  (nNoRoof : PySem.W.nsIn K mainGlobals "NoRoof" = some (some (.ref CNoRoof)))
  (nTooSteep : PySem.W.nsIn K mainGlobals "TooSteep" = some (some (.ref CTooSteep)))
  (nTooMany : PySem.W.nsIn K mainGlobals "TooMany" = some (some (.ref CTooMany)))
  (nNoNumber : PySem.W.nsIn K mainGlobals "NoNumber" = some (some (.ref CNoNumber)))
  (nNoCorner : PySem.W.nsIn K mainGlobals "NoCorner" = some (some (.ref CNoCorner)))
  (nNoDealing : PySem.W.nsIn K mainGlobals "NoDealing" = some (some (.ref CNoDealing)))
  (nNoRow : PySem.W.nsIn K mainGlobals "NoRow" = some (some (.ref CNoRow)))
  (nNoText : PySem.W.nsIn K mainGlobals "NoText" = some (some (.ref CNoText)))
  (nNoName : PySem.W.nsIn K mainGlobals "NoName" = some (some (.ref CNoName)))
  (eNoNumber : PySem.W.excIn K CNoNumber [.type "ValueError", .type "Exception", .type "BaseException", .type "object"] "ValueError.__new__" = true)
  (r1 : (PySem.W.clsIn K CNoNumber).isSome = true)
  (r0 : (PySem.W.clsIn K CRoofError).isSome = true)
  (r2 : PySem.W.typeIn K (.ref CRoofError) = some (.type "type"))
  (r3 : PySem.W.subIn K (.ref CRoofError) (.type "BaseException") = some true)
  (r4 : PySem.W.subIn K (.ref CNoNumber) (.ref CRoofError) = some true)
  (y1 : PySem.W.findIn K (.ref CNoNumber) "__getattribute__" = some (some (.builtin "BaseException.__getattribute__")))
  (y2 : PySem.W.findIn K (.ref CNoNumber) "__getattr__" = some none)
  (y3 : PySem.W.findIn K (.ref CNoNumber) "__class__" = some (some (.builtin "object.__class__")))
  (y4 : PySem.W.mroIn K CNoNumber (.type "object") = some true)
  (y5 : PySem.W.mroIn K CNoNumber (.type "BaseException") = some true)
  (w1 : PySem.W.kitOne K (.ref CNoNumber) (.type "ValueError") = some true)
  (w2 : PySem.W.kitOne K (.ref CNoNumber) (.ref CNoNumber) = some true)
  (v0 : PySem.W.kitOne K (.ref CNoNumber) (.ref CNoFraction) = some false)
  (v1 : PySem.W.kitOne K (.ref CNoNumber) (.ref CNoRoof) = some false)
  (v2 : PySem.W.kitOne K (.ref CNoNumber) (.ref CTooSteep) = some false)
  (v3 : PySem.W.kitOne K (.ref CNoNumber) (.ref CTooMany) = some false)
  (v4 : PySem.W.kitOne K (.ref CNoNumber) (.ref CNoCorner) = some false)
  (v5 : PySem.W.kitOne K (.ref CNoNumber) (.ref CNoDealing) = some false)
  (v6 : PySem.W.kitOne K (.ref CNoNumber) (.ref CNoRow) = some false)
  (v7 : PySem.W.kitOne K (.ref CNoNumber) (.ref CNoText) = some false)
  (v8 : PySem.W.kitOne K (.ref CNoNumber) (.ref CNoName) = some false)
  (xii : PySem.W.kitOne K (.type "int") (.type "int") = some true)
  (xib : PySem.W.kitOne K (.type "int") (.type "bool") = some false)
  (xtt : PySem.W.kitOne K (.type "tuple") (.type "tuple") = some true)
  (xss : PySem.W.kitOne K (.type "str") (.type "str") = some true)
  (xsi : PySem.W.kitOne K (.type "int") (.type "str") = some false)
  (xsn : PySem.W.kitOne K (.type "NoneType") (.type "str") = some false)
  (xst : PySem.W.kitOne K (.type "tuple") (.type "str") = some false)
  (xsl : PySem.W.kitOne K (.type "list") (.type "str") = some false)
  (xsb : PySem.W.kitOne K (.type "bool") (.type "str") = some false)
  (xsd : PySem.W.kitOne K (.type "dict") (.type "str") = some false)
  : ∃ fd : FuncData, (∀ (s : Shared) (v : Value), BindsTo s fd ⟨[v], []⟩ [("_law_script", v)]) /\ ∀ base : Heap, K.In base -> base.Ns mainGlobals mg -> FnOk l.prog w K mg base (CXr l.prog w) 7 fa fd ["_law_script"] vI := by
 obtain ⟨cdR, r1⟩ := Option.isSome_iff_exists.mp r1
 obtain ⟨cdE, r0⟩ := Option.isSome_iff_exists.mp r0
 have e := hfa.symm.trans (PySem.W.mg_of X G h24.a)
 cases e
 have D1 := h1.df (ps := ["a", "b"]) X G (fun _ _ _ _ _ _ us hl => by obtain ⟨_, _, rfl⟩ := qJ hl; rfl)
 have D2 := h2.df (ps := ["word"]) X G (fun _ _ _ _ _ _ us hl => by obtain ⟨_, rfl⟩ := gI hl; rfl)
 have D3 := h3.df (ps := ["word"]) X G (fun _ _ _ _ _ _ us hl => by obtain ⟨_, rfl⟩ := gI hl; rfl)
 have D4 := h4.df (ps := ["word"]) X G (fun _ _ _ _ _ _ us hl => by obtain ⟨_, rfl⟩ := gI hl; rfl)
 have D5 := h5.df (ps := ["thing"]) X G (fun _ _ _ _ _ _ us hl => by obtain ⟨_, rfl⟩ := gI hl; rfl)
 have D6 := h6.df (ps := ["word"]) X G (fun _ _ _ _ _ _ us hl => by obtain ⟨_, rfl⟩ := gI hl; rfl)
 have D7 := h7.df (ps := ["a"]) X G (fun _ _ _ _ _ _ us hl => by obtain ⟨_, rfl⟩ := gI hl; rfl)
 have D8 := h8.df (ps := ["_law_script", "_law_k"]) X G (fun _ _ _ _ _ _ us hl => by obtain ⟨_, _, rfl⟩ := qJ hl; rfl)
 have D9 := h9.df (ps := ["_law_found"]) X G (fun _ _ _ _ _ _ us hl => by obtain ⟨_, rfl⟩ := gI hl; rfl)
 have D10 := h10.df (ps := ["_law_a", "_law_b"]) X G (fun _ _ _ _ _ _ us hl => by obtain ⟨_, _, rfl⟩ := qJ hl; rfl)
 have D11 := h11.df (ps := ["_law_top", "_law_bottom"]) X G (fun _ _ _ _ _ _ us hl => by obtain ⟨_, _, rfl⟩ := qJ hl; rfl)
 have D12 := h12.df (ps := ["_law_found"]) X G (fun _ _ _ _ _ _ us hl => by obtain ⟨_, rfl⟩ := gI hl; rfl)
 have D13 := h13.df (ps := ["_law_e"]) X G (fun _ _ _ _ _ _ us hl => by obtain ⟨_, rfl⟩ := gI hl; rfl)
 have D14 := h14.df (ps := ["_law_at"]) X G (fun _ _ _ _ _ _ us hl => by obtain ⟨_, rfl⟩ := gI hl; rfl)
 have D15 := h15.df (ps := ["_law_cell", "_law_kind"]) X G (fun _ _ _ _ _ _ us hl => by obtain ⟨_, _, rfl⟩ := qJ hl; rfl)
 have D16 := h16.df (ps := ["_law_a"]) X G (fun _ _ _ _ _ _ us hl => by obtain ⟨_, rfl⟩ := gI hl; rfl)
 have D17 := h17.df (ps := ["_law_text"]) X G (fun _ _ _ _ _ _ us hl => by obtain ⟨_, rfl⟩ := gI hl; rfl)
 have D18 := h18.df (ps := ["_law_word"]) X G (fun _ _ _ _ _ _ us hl => by obtain ⟨_, rfl⟩ := gI hl; rfl)
 have D19 := h19.df (ps := ["_law_cell"]) X G (fun _ _ _ _ _ _ us hl => by obtain ⟨_, rfl⟩ := gI hl; rfl)
 have D20 := h20.df (ps := ["_law_text", "_law_way", "_law_cell"]) X G (fun _ _ _ _ _ _ us hl => by obtain ⟨_, _, _, rfl⟩ := aDs hl; rfl)
 have D21 := h21.df (ps := ["_law_cell"]) X G (fun _ _ _ _ _ _ us hl => by obtain ⟨_, rfl⟩ := gI hl; rfl)
 have D22 := h22.df (ps := ["_law_thing"]) X G (fun _ _ _ _ _ _ us hl => by obtain ⟨_, rfl⟩ := gI hl; rfl)
 have D23 := h23.df (ps := ["_law_thing"]) X G (fun _ _ _ _ _ _ us hl => by obtain ⟨_, rfl⟩ := gI hl; rfl)
 have B : Blt mg := ⟨PySem.W.mg_none_of X G z0, PySem.W.mg_none_of X G z1, PySem.W.mg_none_of X G z2, PySem.W.mg_none_of X G z3, PySem.W.mg_none_of X G z4, PySem.W.mg_none_of X G z5, PySem.W.mg_none_of X G z6, PySem.W.mg_none_of X G z7, PySem.W.mg_none_of X G z8, PySem.W.mg_none_of X G z9⟩
 let c : Cls := ⟨CRoofError, CNoFraction, CNoRoof, CTooSteep, CTooMany, CNoNumber, CNoCorner, CNoDealing, CNoRow, CNoText, CNoName⟩
 have C : jD mg c := ⟨PySem.W.mg_of X G nRoofError, PySem.W.mg_of X G nNoFraction, PySem.W.mg_of X G nNoRoof, PySem.W.mg_of X G nTooSteep, PySem.W.mg_of X G nTooMany, PySem.W.mg_of X G nNoNumber, PySem.W.mg_of X G nNoCorner, PySem.W.mg_of X G nNoDealing, PySem.W.mg_of X G nNoRow, PySem.W.mg_of X G nNoText, PySem.W.mg_of X G nNoName⟩
 have hk : gH K c := ⟨xii, xib, xtt, xss, xsi, xsn, xst, xsl, xsb, xsd, ⟨y1, y2, y3, y4, y5, by rw [r1]; rfl⟩, aBu r0 r2 r3 r4, w1, w2, v0, v1, v2, v3, v4, v5, v6, v7, v8⟩
 refine ⟨PySem.W.fnOf "law" "law" (eT mO) (dD mO) (aI mO) .none .none .none m24 none (.ref c24) .none, fun s v => .of_eq rfl, fun base kb nb => ?_⟩
 have O : jF mg base c := ⟨aA3 kb nb nNoNumber eNoNumber⟩
 have G1 : Cal l.prog w K mg base 1 "greatest_divisor" 2 (bB K c) := iE D1 B C O hk
 have G2 : Cal l.prog w K mg base 1 "is_whole" 1 (cU K c) := oC D2 B C O hk (PySem.W.mg_of X G vMOST_FIGURES) (PySem.W.mg_of X G vFIGURES)
 have G7 : Cal l.prog w K mg base 1 "number_text" 1 (cK K c) := lE D7 B C O hk
 have G8 : Cal l.prog w K mg base 1 "_law_cell_at" 2 (aQ K c) := kR D8 B C O hk
 have G9 : Cal l.prog w K mg base 1 "_law_whole" 1 (cO K c) := lT D9 B C O hk
 have G10 : Cal l.prog w K mg base 1 "_law_divisor" 2 (aW K c) := kK D10 B C O hk
 have G13 : zS l.prog w K mg base 1 "_law_marks" 1 (cM K c) := lR D13 B C O hk
 have G14 : Cal l.prog w K mg base 1 "_law_only" 1 (cZ K c) := nP D14 B C O hk
 have G16 : Cal l.prog w K mg base 1 "_law_number_text" 1 (bD K c) := iG D16 B C O hk
 have G17 : Cal l.prog w K mg base 1 "_law_figures" 1 (bH K c) := j6 D17 B C O hk
 have G19 : Cal l.prog w K mg base 1 "_law_sign_by" 1 (cD K c) := jY D19 B C O hk
 have G21 : Cal l.prog w K mg base 1 "_law_odd" 1 (dC K c) := oM D21 B C O hk
 have G3 : Cal l.prog w K mg base 2 "is_top" 1 (dQ K c) := q4 D3 B C O hk G2
 have G4 : Cal l.prog w K mg base 2 "is_bottom" 1 (cP K c) := nF D4 B C O hk G2
 have G11 : Cal l.prog w K mg base 2 "_law_fraction" 2 (bN K c) := jG D11 B C O hk G10
 have G12 : Cal l.prog w K mg base 2 "_law_is_fraction" 1 (aZ K c) := gY D12 B C O hk G10 G9
 have G18 : Cal l.prog w K mg base 2 "_law_number" 1 (cB K c) := kY D18 B C O hk G10 G17
 have G20 : Cal l.prog w K mg base 2 "_law_changed" 3 (bG K c) := j9 D20 B C O hk G19
 have G5 : Cal l.prog w K mg base 3 "is_number" 1 (bZ K c) := nS D5 B C O hk G1 G3 G4
 have G15 : Cal l.prog w K mg base 3 "_law_number_by" 2 (bI K c) := iY D15 B C O hk G11
 have G6 : Cal l.prog w K mg base 4 "number_of" 1 (bJ K c) := nE D6 B C O hk G5
 have G22 : Cal l.prog w K mg base 5 "_law_asked" 1 (bL K c) := lU D22 B C O hk G6 G13
 have G23 : Cal l.prog w K mg base 6 "_law_thing_right" 1 (bC K c) := iC D23 B C O hk G12 G14 G22 G18
 exact aCp hk (aBr (xB (st := mO) h24.l h24.c h24.k) B C O hk G23 G21 G8 G20 G16 G22 G7 G15)
theorem walk {l : PySem.W.OpenLaw} {q : Program} {loose : List Str} {XP : (Str -> Option Value) -> Heap -> Prop} {YP : World -> Heap -> Prop} {d : DefRec} {K : Params -> PySem.W.Frag} (hn : l.most = some 63) (hdf : d.params.defaults = [])
  {ts : List Addr} (hY : ∀ (w : World) (h : Heap), YP w h -> (K w.params).In h /\ ∀ P ∈ ts, h.get? P = some (PySem.W.tabObj #[])) (hT : ∀ w : World, xV (K w.params) ts = true) (hK : ∀ w : World, qR (K w.params) = true)
  (F : ∀ (w : World) (mg : Str -> Option Value) (fa : Addr) (h : Heap), (K w.params).In h -> h.Ns mainGlobals mg -> mg d.name = some (.ref fa) ->
   ∃ fd : FuncData, (∀ (s : Shared) (u : Value), BindsTo s fd ⟨[u], []⟩ [("_law_script", u)]) /\ ∀ base : Heap, (K w.params).In base -> base.Ns mainGlobals mg -> FnOk l.prog w (K w.params) mg base (CXr l.prog w) 7 fa fd ["_law_script"] vI) :
  PySem.W.WalkO q loose XP YP l.row.toRowW d [] (fun f vs => PySem.call f vs) :=
 L2.yV (n := 63) (k := 7) (x := "_law_script") (CX := fun w => CXr l.prog w) (sp := fun _ => vI) hn (by decide) hdf ⟨rfl, by decide, by decide⟩ hY hT F (fun w _ a ns hl _ hS => ⟨a, ns, rfl, hS.elim id (fun ⟨_, _, _, e, hc, _⟩ => (qC (hK w) e hc).elim), hl, fun _ => rfl⟩) fun _ _ _ _ _ ⟨_, _, _, _, _, _, _, z⟩ => z
end My
namespace Hd
open PySem PySem.W PyProof.Rows L2 My
abbrev pr : Program := PySem.Challenge.pw_creasecurve_k04_numbers_written
def sub (i j : Nat) : Stmt := match top i with
 | .ClassDef (body := b) .. => b.getD j (.Pass ⟨0, 0, 0, 0⟩)
 | _ => .Pass ⟨0, 0, 0, 0⟩
noncomputable def vs (s : String) (t : Nat) : Value := .str (Str.ofString s) t
noncomputable def en (P : Params) (s : String) (t : Nat) (v : Value) : DictEntry := ⟨PyData.keyHash P (Str.ofString s), .str (Str.ofString s) t, v⟩
noncomputable def fd (n q : String) (a : Arguments) (b : FuncBody) (s : Scope) (g : Nat) (c : List (Str × Nat)) (d k dc m : Value) (an : Option Nat) (co ct : Value) (bl : Nat) : FuncData := ⟨Str.ofString n, Str.ofString q, a, b, s, g, c, d, k, dc, m, an, co, ct, bl⟩
noncomputable def pE (e : DictEntry) : Obj -> Obj
 | ⟨c, d, .dict es n, s⟩ => ⟨c, d, .dict (es.push e) (n + 1), s⟩
 | o => o
noncomputable def rE (i : Nat) (v : Value) : Obj -> Obj
 | ⟨c, d, .dict es n, s⟩ => ⟨c, d, .dict (es.modify i fun e => ⟨e.hash, e.key, v⟩) n, s⟩
 | o => o
noncomputable def pF (vs : List Value) : Obj -> Obj
 | ⟨c, d, .fields xs, s⟩ => ⟨c, d, .fields (xs ++ vs.toArray), s⟩
 | o => o
noncomputable def tu (xs : List Value) : Obj := ⟨.type "tuple", none, .seq xs.toArray 0, #[]⟩
noncomputable def fl (xs : List Value) : Obj := ⟨.none, none, .fields xs.toArray, #[]⟩
noncomputable def fo (i : Nat) (nm : String) (g : Nat) (m co c : Value) : Obj := ⟨c, none, .func (fd nm nm (eT (top i)) (.stmts (dD (top i))) (aI (top i)) g [] .none .none .none m none co .none 0), #[]⟩
noncomputable def co (nm : String) (t u l k a c : Nat) (v x : Value) (f : Nat) : Obj := ⟨.type "code", none, .fields #[vs nm t, vs nm (t + 1), vs "/claim/cut.py" (t + 2), .int l 0, .int k 0, .int 0 0, .int 0 0, .int 3 0, .ref a, .bool true, .int 181 0, .ref c, .none, v, x, .ref f, .int u 0, .int l 0, vs "/claim/cut.py" (u + 1)], #[]⟩
noncomputable def vL (t : Nat) : List String -> List Value
 | [] => []
 | s :: r => vs s t :: vL (t + 1) r
noncomputable def d7 (P : Params) (i : Nat) (nm : String) (m : Value) (l k : Nat) (vn : List String) (n t u : Nat) (T : BT) : BT := ((((((((T.set 3 (pE (en P nm (u + 2) (.ref (n + 6))))).set 12 (pF [.int l 0, .int 0 0, .ref (n + 5)])).ins n (tu [])).ins (n + 1) (fl [])).ins (n + 2) (tu (vL (t + 3) vn))).ins (n + 3) (tu [])).ins (n + 4) (fo i nm 0 .none .none .none)).ins (n + 5) (co nm t u l k n (n + 1) (.ref (n + 2)) (.ref (n + 3)) (n + 4))).ins (n + 6) (fo i nm 3 m (.ref (n + 5)) (.type "function"))
noncomputable def d5 (P : Params) (i : Nat) (nm : String) (m : Value) (l k n t u : Nat) (T : BT) : BT := ((((((T.set 3 (pE (en P nm (u + 2) (.ref (n + 4))))).set 12 (pF [.int l 0, .int 0 0, .ref (n + 3)])).ins n (tu [])).ins (n + 1) (fl [])).ins (n + 2) (fo i nm 0 .none .none .none)).ins (n + 3) (co nm t u l k n (n + 1) .none .none (n + 2))).ins (n + 4) (fo i nm 3 m (.ref (n + 3)) (.type "function"))
noncomputable def oB : Env := { scope := pr.main.scope, locals := mainNs, globals := mainNs, cells := [], code := (.ref 13), frame := some 14 }
noncomputable def cE : Code := .body (behindTheImports pr) oB
noncomputable def ol (P : Params) : List Obj := [boot_o_0 P, boot_o_1 P, boot_o_2 P, boot_o_3 P, boot_o_4 P, boot_o_5 P, boot_o_6 P, boot_o_7 P, boot_o_8 P, boot_o_9 P, boot_o_10 P, (⟨(.type "tuple"), none, (.seq #[] 0), #[]⟩ : Obj), (⟨.none, none, (.fields #[]), #[]⟩ : Obj), (⟨(.type "code"), none, (.fields #[(vs "<module>" 182), (vs "<module>" 183), (vs "/claim/cut.py" 184), (.int 1 0), (.int 0 0), (.int 0 0), (.int 0 0), (.int 0 0), (.ref 11), (.bool false), (.int 181 0), (.ref 12), .none, .none, .none, .none, (.int 185 0), (.int 1 0), (vs "/claim/cut.py" 186)]), #[]⟩ : Obj), (⟨(.type "frame"), none, .plain, #[(some (.ref 13)), (some (.ref 3)), (some (.ref 3)), none, (some (vs "__main__" 164)), none, (some (.ref 0))]⟩ : Obj)]
noncomputable def bt : Nat -> List Obj -> BT -> BT
 | _, [], T => T
 | i, o :: r, T => bt (i + 1) r (T.ins i o)
noncomputable def t0 (P : Params) : BT := bt 0 (ol P) .nil
noncomputable abbrev sT (t : Params -> BT) (n k : Nat) (w : World) (os : OsState) : SharedT := ⟨t w.params, n, {}, ⟨[]⟩, boot_drawn, k, os⟩
abbrev B : List Frame := [topFrame ⟨0, 0, 0, 0⟩]
theorem zI (w : World) : (fun os => topGo treeTable pr w 11 (some (.ref 6)) 12 ⟨boot_heap w.params, ⟨[]⟩, boot_drawn, boot_toks, os⟩ (topStub pr)) = (fun os => some ((⟨⟨⟨ol w.params⟩, {}⟩, ⟨[]⟩, boot_drawn, 187, os⟩ : Shared), ⟨denote treeTable cE, cE, ⟨0, 0, 0, 0⟩, B⟩)) := by
 rw [PySem.W.Fast.te15667345088766844465, PySem.W.Fast.te14364793385576792824, PySem.W.Fast.te11892475500146522536]
 kernel_rfl
theorem aCx (w : World) : (fun os => segRun treeTable pr w 11 (some (.ref 6)) 1 1 ⟨⟨⟨ol w.params⟩, {}⟩, ⟨[]⟩, boot_drawn, 187, os⟩ (blockOf (behindTheImports pr) oB cE ⟨0, 0, 0, 0⟩ B)) = (fun os => some (.next, (sT t0 15 187 w os).abs, cE, ⟨0, 0, 0, 0⟩)) := by
 rw [PySem.W.Fast.te14374325043358763698, PySem.W.Fast.te14364793385576792824]
 kernel_rfl
noncomputable def t1 (P : Params) : BT :=
 (t0 P) |>
 (fun T => T.set 3 (rE 0 (vs "creasecurve.errors" 187))) |>
 (fun T => T.set 3 (pE (en P "RoofError" 206 (.ref 24)))) |>
 (fun T => T.set 12 (pF [(.int 2 0), (.int 0 0), (.ref 20)])) |>
 (fun T => T.ins 15 (tu [(.type "ValueError")])) |>
 (fun T => T.ins 16 ⟨(.type "builtin_function_or_method"), none, (.fields #[(.builtin "type.__prepare__"), (.type "type")]), #[]⟩) |>
 (fun T => T.ins 17 ⟨(.type "dict"), none, (.dict #[en P "__module__" 196 (vs "creasecurve.errors" 187), en P "__qualname__" 198 (vs "RoofError" 197), en P "__firstlineno__" 200 (.int 2 199), en P "__static_attributes__" 201 (.ref 22)] 4), #[]⟩) |>
 (fun T => T.ins 18 (tu [])) |>
 (fun T => T.ins 19 (fl [])) |>
 (fun T => T.ins 20 ⟨(.type "code"), none, (.fields #[(vs "RoofError" 191), (vs "RoofError" 192), (vs "/claim/cut.py" 193), (.int 2 0), (.int 0 0), (.int 0 0), (.int 0 0), (.int 0 0), (.ref 18), (.bool false), (.int 181 0), (.ref 19), .none, .none, .none, .none, (.int 194 0), (.int 2 0), (vs "/claim/cut.py" 195)]), #[]⟩) |>
 (fun T => T.ins 21 ⟨(.type "frame"), none, .plain, #[(some (.ref 20)), (some (.ref 3)), (some (.ref 17)), none, (some (vs "creasecurve.errors" 187)), none, (some (.ref 0))]⟩) |>
 (fun T => T.ins 22 (tu [])) |>
 (fun T => T.ins 23 ⟨(.type "dict"), none, (.dict #[en P "__module__" 196 (vs "creasecurve.errors" 187), en P "__firstlineno__" 200 (.int 2 199), en P "__static_attributes__" 201 (.ref 22), en P "__weakref__" 203 (.ref 25), en P "__doc__" 204 .none] 3), #[]⟩) |>
 (fun T => T.ins 24 ⟨(.type "type"), none, (.cls ⟨"RoofError", [(.type "ValueError")], [(.ref 24), (.type "ValueError"), (.type "Exception"), (.type "BaseException"), (.type "object")], 23, "RoofError", true, [], [], false, none, false⟩), #[(some (.ref 15)), none, (some (vs "RoofError" 189)), (some (vs "RoofError" 197)), (some (.builtin "ValueError.__new__")), (some (.bool true))]⟩) |>
 (fun T => T.ins 25 ⟨(.type "getset_descriptor"), none, (.fields #[(vs "__weakref__" 202), (.ref 24), (.builtin "ExceptionGroup.__weakref__"), .none]), #[]⟩) |>
 (fun T => T.ins 26 ⟨(.type "super"), none, (.fields #[(.ref 24), (.ref 24), (.ref 24)]), #[]⟩) |>
 (fun T => T.ins 27 ⟨(.type "builtin_function_or_method"), none, (.fields #[(.builtin "object.__init_subclass__"), (.ref 24)]), #[]⟩)
noncomputable def g0 : List Stmt := [top 0, top 1]
theorem hg0 (w : World) : (fun os => segRunT treeTable pr w 11 (some (.ref 6)) 1 196 (sT t0 15 187 w os) (piecesOf g0 oB cE ⟨0, 0, 0, 0⟩ B)) = (fun os => some (.next, sT t1 28 207 w os, cE, ⟨2, 0, 3, 8⟩)) := by
 rw [PySem.W.Fast.te10110043849684766642, PySem.W.Fast.te14364793385576792824]
 kernel_rfl
noncomputable def t2 (P : Params) : BT :=
 (t1 P) |>
 (fun T => T.set 3 (pE (en P "NoFraction" 222 (.ref 37)))) |>
 (fun T => T.set 12 (pF [(.int 4 0), (.int 0 0), (.ref 33)])) |>
 (fun T => T.set 24 (fun _ => ⟨(.type "type"), none, (.cls ⟨"RoofError", [(.type "ValueError")], [(.ref 24), (.type "ValueError"), (.type "Exception"), (.type "BaseException"), (.type "object")], 23, "RoofError", true, [], [(.ref 37)], false, none, false⟩), #[(some (.ref 15)), none, (some (vs "RoofError" 189)), (some (vs "RoofError" 197)), (some (.builtin "ValueError.__new__")), (some (.bool true))]⟩)) |>
 (fun T => T.ins 28 (tu [(.ref 24)])) |>
 (fun T => T.ins 29 ⟨(.type "builtin_function_or_method"), none, (.fields #[(.builtin "type.__prepare__"), (.type "type")]), #[]⟩) |>
 (fun T => T.ins 30 ⟨(.type "dict"), none, (.dict #[en P "__module__" 214 (vs "creasecurve.errors" 187), en P "__qualname__" 216 (vs "NoFraction" 215), en P "__firstlineno__" 218 (.int 4 217), en P "__static_attributes__" 219 (.ref 35)] 4), #[]⟩) |>
 (fun T => T.ins 31 (tu [])) |>
 (fun T => T.ins 32 (fl [])) |>
 (fun T => T.ins 33 ⟨(.type "code"), none, (.fields #[(vs "NoFraction" 209), (vs "NoFraction" 210), (vs "/claim/cut.py" 211), (.int 4 0), (.int 0 0), (.int 0 0), (.int 0 0), (.int 0 0), (.ref 31), (.bool false), (.int 181 0), (.ref 32), .none, .none, .none, .none, (.int 212 0), (.int 4 0), (vs "/claim/cut.py" 213)]), #[]⟩) |>
 (fun T => T.ins 34 ⟨(.type "frame"), none, .plain, #[(some (.ref 33)), (some (.ref 3)), (some (.ref 30)), none, (some (vs "creasecurve.errors" 187)), none, (some (.ref 0))]⟩) |>
 (fun T => T.ins 35 (tu [])) |>
 (fun T => T.ins 36 ⟨(.type "dict"), none, (.dict #[en P "__module__" 214 (vs "creasecurve.errors" 187), en P "__firstlineno__" 218 (.int 4 217), en P "__static_attributes__" 219 (.ref 35), en P "__doc__" 220 .none] 2), #[]⟩) |>
 (fun T => T.ins 37 ⟨(.type "type"), none, (.cls ⟨"NoFraction", [(.ref 24)], [(.ref 37), (.ref 24), (.type "ValueError"), (.type "Exception"), (.type "BaseException"), (.type "object")], 36, "NoFraction", true, [], [], false, none, false⟩), #[(some (.ref 28)), none, (some (vs "NoFraction" 207)), (some (vs "NoFraction" 215)), (some (.builtin "ValueError.__new__")), (some (.bool true))]⟩) |>
 (fun T => T.ins 38 ⟨(.type "super"), none, (.fields #[(.ref 37), (.ref 37), (.ref 37)]), #[]⟩) |>
 (fun T => T.ins 39 ⟨(.type "builtin_function_or_method"), none, (.fields #[(.builtin "object.__init_subclass__"), (.ref 37)]), #[]⟩)
noncomputable def g1 : List Stmt := [top 2]
theorem hg1 (w : World) : (fun os => segRunT treeTable pr w 11 (some (.ref 6)) 1 214 (sT t1 28 207 w os) (piecesOf g1 oB cE ⟨2, 0, 3, 8⟩ B)) = (fun os => some (.next, sT t2 40 223 w os, cE, ⟨4, 0, 5, 8⟩)) := by
 rw [PySem.W.Fast.te10110043849684766642, PySem.W.Fast.te14364793385576792824]
 kernel_rfl
noncomputable def t3 (P : Params) : BT :=
 (t2 P) |>
 (fun T => T.set 3 (pE (en P "NoRoof" 238 (.ref 49)))) |>
 (fun T => T.set 12 (pF [(.int 6 0), (.int 0 0), (.ref 45)])) |>
 (fun T => T.set 24 (fun _ => ⟨(.type "type"), none, (.cls ⟨"RoofError", [(.type "ValueError")], [(.ref 24), (.type "ValueError"), (.type "Exception"), (.type "BaseException"), (.type "object")], 23, "RoofError", true, [], [(.ref 37), (.ref 49)], false, none, false⟩), #[(some (.ref 15)), none, (some (vs "RoofError" 189)), (some (vs "RoofError" 197)), (some (.builtin "ValueError.__new__")), (some (.bool true))]⟩)) |>
 (fun T => T.ins 40 (tu [(.ref 24)])) |>
 (fun T => T.ins 41 ⟨(.type "builtin_function_or_method"), none, (.fields #[(.builtin "type.__prepare__"), (.type "type")]), #[]⟩) |>
 (fun T => T.ins 42 ⟨(.type "dict"), none, (.dict #[en P "__module__" 230 (vs "creasecurve.errors" 187), en P "__qualname__" 232 (vs "NoRoof" 231), en P "__firstlineno__" 234 (.int 6 233), en P "__static_attributes__" 235 (.ref 47)] 4), #[]⟩) |>
 (fun T => T.ins 43 (tu [])) |>
 (fun T => T.ins 44 (fl [])) |>
 (fun T => T.ins 45 ⟨(.type "code"), none, (.fields #[(vs "NoRoof" 225), (vs "NoRoof" 226), (vs "/claim/cut.py" 227), (.int 6 0), (.int 0 0), (.int 0 0), (.int 0 0), (.int 0 0), (.ref 43), (.bool false), (.int 181 0), (.ref 44), .none, .none, .none, .none, (.int 228 0), (.int 6 0), (vs "/claim/cut.py" 229)]), #[]⟩) |>
 (fun T => T.ins 46 ⟨(.type "frame"), none, .plain, #[(some (.ref 45)), (some (.ref 3)), (some (.ref 42)), none, (some (vs "creasecurve.errors" 187)), none, (some (.ref 0))]⟩) |>
 (fun T => T.ins 47 (tu [])) |>
 (fun T => T.ins 48 ⟨(.type "dict"), none, (.dict #[en P "__module__" 230 (vs "creasecurve.errors" 187), en P "__firstlineno__" 234 (.int 6 233), en P "__static_attributes__" 235 (.ref 47), en P "__doc__" 236 .none] 2), #[]⟩) |>
 (fun T => T.ins 49 ⟨(.type "type"), none, (.cls ⟨"NoRoof", [(.ref 24)], [(.ref 49), (.ref 24), (.type "ValueError"), (.type "Exception"), (.type "BaseException"), (.type "object")], 48, "NoRoof", true, [], [], false, none, false⟩), #[(some (.ref 40)), none, (some (vs "NoRoof" 223)), (some (vs "NoRoof" 231)), (some (.builtin "ValueError.__new__")), (some (.bool true))]⟩) |>
 (fun T => T.ins 50 ⟨(.type "super"), none, (.fields #[(.ref 49), (.ref 49), (.ref 49)]), #[]⟩) |>
 (fun T => T.ins 51 ⟨(.type "builtin_function_or_method"), none, (.fields #[(.builtin "object.__init_subclass__"), (.ref 49)]), #[]⟩)
noncomputable def g2 : List Stmt := [top 3]
theorem hg2 (w : World) : (fun os => segRunT treeTable pr w 11 (some (.ref 6)) 1 214 (sT t2 40 223 w os) (piecesOf g2 oB cE ⟨4, 0, 5, 8⟩ B)) = (fun os => some (.next, sT t3 52 239 w os, cE, ⟨6, 0, 7, 8⟩)) := by
 rw [PySem.W.Fast.te10110043849684766642, PySem.W.Fast.te14364793385576792824]
 kernel_rfl
noncomputable def t4 (P : Params) : BT :=
 (t3 P) |>
 (fun T => T.set 3 (pE (en P "TooSteep" 254 (.ref 61)))) |>
 (fun T => T.set 12 (pF [(.int 8 0), (.int 0 0), (.ref 57)])) |>
 (fun T => T.set 24 (fun _ => ⟨(.type "type"), none, (.cls ⟨"RoofError", [(.type "ValueError")], [(.ref 24), (.type "ValueError"), (.type "Exception"), (.type "BaseException"), (.type "object")], 23, "RoofError", true, [], [(.ref 37), (.ref 49), (.ref 61)], false, none, false⟩), #[(some (.ref 15)), none, (some (vs "RoofError" 189)), (some (vs "RoofError" 197)), (some (.builtin "ValueError.__new__")), (some (.bool true))]⟩)) |>
 (fun T => T.ins 52 (tu [(.ref 24)])) |>
 (fun T => T.ins 53 ⟨(.type "builtin_function_or_method"), none, (.fields #[(.builtin "type.__prepare__"), (.type "type")]), #[]⟩) |>
 (fun T => T.ins 54 ⟨(.type "dict"), none, (.dict #[en P "__module__" 246 (vs "creasecurve.errors" 187), en P "__qualname__" 248 (vs "TooSteep" 247), en P "__firstlineno__" 250 (.int 8 249), en P "__static_attributes__" 251 (.ref 59)] 4), #[]⟩) |>
 (fun T => T.ins 55 (tu [])) |>
 (fun T => T.ins 56 (fl [])) |>
 (fun T => T.ins 57 ⟨(.type "code"), none, (.fields #[(vs "TooSteep" 241), (vs "TooSteep" 242), (vs "/claim/cut.py" 243), (.int 8 0), (.int 0 0), (.int 0 0), (.int 0 0), (.int 0 0), (.ref 55), (.bool false), (.int 181 0), (.ref 56), .none, .none, .none, .none, (.int 244 0), (.int 8 0), (vs "/claim/cut.py" 245)]), #[]⟩) |>
 (fun T => T.ins 58 ⟨(.type "frame"), none, .plain, #[(some (.ref 57)), (some (.ref 3)), (some (.ref 54)), none, (some (vs "creasecurve.errors" 187)), none, (some (.ref 0))]⟩) |>
 (fun T => T.ins 59 (tu [])) |>
 (fun T => T.ins 60 ⟨(.type "dict"), none, (.dict #[en P "__module__" 246 (vs "creasecurve.errors" 187), en P "__firstlineno__" 250 (.int 8 249), en P "__static_attributes__" 251 (.ref 59), en P "__doc__" 252 .none] 2), #[]⟩) |>
 (fun T => T.ins 61 ⟨(.type "type"), none, (.cls ⟨"TooSteep", [(.ref 24)], [(.ref 61), (.ref 24), (.type "ValueError"), (.type "Exception"), (.type "BaseException"), (.type "object")], 60, "TooSteep", true, [], [], false, none, false⟩), #[(some (.ref 52)), none, (some (vs "TooSteep" 239)), (some (vs "TooSteep" 247)), (some (.builtin "ValueError.__new__")), (some (.bool true))]⟩) |>
 (fun T => T.ins 62 ⟨(.type "super"), none, (.fields #[(.ref 61), (.ref 61), (.ref 61)]), #[]⟩) |>
 (fun T => T.ins 63 ⟨(.type "builtin_function_or_method"), none, (.fields #[(.builtin "object.__init_subclass__"), (.ref 61)]), #[]⟩)
noncomputable def g3 : List Stmt := [top 4]
theorem hg3 (w : World) : (fun os => segRunT treeTable pr w 11 (some (.ref 6)) 1 214 (sT t3 52 239 w os) (piecesOf g3 oB cE ⟨6, 0, 7, 8⟩ B)) = (fun os => some (.next, sT t4 64 255 w os, cE, ⟨8, 0, 9, 8⟩)) := by
 rw [PySem.W.Fast.te10110043849684766642, PySem.W.Fast.te14364793385576792824]
 kernel_rfl
noncomputable def t5 (P : Params) : BT :=
 (t4 P) |>
 (fun T => T.set 3 (pE (en P "TooMany" 270 (.ref 73)))) |>
 (fun T => T.set 12 (pF [(.int 10 0), (.int 0 0), (.ref 69)])) |>
 (fun T => T.set 24 (fun _ => ⟨(.type "type"), none, (.cls ⟨"RoofError", [(.type "ValueError")], [(.ref 24), (.type "ValueError"), (.type "Exception"), (.type "BaseException"), (.type "object")], 23, "RoofError", true, [], [(.ref 37), (.ref 49), (.ref 61), (.ref 73)], false, none, false⟩), #[(some (.ref 15)), none, (some (vs "RoofError" 189)), (some (vs "RoofError" 197)), (some (.builtin "ValueError.__new__")), (some (.bool true))]⟩)) |>
 (fun T => T.ins 64 (tu [(.ref 24)])) |>
 (fun T => T.ins 65 ⟨(.type "builtin_function_or_method"), none, (.fields #[(.builtin "type.__prepare__"), (.type "type")]), #[]⟩) |>
 (fun T => T.ins 66 ⟨(.type "dict"), none, (.dict #[en P "__module__" 262 (vs "creasecurve.errors" 187), en P "__qualname__" 264 (vs "TooMany" 263), en P "__firstlineno__" 266 (.int 10 265), en P "__static_attributes__" 267 (.ref 71)] 4), #[]⟩) |>
 (fun T => T.ins 67 (tu [])) |>
 (fun T => T.ins 68 (fl [])) |>
 (fun T => T.ins 69 ⟨(.type "code"), none, (.fields #[(vs "TooMany" 257), (vs "TooMany" 258), (vs "/claim/cut.py" 259), (.int 10 0), (.int 0 0), (.int 0 0), (.int 0 0), (.int 0 0), (.ref 67), (.bool false), (.int 181 0), (.ref 68), .none, .none, .none, .none, (.int 260 0), (.int 10 0), (vs "/claim/cut.py" 261)]), #[]⟩) |>
 (fun T => T.ins 70 ⟨(.type "frame"), none, .plain, #[(some (.ref 69)), (some (.ref 3)), (some (.ref 66)), none, (some (vs "creasecurve.errors" 187)), none, (some (.ref 0))]⟩) |>
 (fun T => T.ins 71 (tu [])) |>
 (fun T => T.ins 72 ⟨(.type "dict"), none, (.dict #[en P "__module__" 262 (vs "creasecurve.errors" 187), en P "__firstlineno__" 266 (.int 10 265), en P "__static_attributes__" 267 (.ref 71), en P "__doc__" 268 .none] 2), #[]⟩) |>
 (fun T => T.ins 73 ⟨(.type "type"), none, (.cls ⟨"TooMany", [(.ref 24)], [(.ref 73), (.ref 24), (.type "ValueError"), (.type "Exception"), (.type "BaseException"), (.type "object")], 72, "TooMany", true, [], [], false, none, false⟩), #[(some (.ref 64)), none, (some (vs "TooMany" 255)), (some (vs "TooMany" 263)), (some (.builtin "ValueError.__new__")), (some (.bool true))]⟩) |>
 (fun T => T.ins 74 ⟨(.type "super"), none, (.fields #[(.ref 73), (.ref 73), (.ref 73)]), #[]⟩) |>
 (fun T => T.ins 75 ⟨(.type "builtin_function_or_method"), none, (.fields #[(.builtin "object.__init_subclass__"), (.ref 73)]), #[]⟩)
noncomputable def g4 : List Stmt := [top 5]
theorem hg4 (w : World) : (fun os => segRunT treeTable pr w 11 (some (.ref 6)) 1 214 (sT t4 64 255 w os) (piecesOf g4 oB cE ⟨8, 0, 9, 8⟩ B)) = (fun os => some (.next, sT t5 76 271 w os, cE, ⟨10, 0, 11, 8⟩)) := by
 rw [PySem.W.Fast.te10110043849684766642, PySem.W.Fast.te14364793385576792824]
 kernel_rfl
noncomputable def t6 (P : Params) : BT :=
 (t5 P) |>
 (fun T => T.set 3 (pE (en P "NoNumber" 286 (.ref 85)))) |>
 (fun T => T.set 12 (pF [(.int 12 0), (.int 0 0), (.ref 81)])) |>
 (fun T => T.set 24 (fun _ => ⟨(.type "type"), none, (.cls ⟨"RoofError", [(.type "ValueError")], [(.ref 24), (.type "ValueError"), (.type "Exception"), (.type "BaseException"), (.type "object")], 23, "RoofError", true, [], [(.ref 37), (.ref 49), (.ref 61), (.ref 73), (.ref 85)], false, none, false⟩), #[(some (.ref 15)), none, (some (vs "RoofError" 189)), (some (vs "RoofError" 197)), (some (.builtin "ValueError.__new__")), (some (.bool true))]⟩)) |>
 (fun T => T.ins 76 (tu [(.ref 24)])) |>
 (fun T => T.ins 77 ⟨(.type "builtin_function_or_method"), none, (.fields #[(.builtin "type.__prepare__"), (.type "type")]), #[]⟩) |>
 (fun T => T.ins 78 ⟨(.type "dict"), none, (.dict #[en P "__module__" 278 (vs "creasecurve.errors" 187), en P "__qualname__" 280 (vs "NoNumber" 279), en P "__firstlineno__" 282 (.int 12 281), en P "__static_attributes__" 283 (.ref 83)] 4), #[]⟩) |>
 (fun T => T.ins 79 (tu [])) |>
 (fun T => T.ins 80 (fl [])) |>
 (fun T => T.ins 81 ⟨(.type "code"), none, (.fields #[(vs "NoNumber" 273), (vs "NoNumber" 274), (vs "/claim/cut.py" 275), (.int 12 0), (.int 0 0), (.int 0 0), (.int 0 0), (.int 0 0), (.ref 79), (.bool false), (.int 181 0), (.ref 80), .none, .none, .none, .none, (.int 276 0), (.int 12 0), (vs "/claim/cut.py" 277)]), #[]⟩) |>
 (fun T => T.ins 82 ⟨(.type "frame"), none, .plain, #[(some (.ref 81)), (some (.ref 3)), (some (.ref 78)), none, (some (vs "creasecurve.errors" 187)), none, (some (.ref 0))]⟩) |>
 (fun T => T.ins 83 (tu [])) |>
 (fun T => T.ins 84 ⟨(.type "dict"), none, (.dict #[en P "__module__" 278 (vs "creasecurve.errors" 187), en P "__firstlineno__" 282 (.int 12 281), en P "__static_attributes__" 283 (.ref 83), en P "__doc__" 284 .none] 2), #[]⟩) |>
 (fun T => T.ins 85 ⟨(.type "type"), none, (.cls ⟨"NoNumber", [(.ref 24)], [(.ref 85), (.ref 24), (.type "ValueError"), (.type "Exception"), (.type "BaseException"), (.type "object")], 84, "NoNumber", true, [], [], false, none, false⟩), #[(some (.ref 76)), none, (some (vs "NoNumber" 271)), (some (vs "NoNumber" 279)), (some (.builtin "ValueError.__new__")), (some (.bool true))]⟩) |>
 (fun T => T.ins 86 ⟨(.type "super"), none, (.fields #[(.ref 85), (.ref 85), (.ref 85)]), #[]⟩) |>
 (fun T => T.ins 87 ⟨(.type "builtin_function_or_method"), none, (.fields #[(.builtin "object.__init_subclass__"), (.ref 85)]), #[]⟩)
noncomputable def g5 : List Stmt := [top 6]
theorem hg5 (w : World) : (fun os => segRunT treeTable pr w 11 (some (.ref 6)) 1 214 (sT t5 76 271 w os) (piecesOf g5 oB cE ⟨10, 0, 11, 8⟩ B)) = (fun os => some (.next, sT t6 88 287 w os, cE, ⟨12, 0, 13, 8⟩)) := by
 rw [PySem.W.Fast.te10110043849684766642, PySem.W.Fast.te14364793385576792824]
 kernel_rfl
noncomputable def t7 (P : Params) : BT :=
 (t6 P) |>
 (fun T => T.set 3 (pE (en P "NoCorner" 302 (.ref 97)))) |>
 (fun T => T.set 12 (pF [(.int 14 0), (.int 0 0), (.ref 93)])) |>
 (fun T => T.set 24 (fun _ => ⟨(.type "type"), none, (.cls ⟨"RoofError", [(.type "ValueError")], [(.ref 24), (.type "ValueError"), (.type "Exception"), (.type "BaseException"), (.type "object")], 23, "RoofError", true, [], [(.ref 37), (.ref 49), (.ref 61), (.ref 73), (.ref 85), (.ref 97)], false, none, false⟩), #[(some (.ref 15)), none, (some (vs "RoofError" 189)), (some (vs "RoofError" 197)), (some (.builtin "ValueError.__new__")), (some (.bool true))]⟩)) |>
 (fun T => T.ins 88 (tu [(.ref 24)])) |>
 (fun T => T.ins 89 ⟨(.type "builtin_function_or_method"), none, (.fields #[(.builtin "type.__prepare__"), (.type "type")]), #[]⟩) |>
 (fun T => T.ins 90 ⟨(.type "dict"), none, (.dict #[en P "__module__" 294 (vs "creasecurve.errors" 187), en P "__qualname__" 296 (vs "NoCorner" 295), en P "__firstlineno__" 298 (.int 14 297), en P "__static_attributes__" 299 (.ref 95)] 4), #[]⟩) |>
 (fun T => T.ins 91 (tu [])) |>
 (fun T => T.ins 92 (fl [])) |>
 (fun T => T.ins 93 ⟨(.type "code"), none, (.fields #[(vs "NoCorner" 289), (vs "NoCorner" 290), (vs "/claim/cut.py" 291), (.int 14 0), (.int 0 0), (.int 0 0), (.int 0 0), (.int 0 0), (.ref 91), (.bool false), (.int 181 0), (.ref 92), .none, .none, .none, .none, (.int 292 0), (.int 14 0), (vs "/claim/cut.py" 293)]), #[]⟩) |>
 (fun T => T.ins 94 ⟨(.type "frame"), none, .plain, #[(some (.ref 93)), (some (.ref 3)), (some (.ref 90)), none, (some (vs "creasecurve.errors" 187)), none, (some (.ref 0))]⟩) |>
 (fun T => T.ins 95 (tu [])) |>
 (fun T => T.ins 96 ⟨(.type "dict"), none, (.dict #[en P "__module__" 294 (vs "creasecurve.errors" 187), en P "__firstlineno__" 298 (.int 14 297), en P "__static_attributes__" 299 (.ref 95), en P "__doc__" 300 .none] 2), #[]⟩) |>
 (fun T => T.ins 97 ⟨(.type "type"), none, (.cls ⟨"NoCorner", [(.ref 24)], [(.ref 97), (.ref 24), (.type "ValueError"), (.type "Exception"), (.type "BaseException"), (.type "object")], 96, "NoCorner", true, [], [], false, none, false⟩), #[(some (.ref 88)), none, (some (vs "NoCorner" 287)), (some (vs "NoCorner" 295)), (some (.builtin "ValueError.__new__")), (some (.bool true))]⟩) |>
 (fun T => T.ins 98 ⟨(.type "super"), none, (.fields #[(.ref 97), (.ref 97), (.ref 97)]), #[]⟩) |>
 (fun T => T.ins 99 ⟨(.type "builtin_function_or_method"), none, (.fields #[(.builtin "object.__init_subclass__"), (.ref 97)]), #[]⟩)
noncomputable def g6 : List Stmt := [top 7]
theorem hg6 (w : World) : (fun os => segRunT treeTable pr w 11 (some (.ref 6)) 1 214 (sT t6 88 287 w os) (piecesOf g6 oB cE ⟨12, 0, 13, 8⟩ B)) = (fun os => some (.next, sT t7 100 303 w os, cE, ⟨14, 0, 15, 8⟩)) := by
 rw [PySem.W.Fast.te10110043849684766642, PySem.W.Fast.te14364793385576792824]
 kernel_rfl
noncomputable def t8 (P : Params) : BT :=
 (t7 P) |>
 (fun T => T.set 3 (pE (en P "NoDealing" 318 (.ref 109)))) |>
 (fun T => T.set 12 (pF [(.int 16 0), (.int 0 0), (.ref 105)])) |>
 (fun T => T.set 24 (fun _ => ⟨(.type "type"), none, (.cls ⟨"RoofError", [(.type "ValueError")], [(.ref 24), (.type "ValueError"), (.type "Exception"), (.type "BaseException"), (.type "object")], 23, "RoofError", true, [], [(.ref 37), (.ref 49), (.ref 61), (.ref 73), (.ref 85), (.ref 97), (.ref 109)], false, none, false⟩), #[(some (.ref 15)), none, (some (vs "RoofError" 189)), (some (vs "RoofError" 197)), (some (.builtin "ValueError.__new__")), (some (.bool true))]⟩)) |>
 (fun T => T.ins 100 (tu [(.ref 24)])) |>
 (fun T => T.ins 101 ⟨(.type "builtin_function_or_method"), none, (.fields #[(.builtin "type.__prepare__"), (.type "type")]), #[]⟩) |>
 (fun T => T.ins 102 ⟨(.type "dict"), none, (.dict #[en P "__module__" 310 (vs "creasecurve.errors" 187), en P "__qualname__" 312 (vs "NoDealing" 311), en P "__firstlineno__" 314 (.int 16 313), en P "__static_attributes__" 315 (.ref 107)] 4), #[]⟩) |>
 (fun T => T.ins 103 (tu [])) |>
 (fun T => T.ins 104 (fl [])) |>
 (fun T => T.ins 105 ⟨(.type "code"), none, (.fields #[(vs "NoDealing" 305), (vs "NoDealing" 306), (vs "/claim/cut.py" 307), (.int 16 0), (.int 0 0), (.int 0 0), (.int 0 0), (.int 0 0), (.ref 103), (.bool false), (.int 181 0), (.ref 104), .none, .none, .none, .none, (.int 308 0), (.int 16 0), (vs "/claim/cut.py" 309)]), #[]⟩) |>
 (fun T => T.ins 106 ⟨(.type "frame"), none, .plain, #[(some (.ref 105)), (some (.ref 3)), (some (.ref 102)), none, (some (vs "creasecurve.errors" 187)), none, (some (.ref 0))]⟩) |>
 (fun T => T.ins 107 (tu [])) |>
 (fun T => T.ins 108 ⟨(.type "dict"), none, (.dict #[en P "__module__" 310 (vs "creasecurve.errors" 187), en P "__firstlineno__" 314 (.int 16 313), en P "__static_attributes__" 315 (.ref 107), en P "__doc__" 316 .none] 2), #[]⟩) |>
 (fun T => T.ins 109 ⟨(.type "type"), none, (.cls ⟨"NoDealing", [(.ref 24)], [(.ref 109), (.ref 24), (.type "ValueError"), (.type "Exception"), (.type "BaseException"), (.type "object")], 108, "NoDealing", true, [], [], false, none, false⟩), #[(some (.ref 100)), none, (some (vs "NoDealing" 303)), (some (vs "NoDealing" 311)), (some (.builtin "ValueError.__new__")), (some (.bool true))]⟩) |>
 (fun T => T.ins 110 ⟨(.type "super"), none, (.fields #[(.ref 109), (.ref 109), (.ref 109)]), #[]⟩) |>
 (fun T => T.ins 111 ⟨(.type "builtin_function_or_method"), none, (.fields #[(.builtin "object.__init_subclass__"), (.ref 109)]), #[]⟩)
noncomputable def g7 : List Stmt := [top 8]
theorem hg7 (w : World) : (fun os => segRunT treeTable pr w 11 (some (.ref 6)) 1 214 (sT t7 100 303 w os) (piecesOf g7 oB cE ⟨14, 0, 15, 8⟩ B)) = (fun os => some (.next, sT t8 112 319 w os, cE, ⟨16, 0, 17, 8⟩)) := by
 rw [PySem.W.Fast.te10110043849684766642, PySem.W.Fast.te14364793385576792824]
 kernel_rfl
noncomputable def t9 (P : Params) : BT :=
 (t8 P) |>
 (fun T => T.set 3 (pE (en P "NoRow" 334 (.ref 121)))) |>
 (fun T => T.set 12 (pF [(.int 18 0), (.int 0 0), (.ref 117)])) |>
 (fun T => T.set 24 (fun _ => ⟨(.type "type"), none, (.cls ⟨"RoofError", [(.type "ValueError")], [(.ref 24), (.type "ValueError"), (.type "Exception"), (.type "BaseException"), (.type "object")], 23, "RoofError", true, [], [(.ref 37), (.ref 49), (.ref 61), (.ref 73), (.ref 85), (.ref 97), (.ref 109), (.ref 121)], false, none, false⟩), #[(some (.ref 15)), none, (some (vs "RoofError" 189)), (some (vs "RoofError" 197)), (some (.builtin "ValueError.__new__")), (some (.bool true))]⟩)) |>
 (fun T => T.ins 112 (tu [(.ref 24)])) |>
 (fun T => T.ins 113 ⟨(.type "builtin_function_or_method"), none, (.fields #[(.builtin "type.__prepare__"), (.type "type")]), #[]⟩) |>
 (fun T => T.ins 114 ⟨(.type "dict"), none, (.dict #[en P "__module__" 326 (vs "creasecurve.errors" 187), en P "__qualname__" 328 (vs "NoRow" 327), en P "__firstlineno__" 330 (.int 18 329), en P "__static_attributes__" 331 (.ref 119)] 4), #[]⟩) |>
 (fun T => T.ins 115 (tu [])) |>
 (fun T => T.ins 116 (fl [])) |>
 (fun T => T.ins 117 ⟨(.type "code"), none, (.fields #[(vs "NoRow" 321), (vs "NoRow" 322), (vs "/claim/cut.py" 323), (.int 18 0), (.int 0 0), (.int 0 0), (.int 0 0), (.int 0 0), (.ref 115), (.bool false), (.int 181 0), (.ref 116), .none, .none, .none, .none, (.int 324 0), (.int 18 0), (vs "/claim/cut.py" 325)]), #[]⟩) |>
 (fun T => T.ins 118 ⟨(.type "frame"), none, .plain, #[(some (.ref 117)), (some (.ref 3)), (some (.ref 114)), none, (some (vs "creasecurve.errors" 187)), none, (some (.ref 0))]⟩) |>
 (fun T => T.ins 119 (tu [])) |>
 (fun T => T.ins 120 ⟨(.type "dict"), none, (.dict #[en P "__module__" 326 (vs "creasecurve.errors" 187), en P "__firstlineno__" 330 (.int 18 329), en P "__static_attributes__" 331 (.ref 119), en P "__doc__" 332 .none] 2), #[]⟩) |>
 (fun T => T.ins 121 ⟨(.type "type"), none, (.cls ⟨"NoRow", [(.ref 24)], [(.ref 121), (.ref 24), (.type "ValueError"), (.type "Exception"), (.type "BaseException"), (.type "object")], 120, "NoRow", true, [], [], false, none, false⟩), #[(some (.ref 112)), none, (some (vs "NoRow" 319)), (some (vs "NoRow" 327)), (some (.builtin "ValueError.__new__")), (some (.bool true))]⟩) |>
 (fun T => T.ins 122 ⟨(.type "super"), none, (.fields #[(.ref 121), (.ref 121), (.ref 121)]), #[]⟩) |>
 (fun T => T.ins 123 ⟨(.type "builtin_function_or_method"), none, (.fields #[(.builtin "object.__init_subclass__"), (.ref 121)]), #[]⟩)
noncomputable def g8 : List Stmt := [top 9]
theorem hg8 (w : World) : (fun os => segRunT treeTable pr w 11 (some (.ref 6)) 1 214 (sT t8 112 319 w os) (piecesOf g8 oB cE ⟨16, 0, 17, 8⟩ B)) = (fun os => some (.next, sT t9 124 335 w os, cE, ⟨18, 0, 19, 8⟩)) := by
 rw [PySem.W.Fast.te10110043849684766642, PySem.W.Fast.te14364793385576792824]
 kernel_rfl
noncomputable def t10 (P : Params) : BT :=
 (t9 P) |>
 (fun T => T.set 3 (pE (en P "NoText" 359 (.ref 140)))) |>
 (fun T => T.set 12 (pF [(.int 20 0), (.int 0 0), (.ref 129)])) |>
 (fun T => T.set 24 (fun _ => ⟨(.type "type"), none, (.cls ⟨"RoofError", [(.type "ValueError")], [(.ref 24), (.type "ValueError"), (.type "Exception"), (.type "BaseException"), (.type "object")], 23, "RoofError", true, [], [(.ref 37), (.ref 49), (.ref 61), (.ref 73), (.ref 85), (.ref 97), (.ref 109), (.ref 121), (.ref 140)], false, none, false⟩), #[(some (.ref 15)), none, (some (vs "RoofError" 189)), (some (vs "RoofError" 197)), (some (.builtin "ValueError.__new__")), (some (.bool true))]⟩)) |>
 (fun T => T.ins 124 (tu [(.ref 24)])) |>
 (fun T => T.ins 125 ⟨(.type "builtin_function_or_method"), none, (.fields #[(.builtin "type.__prepare__"), (.type "type")]), #[]⟩) |>
 (fun T => T.ins 126 ⟨(.type "dict"), none, (.dict #[en P "__module__" 342 (vs "creasecurve.errors" 187), en P "__qualname__" 344 (vs "NoText" 343), en P "__firstlineno__" 346 (.int 20 345), en P "__init__" 354 (.ref 137), en P "__static_attributes__" 356 (.ref 138)] 5), #[]⟩) |>
 (fun T => T.ins 127 (tu [])) |>
 (fun T => T.ins 128 (fl [(.int 22 0), (.int 4 0), (.ref 136)])) |>
 (fun T => T.ins 129 ⟨(.type "code"), none, (.fields #[(vs "NoText" 337), (vs "NoText" 338), (vs "/claim/cut.py" 339), (.int 20 0), (.int 0 0), (.int 0 0), (.int 0 0), (.int 0 0), (.ref 127), (.bool false), (.int 181 0), (.ref 128), .none, .none, .none, .none, (.int 340 0), (.int 20 0), (vs "/claim/cut.py" 341)]), #[]⟩) |>
 (fun T => T.ins 130 ⟨(.type "frame"), none, .plain, #[(some (.ref 129)), (some (.ref 3)), (some (.ref 126)), none, (some (vs "creasecurve.errors" 187)), none, (some (.ref 0))]⟩) |>
 (fun T => T.ins 131 (tu [])) |>
 (fun T => T.ins 132 (fl [])) |>
 (fun T => T.ins 133 (tu [(vs "self" 350), (vs "at" 351)])) |>
 (fun T => T.ins 134 (tu [])) |>
 (fun T => T.ins 135 ⟨.none, none, (.func (fd "__init__" "NoText.__init__" (eT (sub 10 0)) (.stmts (dD (sub 10 0))) (aI (sub 10 0)) 0 [] .none .none .none .none none .none .none 0)), #[]⟩) |>
 (fun T => T.ins 136 ⟨(.type "code"), none, (.fields #[(vs "__init__" 347), (vs "NoText.__init__" 348), (vs "/claim/cut.py" 349), (.int 22 0), (.int 2 0), (.int 0 0), (.int 0 0), (.int 3 0), (.ref 131), (.bool true), (.int 181 0), (.ref 132), .none, (.ref 133), (.ref 134), (.ref 135), (.int 352 0), (.int 22 0), (vs "/claim/cut.py" 353)]), #[]⟩) |>
 (fun T => T.ins 137 ⟨(.type "function"), none, (.func (fd "__init__" "NoText.__init__" (eT (sub 10 0)) (.stmts (dD (sub 10 0))) (aI (sub 10 0)) 3 [] .none .none .none (vs "creasecurve.errors" 187) none (.ref 136) .none 0)), #[]⟩) |>
 (fun T => T.ins 138 (tu [(vs "at" 355)])) |>
 (fun T => T.ins 139 ⟨(.type "dict"), none, (.dict #[en P "__module__" 342 (vs "creasecurve.errors" 187), en P "__firstlineno__" 346 (.int 20 345), en P "__init__" 354 (.ref 137), en P "__static_attributes__" 356 (.ref 138), en P "__doc__" 357 .none] 2), #[]⟩) |>
 (fun T => T.ins 140 ⟨(.type "type"), none, (.cls ⟨"NoText", [(.ref 24)], [(.ref 140), (.ref 24), (.type "ValueError"), (.type "Exception"), (.type "BaseException"), (.type "object")], 139, "NoText", true, [], [], false, none, false⟩), #[(some (.ref 124)), none, (some (vs "NoText" 335)), (some (vs "NoText" 343)), (some (.builtin "ValueError.__new__")), (some (.bool true))]⟩) |>
 (fun T => T.ins 141 ⟨(.type "super"), none, (.fields #[(.ref 140), (.ref 140), (.ref 140)]), #[]⟩) |>
 (fun T => T.ins 142 ⟨(.type "builtin_function_or_method"), none, (.fields #[(.builtin "object.__init_subclass__"), (.ref 140)]), #[]⟩)
noncomputable def g9 : List Stmt := [top 10]
theorem hg9 (w : World) : (fun os => segRunT treeTable pr w 11 (some (.ref 6)) 1 246 (sT t9 124 335 w os) (piecesOf g9 oB cE ⟨18, 0, 19, 8⟩ B)) = (fun os => some (.next, sT t10 143 360 w os, cE, ⟨20, 0, 23, 20⟩)) := by
 rw [PySem.W.Fast.te10110043849684766642, PySem.W.Fast.te14364793385576792824]
 kernel_rfl
noncomputable def t11 (P : Params) : BT :=
 (t10 P) |>
 (fun T => T.set 3 (pE (en P "NoName" 384 (.ref 159)))) |>
 (fun T => T.set 12 (pF [(.int 24 0), (.int 0 0), (.ref 148)])) |>
 (fun T => T.set 24 (fun _ => ⟨(.type "type"), none, (.cls ⟨"RoofError", [(.type "ValueError")], [(.ref 24), (.type "ValueError"), (.type "Exception"), (.type "BaseException"), (.type "object")], 23, "RoofError", true, [], [(.ref 37), (.ref 49), (.ref 61), (.ref 73), (.ref 85), (.ref 97), (.ref 109), (.ref 121), (.ref 140), (.ref 159)], false, none, false⟩), #[(some (.ref 15)), none, (some (vs "RoofError" 189)), (some (vs "RoofError" 197)), (some (.builtin "ValueError.__new__")), (some (.bool true))]⟩)) |>
 (fun T => T.ins 143 (tu [(.ref 24)])) |>
 (fun T => T.ins 144 ⟨(.type "builtin_function_or_method"), none, (.fields #[(.builtin "type.__prepare__"), (.type "type")]), #[]⟩) |>
 (fun T => T.ins 145 ⟨(.type "dict"), none, (.dict #[en P "__module__" 367 (vs "creasecurve.errors" 187), en P "__qualname__" 369 (vs "NoName" 368), en P "__firstlineno__" 371 (.int 24 370), en P "__init__" 379 (.ref 156), en P "__static_attributes__" 381 (.ref 157)] 5), #[]⟩) |>
 (fun T => T.ins 146 (tu [])) |>
 (fun T => T.ins 147 (fl [(.int 26 0), (.int 4 0), (.ref 155)])) |>
 (fun T => T.ins 148 ⟨(.type "code"), none, (.fields #[(vs "NoName" 362), (vs "NoName" 363), (vs "/claim/cut.py" 364), (.int 24 0), (.int 0 0), (.int 0 0), (.int 0 0), (.int 0 0), (.ref 146), (.bool false), (.int 181 0), (.ref 147), .none, .none, .none, .none, (.int 365 0), (.int 24 0), (vs "/claim/cut.py" 366)]), #[]⟩) |>
 (fun T => T.ins 149 ⟨(.type "frame"), none, .plain, #[(some (.ref 148)), (some (.ref 3)), (some (.ref 145)), none, (some (vs "creasecurve.errors" 187)), none, (some (.ref 0))]⟩) |>
 (fun T => T.ins 150 (tu [])) |>
 (fun T => T.ins 151 (fl [])) |>
 (fun T => T.ins 152 (tu [(vs "self" 375), (vs "name" 376)])) |>
 (fun T => T.ins 153 (tu [])) |>
 (fun T => T.ins 154 ⟨.none, none, (.func (fd "__init__" "NoName.__init__" (eT (sub 11 0)) (.stmts (dD (sub 11 0))) (aI (sub 11 0)) 0 [] .none .none .none .none none .none .none 0)), #[]⟩) |>
 (fun T => T.ins 155 ⟨(.type "code"), none, (.fields #[(vs "__init__" 372), (vs "NoName.__init__" 373), (vs "/claim/cut.py" 374), (.int 26 0), (.int 2 0), (.int 0 0), (.int 0 0), (.int 3 0), (.ref 150), (.bool true), (.int 181 0), (.ref 151), .none, (.ref 152), (.ref 153), (.ref 154), (.int 377 0), (.int 26 0), (vs "/claim/cut.py" 378)]), #[]⟩) |>
 (fun T => T.ins 156 ⟨(.type "function"), none, (.func (fd "__init__" "NoName.__init__" (eT (sub 11 0)) (.stmts (dD (sub 11 0))) (aI (sub 11 0)) 3 [] .none .none .none (vs "creasecurve.errors" 187) none (.ref 155) .none 0)), #[]⟩) |>
 (fun T => T.ins 157 (tu [(vs "name" 380)])) |>
 (fun T => T.ins 158 ⟨(.type "dict"), none, (.dict #[en P "__module__" 367 (vs "creasecurve.errors" 187), en P "__firstlineno__" 371 (.int 24 370), en P "__init__" 379 (.ref 156), en P "__static_attributes__" 381 (.ref 157), en P "__doc__" 382 .none] 2), #[]⟩) |>
 (fun T => T.ins 159 ⟨(.type "type"), none, (.cls ⟨"NoName", [(.ref 24)], [(.ref 159), (.ref 24), (.type "ValueError"), (.type "Exception"), (.type "BaseException"), (.type "object")], 158, "NoName", true, [], [], false, none, false⟩), #[(some (.ref 143)), none, (some (vs "NoName" 360)), (some (vs "NoName" 368)), (some (.builtin "ValueError.__new__")), (some (.bool true))]⟩) |>
 (fun T => T.ins 160 ⟨(.type "super"), none, (.fields #[(.ref 159), (.ref 159), (.ref 159)]), #[]⟩) |>
 (fun T => T.ins 161 ⟨(.type "builtin_function_or_method"), none, (.fields #[(.builtin "object.__init_subclass__"), (.ref 159)]), #[]⟩) |>
 (fun T => T.set 3 (rE 0 (vs "creasecurve.fractions" 385))) |>
 (d7 P 13 "greatest_divisor" (vs "creasecurve.fractions" 385) 29 2 ["a", "b", "larger", "smaller", "rest"] 162 387 395) |>
 (fun T => T.set 3 (rE 0 (vs "creasecurve.texts" 398))) |>
 (fun T => T.set 3 (pE (en P "FIGURES" 401 (vs "0123456789" 400)))) |>
 (fun T => T.set 3 (pE (en P "MOST_FIGURES" 403 (.int 30 402)))) |>
 (d5 P 17 "is_whole" (vs "creasecurve.texts" 398) 40 1 169 404 407) |>
 (d7 P 18 "is_top" (vs "creasecurve.texts" 398) 44 1 ["word"] 174 410 414) |>
 (d7 P 19 "is_bottom" (vs "creasecurve.texts" 398) 48 1 ["word"] 181 417 421)
noncomputable def g10 : List Stmt := [top 11, top 12, top 13, top 14, top 15, top 16, top 17, top 18, top 19]
theorem aE8 (w : World) : (fun os => segRunT treeTable pr w 11 (some (.ref 6)) 1 399 (sT t10 143 360 w os) (piecesOf g10 oB cE ⟨20, 0, 23, 20⟩ B)) = (fun os => some (.next, sT t11 188 424 w os, cE, ⟨48, 0, 49, 52⟩)) := by
 rw [PySem.W.Fast.te10110043849684766642, PySem.W.Fast.te14364793385576792824]
 kernel_rfl
noncomputable def t12 (P : Params) : BT :=
 (t11 P) |>
 (d7 P 20 "is_number" (vs "creasecurve.texts" 398) 50 1 ["thing", "parts"] 188 424 429) |>
 (d7 P 21 "number_of" (vs "creasecurve.texts" 398) 59 1 ["word", "parts", "bottom"] 195 432 438) |>
 (d7 P 22 "number_text" (vs "creasecurve.texts" 398) 65 1 ["a", "top"] 202 441 446) |>
 (fun T => T.set 3 (rE 0 (vs "law_creasecurve_k04_numbers_written" 449))) |>
 (d7 P 24 "_law_cell_at" (vs "law_creasecurve_k04_numbers_written" 449) 69 2 ["_law_script", "_law_k", "_law_cell"] 209 451 457) |>
 (d7 P 25 "_law_whole" (vs "law_creasecurve_k04_numbers_written" 449) 74 1 ["_law_found"] 216 460 464) |>
 (d7 P 26 "_law_divisor" (vs "law_creasecurve_k04_numbers_written" 449) 76 2 ["_law_a", "_law_b", "_law_rest"] 223 467 473) |>
 (d7 P 27 "_law_fraction" (vs "law_creasecurve_k04_numbers_written" 449) 84 2 ["_law_top", "_law_bottom", "_law_by"] 230 476 482) |>
 (d7 P 28 "_law_is_fraction" (vs "law_creasecurve_k04_numbers_written" 449) 87 1 ["_law_found"] 237 485 489) |>
 (d7 P 29 "_law_marks" (vs "law_creasecurve_k04_numbers_written" 449) 93 1 ["_law_e", "_law_marks_here"] 244 492 497) |>
 (d5 P 30 "_law_only" (vs "law_creasecurve_k04_numbers_written" 449) 98 1 251 500 503) |>
 (d7 P 31 "_law_number_by" (vs "law_creasecurve_k04_numbers_written" 449) 100 2 ["_law_cell", "_law_kind", "_law_c", "_law_bottom"] 256 506 513) |>
 (d7 P 32 "_law_number_text" (vs "law_creasecurve_k04_numbers_written" 449) 108 1 ["_law_a"] 263 516 520) |>
 (d7 P 33 "_law_figures" (vs "law_creasecurve_k04_numbers_written" 449) 112 1 ["_law_text", "_law_number_here", "_law_sign"] 270 523 529)
noncomputable def g11 : List Stmt := [top 20, top 21, top 22, top 23, top 24, top 25, top 26, top 27, top 28, top 29, top 30, top 31, top 32, top 33]
theorem aE7 (w : World) : (fun os => segRunT treeTable pr w 11 (some (.ref 6)) 1 400 (sT t11 188 424 w os) (piecesOf g11 oB cE ⟨48, 0, 49, 52⟩ B)) = (fun os => some (.next, sT t12 277 532 w os, cE, ⟨112, 0, 120, 27⟩)) := by
 rw [PySem.W.Fast.te10110043849684766642, PySem.W.Fast.te14364793385576792824]
 kernel_rfl
noncomputable def t13 (P : Params) : BT :=
 (t12 P) |>
 (d7 P 34 "_law_number" (vs "law_creasecurve_k04_numbers_written" 449) 121 1 ["_law_word", "_law_below", "_law_parts", "_law_top", "_law_bottom"] 277 532 540) |>
 (d7 P 35 "_law_sign_by" (vs "law_creasecurve_k04_numbers_written" 449) 137 1 ["_law_cell", "_law_some"] 284 543 548) |>
 (d7 P 36 "_law_changed" (vs "law_creasecurve_k04_numbers_written" 449) 141 3 ["_law_text", "_law_way", "_law_cell", "_law_at", "_law_sign"] 291 551 559) |>
 (d7 P 37 "_law_odd" (vs "law_creasecurve_k04_numbers_written" 449) 151 1 ["_law_cell", "_law_long", "_law_some"] 298 562 568) |>
 (d7 P 38 "_law_asked" (vs "law_creasecurve_k04_numbers_written" 449) 158 1 ["_law_thing", "_law_told", "_law_e"] 305 571 577) |>
 (d7 P 39 "_law_thing_right" (vs "law_creasecurve_k04_numbers_written" 449) 165 1 ["_law_thing", "_law_due", "_law_found"] 312 580 586) |>
 (d5 P 40 "law" (vs "law_creasecurve_k04_numbers_written" 449) 173 1 319 589 592)
noncomputable def g12 : List Stmt := [top 34, top 35, top 36, top 37, top 38, top 39, top 40]
theorem aFb (w : World) : (fun os => segRunT treeTable pr w 11 (some (.ref 6)) 1 216 (sT t12 277 532 w os) (piecesOf g12 oB cE ⟨112, 0, 120, 27⟩ B)) = (fun os => some (.next, sT t13 324 595 w os, cE, ⟨173, 0, 187, 72⟩)) := by
 rw [PySem.W.Fast.te10110043849684766642, PySem.W.Fast.te14364793385576792824]
 kernel_rfl
noncomputable def hF (P : Params) : Heap := absHeap (t13 P) 324 {}
theorem aDd (w : World) : (fun os => topRun treeTable pr w 11 (some (.ref 6)) 2 (sT t13 324 595 w os).abs ⟨doneF .next, cE, ⟨173, 0, 187, 72⟩, B⟩) = (fun os => some ((⟨hF w.params, ⟨[]⟩, boot_drawn, 595, os⟩ : Shared))) := by
 rw [PySem.W.Fast.te14082659384304107361, PySem.W.Fast.te14364793385576792824]
 kernel_rfl
theorem hb : behindTheImports pr = g0 ++ (g1 ++ (g2 ++ (g3 ++ (g4 ++ (g5 ++ (g6 ++ (g7 ++ (g8 ++ (g9 ++ (g10 ++ (g11 ++ (g12 ++ [])))))))))))) := by kernel_rfl
theorem aFd (w : World) (os : OsState) : topRun treeTable pr w 11 (some (.ref 6)) (12 + (1 + (196 + (214 + (214 + (214 + (214 + (214 + (214 + (214 + (214 + (246 + (399 + (400 + (216 + (2)))))))))))))))) ⟨boot_heap w.params, ⟨[]⟩, boot_drawn, boot_toks, os⟩ (topStub pr) = some ⟨hF w.params, ⟨[]⟩, boot_drawn, 595, os⟩ := go_top (congrFun (zI w) os) (piece_block (congrFun (aCx w) os) (by
 rw [hb]
 exact piece_app (segRun_of (congrFun (hg0 w) os)) (piece_app (segRun_of (congrFun (hg1 w) os)) (piece_app (segRun_of (congrFun (hg2 w) os)) (piece_app (segRun_of (congrFun (hg3 w) os)) (piece_app (segRun_of (congrFun (hg4 w) os)) (piece_app (segRun_of (congrFun (hg5 w) os)) (piece_app (segRun_of (congrFun (hg6 w) os)) (piece_app (segRun_of (congrFun (hg7 w) os)) (piece_app (segRun_of (congrFun (hg8 w) os)) (piece_app (segRun_of (congrFun (hg9 w) os)) (piece_app (segRun_of (congrFun (aE8 w) os)) (piece_app (segRun_of (congrFun (aE7 w) os)) (piece_app (segRun_of (congrFun (aFb w) os)) (piece_nil (congrFun (aDd w) os))))))))))))))))
noncomputable def qv : Program := { pr with main := { pr.main with body := [top 1, top 2, top 3, top 4, top 5, top 6, top 7, top 8, top 9, top 10, top 11, top 13, top 15, top 16, top 17, top 18, top 19, top 20, top 21, top 22, top 24, top 25, top 26, top 27, top 28, top 29, top 30, top 31, top 32, top 33, top 34, top 35, top 36, top 37, top 38, top 39, top 40] } }
noncomputable def ks : List Nat := [3, 20, 23, 24, 33, 36, 37, 45, 48, 49, 57, 60, 61, 69, 72, 73, 81, 84, 85, 93, 96, 97, 105, 108, 109, 117, 120, 121, 129, 136, 137, 139, 140, 148, 155, 156, 158, 159, 167, 168, 172, 173, 179, 180, 186, 187, 193, 194, 200, 201, 207, 208, 214, 215, 221, 222, 228, 229, 235, 236, 242, 243, 249, 250, 254, 255, 261, 262, 268, 269, 275, 276, 282, 283, 289, 290, 296, 297, 303, 304, 310, 311, 317, 318, 322, 323]
noncomputable def K (P : Params) : Frag := ks.map fun a => (a, ((t13 P).get a).getD default)
theorem ksE (P : Params) : ks = (K P).map (·.1) := by kernel_rfl
noncomputable abbrev hk : Hook := kmHook K ks ksE []
noncomputable abbrev xt : Shared -> Bool := fun s => xlAt qv [] s && recOk [] s
theorem aEd (w : World) : ((boot_heap w.params).isNs mainGlobals && (⟨[]⟩ : Array GenState).size == 0, (boot_heap w.params).objs.size, (boot_heap w.params).nsMap mainGlobals "__annotations__") = (true, 11, (some (.ref 6))) := by kernel_rfl
theorem aEj (w : World) : (fun os : OsState => (staticsOk (importedModules pr.main.body) (boot_heap w.params) (hF w.params) && namesBound pr (hF w.params) && gensDone ⟨hF w.params, ⟨[]⟩, boot_drawn, 595, os⟩ && laidKept (boot_heap w.params) (hF w.params))) = fun _ => true := by
 rw [PySem.W.Fast.te5923862056798008813]
 kernel_rfl
theorem aEo (w : World) : (fun os : OsState => openSeen qv [] (importedModules pr.main.body) xt true ⟨hF w.params, ⟨[]⟩, boot_drawn, 595, os⟩) = fun _ => openGood qv [] := by
 rw [PySem.W.Fast.te4187177175401517315, PySem.W.Fast.te5923862056798008813]
 kernel_rfl
theorem aD2 (w : World) : (fun os : OsState => hk.obs ⟨hF w.params, ⟨[]⟩, boot_drawn, 595, os⟩) = fun _ => hk.val w := by kernel_rfl
theorem left : LeftO pr qv [] xt hk.obs hk.val 6438 := LeftO.of_pieces (boot_open (by kernel_rfl) (by decide) (fun _ => by kernel_rfl)) aEd aFd (by decide) fun w => funext fun os => looks_pair (congrFun (aEj w) os) (looks_pair (congrFun (aEo w) os) (congrFun (aD2 w) os))
theorem h1 (w : World) : FnAt (K w.params) "greatest_divisor" dH 168 (vs "creasecurve.fractions" 385) 167 := by constructor <;> kernel_rfl
theorem h2 (w : World) : FnAt (K w.params) "is_whole" gP 173 (vs "creasecurve.texts" 398) 172 := by constructor <;> kernel_rfl
theorem h3 (w : World) : FnAt (K w.params) "is_top" jR 180 (vs "creasecurve.texts" 398) 179 := by constructor <;> kernel_rfl
theorem h4 (w : World) : FnAt (K w.params) "is_bottom" fV 187 (vs "creasecurve.texts" 398) 186 := by constructor <;> kernel_rfl
theorem h5 (w : World) : FnAt (K w.params) "is_number" fT 194 (vs "creasecurve.texts" 398) 193 := by constructor <;> kernel_rfl
theorem h6 (w : World) : FnAt (K w.params) "number_of" fR 201 (vs "creasecurve.texts" 398) 200 := by constructor <;> kernel_rfl
theorem h7 (w : World) : FnAt (K w.params) "number_text" eY 208 (vs "creasecurve.texts" 398) 207 := by constructor <;> kernel_rfl
theorem h8 (w : World) : FnAt (K w.params) "_law_cell_at" eI 215 (vs "law_creasecurve_k04_numbers_written" 449) 214 := by constructor <;> kernel_rfl
theorem h9 (w : World) : FnAt (K w.params) "_law_whole" fG 222 (vs "law_creasecurve_k04_numbers_written" 449) 221 := by constructor <;> kernel_rfl
theorem h10 (w : World) : FnAt (K w.params) "_law_divisor" eM 229 (vs "law_creasecurve_k04_numbers_written" 449) 228 := by constructor <;> kernel_rfl
theorem h11 (w : World) : FnAt (K w.params) "_law_fraction" eA 236 (vs "law_creasecurve_k04_numbers_written" 449) 235 := by constructor <;> kernel_rfl
theorem h12 (w : World) : FnAt (K w.params) "_law_is_fraction" dF 243 (vs "law_creasecurve_k04_numbers_written" 449) 242 := by constructor <;> kernel_rfl
theorem h13 (w : World) : FnAt (K w.params) "_law_marks" fL 250 (vs "law_creasecurve_k04_numbers_written" 449) 249 := by constructor <;> kernel_rfl
theorem h14 (w : World) : FnAt (K w.params) "_law_only" gC 255 (vs "law_creasecurve_k04_numbers_written" 449) 254 := by constructor <;> kernel_rfl
theorem h15 (w : World) : FnAt (K w.params) "_law_number_by" dY 262 (vs "law_creasecurve_k04_numbers_written" 449) 261 := by constructor <;> kernel_rfl
theorem h16 (w : World) : FnAt (K w.params) "_law_number_text" dN 269 (vs "law_creasecurve_k04_numbers_written" 449) 268 := by constructor <;> kernel_rfl
theorem h17 (w : World) : FnAt (K w.params) "_law_figures" eL 276 (vs "law_creasecurve_k04_numbers_written" 449) 275 := by constructor <;> kernel_rfl
theorem h18 (w : World) : FnAt (K w.params) "_law_number" eW 283 (vs "law_creasecurve_k04_numbers_written" 449) 282 := by constructor <;> kernel_rfl
theorem h19 (w : World) : FnAt (K w.params) "_law_sign_by" eK 290 (vs "law_creasecurve_k04_numbers_written" 449) 289 := by constructor <;> kernel_rfl
theorem h20 (w : World) : FnAt (K w.params) "_law_changed" eG 297 (vs "law_creasecurve_k04_numbers_written" 449) 296 := by constructor <;> kernel_rfl
theorem h21 (w : World) : FnAt (K w.params) "_law_odd" gQ 304 (vs "law_creasecurve_k04_numbers_written" 449) 303 := by constructor <;> kernel_rfl
theorem h22 (w : World) : FnAt (K w.params) "_law_asked" fH 311 (vs "law_creasecurve_k04_numbers_written" 449) 310 := by constructor <;> kernel_rfl
theorem h23 (w : World) : FnAt (K w.params) "_law_thing_right" dM 318 (vs "law_creasecurve_k04_numbers_written" 449) 317 := by constructor <;> kernel_rfl
theorem h24 (w : World) : FnAt (K w.params) "law" mO 323 (vs "law_creasecurve_k04_numbers_written" 449) 322 := by constructor <;> kernel_rfl
end Hd
open PySem PySem.W PyProof.Rows
theorem Hd.said : PySem.Challenge.rw_creasecurve_k04_numbers_written.wellSaid = true := by kernel_rfl
set_option maxRecDepth 100000 in
set_option maxHeartbeats 0 in
theorem PySem.Challenge.cw_creasecurve_k04_numbers_written_holds : PySem.Challenge.rw_creasecurve_k04_numbers_written.Holds := by
 refine holds_law Hd.said fun said => ?_
 refine holds_open (q := Hd.qv) (Xt := Hd.xt) (XP := XL Hd.qv []) (YP := Hd.hk.says) (N := 6438) Hd.left Hd.hk.of Hd.hk.keeps (fun s e => xl_of s (Bool.and_eq_true_iff.mp e).1) XL.keeps (by rfl) (by rfl) (by rfl) (fun s e => recFacts_of (Bool.and_eq_true_iff.mp e).2) (by rfl) said (by decide +kernel) ⟨rfl, rfl, rfl, rfl, rfl, by decide +kernel⟩ ?hw ?hc
 case hw => w_witness2
 refine My.walk (l := PySem.Challenge.rw_creasecurve_k04_numbers_written) rfl rfl (fun w h Y => ⟨PySem.W.km_in_of Y, PySem.W.km_tabs_of Y⟩) (fun w => by kernel_rfl) (fun w => by kernel_rfl) ?F
 case F =>
  intro w mg fa h KX G hmg
  exact My.all_mk (CRoofError := 24) (CNoFraction := 37) (CNoRoof := 49) (CTooSteep := 61) (CTooMany := 73) (CNoNumber := 85) (CNoCorner := 97) (CNoDealing := 109) (CNoRow := 121) (CNoText := 140) (CNoName := 159) (t__name__ := 449) (tFIGURES := 400) (tMOST_FIGURES := 402) KX G hmg (Hd.h1 w) (Hd.h2 w) (Hd.h3 w) (Hd.h4 w) (Hd.h5 w) (Hd.h6 w) (Hd.h7 w) (Hd.h8 w) (Hd.h9 w) (Hd.h10 w) (Hd.h11 w) (Hd.h12 w) (Hd.h13 w) (Hd.h14 w) (Hd.h15 w) (Hd.h16 w) (Hd.h17 w) (Hd.h18 w) (Hd.h19 w) (Hd.h20 w) (Hd.h21 w) (Hd.h22 w) (Hd.h23 w) (Hd.h24 w) (by kernel_rfl) (by kernel_rfl) (by kernel_rfl) (by kernel_rfl) (by kernel_rfl) (by kernel_rfl) (by kernel_rfl) (by kernel_rfl) (by kernel_rfl) (by kernel_rfl) (by kernel_rfl) (by kernel_rfl) (by kernel_rfl) (by kernel_rfl) (by kernel_rfl) (by kernel_rfl) (by kernel_rfl) (by kernel_rfl) (by kernel_rfl) (by kernel_rfl) (by kernel_rfl) (by kernel_rfl) (by kernel_rfl) (by kernel_rfl) (by kernel_rfl) (by kernel_rfl) (by kernel_rfl) (by kernel_rfl) (by kernel_rfl) (by kernel_rfl) (by kernel_rfl) (by kernel_rfl) (by kernel_rfl) (by kernel_rfl) (by kernel_rfl) (by kernel_rfl) (by kernel_rfl) (by kernel_rfl) (by kernel_rfl) (by kernel_rfl) (by kernel_rfl) (by kernel_rfl) (by kernel_rfl) (by kernel_rfl) (by kernel_rfl) (by kernel_rfl) (by kernel_rfl) (by kernel_rfl) (by kernel_rfl) (by kernel_rfl) (by kernel_rfl) (by kernel_rfl) (by kernel_rfl) (by kernel_rfl) (by kernel_rfl) (by kernel_rfl)

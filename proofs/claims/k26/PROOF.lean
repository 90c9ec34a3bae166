import PyProof.Rows.All
import Wide.All
import OpenK.AllK
import Wide.FinOn
import Lean
import PyProof.EqAt
import PyProof.EqKinds
import PyProof.TupleCall
import PySem.Challenge.RW_creasecurve_k26_areas
set_option Elab.async false
set_option linter.all false
set_option maxRecDepth 100000
namespace L2
open PySem PySem.Spec PyProof.Rows
abbrev Key := Sum Int Str
def keyIs : Key → Value → Bool
 | .inl k, v => Value.isInt k v
 | .inr x, v => Value.isStrOf x v
def keyH (w : World) : Key → Int
 | .inl k => hashInt k
 | .inr x => hashStr w x
theorem keyIs_shape : ∀ {k : Key} {v : Value}, keyIs k v = true → (∃ i t, k = Sum.inl i ∧ v = Value.int i t) ∨ (∃ x t, k = Sum.inr x ∧ v = Value.str x t)
 | .inl i, v, h => by
  obtain ⟨t, e⟩ := Value.isInt_shape (k := i) (v := v) h
  exact .inl ⟨i, t, rfl, e⟩
 | .inr x, v, h => by
  obtain ⟨t, e⟩ := Value.isStrOf_shape (x := x) (v := v) h
  exact .inr ⟨x, t, rfl, e⟩
theorem key_ll (a b : Int) : decide ((Sum.inl a : Key) = Sum.inl b) = (a == b) := by
 by_cases e : a = b
 ·subst e; simp
 ·have h : ¬ (Sum.inl a : Key) = Sum.inl b := fun q => e (Sum.inl.inj q)
  rw [decide_eq_false h]
  exact (beq_eq_false_iff_ne.mpr e).symm
theorem key_rr (a b : Str) : decide ((Sum.inr a : Key) = Sum.inr b) = decide (a = b) := by
 by_cases e : a = b
 ·subst e; simp
 ·have h : ¬ (Sum.inr a : Key) = Sum.inr b := fun q => e (Sum.inr.inj q)
  rw [decide_eq_false h, decide_eq_false e]
theorem key_lr (a : Int) (b : Str) : decide ((Sum.inl a : Key) = Sum.inr b) = false := decide_eq_false (fun q => nomatch q)
theorem key_rl (a : Str) (b : Int) : decide ((Sum.inr a : Key) = Sum.inl b) = false := decide_eq_false (fun q => nomatch q)
def mixKind (prog : Program) (w : World) : PySem.KeyKind prog w Key where
 is := keyIs
 hash := keyH w
 inj := fun v a b ha hb => by
  rcases keyIs_shape ha with ⟨i, t, rfl, rfl⟩ | ⟨x, t, rfl, rfl⟩
  ·rcases keyIs_shape hb with ⟨j, u, rfl, e⟩ | ⟨y, u, rfl, e⟩
   ·injection e with e1 _; rw [e1]
   ·exact nomatch e
  ·rcases keyIs_shape hb with ⟨j, u, rfl, e⟩ | ⟨y, u, rfl, e⟩
   ·exact nomatch e
   ·injection e with e1 _; rw [e1]
 byValue := fun k v h => by
  rcases keyIs_shape h with ⟨i, t, rfl, rfl⟩ | ⟨x, t, rfl, rfl⟩ <;> rfl
 pyHash := fun hv h => by
  rcases keyIs_shape hv with ⟨i, t, rfl, rfl⟩ | ⟨x, t, rfl, rfl⟩
  ·exact wpAny_pyHash_int h
  ·exact wpAny_pyHash_str h
 eqBool := fun hu hv h => by
  rcases keyIs_shape hu with ⟨i, t, rfl, rfl⟩ | ⟨x, t, rfl, rfl⟩
  ·rcases keyIs_shape hv with ⟨j, u, rfl, rfl⟩ | ⟨y, u, rfl, rfl⟩
   ·rw [key_ll] at h; exact wpAny_eqBool_int h
   ·rw [key_lr] at h; exact SeqAt.EqAt.int_str i t y u _ _ _ _ h
  ·rcases keyIs_shape hv with ⟨j, u, rfl, rfl⟩ | ⟨y, u, rfl, rfl⟩
   ·rw [key_rl] at h; exact SeqAt.EqAt.str_int x t j u _ _ _ _ h
   ·rw [key_rr] at h; exact wpAny_eqBool_str h
 «strs» := fun k x t v h => by
  rcases keyIs_shape h with ⟨i, u, rfl, e⟩ | ⟨y, u, rfl, e⟩
  ·exact nomatch e
  ·injection e with e1 _
   subst e1
   cases v <;> rfl
inductive V where
 | non | bl (b : Bool) | int (i : Int) | str (x : Str) | byt (b : Array UInt8) | flt (b : UInt64) | ref (a : Addr) | ty (n : String)
 deriving DecidableEq
def RelV : V → Value → Prop
 | .non, u => u = Value.none
 | .bl b, u => u = Value.bool b
 | .int i, u => ∃ t, u = Value.int i t
 | .str x, u => ∃ t, u = Value.str x t
 | .byt b, u => ∃ t, u = Value.bytes b t
 | .flt b, u => ∃ t, u = Value.float b t
 | .ref a, u => u = Value.ref a
 | .ty n, u => u = Value.type n
abbrev Vals : List V → List Value → Prop := Paired RelV
theorem Vals.length {xs : List V} {us : List Value} (r : Vals xs us) : xs.length = us.length := Paired.length r
theorem Vals.get : ∀ {xs : List V} {us : List Value} {i : Nat} {x : V}, Vals xs us → xs[i]? = some x → ∃ u, us[i]? = some u ∧ RelV x u
 | _, _, _, _, .nil, e => by simp at e
 | _, _, 0, _, .cons r _, e => by simp at e; subst e; exact ⟨_, rfl, r⟩
 | _, _, i + 1, x, .cons _ t, e => by
  obtain ⟨u, h1, h2⟩ := Vals.get (i := i) (x := x) t (by simpa using e)
  exact ⟨u, by simpa using h1, h2⟩
theorem Vals.append : ∀ {xs ys : List V} {us ws : List Value}, Vals xs us → Vals ys ws → Vals (xs ++ ys) (us ++ ws)
 | _, _, _, _, .nil, s => s
 | _, _, _, _, .cons r t, s => .cons r (Vals.append t s)
theorem Vals.take : ∀ {xs : List V} {us : List Value} (n : Nat), Vals xs us → Vals (xs.take n) (us.take n)
 | _, _, 0, _ => .nil
 | _, _, _ + 1, .nil => .nil
 | _, _, n + 1, .cons r t => .cons r (Vals.take n t)
theorem Vals.drop : ∀ {xs : List V} {us : List Value} (n : Nat), Vals xs us → Vals (xs.drop n) (us.drop n)
 | _, _, 0, r => r
 | _, _, _ + 1, .nil => .nil
 | _, _, n + 1, .cons _ t => Vals.drop n t
def RelO : Option V → Option Value → Prop
 | some v, some u => RelV v u
 | none, none => True
 | _, _ => False
def KV {κ : Type} : List (κ × V) → List (κ × Value) → Prop := Paired fun (p : κ × V) (q : κ × Value) => p.1 = q.1 ∧ RelV p.2 q.2
def kV : Key → V
 | .inl i => .int i
 | .inr x => .str x
inductive HO where
 /-- a list -/
 | lst (xs : List V)
 /-- a tuple (never changes) -/
 | tup (xs : List V)
 /-- a dict whose keys are ints and texts; one whose keys are tuples of ints and texts (the empty one is both) -/
 | dK (kvs : List (Key × V)) | dT (kvs : List (List Key × V))
 /-- a set of ints: its members, its size -/
 | set (S : Int → Bool) (n : Nat)
 /-- an instance of the class at C, its dict at dx, its attributes -/
 | ins (C dx : Addr) (fs : List (Str × V))
 /-- the dict of the instance at x -/
 | own (x : Addr)
 /-- the dict of an exception -/
 | xd (fs : List (Str × V))
 /-- a bound method, f of x -/
 | met (f x : Addr)
 /-- a range object lo, lo + 1, .. below hi -/
 | rng (lo hi : Int)
 /-- a thing that is known to the object (the script; a dict while a loop walks it): read, never written while it is so -/
 | frz (o : Obj) (u : HO)
 /-- a code object's table -/
 | tbl (ps : Array Value)
 /-- any other thing, by what is true of its one object (a def of one's own: SetO a S n := HO.ext fun h => ..) -/
 | ext (φ : Heap → Prop)
abbrev Hp := Addr → Option HO
def upd (H : Hp) (a : Addr) (o : HO) : Hp := fun b => if b = a then some o else H b
theorem upd_same {H : Hp} {a : Addr} {o : HO} : upd H a o a = some o := by unfold upd; rw [if_pos rfl]
theorem upd_ne {H : Hp} {a b : Addr} {o : HO} (h : b ≠ a) : upd H a o b = H b := by unfold upd; rw [if_neg h]
theorem ne_of_none {H : Hp} {a b : Addr} {o : HO} (h : H a = some o) (h' : H b = none) : a ≠ b := by
 intro e; subst e; rw [h] at h'; cases h'
section
variable (P : Program) (w : World)
def ObjOk (H : Hp) (h : Heap) (a : Addr) : HO → Prop
 | .lst xs => xs.length ≤ sizeLine ∧ ∃ (its : List Value) (n : Nat), Vals xs its ∧ h.get? a = some { cls := .type "list", data := .seq its.toArray n }
 | .tup xs => xs.length ≤ sizeLine ∧ ∃ its : List Value, Vals xs its ∧ IsTup h a its.toArray
 | .dK kvs => kvs.length ≤ sizeLine ∧ (a == sysModules) = false ∧ ∃ vs, KV kvs vs ∧ h.DictOf (mixKind P w) a vs
 | .dT kvs => kvs.length ≤ sizeLine ∧ (a == sysModules) = false ∧ ∃ xs : List (List Key × Addr × Value),
   Paired (fun (p : List Key × V) (q : List Key × Addr × Value) => p.1 = q.1 ∧ H q.2.1 = some (.tup (p.1.map kV)) ∧ RelV p.2 q.2.2) kvs xs ∧
   ∃ o es ep, h.get? a = some o ∧ o.ExactDict ∧ o.data = .dict es ep ∧ es.toList = xs.map (entryOfKey (tupleKind (mixKind P w))) ∧ (xs.map (·.1)).Nodup
 | .set S n => h.SetOf (intKind P w) a S n
 | .ins C dx fs => H dx = some (.own a) ∧ fs.length ≤ 1000 ∧ dx ≠ a ∧ h.get? a = some (PySem.W.instObj C dx) ∧
   ∃ mA, h.Ns1 dx mA ∧ (∀ f, RelO (fs.lookup f) (mA f)) ∧ PySem.Within mA (fs.map (·.1))
 | .own _ => ∃ o, h.get? a = some o
 | .xd fs => ∃ mA, h.Ns1 a mA ∧ ∀ f, RelO (fs.lookup f) (mA f)
 | .rng lo hi => ∃ t u v, h.get? a = some { cls := .type "range", data := .fields #[.int lo t, .int hi u, .int 1 v] }
 | .frz o u => h.get? a = some o ∧ ObjOk H h a u
 | .tbl ps => h.get? a = some { cls := .none, data := .fields ps }
 | .met f x => h.get? a = some (PySem.W.methodObj (.ref f) (.ref x))
 | .ext φ => φ h ∧ (∃ o, h.get? a = some o) ∧ ∀ h1 h2 : Heap, φ h1 → (∀ o, h1.get? a = some o → h2.get? a = some o) → φ h2
def HOk (H : Hp) (h : Heap) : Prop := ∀ a o, H a = some o → ObjOk P w H h a o
end
section
variable {P : Program} {w : World} {H H' : Hp} {h h' : Heap} {a : Addr} {o : HO}
theorem ObjOk.lt (x : ObjOk P w H h a o) : a < h.objs.size := by
 cases o with
 | lst xs => obtain ⟨_, _, _, _, e⟩ := x; exact Heap.lt_size e
 | tup xs => obtain ⟨_, _, _, p⟩ := x; exact p.lt
 | dK kvs => obtain ⟨_, _, _, _, o, _, _, e, _⟩ := x; exact Heap.lt_size e
 | dT kvs => obtain ⟨_, _, _, _, o, _, _, e, _⟩ := x; exact Heap.lt_size e
 | set S n => obtain ⟨o, _, _, _, e, _⟩ := x; exact Heap.lt_size e
 | ins C dx fs => obtain ⟨_, _, _, e, _⟩ := x; exact Heap.lt_size e
 | own y => obtain ⟨_, e⟩ := x; exact Heap.lt_size e
 | xd fs => obtain ⟨_, ⟨_, _, _, e, _⟩, _⟩ := x; exact Heap.lt_size e
 | rng lo hi => obtain ⟨_, _, _, e⟩ := x; exact Heap.lt_size e
 | frz ob u => obtain ⟨e, _⟩ := x; exact Heap.lt_size e
 | tbl ps => exact Heap.lt_size (show h.get? a = some _ from x)
 | met f y => exact Heap.lt_size (show h.get? a = some _ from x)
 | ext φ => obtain ⟨_, ⟨_, e⟩, _⟩ := x; exact Heap.lt_size e
theorem Paired.mapP {α β : Type} {F G : α → β → Prop} : ∀ {l₁ : List α} {l₂ : List β}, Paired F l₁ l₂ → (∀ a b, F a b → G a b) → Paired G l₁ l₂
 | _, _, .nil, _ => .nil
 | _, _, .cons r t, f => .cons (f _ _ r) (Paired.mapP t f)
theorem ObjOk.stay (x : ObjOk P w H h a o) (k : ∀ b u, (b = a ∨ H b = some (.own a)) → h.get? b = some u → h'.get? b = some u)
  (ho : ∀ b, H b = some (.own a) → H' b = some (.own a)) (ht : ∀ b xs, H b = some (.tup xs) → H' b = some (.tup xs)) : ObjOk P w H' h' a o := by
 induction o with
 | lst xs => obtain ⟨z, its, n, r, e⟩ := x; exact ⟨z, its, n, r, k _ _ (.inl rfl) e⟩
 | tup xs => obtain ⟨z, its, r, ob, e, c⟩ := x; exact ⟨z, its, r, ob, k _ _ (.inl rfl) e, c⟩
 | dK kvs => obtain ⟨z, y, vs, r, ob, es, ep, e, c⟩ := x; exact ⟨z, y, vs, r, ob, es, ep, k _ _ (.inl rfl) e, c⟩
 | dT kvs =>
  obtain ⟨z, y, xs, r, ob, es, ep, e, c⟩ := x
  exact ⟨z, y, xs, Paired.mapP r fun p q z => ⟨z.1, ht _ _ z.2.1, z.2.2⟩, ob, es, ep, k _ _ (.inl rfl) e, c⟩
 | set S n => obtain ⟨ob, es, ep, t, e, c⟩ := x; exact ⟨ob, es, ep, t, k _ _ (.inl rfl) e, c⟩
 | ins C dx fs =>
  obtain ⟨d, z, ne, e, mA, ⟨od, es, ep, e2, c⟩, r⟩ := x
  exact ⟨ho _ d, z, ne, k _ _ (.inl rfl) e, mA, ⟨od, es, ep, k _ _ (.inr d) e2, c⟩, r⟩
 | own y => obtain ⟨ob, e⟩ := x; exact ⟨ob, k _ _ (.inl rfl) e⟩
 | xd fs => obtain ⟨mA, ⟨od, es, ep, e, c⟩, r⟩ := x; exact ⟨mA, ⟨od, es, ep, k _ _ (.inl rfl) e, c⟩, r⟩
 | rng lo hi => obtain ⟨t, u, v, e⟩ := x; exact ⟨t, u, v, k _ _ (.inl rfl) e⟩
 | frz ob u ih => obtain ⟨e, q⟩ := x; exact ⟨k _ _ (.inl rfl) e, ih q⟩
 | tbl ps =>
  have e : h.get? a = some { cls := .none, data := .fields ps } := x
  show h'.get? a = some { cls := .none, data := .fields ps }
  exact k a _ (.inl rfl) e
 | met f y =>
  have e : h.get? a = some (PySem.W.methodObj (.ref f) (.ref y)) := x
  show h'.get? a = some (PySem.W.methodObj (.ref f) (.ref y))
  exact k a _ (.inl rfl) e
 | ext φ => obtain ⟨p, ⟨o, e⟩, st⟩ := x; exact ⟨st _ _ p fun o q => k _ _ (.inl rfl) q, ⟨o, k _ _ (.inl rfl) e⟩, st⟩
theorem HOk.lt (x : HOk P w H h) (e : H a = some o) : a < h.objs.size := (x a o e).lt
theorem HOk.fresh (x : HOk P w H h) (e : h.objs.size ≤ a) : H a = none := by
 cases q : H a with
 | none => rfl
 | some u => exact absurd (Nat.lt_of_lt_of_le (x.lt q) e) (Nat.lt_irrefl _)
theorem HOk.kept (x : HOk P w H h) (k : ∀ b u, h.get? b = some u → h'.get? b = some u) : HOk P w H h' := fun a o e =>
 (x a o e).stay (fun b u _ q => k b u q) (fun _ q => q) fun _ _ q => q
theorem HOk.laid (x : HOk P w H h) (k : ∀ b u, h.get? b = some u → h'.get? b = some u) (hp : h.objs.size ≤ a) (new : ObjOk P w (upd H a o) h' a o) : HOk P w (upd H a o) h' := fun b u e => by
 have hn := x.fresh hp
 by_cases hb : b = a
 ·subst hb; rw [upd_same] at e; cases e; exact new
 ·rw [upd_ne hb] at e
  exact (x b u e).stay (fun c v _ q => k c v q) (fun c q => by rw [upd_ne (ne_of_none q hn)]; exact q) fun c xs q => by rw [upd_ne (ne_of_none q hn)]; exact q
end
def Rd (H : Hp) (a : Addr) (u : HO) : Prop := H a = some u ∨ ∃ o, H a = some (.frz o u)
theorem Rd.ok {P : Program} {w : World} {H : Hp} {h : Heap} {a : Addr} {u : HO} (r : Rd H a u) (x : HOk P w H h) : ObjOk P w H h a u := by
 rcases r with r | ⟨o, r⟩
 ·exact x a u r
 ·obtain ⟨_, q⟩ := x a _ r
  exact q
def Mut : Option HO → Prop
 | some (.lst _) => True
 | some (.dK _) => True
 | some (.dT _) => True
 | some (.set _ _) => True
 | some (.ins _ _ _) => True
 | some (.ext _) => True
 | _ => False
section
variable {P : Program} {w : World} {H : Hp} {h h' : Heap} {x e : Addr} {o' : HO}
theorem HOk.write (ok : HOk P w H h) (mu : Mut (H x)) (he : e = x ∨ H e = some (.own x)) (k : ∀ b u, b ≠ e → h.get? b = some u → h'.get? b = some u) (heo : ∃ u, h'.get? e = some u)
  (new : ObjOk P w (upd H x o') h' x o') : HOk P w (upd H x o') h' := fun b u q => by
 have nown : ∀ c y, H c = some (.own y) → c ≠ x := fun c y r z => by subst z; rw [r] at mu; exact mu
 have ntup : ∀ c xs, H c = some (.tup xs) → c ≠ x := fun c xs r z => by subst z; rw [r] at mu; exact mu
 by_cases hb : b = x
 ·subst hb; rw [upd_same] at q; cases q; exact new
 ·rw [upd_ne hb] at q
  by_cases hbe : b = e
  ·have q' : H b = some (.own x) := by
    rcases he with z | z
    ·exact absurd (hbe.trans z) hb
    ·rw [hbe]; exact z
   rw [q] at q'; cases q'
   obtain ⟨v, hv⟩ := heo
   exact ⟨v, by rw [hbe]; exact hv⟩
  ·refine (ok b u q).stay (fun c v hc r => k c v ?_ r) (fun c r => by rw [upd_ne (nown c b r)]; exact r) fun c xs r => by rw [upd_ne (ntup c xs r)]; exact r
   rcases hc with rfl | hc
   ·exact hbe
   ·rintro rfl
    rcases he with z | z
    ·exact nown c b hc z
    ·rw [hc] at z; cases z; exact hb rfl
end
structure Un (fs ex : List Addr) (H H' : Hp) (h h' : Heap) : Prop where
 keep : ∀ b o, h.get? b = some o → H b = none → b ∉ fs → b ∉ ex → h'.get? b = some o
 slot : ∀ b o, h.get? b = some o → H b = none → b ∈ fs → b ∉ ex → ∃ sl, h'.get? b = some { o with slots := sl }
 free : ∀ b o, h.get? b = some o → H b = none → b ∉ ex → H' b = none
 there : ∀ b o, h.get? b = some o → b ∉ ex → ∃ o', h'.get? b = some o'
 tups : ∀ b xs, H b = some (.tup xs) → H' b = some (.tup xs)
 frzs : ∀ b o u, H b = some (.frz o u) → H' b = some (.frz o u)
 tbls : ∀ b ps, H b = some (.tbl ps) → ∃ more, H' b = some (.tbl (ps ++ more))
section
variable {fs fs' ex ex' : List Addr} {H H1 H2 : Hp} {h h1 h2 h' : Heap} {a x e : Addr} {o : HO}
theorem Un.any (u : Un fs ex H H1 h h1) {b : Addr} {ob : Obj} (q : h.get? b = some ob) (n : H b = none) (hx : b ∉ ex) : ∃ sl, h1.get? b = some { ob with slots := sl } := by
 by_cases hb : b ∈ fs
 ·exact u.slot b ob q n hb hx
 ·exact ⟨ob.slots, u.keep b ob q n hb hx⟩
theorem Un.kept (k : ∀ b u, h.get? b = some u → h'.get? b = some u) : Un fs ex H H h h' :=
 ⟨fun b ob q _ _ _ => k b ob q, fun b ob q _ _ _ => ⟨ob.slots, k b ob q⟩, fun _ _ _ n _ => n, fun b ob q _ => ⟨ob, k b ob q⟩, fun _ _ q => q, fun _ _ _ q => q, fun _ ps q => ⟨#[], by rw [q]; simp⟩⟩
theorem Un.refl : Un fs ex H H h h := Un.kept fun _ _ q => q
theorem Un.laid (k : ∀ b u, h.get? b = some u → h'.get? b = some u) (hp : h.objs.size ≤ a) (hn : H a = none) : Un fs ex H (upd H a o) h h' where
 keep := fun b u q _ _ _ => k b u q
 slot := fun b u q _ _ _ => ⟨u.slots, k b u q⟩
 free := fun b u q n _ => by rw [upd_ne (Nat.ne_of_lt (Nat.lt_of_lt_of_le (Heap.lt_size q) hp))]; exact n
 there := fun b u q _ => ⟨u, k b u q⟩
 tups := fun b xs q => by rw [upd_ne (ne_of_none q hn)]; exact q
 frzs := fun b u xs q => by rw [upd_ne (ne_of_none q hn)]; exact q
 tbls := fun b ps q => ⟨#[], by rw [upd_ne (ne_of_none q hn), q]; simp⟩
theorem Un.write (mu : Mut (H x)) (he : e = x ∨ H e = some (.own x)) (k : ∀ b u, b ≠ e → h.get? b = some u → h'.get? b = some u) (heo : ∃ u, h'.get? e = some u) : Un fs ex H (upd H x o) h h' := by
 have hx : ∀ b, H b = none → b ≠ x := fun b n z => by subst z; rw [n] at mu; exact mu
 have hb : ∀ b, H b = none → b ≠ e := fun b n z => by
  subst z
  rcases he with r | r
  ·exact hx b n r
  ·rw [n] at r; cases r
 have hm : ∀ b u, H b = some u → ¬ Mut (some u) → b ≠ x := fun b u q nm z => by subst z; rw [q] at mu; exact nm mu
 refine ⟨fun b u q n _ _ => k b u (hb b n) q, fun b u q n _ _ => ⟨u.slots, k b u (hb b n) q⟩, fun b u q n _ => by rw [upd_ne (hx b n)]; exact n, fun b u q _ => ?_,
  fun b xs q => by rw [upd_ne (hm b _ q fun z => z)]; exact q, fun b u xs q => by rw [upd_ne (hm b _ q fun z => z)]; exact q, fun b ps q => ⟨#[], by rw [upd_ne (hm b _ q fun z => z), q]; simp⟩⟩
 by_cases hbe : b = e
 ·subst hbe; exact heo
 ·exact ⟨u, k b u hbe q⟩
end
def trk (h : Heap) (H : Hp) : List Addr := (List.range h.objs.size).filter fun a => (H a).isSome
def hidT (h : Heap) (H : Hp) : Heap := PySem.W.hideAll h (trk h H)
theorem hidT_size (h : Heap) (H : Hp) : (hidT h H).objs.size = h.objs.size := PySem.W.hideAll_size _ _
theorem hidT_get {h : Heap} {H : Hp} {b : Addr} {o : Obj} (e : h.get? b = some o) (n : H b = none) : (hidT h H).get? b = some o :=
 PySem.W.hideAll_get _ e fun hm => by
  have q : (H b).isSome = true := (List.mem_filter.mp hm).2
  rw [n] at q; simp at q
theorem of_hidT {h : Heap} {H : Hp} {b : Addr} {o : Obj} (e : (hidT h H).get? b = some o) : h.get? b = some o ∧ H b = none := by
 have e' : h.get? b = some o := PySem.W.of_hideAll (trk h H) e
 refine ⟨e', ?_⟩
 cases q : H b with
 | none => rfl
 | some x =>
  have hm : b ∈ trk h H := List.mem_filter.mpr ⟨List.mem_range.mpr (Heap.lt_size e'), by simp [q]⟩
  have z : (hidT h H).get? b = none := PySem.W.hideAll_none (trk h H) hm
  rw [z] at e; cases e
def allNews (g h : Heap) (L : Addr) : List (Addr × Obj) := (List.range h.objs.size).filterMap fun a => if a = L ∨ (g.get? a).isSome = true then none else (h.get? a).map fun o => (a, o)
def rest (g h : Heap) (L d : Addr) : List (Addr × Obj) := (allNews g h L).filter fun p => decide (p.1 ≠ d)
structure Mod (K : PySem.W.Frag) (mg : Str → Option Value) (base : Heap) : Prop where
 kin : K.In base
 glob : base.Ns mainGlobals mg
 blt : ∃ mb, base.Ns builtinsNs mb ∧ ∀ x : Str, x ≠ "__name__" → mb x = bootBuiltins x
 nolimit : base.NoLimit
structure Cx where
 prog : Program
 w : World
 K : PySem.W.Frag
 mg : Str → Option Value
 base : Heap
 A : Around
 N : List Str
 s₀ : Shared
 H₀ : Hp
 env : Env
 outer : List Env
 stack : List Env
 ex : List Addr
 fn : Str → Bool
 calm : Bool
 pn : List (Addr × Obj)
 xe : Value → Shared → Prop
def frs (l : List Env) : List Addr := l.filterMap (·.frame)
abbrev Cx.fs (X : Cx) : List Addr := frs X.outer
def Vis (sc : Scope) (x : Str) : Prop := sc.names.lookup x = some .local ∨ sc.names.lookup x = some .cell ∨ sc.names.lookup x = some .free
def Loc (sc : Scope) (x : Str) : Prop := sc.names.lookup x = some .local ∨ sc.names.lookup x = some .cell
def Look (env : Env) (h : Heap) (m : Str → Option Value) (x : Str) (u : Value) : Prop :=
 (env.kindOf x = some .local ∧ m x = some u) ∨ ((env.kindOf x = some .cell ∨ env.kindOf x = some .free) ∧ ∃ c, env.cells.lookup x = some c ∧ h.IsCell c (some u))
structure Cx.Ok (X : Cx) : Prop where
 mod : Mod X.K X.mg X.base
 kind : X.env.scope.kind = .function
 glob : X.env.globals = mainGlobals
 blt : X.env.builtins = builtinsNs
 above : X.s₀.heap.objs.size ≤ X.env.locals
 inj : ∀ x y c, X.env.cells.lookup x = some c → X.env.cells.lookup y = some c → x = y
 has : ∀ x, (X.env.kindOf x = some .cell ∨ X.env.kindOf x = some .free) → ∃ c, X.env.cells.lookup x = some c
 cab : ∀ x c, X.fn x = true → X.env.cells.lookup x = some c → X.s₀.heap.objs.size ≤ c
 hd : X.calm = true → X.A.handled = none
 frames : X.A.frames = some X.stack
 stk : X.stack = X.outer ∨ (X.stack = X.env :: X.outer ∧ X.env.frame = some X.env.locals)
 exf : ∀ b ∈ X.ex, b ≠ X.env.locals ∧ ∀ x c, X.env.cells.lookup x = some c → c ≠ b
 bs : ∀ b o, X.base.get? b = some o → X.s₀.heap.get? b = some o ∧ X.H₀ b = none
 bsz : X.base.objs.size ≤ X.s₀.heap.objs.size
 noex : ∀ b o, X.base.get? b = some o → b ∉ X.ex
 exfs : ∀ b ∈ X.ex, b ∉ X.fs
 funs : X.s₀.heap.FunFrames X.base X.outer
 frf : ∀ b ∈ X.fs, X.H₀ b = none
structure Inv (X : Cx) (pins : List (Addr × Obj)) (σ : List (Option V)) (H : Hp) (s : Shared) : Prop where
 ok : X.Ok
 os : s.os = X.s₀.os
 bare : AllBare s.gens
 base : Un X.fs X.ex X.H₀ H X.s₀.heap s.heap
 loc : ∃ m, s.heap.Ns X.env.locals m ∧ ∀ (i : Nat) (x : Str) (v : V), X.N[i]? = some x → σ[i]? = some (some v) → Vis X.env.scope x → ∃ u, RelV v u ∧ Look X.env s.heap m x u
 cell : ∀ x c, X.env.cells.lookup x = some c → ∃ v, s.heap.IsCell c v
 free : H X.env.locals = none
 freeC : ∀ x c, X.env.cells.lookup x = some c → H c = none
 pin : ∀ p ∈ X.pn ++ pins, s.heap.get? p.1 = some p.2 ∧ H p.1 = none ∧ p.1 ≠ X.env.locals ∧ p.1 ∉ X.fs ∧ ∀ v, p.2.data ≠ .cell v
 hok : HOk X.prog X.w H s.heap
 len : σ.length = X.N.length
section
variable {X : Cx} {pins : List (Addr × Obj)} {σ : List (Option V)} {H H' : Hp} {s : Shared} {h' : Heap}
theorem Cx.Ok.nofr (ok : X.Ok) {b : Addr} {o : Obj} (e : X.base.get? b = some o) : b ∉ X.fs := fun hb => by
 have := (ok.funs.mem hb).1
 rw [e] at this; cases this
theorem Inv.bs (I : Inv X pins σ H s) : ∀ b o, X.base.get? b = some o → s.heap.get? b = some o ∧ H b = none := fun b o e =>
 ⟨I.base.keep b o (I.ok.bs b o e).1 (I.ok.bs b o e).2 (I.ok.nofr e) (I.ok.noex b o e), I.base.free b o (I.ok.bs b o e).1 (I.ok.bs b o e).2 (I.ok.noex b o e)⟩
theorem Inv.bk (I : Inv X pins σ H s) : ∀ b o, X.base.get? b = some o → s.heap.get? b = some o := fun b o e => (I.bs b o e).1
theorem Inv.mod (I : Inv X pins σ H s) : Mod X.K X.mg X.base := I.ok.mod
theorem Inv.kIn (I : Inv X pins σ H s) : X.K.In s.heap := I.ok.mod.kin.keeps I.bk
theorem Inv.lt (I : Inv X pins σ H s) : X.env.locals < s.heap.objs.size := let ⟨_, hn, _⟩ := I.loc; hn.lt
theorem Inv.sz (I : Inv X pins σ H s) : X.s₀.heap.objs.size ≤ s.heap.objs.size := Nat.le_trans I.ok.above (Nat.le_of_lt I.lt)
theorem Inv.nofs (I : Inv X pins σ H s) {a : Addr} (h : s.heap.objs.size ≤ a) : a ∉ X.fs := fun hb => by
 obtain ⟨_, o, ho, _⟩ := I.ok.funs.mem hb
 exact absurd (Nat.lt_of_lt_of_le (Heap.lt_size ho) (Nat.le_trans I.sz h)) (Nat.lt_irrefl _)
theorem Inv.cne (I : Inv X pins σ H s) : ∀ x c, X.env.cells.lookup x = some c → c ≠ X.env.locals := fun x c e z => by
 obtain ⟨v, o, ho, hd⟩ := I.cell x c e
 obtain ⟨m, ⟨o', es, ep, ho', hd', _⟩, _⟩ := I.loc
 rw [z, ho'] at ho; cases ho; rw [hd'] at hd; cases hd
theorem Inv.funs (I : Inv X pins σ H s) : s.heap.FunFrames X.base X.outer := by
 have all : ∀ (l : List Env), (∀ b ∈ frs l, b ∈ X.fs) → X.s₀.heap.FunFrames X.base l → s.heap.FunFrames X.base l := by
  intro l
  induction l with
  | nil => intro _ _; trivial
  | cons env r ih =>
   intro hs hl
   obtain ⟨hk, ⟨L, o, hf, hn, ho, hd⟩, hr⟩ := hl
   have hL : L ∈ X.fs := hs L (by unfold frs; rw [List.filterMap_cons, hf]; exact List.mem_cons_self)
   obtain ⟨sl, e⟩ := I.base.slot L o ho (I.ok.frf L hL) hL fun z => I.ok.exfs L z hL
   exact ⟨hk, ⟨L, _, hf, hn, e, hd⟩, ih (fun b hb => hs b (by unfold frs; rw [List.filterMap_cons, hf]; exact List.mem_cons_of_mem _ hb)) hr⟩
 exact all X.outer (fun _ hb => hb) I.ok.funs
theorem Inv.stack (I : Inv X pins σ H s) : s.heap.FunFrames X.base X.stack := by
 rcases I.ok.stk with e | ⟨e, hf⟩
 ·rw [e]; exact I.funs
 ·rw [e]
  obtain ⟨m, hn, _⟩ := I.loc
  refine .cons (by rw [I.ok.kind]; decide) hf hn ?_ I.funs
  exact Heap.get?_none_of_le (Nat.le_trans I.ok.bsz I.ok.above)
theorem Inv.stkSub (I : Inv X pins σ H s) : ∀ b ∈ frs X.stack, b ∈ X.env.locals :: X.fs := fun b hb => by
 rcases I.ok.stk with e | ⟨e, hf⟩
 ·rw [e] at hb; exact List.mem_cons_of_mem _ hb
 ·rw [e] at hb
  unfold frs at hb
  rw [List.filterMap_cons, hf] at hb
  exact hb
theorem Inv.stkFree (I : Inv X pins σ H s) : ∀ b ∈ frs X.stack, H b = none := fun b hb => by
 rcases List.mem_cons.mp (I.stkSub b hb) with e | hb
 ·rw [e]; exact I.free
 ·obtain ⟨_, o, ho, _⟩ := I.ok.funs.mem hb
  exact I.base.free b o ho (I.ok.frf b hb) fun z => I.ok.exfs b z hb
theorem Inv.step {g' : Array GenState} {t' : Nat} {d' : Drawn} {ch : List Addr} (I : Inv X pins σ H s)
  (hch : ∀ b ∈ ch, (b ∈ X.ex ∨ X.s₀.heap.objs.size ≤ b) ∧ b ≠ X.env.locals ∧ (∀ x c, X.env.cells.lookup x = some c → c ≠ b) ∧ ∀ p ∈ X.pn ++ pins, p.1 ≠ b)
  (keep : ∀ b o, b ≠ X.env.locals → b ∉ X.fs → b ∉ ch → s.heap.get? b = some o → H b = none → h'.get? b = some o)
  (slot : ∀ b o, b ≠ X.env.locals → b ∈ X.fs → b ∉ ch → s.heap.get? b = some o → H b = none → ∃ sl, h'.get? b = some { o with slots := sl }) (free : ∀ b o, b ∉ ch → s.heap.get? b = some o → H b = none → H' b = none)
  (there : ∀ b o, b ∉ ch → s.heap.get? b = some o → ∃ o', h'.get? b = some o')
  (tups : ∀ b xs, H b = some (.tup xs) → H' b = some (.tup xs)) (frzs : ∀ b o u, H b = some (.frz o u) → H' b = some (.frz o u)) (tbls : ∀ b ps, H b = some (.tbl ps) → ∃ more, H' b = some (.tbl (ps ++ more)))
  (ns : ∀ m, s.heap.Ns X.env.locals m → h'.Ns X.env.locals m) (hok : HOk X.prog X.w H' h') (hg : AllBare g') :
  Inv X pins σ H' { s with heap := h', gens := g', drawn := d', toks := t' } := by
 have neL : ∀ b o, X.s₀.heap.get? b = some o → b ≠ X.env.locals := fun b o e => Nat.ne_of_lt (Nat.lt_of_lt_of_le (Heap.lt_size e) I.ok.above)
 have neC : ∀ b o, X.s₀.heap.get? b = some o → b ∉ X.ex → b ∉ ch := fun b o e hx hb => by
  rcases (hch b hb).1 with z | z
  ·exact hx z
  ·exact absurd (Nat.lt_of_lt_of_le (Heap.lt_size e) z) (Nat.lt_irrefl _)
 have cellK : ∀ x c, X.env.cells.lookup x = some c → ∀ v, s.heap.IsCell c v → h'.IsCell c v := fun x c e v ⟨o, ho, hd⟩ => by
  have nch : c ∉ ch := fun z => (hch c z).2.2.1 x c e rfl
  by_cases hc : c ∈ X.fs
  ·obtain ⟨sl, q⟩ := slot c o (I.cne x c e) hc nch ho (I.freeC x c e)
   exact ⟨_, q, hd⟩
  ·exact ⟨o, keep c o (I.cne x c e) hc nch ho (I.freeC x c e), hd⟩
 refine ⟨I.ok, I.os, hg, ⟨fun b o e n hb hx => ?_, fun b o e n hb hx => ?_, fun b o e n hx => ?_, fun b o e hx => ?_, fun b xs e => tups b xs (I.base.tups b xs e), fun b o xs e => frzs b o xs (I.base.frzs b o xs e), fun b ps e => ?_⟩, ?_, fun x c e => ?_, ?_, fun x c e => ?_, fun p hp => ?_, hok, I.len⟩
 ·exact keep b o (neL b o e) hb (neC b o e hx) (I.base.keep b o e n hb hx) (I.base.free b o e n hx)
 ·obtain ⟨sl, e1⟩ := I.base.slot b o e n hb hx
  obtain ⟨sl', e2⟩ := slot b _ (neL b o e) hb (neC b o e hx) e1 (I.base.free b o e n hx)
  exact ⟨sl', e2⟩
 ·obtain ⟨o', e1⟩ := I.base.there b o e hx
  exact free b o' (neC b o e hx) e1 (I.base.free b o e n hx)
 ·obtain ⟨o', e1⟩ := I.base.there b o e hx
  exact there b o' (neC b o e hx) e1
 ·obtain ⟨m1, e1⟩ := I.base.tbls b ps e
  obtain ⟨m2, e2⟩ := tbls b _ e1
  exact ⟨m1 ++ m2, by rw [e2, Array.append_assoc]⟩
 ·obtain ⟨m, hn, hl⟩ := I.loc
  refine ⟨m, ns m hn, fun i x v e1 e2 e3 => ?_⟩
  obtain ⟨u, r, l⟩ := hl i x v e1 e2 e3
  refine ⟨u, r, ?_⟩
  rcases l with l | ⟨k, c, e, z⟩
  ·exact .inl l
  ·exact .inr ⟨k, c, e, cellK x c e _ z⟩
 ·obtain ⟨v, z⟩ := I.cell x c e
  exact ⟨v, cellK x c e v z⟩
 ·obtain ⟨m, ⟨o, _, _, ho, _⟩, _⟩ := I.loc
  exact free _ o (fun z => (hch _ z).2.1 rfl) ho I.free
 ·obtain ⟨v, o, ho, hd⟩ := I.cell x c e
  exact free c o (fun z => (hch c z).2.2.1 x c e rfl) ho (I.freeC x c e)
 ·obtain ⟨e, n, ne, nf, d⟩ := I.pin p hp
  have nch : p.1 ∉ ch := fun z => (hch p.1 z).2.2.2 p hp rfl
  exact ⟨keep p.1 p.2 ne nf nch e n, free p.1 p.2 nch e n, ne, nf, d⟩
theorem Inv.un {t' : Nat} (I : Inv X pins σ H s) (u : Un X.fs [] H H' s.heap h') (hok : HOk X.prog X.w H' h') : Inv X pins σ H' { s with heap := h', toks := t' } := by
 obtain ⟨m, ⟨o, es, ep, ho, r⟩, _⟩ := id I.loc
 obtain ⟨sl, hL⟩ := u.any ho I.free (by simp)
 exact I.step (g' := s.gens) (d' := s.drawn) (ch := []) (fun _ z => nomatch z) (fun b o _ hb _ e n => u.keep b o e n hb (by simp)) (fun b o _ hb _ e n => u.slot b o e n hb (by simp)) (fun b o _ e n => u.free b o e n (by simp)) (fun b o _ e => u.there b o e (by simp)) u.tups u.frzs u.tbls (fun m' hm => by
  obtain ⟨o', es', ep', ho', r'⟩ := hm
  rw [ho] at ho'; cases ho'
  exact ⟨_, es', ep', hL, r'⟩) hok I.bare
theorem Inv.call {g' : Array GenState} {t' : Nat} {d' : Drawn} {ch : List Addr} (I : Inv X pins σ H s) (u : Un (frs X.stack) ch H H' s.heap h') (hok : HOk X.prog X.w H' h') (hg : AllBare g')
  (hch : ∀ b ∈ ch, (b ∈ X.ex ∨ X.s₀.heap.objs.size ≤ b) ∧ b ≠ X.env.locals ∧ (∀ x c, X.env.cells.lookup x = some c → c ≠ b) ∧ ∀ p ∈ X.pn ++ pins, p.1 ≠ b) :
  Inv X pins σ H' { s with heap := h', gens := g', drawn := d', toks := t' } := by
 obtain ⟨m, ⟨o, es, ep, ho, r⟩, _⟩ := id I.loc
 obtain ⟨sl, hL⟩ := u.any ho I.free fun z => (hch _ z).2.1 rfl
 exact I.step (ch := ch) hch (fun b o hL hb hc e n => u.keep b o e n (fun z => (List.mem_cons.mp (I.stkSub b z)).elim hL hb) hc) (fun b o _ _ hc e n => u.any e n hc) (fun b o hc e n => u.free b o e n hc) (fun b o hc e => u.there b o e hc) u.tups u.frzs u.tbls (fun m' hm => by
  obtain ⟨o', es', ep', ho', r'⟩ := hm
  rw [ho] at ho'; cases ho'
  exact ⟨_, es', ep', hL, r'⟩) hok hg
theorem Inv.turned {t' : Nat} {it : Addr} (I : Inv X pins σ H s) (k : ∀ b o, b ≠ it → s.heap.get? b = some o → h'.get? b = some o) (hn : H it = none) (hL : it ≠ X.env.locals)
  (h1 : it ∈ X.ex ∨ X.s₀.heap.objs.size ≤ it) (h2 : ∀ x c, X.env.cells.lookup x = some c → c ≠ it) (h3 : ∀ p ∈ X.pn ++ pins, p.1 ≠ it) : Inv X pins σ H { s with heap := h', toks := t' } := by
 have nit : ∀ b u, H b = some u → b ≠ it := fun b u e z => by rw [z, hn] at e; cases e
 refine I.step (g' := s.gens) (d' := s.drawn) (ch := [it]) (fun b hb => ?_) (fun b o _ _ hc e _ => k b o (fun z => hc (by simp [z])) e) (fun b o _ _ hc e _ => ⟨o.slots, k b o (fun z => hc (by simp [z])) e⟩) (fun _ _ _ _ n => n)
  (fun b o hc e => ⟨o, k b o (fun z => hc (by simp [z])) e⟩) (fun _ _ e => e) (fun _ _ _ e => e) (fun b ps e => ⟨#[], by rw [e]; simp⟩) (fun m hm => ?_) (fun b u e => ?_) I.bare
 ·have e : b = it := by simpa using hb
  subst e
  exact ⟨h1, hL, h2, h3⟩
 ·obtain ⟨o, es, ep, ho, r⟩ := hm
  exact ⟨o, es, ep, k _ o (Ne.symm hL) ho, r⟩
 ·refine (I.hok b u e).stay (fun c v hc q => k c v ?_ q) (fun _ q => q) fun _ _ q => q
  rcases hc with z | z
  ·rw [z]; exact nit b u e
  ·exact nit c _ z
theorem Inv.tok (I : Inv X pins σ H s) (t : Nat) : Inv X pins σ H { s with toks := t } := I.un (h' := s.heap) (t' := t) Un.refl I.hok
theorem Inv.kept {t' : Nat} (I : Inv X pins σ H s) (k : ∀ b u, s.heap.get? b = some u → h'.get? b = some u) : Inv X pins σ H { s with heap := h', toks := t' } := I.un (Un.kept k) (I.hok.kept k)
theorem Inv.laid {a : Addr} {o : HO} {t' : Nat} (I : Inv X pins σ H s) (k : ∀ b u, s.heap.get? b = some u → h'.get? b = some u) (hp : s.heap.objs.size ≤ a) (new : ObjOk X.prog X.w (upd H a o) h' a o) :
  Inv X pins σ (upd H a o) { s with heap := h', toks := t' } := I.un (Un.laid k hp (I.hok.fresh hp)) (I.hok.laid k hp new)
theorem Inv.write {x e : Addr} {o : HO} {t' : Nat} (I : Inv X pins σ H s) (mu : Mut (H x)) (he : e = x ∨ H e = some (.own x)) (k : ∀ b u, b ≠ e → s.heap.get? b = some u → h'.get? b = some u) (heo : ∃ u, h'.get? e = some u)
  (new : ObjOk X.prog X.w (upd H x o) h' x o) : Inv X pins σ (upd H x o) { s with heap := h', toks := t' } := I.un (Un.write mu he k heo) (I.hok.write mu he k heo new)
theorem Inv.weak {σ' : List (Option V)} (I : Inv X pins σ H s) (hl : σ'.length = σ.length) (w : ∀ (i : Nat) v, σ'[i]? = some (some v) → σ[i]? = some (some v)) : Inv X pins σ' H s :=
 ⟨I.ok, I.os, I.bare, I.base, let ⟨m, hn, hl'⟩ := I.loc; ⟨m, hn, fun i x v e1 e2 e3 => hl' i x v e1 (w i v e2) e3⟩, I.cell, I.free, I.freeC, I.pin, I.hok, hl.trans I.len⟩
theorem Inv.pins_of {pins' : List (Addr × Obj)} (I : Inv X pins σ H s) (h : ∀ p ∈ pins', s.heap.get? p.1 = some p.2 ∧ H p.1 = none ∧ p.1 ≠ X.env.locals ∧ p.1 ∉ X.fs ∧ ∀ v, p.2.data ≠ .cell v) : Inv X pins' σ H s :=
 ⟨I.ok, I.os, I.bare, I.base, I.loc, I.cell, I.free, I.freeC, fun p hp => (List.mem_append.mp hp).elim (fun z => I.pin p (List.mem_append_left _ z)) (h p), I.hok, I.len⟩
theorem nodup_ix {N : List Str} (hN : N.Nodup) {i j : Nat} {x : Str} (a : N[i]? = some x) (b : N[j]? = some x) : i = j := by
 obtain ⟨h1, e1⟩ := List.getElem?_eq_some_iff.mp a
 obtain ⟨h2, e2⟩ := List.getElem?_eq_some_iff.mp b
 exact (List.getElem_inj hN).mp (e1.trans e2.symm)
theorem store_ok2 {M : Model} {A : Around} {E : Value → Shared → Prop} {i : Nat} {x : Str} {v : V} {u : Value} {Q : Unit → Shared → Prop} (I : Inv X pins σ H s) (hN : X.N.Nodup) (hi : X.N[i]? = some x) (hx : Loc X.env.scope x) (r : RelV v u)
  (h : ∀ s', Inv X pins (σ.set i (some v)) H s' → (∃ a, Heap.SameBut a s.heap s'.heap ∧ (a = X.env.locals ∨ X.env.cells.lookup x = some a)) → Q () s') (hf : X.fn x = true ∨ X.env.scope.names.lookup x = some .local := by first | exact .inl rfl | exact .inr rfl | assumption) : wpAny M A (storeName X.env x u) Q E s := by
 obtain ⟨m, hn, hl⟩ := id I.loc
 have hcls : (X.env.scope.kind == .class || (X.env.scope.kind == .module && X.env.locals != X.env.globals)) = false := by rw [I.ok.kind]; rfl
 have hiσ : i < σ.length := by rw [I.len]; exact (List.getElem?_eq_some_iff.mp hi).1
 have cne := I.cne
 have tracked : ∀ {a : Addr} {h' : Heap}, (∃ o, s.heap.get? a = some o ∧ H a = none) → Heap.SameBut a s.heap h' → HOk X.prog X.w H h' := fun {a h'} ha hs b ob e => by
  obtain ⟨_, _, hfree⟩ := ha
  refine (I.hok b ob e).stay (fun c w' hc q => (hs.2 c ?_).trans q) (fun _ q => q) fun _ _ q => q
  rintro rfl
  rcases hc with rfl | hc
  ·rw [hfree] at e; cases e
  ·rw [hfree] at hc; cases hc
 rcases hx with hk | hk
 ·refine wpAny_storeName_local hk hn (fun h' hn' hs => ?_) hcls
  obtain ⟨oL, _, _, hoL, _⟩ := id hn
  refine h _ ⟨I.ok, I.os, I.bare, ⟨fun b o e n hb hx => ?_, fun b o e n hb hx => ?_, I.base.free, fun b o e hx => ?_, I.base.tups, I.base.frzs, I.base.tbls⟩, ⟨_, hn', fun j y v' e1 e2 e3 => ?_⟩, fun y c e => ?_, I.free, I.freeC, fun p hp => ?_, tracked ⟨oL, hoL, I.free⟩ hs, by simpa using I.len⟩ ⟨_, hs, .inl rfl⟩
  ·exact (hs.2 b (Nat.ne_of_lt (Nat.lt_of_lt_of_le (Heap.lt_size e) I.ok.above))).trans (I.base.keep b o e n hb hx)
  ·obtain ⟨sl, e1⟩ := I.base.slot b o e n hb hx
   exact ⟨sl, (hs.2 b (Nat.ne_of_lt (Nat.lt_of_lt_of_le (Heap.lt_size e) I.ok.above))).trans e1⟩
  ·obtain ⟨o', e1⟩ := I.base.there b o e hx
   exact ⟨o', (hs.2 b (Nat.ne_of_lt (Nat.lt_of_lt_of_le (Heap.lt_size e) I.ok.above))).trans e1⟩
  ·by_cases hj : j = i
   ·subst hj
    rw [hi] at e1; cases e1
    rw [List.getElem?_set_self hiσ] at e2
    cases e2
    exact ⟨u, r, .inl ⟨hk, by simp⟩⟩
   ·rw [List.getElem?_set_ne (Ne.symm hj)] at e2
    obtain ⟨u', r', q⟩ := hl j y v' e1 e2 e3
    refine ⟨u', r', ?_⟩
    rcases q with ⟨k, e⟩ | ⟨k, c, e, z⟩
    ·refine .inl ⟨k, ?_⟩
     have : y ≠ x := fun e => hj (nodup_ix hN e1 (e ▸ hi))
     simp [this, e]
    ·exact .inr ⟨k, c, e, z.sameBut hs (cne y c e)⟩
  ·obtain ⟨w', z⟩ := I.cell y c e
   exact ⟨w', z.sameBut hs (cne y c e)⟩
  ·obtain ⟨e, n, ne, nf, d⟩ := I.pin p hp
   exact ⟨(hs.2 p.1 ne).trans e, n, ne, nf, d⟩
 ·have hfn : X.fn x = true := by
   rcases hf with z | z
   ·exact z
   ·rw [z] at hk; cases hk
  obtain ⟨c, hc⟩ := I.ok.has x (.inl hk)
  obtain ⟨w', z⟩ := I.cell x c hc
  refine wpAny_storeName_cell I.ok.kind hk hc z (fun h' hc' hs => ?_)
  obtain ⟨oc, hoc, hocd⟩ := id z
  refine h { s with heap := h' } ⟨I.ok, I.os, I.bare, ⟨fun b o e n hb hx => ?_, fun b o e n hb hx => ?_, I.base.free, fun b o e hx => ?_, I.base.tups, I.base.frzs, I.base.tbls⟩, ⟨m, hn.sameBut hs (Ne.symm (cne x c hc)), fun j y v' e1 e2 e3 => ?_⟩, fun y c' e => ?_, I.free, I.freeC, fun p hp => ?_, tracked ⟨oc, hoc, I.freeC x c hc⟩ hs, by simpa using I.len⟩ ⟨c, hs, .inr hc⟩
  ·exact (hs.2 b (Nat.ne_of_lt (Nat.lt_of_lt_of_le (Heap.lt_size e) (I.ok.cab x c hfn hc)))).trans (I.base.keep b o e n hb hx)
  ·obtain ⟨sl, e1⟩ := I.base.slot b o e n hb hx
   exact ⟨sl, (hs.2 b (Nat.ne_of_lt (Nat.lt_of_lt_of_le (Heap.lt_size e) (I.ok.cab x c hfn hc)))).trans e1⟩
  ·obtain ⟨o', e1⟩ := I.base.there b o e hx
   exact ⟨o', (hs.2 b (Nat.ne_of_lt (Nat.lt_of_lt_of_le (Heap.lt_size e) (I.ok.cab x c hfn hc)))).trans e1⟩
  ·by_cases hj : j = i
   ·subst hj
    rw [hi] at e1; cases e1
    rw [List.getElem?_set_self hiσ] at e2
    cases e2
    exact ⟨u, r, .inr ⟨.inl hk, c, hc, hc'⟩⟩
   ·rw [List.getElem?_set_ne (Ne.symm hj)] at e2
    obtain ⟨u', r', q⟩ := hl j y v' e1 e2 e3
    refine ⟨u', r', ?_⟩
    rcases q with q | ⟨k, c', e, z'⟩
    ·exact .inl q
    ·refine .inr ⟨k, c', e, z'.sameBut hs ?_⟩
     rintro rfl
     exact hj (nodup_ix hN e1 (I.ok.inj _ _ _ e hc ▸ hi))
  ·by_cases hcc : c' = c
   ·subst hcc; exact ⟨_, hc'⟩
   ·obtain ⟨w2, z2⟩ := I.cell y c' e
    exact ⟨w2, z2.sameBut hs hcc⟩
  ·obtain ⟨e, n, ne, nf, d⟩ := I.pin p hp
   refine ⟨(hs.2 p.1 ?_).trans e, n, ne, nf, d⟩
   intro q
   rw [q, hoc] at e
   have q' : oc = p.2 := Option.some.inj e
   exact d w' (by rw [← q']; exact hocd)
theorem store_ok {M : Model} {A : Around} {E : Value → Shared → Prop} {i : Nat} {x : Str} {v : V} {u : Value} {Q : Unit → Shared → Prop} (I : Inv X pins σ H s) (hN : X.N.Nodup) (hi : X.N[i]? = some x) (hx : Loc X.env.scope x) (r : RelV v u)
  (h : ∀ s', Inv X pins (σ.set i (some v)) H s' → Q () s') (hf : X.fn x = true ∨ X.env.scope.names.lookup x = some .local := by first | exact .inl rfl | exact .inr rfl | assumption) : wpAny M A (storeName X.env x u) Q E s :=
 store_ok2 I hN hi hx r (fun s' I' _ => h s' I') hf
theorem Inv.call' {s' : Shared} {ch : List Addr} (I : Inv X pins σ H s) (ho : s'.os = s.os) (u : Un (frs X.stack) ch H H' s.heap s'.heap) (hok : HOk X.prog X.w H' s'.heap) (hg : AllBare s'.gens)
  (hch : ∀ b ∈ ch, (b ∈ X.ex ∨ X.s₀.heap.objs.size ≤ b) ∧ b ≠ X.env.locals ∧ (∀ x c, X.env.cells.lookup x = some c → c ≠ b) ∧ ∀ p ∈ X.pn ++ pins, p.1 ≠ b) : Inv X pins σ H' s' := by
 obtain ⟨h', g', d', t', o'⟩ := s'
 have e : o' = s.os := ho
 subst e
 exact I.call (g' := g') (t' := t') (d' := d') u hok hg hch
end
abbrev XK := Value → Option Addr → Hp → Prop
abbrev St := List (Option V)
abbrev VK := V → Hp → Prop
abbrev TE := St → Hp → VK → Prop
abbrev TT := St → Hp → (Bool → Hp → Prop) → Prop
abbrev TA := St → Hp → (List V → Hp → Prop) → Prop
structure Ends where
 nx : St → Hp → Prop
 rt : VK
 bk : St → Hp → Prop := fun _ _ => False
 ct : St → Hp → Prop := fun _ _ => False
abbrev TS := Ends → St → Hp → Prop
def EP (X : Cx) (pins : List (Addr × Obj)) (σ : St) (Q : VK) (u : Value) (s' : Shared) : Prop := ∃ v H', Inv X pins σ H' s' ∧ RelV v u ∧ Q v H'
def TP (X : Cx) (pins : List (Addr × Obj)) (σ : St) (Q : Bool → Hp → Prop) (b : Bool) (s' : Shared) : Prop := ∃ H', Inv X pins σ H' s' ∧ Q b H'
def AP (X : Cx) (pins : List (Addr × Obj)) (σ : St) (Q : List V → Hp → Prop) (us : List Value) (s' : Shared) : Prop := ∃ vs H', Inv X pins σ H' s' ∧ Vals vs us ∧ Q vs H'
def SP (X : Cx) (pins : List (Addr × Obj)) (D : Ends) (f : Flow) (s' : Shared) : Prop :=
 match f with
 | .next => ∃ σ' H', Inv X pins σ' H' s' ∧ D.nx σ' H'
 | .brk => ∃ σ' H', Inv X pins σ' H' s' ∧ D.bk σ' H'
 | .cont => ∃ σ' H', Inv X pins σ' H' s' ∧ D.ct σ' H'
 | .ret u => ∃ v σ' H', Inv X pins σ' H' s' ∧ RelV v u ∧ D.rt v H'
def PE (X : Cx) (e : Expr) (t : TE) : Prop :=
 ∀ (pins : List (Addr × Obj)) (s : Shared) (σ : St) (H : Hp) (Q : VK), Inv X pins σ H s → t σ H Q → wpAny (model X.prog X.w) X.A (eval e X.env) (EP X pins σ Q) X.xe s
def PT (X : Cx) (e : Expr) (t : TT) : Prop :=
 ∀ (pins : List (Addr × Obj)) (s : Shared) (σ : St) (H : Hp) (Q : Bool → Hp → Prop), Inv X pins σ H s → t σ H Q → wpAny (model X.prog X.w) X.A (isTrue e X.env (eval e X.env)) (TP X pins σ Q) X.xe s
def PW (X : Cx) (e : Expr) (t : TT) : Prop :=
 ∀ (whole : Sem Value) (pins : List (Addr × Obj)) (s : Shared) (σ : St) (H : Hp) (Q : Bool → Hp → Prop), Inv X pins σ H s → t σ H Q → wpAny (model X.prog X.w) X.A (isTrue e X.env whole) (TP X pins σ Q) X.xe s
def PA (X : Cx) (es : List Expr) (t : TA) : Prop :=
 ∀ (pos : Pos) (pins : List (Addr × Obj)) (s : Shared) (σ : St) (H : Hp) (Q : List V → Hp → Prop), Inv X pins σ H s → t σ H Q → wpAny (model X.prog X.w) X.A (spliced (backTo pos (starEach es X.env))) (AP X pins σ Q) X.xe s
def PS (X : Cx) (st : Stmt) (t : TS) : Prop :=
 ∀ (pins : List (Addr × Obj)) (s : Shared) (σ : St) (H : Hp) (D : Ends), Inv X pins σ H s → t D σ H → wpAny (model X.prog X.w) X.A (exec st X.env) (SP X pins D) X.xe s
def PSs (X : Cx) (st : List Stmt) (t : TS) : Prop :=
 ∀ (pins : List (Addr × Obj)) (s : Shared) (σ : St) (H : Hp) (D : Ends), Inv X pins σ H s → t D σ H → wpAny (model X.prog X.w) X.A (execs st X.env) (SP X pins D) X.xe s
theorem thn {α : Type} {t : Sem α} {Q Q' : α → Shared → Prop} {M : Model} {A : Around} {E : Value → Shared → Prop} {s : Shared} (h : wpAny M A t Q E s) (hQ : ∀ a s, Q a s → Q' a s) : wpAny M A t Q' E s := wpAny_mono h hQ fun _ _ x => x
section
variable {X : Cx}
def tVar (i : Nat) : TE := fun σ H Q => ∃ v, σ[i]? = some (some v) ∧ Q v H
def tC (v : V) : TE := fun _ H Q => Q v H
theorem pe_var {i : Nat} {x : Str} {pos : Pos} (hN : X.N[i]? = some x) (hv : Vis X.env.scope x) (hd : (x == ("__debug__" : Str)) = false := by decide) (hcd : (x == ("__classdict__" : Str)) = false := by decide) : PE X (.Name x pos) (tVar i) := by
 intro pins s σ H Q I h
 obtain ⟨v, e, h⟩ := h
 obtain ⟨m, hn, hl⟩ := I.loc
 obtain ⟨u, r, l⟩ := hl i x v hN e hv
 have fin : EP X pins σ Q u s := ⟨v, H, I, r, h⟩
 rcases l with ⟨hk, hm⟩ | ⟨hk, c, hc, hcell⟩
 ·exact wpAny_Name (wpAny_loadName_local I.ok.kind hk hn hm fin) hd
 ·rcases hk with hk | hk
  ·exact wpAny_Name (wpAny_loadName_cell I.ok.kind hk hc hcell fin) hd
  ·exact wpAny_Name (wpAny_loadName_free I.ok.kind hk hc hcell fin hcd) hd
theorem pe_int {i j pos} : PE X (.Constant (.int i) j pos) (tC (.int i)) := fun _ _ _ H _ I h => wpAny_Constant_int ⟨.int i, H, I.tok _, ⟨_, rfl⟩, h⟩
theorem pe_bl {b j pos} : PE X (.Constant (.bool b) j pos) (tC (.bl b)) := fun _ _ _ H _ I h => Constant_bool ⟨.bl b, H, I, rfl, h⟩
def Gl (X : Cx) (x : Str) : Prop := X.env.kindOf x = some .globalImplicit
theorem ld_glob {E : Value → Shared → Prop} {pins : List (Addr × Obj)} {s : Shared} {σ : St} {H : Hp} {x : Str} {u : Value} {pos : Pos} {Q : Value → Shared → Prop} (I : Inv X pins σ H s) (hg : Gl X x) (hm : X.mg x = some u) (h : Q u s)
  (hd : (x == ("__debug__" : Str)) = false := by decide) : wpAny (model X.prog X.w) X.A (eval (.Name x pos) X.env) Q E s :=
 Calls.Name_function_global I.ok.kind hg (Calls.loadGlobal_global (by rw [I.ok.glob]; exact I.mod.glob.keeps I.bk) hm h) hd
theorem ld_blt {E : Value → Shared → Prop} {pins : List (Addr × Obj)} {s : Shared} {σ : St} {H : Hp} {x : Str} {u : Value} {pos : Pos} {Q : Value → Shared → Prop} (I : Inv X pins σ H s) (hg : Gl X x) (hm : X.mg x = none) (hv : bootBuiltins x = some u) (h : Q u s)
  (hn : x ≠ "__name__" := by decide) (hd : (x == ("__debug__" : Str)) = false := by decide) : wpAny (model X.prog X.w) X.A (eval (.Name x pos) X.env) Q E s := by
 obtain ⟨mb, h1, h2⟩ := I.mod.blt
 exact Calls.Name_function_global I.ok.kind hg (Calls.loadGlobal_builtin (by rw [I.ok.glob]; exact I.mod.glob.keeps I.bk) hm (by rw [I.ok.blt]; exact h1.keeps I.bk) ((h2 x hn).trans hv) h) hd
theorem pe_bltn {x : Str} {v : V} {u : Value} {pos : Pos} (hg : Gl X x) (hm : X.mg x = none) (hv : bootBuiltins x = some u) (r : RelV v u) (hn : x ≠ "__name__" := by decide) (hd : (x == ("__debug__" : Str)) = false := by decide) : PE X (.Name x pos) (tC v) :=
 fun _ _ _ H _ I h => ld_blt I hg hm hv ⟨v, H, I, r, h⟩ hn hd
variable {a b : Expr} {ta tb : TE} {pos : Pos}
def tB (t : TE) : TT := fun σ H Q => t σ H fun x H1 => ∃ c, x = .bl c ∧ Q c H1
theorem pt_val {e : Expr} {t : TE} (h : PE X e t) (he : ∀ whole, isTrue e X.env whole = (do let v ← whole; standAt e.pos; holding [v] (truthy v)) := by intro _; rfl) : PT X e (tB t) := by
 intro pins s σ H Q I hw
 refine isTrue_plain (thn (h pins s σ H _ I hw) fun v s1 ⟨x, H1, I1, r1, q1⟩ => ?_) (he _)
 obtain ⟨d, rfl, q⟩ := q1
 cases r1
 exact wpAny_truthy_bool ⟨H1, I1, q⟩
variable {tA tB' : TT} {rest : List Expr}
def tAnd (t u : TT) : TT := fun σ H Q => t σ H fun c H1 => if c = true then u σ H1 Q else Q false H1
def tOr (t u : TT) : TT := fun σ H Q => t σ H fun c H1 => if c = true then Q true H1 else u σ H1 Q
def tNot (t : TT) : TT := fun σ H Q => t σ H fun c H1 => Q (!c) H1
theorem pw_and1 (ha : PT X a tA) : PW X (.BoolOp .And [a] pos) tA := by
 intro wh pins s σ H Q I h
 refine isTrue_and (thn (ha pins s σ H Q I h) fun c s1 e => ?_)
 cases c with
 | true => exact isTrue_and_nil e
 | false => exact e
theorem pw_or1 (ha : PT X a tA) : PW X (.BoolOp .Or [a] pos) tA := by
 intro wh pins s σ H Q I h
 refine isTrue_or (thn (ha pins s σ H Q I h) fun c s1 e => ?_)
 cases c with
 | false => exact isTrue_or_nil e
 | true => exact e
theorem pw_and (ha : PT X a tA) (hb : PW X (.BoolOp .And (b :: rest) pos) tB') : PW X (.BoolOp .And (a :: b :: rest) pos) (tAnd tA tB') := by
 intro wh pins s σ H Q I h
 refine isTrue_and (thn (ha pins s σ H _ I h) fun c s1 ⟨H1, I1, q1⟩ => ?_)
 cases c with
 | true => exact hb wh pins s1 σ H1 Q I1 q1
 | false => exact ⟨H1, I1, q1⟩
theorem pw_or (ha : PT X a tA) (hb : PW X (.BoolOp .Or (b :: rest) pos) tB') : PW X (.BoolOp .Or (a :: b :: rest) pos) (tOr tA tB') := by
 intro wh pins s σ H Q I h
 refine isTrue_or (thn (ha pins s σ H _ I h) fun c s1 ⟨H1, I1, q1⟩ => ?_)
 cases c with
 | true => exact ⟨H1, I1, q1⟩
 | false => exact hb wh pins s1 σ H1 Q I1 q1
theorem pt_not (ha : PT X a tA) : PT X (.UnaryOp .Not a pos) (tNot tA) := by
 intro pins s σ H Q I h
 exact isTrue_not (ha pins s σ H (fun c H1 => Q (!c) H1) I h)
def tAndV (ta tb : TE) : TE := fun σ H Q => ta σ H fun x H1 => ∃ c, x = .bl c ∧ if c = true then tb σ H1 Q else Q (.bl false) H1
def tNotV (ta : TE) : TE := fun σ H Q => ta σ H fun x H1 => ∃ c, x = .bl c ∧ Q (.bl (!c)) H1
theorem pe_one {op} {t : TE} (h : PE X a t) : PE X (.BoolOp op [a] pos) t := fun pins s σ H Q I hw => BoolOp_one (h pins s σ H Q I hw)
theorem pe_and (ha : PE X a ta) (hb : PE X (.BoolOp .And (b :: rest) pos) tb) : PE X (.BoolOp .And (a :: b :: rest) pos) (tAndV ta tb) := by
 intro pins s σ H Q I h
 refine BoolOp_and (thn (ha pins s σ H _ I h) fun v s1 ⟨x, H1, I1, r1, q1⟩ => ?_)
 obtain ⟨c, rfl, q1⟩ := q1
 cases r1
 refine wpAny_truthy_bool ?_
 cases c with
 | true => exact hb pins s1 σ H1 Q I1 q1
 | false => exact ⟨.bl false, H1, I1, rfl, q1⟩
theorem pe_not (ha : PE X a ta) : PE X (.UnaryOp .Not a pos) (tNotV ta) := by
 intro pins s σ H Q I h
 refine UnaryOp_ (thn (ha pins s σ H _ I h) fun v s1 ⟨x, H1, I1, r1, q1⟩ => ?_)
 obtain ⟨c, rfl, q1⟩ := q1
 cases r1
 exact not_of (wpAny_truthy_bool ⟨.bl (!c), H1, I1, rfl, q1⟩)
end
def SqL (K : PySem.W.Frag) (H : Hp) (a : Addr) (xs : List V) : Prop :=
 Rd H a (.lst xs) ∨
  ∃ (o : Obj) (its : Array Value) (n : Nat), K.lookup a = some o ∧ o.cls = .type "list" ∧ o.dict = none ∧ o.data = .seq its n ∧ its.size ≤ sizeLine ∧ Vals xs its.toList
def SqT (K : PySem.W.Frag) (H : Hp) (a : Addr) (xs : List V) : Prop :=
 Rd H a (.tup xs) ∨
  ∃ (o : Obj) (its : Array Value) (n : Nat), K.lookup a = some o ∧ o.cls = .type "tuple" ∧ o.data = .seq its n ∧ its.size ≤ sizeLine ∧ Vals xs its.toList
def absV : Value → Option V
 | .none => some .non
 | .bool b => some (.bl b)
 | .int i _ => some (.int i)
 | .str x _ => some (.str x)
 | .bytes b _ => some (.byt b)
 | .float b _ => some (.flt b)
 | .ref a => some (.ref a)
 | .type n => some (.ty n)
 | _ => none
theorem RelV.abs {x : V} {u : Value} (r : RelV x u) : absV u = some x := by
 cases x with
 | non => cases r; rfl
 | bl _ => cases r; rfl
 | int _ => obtain ⟨t, rfl⟩ := r; rfl
 | str _ => obtain ⟨t, rfl⟩ := r; rfl
 | byt _ => obtain ⟨t, rfl⟩ := r; rfl
 | flt _ => obtain ⟨t, rfl⟩ := r; rfl
 | ref _ => cases r; rfl
 | ty _ => cases r; rfl
theorem RelV.inj {x y : V} {u : Value} (r : RelV x u) (q : RelV y u) : x = y := Option.some.inj (r.abs.symm.trans q.abs)
theorem Vals.inj : ∀ {xs ys : List V} {us : List Value}, Vals xs us → Vals ys us → xs = ys
 | _, _, _, .nil, .nil => rfl
 | _, _, _, .cons r t, .cons r' t' => by rw [r.inj r', Vals.inj t t']
section
variable {X : Cx} {pins : List (Addr × Obj)} {σ : St} {H : Hp} {s : Shared} {a : Addr} {xs ys : List V}
theorem SqL.of {K : PySem.W.Frag} (h : H a = some (.lst xs)) : SqL K H a xs := .inl (.inl h)
theorem SqT.of {K : PySem.W.Frag} (h : H a = some (.tup xs)) : SqT K H a xs := .inl (.inl h)
theorem Inv.list (I : Inv X pins σ H s) (h : SqL X.K H a xs) : ∃ its : List Value, Vals xs its ∧ PlainL s.heap a its.toArray ∧ xs.length ≤ sizeLine := by
 rcases h with h | ⟨o, its, n, hk, hc, hd, hs, hz, r⟩
 ·obtain ⟨z, its, n, r, e⟩ := h.ok I.hok
  exact ⟨its, r, ⟨_, n, e, rfl, rfl, rfl⟩, z⟩
 ·refine ⟨its.toList, r, ⟨o, n, I.kIn a o hk, hc, hd, by simpa using hs⟩, ?_⟩
  have e := r.length
  simp only [Array.length_toList] at e
  omega
theorem Inv.tuple (I : Inv X pins σ H s) (h : SqT X.K H a xs) : ∃ its : List Value, Vals xs its ∧ IsTup s.heap a its.toArray ∧ xs.length ≤ sizeLine := by
 rcases h with h | ⟨o, its, n, hk, hc, hs, hz, r⟩
 ·obtain ⟨z, its, r, p⟩ := h.ok I.hok
  exact ⟨its, r, p, z⟩
 ·refine ⟨its.toList, r, ⟨o, I.kIn a o hk, hc, n, by simpa using hs⟩, ?_⟩
  have e := r.length
  simp only [Array.length_toList] at e
  omega
theorem Inv.list_inj (I : Inv X pins σ H s) (h : SqL X.K H a xs) (h' : SqL X.K H a ys) : xs = ys := by
 obtain ⟨its, r, ⟨o, n, e, _, _, d⟩, _⟩ := I.list h
 obtain ⟨its', r', ⟨o', n', e', _, _, d'⟩, _⟩ := I.list h'
 rw [e] at e'; cases e'
 rw [d] at d'
 injection d' with d1 _
 have : its = its' := by simpa using congrArg Array.toList d1
 subst this
 exact r.inj r'
end
section
variable {X : Cx} {pins : List (Addr × Obj)} {σ : St} {H : Hp} {s : Shared} {E : Value → Shared → Prop}
end
section
variable {X : Cx} {st : Stmt} {rest : List Stmt} {t u : TS} {e : Expr} {te : TE} {pos : Pos}
def tNext : TS := fun D σ H => D.nx σ H
def tSeq (t u : TS) : TS := fun D σ H => t { D with nx := u D } σ H
theorem pss_nil : PSs X [] tNext := fun _ _ σ H _ I h => wpAny_execs_nil ⟨σ, H, I, h⟩
theorem pss_cons (h1 : PS X st t) (h2 : PSs X rest u) : PSs X (st :: rest) (tSeq t u) := by
 intro pins s σ H D I h
 refine wpAny_execs_cons (thn (h1 pins s σ H { D with nx := u D } I h) fun f s1 q => ?_)
 cases f with
 | next =>
  obtain ⟨σ', H', I', q⟩ := q
  exact h2 pins s1 σ' H' D I' q
 | ret v => exact q
 | brk => exact q
 | cont => exact q
theorem pss_one (h1 : PS X st t) : PSs X [st] t := by
 intro pins s σ H D I h
 refine wpAny_execs_cons (thn (h1 pins s σ H D I h) fun f s1 q => ?_)
 cases f with
 | next => exact wpAny_execs_nil q
 | ret v => exact q
 | brk => exact q
 | cont => exact q
theorem Inv.quiet {pins : List (Addr × Obj)} {σ : St} {H : Hp} {s : Shared} (I : Inv X pins σ H s) : interactive X.env = false := by simp [interactive, I.ok.kind]
def tDrop (te : TE) : TS := fun D σ H => te σ H fun _ H1 => D.nx σ H1
theorem ps_expr (he : PE X e te) (hs : swapsWith e none pos.line X.env = pure false := by rfl) : PS X (.Expr e pos) (tDrop te) := by
 intro pins s σ H D I h
 exact wpAny_Expr_any (thn (he pins s σ H _ I h) fun v s1 ⟨x, H1, I1, r1, q1⟩ => ⟨σ, H1, I1, q1⟩) I.quiet hs
def tRet (te : TE) : TS := fun D σ H => te σ H D.rt
theorem ps_ret (he : PE X e te) : PS X (.Return (some e) pos) (tRet te) := by
 intro pins s σ H D I h
 exact wpAny_Return_some (thn (he pins s σ H _ I h) fun v s1 ⟨x, H1, I1, r1, q1⟩ => ⟨x, σ, H1, I1, r1, q1⟩)
def tIfS (c : TT) (t u : TS) : TS := fun D σ H => c σ H fun b H1 => if b = true then t D σ H1 else u D σ H1
theorem ps_if {c : Expr} {a b : List Stmt} {tc : TT} (hc : PT X c tc) (ha : PSs X a t) (hb : PSs X b u) : PS X (.If c a b pos) (tIfS tc t u) := by
 intro pins s σ H D I h
 refine wpAny_If (thn (hc pins s σ H _ I h) fun d s1 ⟨H1, I1, q1⟩ => ?_)
 cases d with
 | true => exact ha pins s1 σ H1 D I1 q1
 | false => exact hb pins s1 σ H1 D I1 q1
end
abbrev TG := V → St → Hp → (St → Hp → Prop) → Prop
def PG (X : Cx) (target : Expr) (t : TG) : Prop :=
 ∀ (pins : List (Addr × Obj)) (s : Shared) (σ : St) (H : Hp) (v : V) (u : Value) (Q : St → Hp → Prop), Inv X pins σ H s → RelV v u → t v σ H Q →
  wpAny (model X.prog X.w) X.A (assign target X.env u) (fun _ s' => ∃ σ' H', Inv X pins σ' H' s' ∧ Q σ' H') X.xe s
section
variable {X : Cx} {pos : Pos}
def gName (i : Nat) : TG := fun v σ H Q => Q (σ.set i (some v)) H
theorem pg_name {i : Nat} {x : Str} (hN : X.N.Nodup) (hi : X.N[i]? = some x) (hx : Loc X.env.scope x) (hf : X.fn x = true ∨ X.env.scope.names.lookup x = some .local := by first | exact .inl rfl | exact .inr rfl | assumption) : PG X (.Name x pos) (gName i) := by
 intro pins s σ H v u Q I r h
 exact wpAny_assign_Name (store_ok I hN hi hx r (fun s' I' => ⟨_, H, I', h⟩) hf)
def tAsg (te : TE) (g : TG) : TS := fun D σ H => te σ H fun x H1 => g x σ H1 D.nx
theorem ps_set {i : Nat} {x : Str} {e : Expr} {te : TE} {pos' : Pos} (hN : X.N.Nodup) (hi : X.N[i]? = some x) (hx : Loc X.env.scope x) (he : PE X e te) (hs : swapsWith e (some (.Name x pos')) pos.line X.env = pure false := by rfl) (hf : X.fn x = true ∨ X.env.scope.names.lookup x = some .local := by first | exact .inl rfl | exact .inr rfl | assumption) :
  PS X (.Assign [.Name x pos'] e pos) (tAsg te (gName i)) := by
 intro pins s σ H D I h
 refine wpAny_Assign_Name (thn (he pins s σ H _ I h) fun v s1 ⟨y, H1, I1, r1, q1⟩ => ?_) hs
 exact store_ok I1 hN hi hx r1 (fun s2 I2 => ⟨_, H1, I2, q1⟩) hf
end
section
variable {X : Cx} {pos : Pos}
def tWhile (c : TT) (tb : TS) : TS := fun D σ H => ∃ W : Nat → St → Hp → Prop, (∃ m, W m σ H) ∧ ∀ m σ H, W m σ H →
 c σ H fun b H1 => if b = true then ∃ N : St → Hp → Prop, (∀ σ' H', N σ' H' → ∃ m', m' < m ∧ W m' σ' H') ∧ tb { D with nx := N, ct := N, bk := D.nx } σ H1 else D.nx σ H1
theorem ps_while {c : Expr} {body : List Stmt} {tc : TT} {tb : TS} (hp : PassesOwn (model X.prog X.w) X.A X.env X.xe) (hc : PT X c tc) (hb : PSs X body tb) : PS X (.While c body [] pos) (tWhile tc tb) := by
 intro pins s σ H D I h
 obtain ⟨W, ⟨m0, w0⟩, turn⟩ := h
 refine wpAny_While (codeAny_whileLoop (fun n s' => ∃ σ' H', Inv X pins σ' H' s' ∧ W n σ' H') ?_ m0 ⟨σ, H, I, w0⟩)
 rintro n s1 ⟨σ1, H1, I1, w1⟩
 refine wpAny_passesOwn hp (thn (hc pins s1 σ1 H1 _ I1 (turn n σ1 H1 w1)) fun b s2 ⟨H2, I2, q2⟩ => ?_)
 cases b with
 | true =>
  obtain ⟨N, hN, q2⟩ := q2
  rw [if_pos rfl]
  refine wpAny_passesOwn hp (thn (hb pins s2 σ1 H2 _ I2 q2) fun f s3 q3 => ?_)
  cases f with
  | next =>
   obtain ⟨σ3, H3, I3, n3⟩ := q3
   obtain ⟨m', hm, w3⟩ := hN σ3 H3 n3
   exact ⟨m', hm, σ3, H3, I3, w3⟩
  | cont =>
   obtain ⟨σ3, H3, I3, n3⟩ := q3
   obtain ⟨m', hm, w3⟩ := hN σ3 H3 n3
   exact ⟨m', hm, σ3, H3, I3, w3⟩
  | brk => exact q3
  | ret v => exact q3
 | false =>
  rw [if_neg Bool.false_ne_true]
  exact wpAny_execs_nil ⟨σ1, H2, I2, q2⟩
end
structure It where
 go : Nat → Hp → Prop
 yld : Nat → Hp → V → Hp → Prop
 stop : Nat → Hp → Prop
def FpOk (X : Cx) (pins : List (Addr × Obj)) (H : Hp) (b : Addr) : Prop :=
 H b = none ∧ b ≠ X.env.locals ∧ b ∉ X.fs ∧ (b ∈ X.ex ∨ X.s₀.heap.objs.size ≤ b) ∧ (∀ x c, X.env.cells.lookup x = some c → c ≠ b) ∧ ∀ p ∈ X.pn ++ pins, p.1 ≠ b
theorem Inv.fpOk {X : Cx} {pins : List (Addr × Obj)} {σ : St} {H H' : Hp} {s : Shared} {b : Addr} (I : Inv X pins σ H s) (hb : s.heap.objs.size ≤ b) (hn : H' b = none) : FpOk X pins H' b := by
 refine ⟨hn, Nat.ne_of_gt (Nat.lt_of_lt_of_le I.lt hb), I.nofs hb, .inr (Nat.le_trans I.sz hb), fun x c e z => ?_, fun p hp z => ?_⟩
 ·obtain ⟨v, q⟩ := I.cell x c e
  exact absurd (Nat.lt_of_lt_of_le q.lt (by rw [z]; exact hb)) (Nat.lt_irrefl _)
 ·exact absurd (Nat.lt_of_lt_of_le (Heap.lt_size (I.pin p hp).1) (by rw [z]; exact hb)) (Nat.lt_irrefl _)
structure Turn (P : Program) (w : World) (K : PySem.W.Frag) (tg : Expr) (J : It) (fp : List Addr) (it : Addr) (tn : Nat → Heap → Prop) : Prop where
 mem : it ∈ fp
 obj : ∀ i h, tn i h → ∀ b ∈ fp, ∃ o, h.get? b = some o ∧ ∀ v, o.data ≠ .cell v
 keep : ∀ i h h', tn i h → (∀ b ∈ fp, ∀ o, h.get? b = some o → h'.get? b = some o) → tn i h'
 item : ∀ (X : Cx), X.prog = P → X.w = w → X.K = K → X.calm = true → ∀ (i : Nat) (pins : List (Addr × Obj)) (s : Shared) (σ : St) (H : Hp) (E : Value → Shared → Prop), Inv X pins σ H s → (∀ b ∈ fp, FpOk X pins H b) → tn i s.heap → J.go i H →
  wpAny (model P w) X.A (pyNext (.ref it)) (fun r s1 => ∃ u, r = some u ∧
   wpAny (model P w) X.A (letOwnedTupleGo tg (.ref it) u) (fun _ s2 => ∃ x H', Inv X pins σ H' s2 ∧ RelV x u ∧ J.yld i H x H' ∧ tn (i + 1) s2.heap ∧ ∀ b ∈ fp, H' b = none) E s1) E s
 done : ∀ (X : Cx), X.prog = P → X.w = w → X.K = K → X.calm = true → ∀ (i : Nat) (pins : List (Addr × Obj)) (s : Shared) (σ : St) (H : Hp) (E : Value → Shared → Prop), Inv X pins σ H s → (∀ b ∈ fp, FpOk X pins H b) → tn i s.heap → J.stop i H →
  wpAny (model P w) X.A (pyNext (.ref it)) (fun r s1 => r = none ∧ Inv X pins σ H s1) E s
 self : ∀ (A : Around) (i : Nat) (s : Shared) (Q : Value → Shared → Prop) (E : Value → Shared → Prop), tn i s.heap → Q (.ref it) s → wpAny (model P w) A (pyIter (.ref it)) Q E s
abbrev TI := St → Hp → (It → Hp → Prop) → Prop
def PIE (X : Cx) (pins : List (Addr × Obj)) (σ : St) (tg : Expr) (R : It → Hp → Prop) (itv : Value) (s2 : Shared) : Prop :=
 ∃ (it : Addr) (fp : List Addr) (tn : Nat → Heap → Prop) (J : It) (H' : Hp), itv = .ref it ∧ Inv X pins σ H' s2 ∧ Turn X.prog X.w X.K tg J fp it tn ∧ tn 0 s2.heap ∧ (∀ b ∈ fp, FpOk X pins H' b) ∧ R J H'
def PI (X : Cx) (tg iter : Expr) (wi : TI) : Prop :=
 ∀ (pins : List (Addr × Obj)) (s : Shared) (σ : St) (H : Hp) (R : It → Hp → Prop), Inv X pins σ H s → wi σ H R →
  wpAny (model X.prog X.w) X.A (eval iter X.env) (fun v s1 => wpAny (model X.prog X.w) X.A (pyIter v) (PIE X pins σ tg R) X.xe s1) X.xe s
theorem go_of {M : Model} {A : Around} {E : Value → Shared → Prop} {s : Shared} {tg : Expr} {it : Addr} {u : Value} {o : Obj} {n : String} {vs : Array Value} {Q : Unit → Shared → Prop} (ho : s.heap.get? it = some o) (hc : o.cls = .type n) (hd : o.data = .fields vs)
  (hn : ["enumerate", "zip", "dict_itemiterator", "dict_reverseitemiterator", "odict_iterator", "itertools.zip_longest", "itertools.pairwise"].contains n = false) (hQ : Q () s) : wpAny M A (letOwnedTupleGo tg (.ref it) u) Q E s := by
 unfold letOwnedTupleGo
 cases tg <;> first
  | exact wpAny_pure hQ
  | (cases u <;> first
    | exact wpAny_pure hQ
    | (refine wpAny_bind (wpAny_load ho ?_)
       rw [hc, hd]
       show wpAny M A (if (["enumerate", "zip", "dict_itemiterator", "dict_reverseitemiterator", "odict_iterator", "itertools.zip_longest", "itertools.pairwise"].contains n && vs[0]? == some (rawInt _)) = true then _ else _) Q E s
       rw [if_neg (by intro h; rw [hn, Bool.false_and] at h; cases h)]
       exact wpAny_pure hQ))
def Itl (K : PySem.W.Frag) (a : Addr) : It :=
 ⟨fun i H => ∃ xs x, SqL K H a xs ∧ xs[i]? = some x, fun i H x H' => H' = H ∧ ∀ xs, SqL K H a xs → xs[i]? = some x, fun i H => ∃ xs, SqL K H a xs ∧ xs.length ≤ i⟩
def Itr (lo : Int) (n : Nat) : It := ⟨fun i _ => i < n, fun i H x H' => H' = H ∧ x = .int (lo + i), fun i _ => n ≤ i⟩
theorem turn_list {P : Program} {w : World} {K : PySem.W.Frag} {tg : Expr} (a it : Addr) : Turn P w K tg (Itl K a) [it] it (fun i h => h.IsListIter it a i) where
 mem := by simp
 obj := fun i h st b hb => by
  have e : b = it := by simpa using hb
  subst e
  obtain ⟨o, e, c, d⟩ := st
  exact ⟨o, e, fun v z => by rw [d] at z; cases z⟩
 keep := fun i h h' st k => st.at fun o e => k it (by simp) o e
 item := by
  intro X hP hw hK hc i pins s σ H E I hf st hg
  subst hP hw hK
  obtain ⟨xs, x, hq, hx⟩ := hg
  obtain ⟨its, rv, p, hz⟩ := I.list hq
  obtain ⟨u, hu, ru⟩ := rv.get hx
  obtain ⟨f0, f1, f2, f3, f4, f5⟩ := hf it (by simp)
  refine wpAny_pyNext_list_item st p.isList (x := u) (by simpa using hu) fun h' st' sb => ?_
  have I1 : Inv X pins σ H { s with heap := h' } := I.turned (t' := s.toks) (fun b o hb e => (sb.2 b hb).trans e) f0 f1 f3 f4 f5
  obtain ⟨o, e, c, d⟩ := id st'
  exact ⟨u, rfl, go_of (s := { s with heap := h' }) e c d (by decide) ⟨x, H, I1, ru, ⟨rfl, fun ys hy => by rw [I.list_inj hy hq]; exact hx⟩, st', fun b hb => (hf b hb).1⟩⟩
 done := by
  intro X hP hw hK hc i pins s σ H E I hf st hg
  subst hP hw hK
  obtain ⟨xs, hq, hx⟩ := hg
  obtain ⟨its, rv, p, hz⟩ := I.list hq
  obtain ⟨f0, f1, f2, f3, f4, f5⟩ := hf it (by simp)
  have hl := rv.length
  exact wpAny_pyNext_list_end (I.ok.hd hc) st p.isList (by simp; omega) fun h' eb => ⟨rfl, I.turned (t' := s.toks) (fun b o hb e => eb b o hb e) f0 f1 f3 f4 f5⟩
 self := fun _ _ _ _ _ st h => wpAny_pyIter_listiter st h
theorem turn_range {P : Program} {w : World} {K : PySem.W.Frag} {tg : Expr} (it : Addr) (lo : Int) (n : Nat) : Turn P w K tg (Itr lo n) [it] it (fun i h => IsRangeIter h it (lo + (i : Nat) * 1) ((n : Int) - (i : Nat)) 1) where
 mem := by simp
 obj := fun i h st b hb => by
  have e : b = it := by simpa using hb
  subst e
  exact ⟨_, st, fun v z => by
   have z' : Data.fields _ = Data.cell v := z
   cases z'⟩
 keep := fun i h h' st k => k it (by simp) _ st
 item := by
  intro X hP hw hK hc i pins s σ H E I hf st hg
  subst hP hw hK
  obtain ⟨f0, f1, f2, f3, f4, f5⟩ := hf it (by simp)
  have W := Walks.range (prog := X.prog) (w := X.w) (I.ok.hd hc) it lo 1 n
  refine W.item i s _ _ hg st fun v h' tk hv st' kk => ?_
  obtain ⟨t, rfl⟩ := hv
  have I1 : Inv X pins σ H { s with heap := h', toks := tk } := I.turned (fun b o hb e => kk b o (by simpa using hb) e) f0 f1 f3 f4 f5
  refine ⟨_, rfl, go_of (s := { s with heap := h', toks := tk }) (n := "range_iterator") st' rfl rfl (by decide) ⟨.int (lo + i), H, I1, ⟨t, ?_⟩, ⟨rfl, rfl⟩, st', fun b hb => (hf b hb).1⟩⟩
  rw [Int.mul_one]
 done := by
  intro X hP hw hK hc i pins s σ H E I hf st hg
  subst hP hw hK
  obtain ⟨f0, f1, f2, f3, f4, f5⟩ := hf it (by simp)
  exact wpAny_pyNext_range_end (I.ok.hd hc) st (by have : n ≤ i := hg; omega) fun h' eb => ⟨rfl, I.turned (t' := s.toks) (fun b o hb e => eb b o hb e) f0 f1 f3 f4 f5⟩
 self := fun _ _ _ _ _ st h => wpAny_pyIter_rangeiter st h
section
variable {X : Cx} {tg : Expr}
def iList (K : PySem.W.Frag) (tl : TE) : TI := fun σ H R => tl σ H fun x H1 => ∃ a, x = .ref a ∧ (∃ xs, SqL K H1 a xs) ∧ R (Itl K a) H1
theorem pi_list {l : Expr} {tl : TE} (hl : PE X l tl) : PI X tg l (iList X.K tl) := by
 intro pins s σ H R I h
 refine thn (hl pins s σ H _ I h) fun v s1 ⟨x, H1, I1, r1, q1⟩ => ?_
 obtain ⟨a, e, ⟨xs, hq⟩, q⟩ := q1
 subst e
 cases r1
 obtain ⟨its, rv, p, hz⟩ := I1.list hq
 refine wpAny_pyIter_list p.isList ?_
 refine ⟨s1.heap.objs.size, [s1.heap.objs.size], _, _, H1, rfl, I1.kept (t' := s1.toks) fun b o e => Heap.get?_push_of_some _ e, turn_list a _, ⟨_, Heap.get?_push_size _ rfl, rfl, rfl⟩, fun b hb => ?_, q⟩
 have e : b = s1.heap.objs.size := by simpa using hb
 subst e
 exact I1.fpOk (Nat.le_refl _) (I1.hok.fresh (Nat.le_refl _))
theorem range_it {pins : List (Addr × Obj)} {σ : St} {H : Hp} {s : Shared} {R : It → Hp → Prop} {E : Value → Shared → Prop} {lo hi : Int} {t u v : Tok} {tk : Nat} (I : Inv X pins σ H s) (h1 : -(2 ^ 62) ≤ lo) (h2 : lo < 2 ^ 62) (h3 : -(2 ^ 62) ≤ hi) (h4 : hi < 2 ^ 62)
  (q : R (Itr lo (hi - lo).toNat) H) : wpAny (model X.prog X.w) X.A (pyIter (.ref s.heap.objs.size)) (PIE X pins σ tg R) E { s with heap := s.heap.push { cls := .type "range", data := .fields #[.int lo t, .int hi u, .int 1 v] }, toks := tk } := by
 refine wpAny_pyIter_range (IsRange.new ..) (small_one h1 h2 h3 h4) ?_
 have I1 : Inv X pins σ H { s with heap := s.heap.push { cls := .type "range", data := .fields #[.int lo t, .int hi u, .int 1 v] }, toks := tk } := I.kept fun b o e => Heap.get?_push_of_some _ e
 refine ⟨(s.heap.push { cls := .type "range", data := .fields #[.int lo t, .int hi u, .int 1 v] }).objs.size, [(s.heap.push { cls := .type "range", data := .fields #[.int lo t, .int hi u, .int 1 v] }).objs.size], _, _, H, rfl,
  I1.kept (t' := tk) fun b o e => Heap.get?_push_of_some _ e, turn_range _ lo (hi - lo).toNat, ?_, fun b hb => ?_, q⟩
 ·have e1 : lo + ((0 : Nat) : Int) * 1 = lo := by simp
  have e2 : (((hi - lo).toNat : Nat) : Int) - ((0 : Nat) : Int) = Builtin.Range.rangeSize lo hi 1 := by rw [rangeSize_one]; split <;> omega
  show IsRangeIter _ _ (lo + ((0 : Nat) : Int) * 1) ((((hi - lo).toNat : Nat) : Int) - ((0 : Nat) : Int)) 1
  rw [e1, e2]
  exact Heap.get?_push_size _ rfl
 ·have e : b = (s.heap.push { cls := .type "range", data := .fields #[.int lo t, .int hi u, .int 1 v] }).objs.size := by simpa using hb
  subst e
  exact I1.fpOk (Nat.le_refl _) (I1.hok.fresh (Nat.le_refl _))
def iRng1 (ta : TA) : TI := fun σ H R => ta σ H fun vs H1 => ∃ j : Int, vs = [.int j] ∧ -(2 ^ 62) ≤ j ∧ j < 2 ^ 62 ∧ R (Itr 0 j.toNat) H1
theorem pi_range1 {a : Expr} {ta : TA} {p pos : Pos} (hg : Gl X "range") (hm : X.mg "range" = none) (ha : PA X [a] ta) (hs : starEach [a] X.env = [(false, eval a X.env)] := by rfl) : PI X tg (.Call (.Name "range" p) [a] [] pos) (iRng1 ta) := by
 intro pins s σ H R I h
 refine Call_ (ld_blt I hg hm boot_range (PyProof.Rows.callWith_type1 (thn (ha pos pins s σ H _ I h) fun us s1 ⟨vs, H1, I1, r1, q1⟩ => ?_) hs rfl))
 obtain ⟨j, e, q1, q2, q⟩ := q1
 subst e
 cases r1 with
 | cons r rr =>
  cases rr
  obtain ⟨t, rfl⟩ := r
  exact call_range_1 (range_it I1 (by omega) (by omega) q1 q2 (by simpa using q))
def tFor (wi : TI) (g : TG) (tb : TS) : TS := fun D σ H => wi σ H fun J H1 => ∃ W : Nat → Nat → St → Hp → Prop, (∃ m, W 0 m σ H1) ∧ ∀ i m σ H, W i m σ H →
 (J.stop i H ∧ D.nx σ H) ∨ (J.go i H ∧ ∃ N : St → Hp → Prop, (∀ σ' H', N σ' H' → ∃ m', m' < m ∧ W (i + 1) m' σ' H') ∧ ∀ x H', J.yld i H x H' → g x σ H' fun σ2 H2 => tb { D with nx := N, ct := N, bk := D.nx } σ2 H2)
def pinsAt (fp : List Addr) (h : Heap) : List (Addr × Obj) := fp.filterMap fun b => (h.get? b).map fun o => (b, o)
theorem mem_pinsAt {fp : List Addr} {h : Heap} {b : Addr} {o : Obj} (hb : b ∈ fp) (e : h.get? b = some o) : (b, o) ∈ pinsAt fp h := List.mem_filterMap.mpr ⟨b, hb, by rw [e]; rfl⟩
theorem of_pinsAt {fp : List Addr} {h : Heap} {p : Addr × Obj} (hp : p ∈ pinsAt fp h) : p.1 ∈ fp ∧ h.get? p.1 = some p.2 := by
 obtain ⟨b, hb, e⟩ := List.mem_filterMap.mp hp
 cases q : h.get? b with
 | none => rw [q] at e; cases e
 | some o =>
  rw [q] at e
  have e' : (b, o) = p := Option.some.inj e
  subst e'
  exact ⟨hb, q⟩
theorem Inv.pinned {pins : List (Addr × Obj)} {σ : St} {H : Hp} {s : Shared} {fp : List Addr} (I : Inv X pins σ H s) (hf : ∀ b ∈ fp, FpOk X pins H b) (ho : ∀ b ∈ fp, ∃ o, s.heap.get? b = some o ∧ ∀ v, o.data ≠ .cell v) : Inv X (pins ++ pinsAt fp s.heap) σ H s :=
 I.pins_of fun p hp => (List.mem_append.mp hp).elim (fun z => I.pin p (List.mem_append_right _ z)) fun z => by
  obtain ⟨hb, e⟩ := of_pinsAt z
  obtain ⟨f0, f1, f2, _⟩ := hf p.1 hb
  obtain ⟨o, e', d⟩ := ho p.1 hb
  rw [e] at e'; cases e'
  exact ⟨e, f0, f1, f2, d⟩
theorem Inv.unpinned {pins pl : List (Addr × Obj)} {σ : St} {H : Hp} {s : Shared} (I : Inv X (pins ++ pl) σ H s) : Inv X pins σ H s := I.pins_of fun p hp => I.pin p (List.mem_append_right _ (List.mem_append_left _ hp))
theorem ps_for {iter : Expr} {body : List Stmt} {wi : TI} {g : TG} {tb : TS} {pos : Pos} (hp : PassesOwn (model X.prog X.w) X.A X.env X.xe) (hc : X.calm = true) (hi : PI X tg iter wi) (hg : PG X tg g) (hb : PSs X body tb)
  (hs : ∀ x, foldedSetIterable iter X.env x = pure x := by intro _; rfl) : PS X (.For tg iter body [] pos) (tFor wi g tb) := by
 intro pins s σ H D I h
 refine wpAny_For (thn (hi pins s σ H _ I h) fun v s1 h1 => thn h1 fun itv s2 h2 => ?_) hs
 obtain ⟨it, fp, tn, J, H2, e, I2, T, st2, f2, W, ⟨m0, w0⟩, turn⟩ := h2
 subst e
 have stat : ∀ {H' : Hp}, (∀ b ∈ fp, H' b = none) → ∀ b ∈ fp, FpOk X pins H' b := fun hn b hb => ⟨hn b hb, (f2 b hb).2⟩
 refine codeAny_forLoop_any (fun n s' => ∃ i σ' H', Inv X pins σ' H' s' ∧ tn i s'.heap ∧ (∀ b ∈ fp, H' b = none) ∧ W i n σ' H') ?_ m0 ⟨0, σ, H2, I2, st2, fun b hb => (f2 b hb).1, w0⟩
 rintro n s3 ⟨i, σ3, H3, I3, st3, fr3, w3⟩
 rcases turn i n σ3 H3 w3 with ⟨stop, qn⟩ | ⟨go, N, hN, step⟩
 ·refine wpAny_passesOwn hp (thn (T.done X rfl rfl rfl hc i pins s3 σ3 H3 X.xe I3 (stat fr3) st3 stop) fun r s4 ⟨hr, I4⟩ => ?_)
  subst hr
  exact wpAny_execs_nil ⟨σ3, H3, I4, qn⟩
 ·refine wpAny_passesOwn hp (thn (T.item X rfl rfl rfl hc i pins s3 σ3 H3 X.xe I3 (stat fr3) st3 go) fun r s4 ⟨u, hr, h4⟩ => ?_)
  subst hr
  refine wpAny_passesOwn hp (thn h4 fun _ s5 ⟨x, H5, I5, r5, y5, st5, fr5⟩ => ?_)
  have I5' := I5.pinned (stat fr5) (T.obj _ _ st5)
  refine wpAny_passesOwn hp (thn (hg _ s5 σ3 H5 x u _ I5' r5 (step x H5 y5)) fun _ s6 ⟨σ6, H6, I6, q6⟩ => ?_)
  refine wpAny_passesOwn hp (thn (hb _ s6 σ6 H6 _ I6 q6) fun f s7 q7 => ?_)
  have again : ∀ {σ7 : St} {H7 : Hp}, Inv X (pins ++ pinsAt fp s5.heap) σ7 H7 s7 → N σ7 H7 → ∃ m, m < n ∧ ∃ i σ' H', Inv X pins σ' H' s7 ∧ tn i s7.heap ∧ (∀ b ∈ fp, H' b = none) ∧ W i m σ' H' := fun {σ7 H7} I7 n7 => by
   obtain ⟨m', hm, w7⟩ := hN σ7 H7 n7
   refine ⟨m', hm, i + 1, σ7, H7, I7.unpinned, T.keep _ _ _ st5 fun b hb o e => (I7.pin (b, o) (List.mem_append_right _ (List.mem_append_right _ (mem_pinsAt hb e)))).1, fun b hb => ?_, w7⟩
   obtain ⟨o, e, d⟩ := T.obj _ _ st5 b hb
   exact (I7.pin (b, o) (List.mem_append_right _ (List.mem_append_right _ (mem_pinsAt hb e)))).2.1
  cases f with
  | next => obtain ⟨σ7, H7, I7, n7⟩ := q7; exact again I7 n7
  | cont => obtain ⟨σ7, H7, I7, n7⟩ := q7; exact again I7 n7
  | brk => obtain ⟨σ7, H7, I7, q7⟩ := q7; exact ⟨σ7, H7, I7.unpinned, q7⟩
  | ret v => obtain ⟨x7, σ7, H7, I7, r7, q7⟩ := q7; exact ⟨x7, σ7, H7, I7.unpinned, r7, q7⟩
end
abbrev R2 := V → V → Hp → VK → Prop
def OpR (X : Cx) (f : Value → Value → Sem Value) (r : R2) : Prop :=
 ∀ (pins : List (Addr × Obj)) (s : Shared) (σ : St) (H : Hp) (x y : V) (v u : Value) (Q : VK), Inv X pins σ H s → RelV x v → RelV y u → r x y H Q →
  wpAny (model X.prog X.w) X.A (f v u) (EP X pins σ Q) X.xe s
def UnR (X : Cx) (f : Value → Sem Value) (r : V → Hp → VK → Prop) : Prop :=
 ∀ (pins : List (Addr × Obj)) (s : Shared) (σ : St) (H : Hp) (x : V) (v : Value) (Q : VK), Inv X pins σ H s → RelV x v → r x H Q →
  wpAny (model X.prog X.w) X.A (f v) (EP X pins σ Q) X.xe s
def CallR (X : Cx) (f : Value) (r : List V → Hp → VK → Prop) : Prop :=
 ∀ (pins : List (Addr × Obj)) (s : Shared) (σ : St) (H : Hp) (xs : List V) (us : List Value) (Q : VK), Inv X pins σ H s → Vals xs us → r xs H Q →
  wpAny (model X.prog X.w) X.A (call f us) (EP X pins σ Q) X.xe s
def tOp (r : R2) (ta tb : TE) : TE := fun σ H Q => ta σ H fun x H1 => tb σ H1 fun y H2 => r x y H2 Q
def tUn (r : V → Hp → VK → Prop) (ta : TE) : TE := fun σ H Q => ta σ H fun x H1 => r x H1 Q
def rI (C : Int → Int → Prop) (g : Int → Int → V) : R2 := fun x y H Q => ∃ i j, x = .int i ∧ y = .int j ∧ C i j ∧ Q (g i j) H
def rI0 (g : Int → Int → V) : R2 := fun x y H Q => ∃ i j, x = .int i ∧ y = .int j ∧ Q (g i j) H
def rU (g : Int → V) : V → Hp → VK → Prop := fun x H Q => ∃ i, x = .int i ∧ Q (g i) H
section
variable {X : Cx} {a b c : Expr} {ta tb tc : TE} {pos : Pos}
theorem binT (ha : PE X a ta) (hb : PE X b tb) {pins : List (Addr × Obj)} {s : Shared} {σ : St} {H : Hp} {R : V → V → Hp → Prop} (I : Inv X pins σ H s)
  (h : ta σ H fun x H1 => tb σ H1 fun y H2 => R x y H2) {Q : Value → Shared → Prop} {f : Value → Value → Sem Value}
  (hf : ∀ v u s2 x y H2, Inv X pins σ H2 s2 → RelV x v → RelV y u → R x y H2 → wpAny (model X.prog X.w) X.A (f v u) Q X.xe s2) :
  wpAny (model X.prog X.w) X.A (eval a X.env) (fun v s₁ => wpAny (model X.prog X.w) X.A (eval b X.env) (fun u s₂ => wpAny (model X.prog X.w) X.A (f v u) Q X.xe s₂) X.xe s₁) X.xe s := by
 refine thn (ha pins s σ H _ I h) fun v s1 ⟨x, H1, I1, r1, q1⟩ => ?_
 refine thn (hb pins s1 σ H1 _ I1 q1) fun u s2 ⟨y, H2, I2, r2, q2⟩ => ?_
 exact hf v u s2 x y H2 I2 r1 r2 q2
theorem pe_op {op : Operator} {r : R2} (ho : OpR X (binaryOp op) r) (ha : PE X a ta) (hb : PE X b tb) : PE X (.BinOp a op b pos) (tOp r ta tb) := by
 intro pins s σ H Q I h
 exact wpAny_BinOp (binT ha hb I h fun v u s2 x y H2 I2 rx ry q => ho pins s2 σ H2 x y v u Q I2 rx ry q)
theorem pe_un {op : UnaryOp} {r : V → Hp → VK → Prop} (ho : UnR X (unaryOp op) r) (ha : PE X a ta) : PE X (.UnaryOp op a pos) (tUn r ta) := by
 intro pins s σ H Q I h
 exact UnaryOp_ (thn (ha pins s σ H _ I h) fun v s1 ⟨x, H1, I1, r1, q1⟩ => ho pins s1 σ H1 x v Q I1 r1 q1)
theorem opI {f : Value → Value → Sem Value} {C : Int → Int → Prop} {g : Int → Int → Int}
  (rule : ∀ (i j : Int) (t u : Tok) (s : Shared) (Q : Value → Shared → Prop) (E : Value → Shared → Prop), C i j → Q (.int (g i j) s.toks) { s with toks := s.toks + 1 } → wpAny (model X.prog X.w) X.A (f (.int i t) (.int j u)) Q E s) :
  OpR X f (rI C fun i j => .int (g i j)) := by
 intro pins s σ H x y v u Q I rx ry h
 obtain ⟨i, j, rfl, rfl, hc, q⟩ := h
 obtain ⟨t, rfl⟩ := rx
 obtain ⟨t', rfl⟩ := ry
 exact rule i j t t' s _ _ hc ⟨.int (g i j), H, I.tok _, ⟨_, rfl⟩, q⟩
theorem opI0 {f : Value → Value → Sem Value} {g : Int → Int → Int}
  (rule : ∀ (i j : Int) (t u : Tok) (s : Shared) (Q : Value → Shared → Prop) (E : Value → Shared → Prop), Q (.int (g i j) s.toks) { s with toks := s.toks + 1 } → wpAny (model X.prog X.w) X.A (f (.int i t) (.int j u)) Q E s) :
  OpR X f (rI0 fun i j => .int (g i j)) := by
 intro pins s σ H x y v u Q I rx ry h
 obtain ⟨i, j, rfl, rfl, q⟩ := h
 obtain ⟨t, rfl⟩ := rx
 obtain ⟨t', rfl⟩ := ry
 exact rule i j t t' s _ _ ⟨.int (g i j), H, I.tok _, ⟨_, rfl⟩, q⟩
theorem opB0 {f : Value → Value → Sem Value} {g : Int → Int → Bool}
  (rule : ∀ (i j : Int) (t u : Tok) (s : Shared) (Q : Value → Shared → Prop) (E : Value → Shared → Prop), Q (.bool (g i j)) s → wpAny (model X.prog X.w) X.A (f (.int i t) (.int j u)) Q E s) :
  OpR X f (rI0 fun i j => .bl (g i j)) := by
 intro pins s σ H x y v u Q I rx ry h
 obtain ⟨i, j, rfl, rfl, q⟩ := h
 obtain ⟨t, rfl⟩ := rx
 obtain ⟨t', rfl⟩ := ry
 exact rule i j t t' s _ _ ⟨.bl (g i j), H, I, rfl, q⟩
def CPow (i j : Int) : Prop := 0 ≤ j ∧ j ≤ 1000000 ∧ i.natAbs < 2 ^ 64
def CMul (i j : Int) : Prop := (-(2 ^ 64) < i ∧ i < 2 ^ 64) ∨ (-(2 ^ 64) < j ∧ j < 2 ^ 64)
theorem CMul.ok {i j : Int} (h : CMul i j) : IntMulOk i j := by
 rcases h with ⟨h1, h2⟩ | ⟨h1, h2⟩
 ·exact .of_left (intBits_le_64 h1 h2)
 ·exact .of_right (intBits_le_64 h1 h2)
theorem op_add : OpR X (binaryOp .Add) (rI0 fun i j => .int (i + j)) := opI0 fun _ _ _ _ _ _ _ q => add_int q
theorem op_sub : OpR X (binaryOp .Sub) (rI0 fun i j => .int (i - j)) := opI0 fun _ _ _ _ _ _ _ q => sub_int q
theorem op_modN : OpR X (binaryOp .Mod) (rI (fun _ j => j ≠ 0) fun i j => .int (i.fmod j)) := opI fun _ _ _ _ _ _ _ hc q => mod_int' hc q
theorem op_pow : OpR X (binaryOp .Pow) (rI CPow fun i j => .int (i ^ j.toNat)) := opI fun _ _ _ _ _ _ _ hc q => pow_int_small hc.1 hc.2.1 hc.2.2 q
theorem unI {f : Value → Sem Value} {g : Int → Int}
  (rule : ∀ (i : Int) (t : Tok) (s : Shared) (Q : Value → Shared → Prop) (E : Value → Shared → Prop), Q (.int (g i) s.toks) { s with toks := s.toks + 1 } → wpAny (model X.prog X.w) X.A (f (.int i t)) Q E s) :
  UnR X f (rU fun i => .int (g i)) := by
 intro pins s σ H x v Q I rx h
 obtain ⟨i, rfl, q⟩ := h
 obtain ⟨t, rfl⟩ := rx
 exact rule i t s _ _ ⟨.int (g i), H, I.tok _, ⟨_, rfl⟩, q⟩
theorem un_neg : UnR X (unaryOp .USub) (rU fun i => .int (-i)) := unI fun _ _ _ _ _ q => neg_int q
end
section
variable {X : Cx} {a b c : Expr} {ta tb tc : TE} {pos : Pos}
theorem op_lt : OpR X (compareOp .Lt) (rI0 fun i j => .bl (decide (i < j))) := opB0 fun _ _ _ _ _ _ _ q => lt_int q
theorem op_le : OpR X (compareOp .LtE) (rI0 fun i j => .bl (decide (i ≤ j))) := opB0 fun _ _ _ _ _ _ _ q => le_int q
theorem op_gt : OpR X (compareOp .Gt) (rI0 fun i j => .bl (decide (j < i))) := opB0 fun _ _ _ _ _ _ _ q => gt_int q
theorem OpR.or {f : Value → Value → Sem Value} {r r' : R2} (h : OpR X f r) (h' : OpR X f r') : OpR X f (fun x y H Q => r x y H Q ∨ r' x y H Q) := by
 intro pins s σ H x y v u Q I rx ry q
 rcases q with q | q
 ·exact h pins s σ H x y v u Q I rx ry q
 ·exact h' pins s σ H x y v u Q I rx ry q
theorem nomark (b : Expr) {op : CmpOp} (h : op ≠ .In := by decide) (h2 : op ≠ .NotIn := by decide) : behindInMarks op b = false := by
 have e1 : (op == CmpOp.In) = false := by cases op <;> first | rfl | exact absurd rfl h
 have e2 : (op == CmpOp.NotIn) = false := by cases op <;> first | rfl | exact absurd rfl h2
 cases b <;> simp [behindInMarks, e1, e2]
theorem pe_cmpR {op : CmpOp} {r : R2} (ho : OpR X (compareOp op) r) (ha : PE X a ta) (hb : PE X b tb) (hm : behindInMarks op b = false) : PE X (.Compare a [op] [b] pos) (tOp r ta tb) := by
 intro pins s σ H Q I h
 exact wpAny_Compare1 (binT ha hb I h fun v u s2 x y H2 I2 rx ry q => ho pins s2 σ H2 x y v u Q I2 rx ry q) hm
def tTest (t : TE) : TT := fun σ H Q => t σ H fun x H' => ∃ k, x = .bl k ∧ Q k H'
theorem pt_cmpR {op : CmpOp} {r : R2} (ho : OpR X (compareOp op) r) (ha : PE X a ta) (hb : PE X b tb) (hm : behindInMarks op b = false) : PT X (.Compare a [op] [b] pos) (tTest (tOp r ta tb)) := by
 intro pins s σ H Q I h
 refine wpAny_isTrue_Compare1 (thn (ha pins s σ H _ I h) fun v s1 ⟨x, H1, I1, r1, q1⟩ => thn (hb pins s1 σ H1 _ I1 q1) fun u s2 ⟨y, H2, I2, r2, q2⟩ =>
  thn (ho pins s2 σ H2 x y v u _ I2 r1 r2 q2) fun c s3 ⟨z, H3, I3, r3, k, e, q3⟩ => ?_) hm
 subst e
 cases r3
 exact wpAny_truthy_bool ⟨H3, I3, q3⟩
theorem line63 : (sizeLine : Nat) < 2 ^ 63 := by rw [sizeLine_eq]; decide
theorem op_add_str : OpR X (binaryOp .Add) (fun x y H Q => ∃ i j, x = .str i ∧ y = .str j ∧ i.length + j.length ≤ sizeLine ∧ Q (.str (i ++ j)) H) := by
 intro pins s σ H x y v u Q I rx ry h
 obtain ⟨i, j, rfl, rfl, hz, q⟩ := h
 obtain ⟨t, rfl⟩ := rx
 obtain ⟨t', rfl⟩ := ry
 exact add_str (fun t' tk => ⟨.str (i ++ j), H, I.tok _, ⟨_, rfl⟩, q⟩) hz
theorem vals1 {x : V} {us : List Value} (r : Vals [x] us) : ∃ u, us = [u] ∧ RelV x u := by
 cases r with
 | cons r1 r2 => cases r2; exact ⟨_, rfl, r1⟩
theorem vals2 {x y : V} {us : List Value} (r : Vals [x, y] us) : ∃ u w', us = [u, w'] ∧ RelV x u ∧ RelV y w' := by
 cases r with
 | cons r1 r2 =>
  cases r2 with
  | cons r3 r4 => cases r4; exact ⟨_, _, rfl, r1, r3⟩
theorem call_abs : CallR X (.builtin "abs") (fun xs H Q => ∃ i, xs = [.int i] ∧ Q (.int (if i < 0 then -i else i)) H) := by
 intro pins s σ H xs us Q I r h
 obtain ⟨i, rfl, q⟩ := h
 obtain ⟨u, rfl, t, rfl⟩ := vals1 r
 exact call_abs_int fun u tk => ⟨.int (if i < 0 then -i else i), H, I.tok _, ⟨_, rfl⟩, q⟩
theorem call_max2 (hc : X.calm = true) : CallR X (.builtin "max") (fun xs H Q => ∃ i j, xs = [.int i, .int j] ∧ Q (.int (if j > i then j else i)) H) := by
 intro pins s σ H xs us Q I r h
 obtain ⟨i, j, rfl, q⟩ := h
 obtain ⟨u, w', rfl, ⟨t, rfl⟩, ⟨t', rfl⟩⟩ := vals2 r
 refine max_two_ints (I.ok.hd hc) fun h' tk k => ⟨_, H, I.kept k, ?_, q⟩
 by_cases hj : j > i
 ·rw [if_pos hj, if_pos hj]; exact ⟨_, rfl⟩
 ·rw [if_neg hj, if_neg hj]; exact ⟨_, rfl⟩
end
structure ObjM (h : Heap) (x dx C : Addr) (mA : Str → Option Value) : Prop where
 obj : h.get? x = some (PySem.W.instObj C dx)
 ns : h.Ns1 dx mA
 ne : dx ≠ x
theorem lookIn_ns {h : Heap} {dx : Addr} {mA : Str → Option Value} (n : h.Ns1 dx mA) : ∃ od, h.get? dx = some od ∧ ∀ name, PySem.W.lookIn name od = some (mA name) := by
 obtain ⟨o, es, ep, ho, hd, hk, _, hm⟩ := n
 refine ⟨o, ho, fun name => ?_⟩
 have e := hm name
 unfold nsFind findBy at e
 rw [← Array.find?_toList] at e
 unfold PySem.W.lookIn
 rw [hd]
 dsimp only
 split
 ·rename_i y q
  rw [q] at e
  exact congrArg some e
 ·rename_i q
  rw [q] at e
  have a : es.toList.any (·.refKey) = false := by
   rw [List.any_eq_false]
   intro y hy
   obtain ⟨z, t, hkey⟩ := hk y (Array.mem_toList_iff.mp hy)
   simp [DictEntry.refKey, hkey]
  have a' : ¬ es.toList.any (·.refKey) = true := by rw [a]; exact Bool.false_ne_true
  rw [if_neg a']
  exact congrArg some e
theorem ObjM.look {h : Heap} {x dx C : Addr} {mA : Str → Option Value} (I : ObjM h x dx C mA) : ∃ od, PySem.W.InstAt h x (PySem.W.instObj C dx) C (some od) ∧ ∀ name, PySem.W.lookIn name od = some (mA name) :=
 let ⟨od, ho, hl⟩ := lookIn_ns I.ns
 ⟨od, ⟨I.obj, rfl, rfl, ho⟩, hl⟩
section
variable {prog : Program} {w : World} {A : Around} {E : Value → Shared → Prop} {s : Shared} {K : PySem.W.Frag} {x dx C f : Addr} {mA : Str → Option Value} {name : Str} {v : Value}
end
section
variable {P : Program} {w : World} {H H' : Hp} {h h' : Heap} {a C dx : Addr} {fs fs' : List (Str × V)}
theorem ins_get (hok : HOk P w H h) (e : H a = some (.ins C dx fs)) : ∃ mA, ObjM h a dx C mA ∧ (∀ f, RelO (fs.lookup f) (mA f)) ∧ PySem.Within mA (fs.map (·.1)) ∧ fs.length ≤ 1000 ∧ H dx = some (.own a) := by
 obtain ⟨d, z, ne, ob, mA, n, r, q⟩ := (show ObjOk P w H h a (.ins C dx fs) from hok a _ e)
 exact ⟨mA, ⟨ob, n, ne⟩, r, q, z, d⟩
end
structure Cls (K : PySem.W.Frag) (C : Addr) : Prop where
 pg : PySem.W.plainGet K C Str.empty = true
 hd : PySem.W.hasDictIn K C = true
 po : PySem.W.plainOver K C = true
 sa : PySem.W.findIn K (.ref C) "__setattr__" = some (some (.builtin "object.__setattr__"))
theorem Cls.get {K : PySem.W.Frag} {C : Addr} (c : Cls K C) (f : Str) : PySem.W.plainGet K C f = true := c.pg
section
variable {X : Cx} {pins : List (Addr × Obj)} {σ : St} {H : Hp} {s : Shared} {a C dx : Addr} {fs : List (Str × V)} {f : Str} {v : V} {A : Around} {E : Value → Shared → Prop}
end
section
variable {X : Cx} {o e value : Expr} {f : Str} {pos pos' tpos : Pos} {ta tv : TE}
end
section
variable {X : Cx} {pins : List (Addr × Obj)} {σ : St} {H : Hp} {s : Shared} {A : Around} {E : Value → Shared → Prop} {Q : Value → Shared → Prop} {c : Value} {b : Bool}
inductive TyOf (K : PySem.W.Frag) (H : Hp) : V → Value → Prop where
 | non : TyOf K H .non (.type "NoneType")
 | bl (x : Bool) : TyOf K H (.bl x) (.type "bool")
 | int (i : Int) : TyOf K H (.int i) (.type "int")
 | str (x : Str) : TyOf K H (.str x) (.type "str")
 | flt (x : UInt64) : TyOf K H (.flt x) (.type "float")
 | lst {a : Addr} {xs : List V} (e : H a = some (.lst xs)) : TyOf K H (.ref a) (.type "list")
 | frz {a : Addr} {o : Obj} {xs : List V} (e : H a = some (.frz o (.lst xs))) : TyOf K H (.ref a) (.type "list")
 | tup {a : Addr} {xs : List V} (e : H a = some (.tup xs)) : TyOf K H (.ref a) (.type "tuple")
 | dK {a : Addr} {kvs : List (Key × V)} (e : H a = some (.dK kvs)) : TyOf K H (.ref a) (.type "dict")
 | dT {a : Addr} {kvs : List (List Key × V)} (e : H a = some (.dT kvs)) : TyOf K H (.ref a) (.type "dict")
 | ins {a C dx : Addr} {fs : List (Str × V)} (e : H a = some (.ins C dx fs)) (cl : Cls K C) (ha : PySem.W.findIn K (.ref C) "__class__" = some (some (.builtin "object.__class__")))
   (hn : PySem.W.specialIn K (.builtin "object.__class__") "__get__" = some (some (.builtin "getset_descriptor.__get__"))) (htk : PySem.W.takesIn K (.builtin "object.__class__") = some true)
   (hm : PySem.W.mroIn K C (.type "object") = some true) : TyOf K H (.ref a) (.ref C)
theorem isinst_ok {x : V} {u t : Value} (I : Inv X pins σ H s) (rx : RelV x u) (ty : TyOf X.K H x t) (e : PySem.W.kitOne X.K t c = some b) (h : ∀ tk, Q (.bool b) { s with toks := tk }) :
  wpAny (model X.prog X.w) A (call (.builtin "isinstance") [u, c]) Q E s := by
 cases ty with
 | non => cases (show u = Value.none from rx); exact PySem.W.kia_one PySem.W.kitx_none I.kIn True.intro e (fun z => nomatch z) h
 | bl y => cases (show u = Value.bool y from rx); exact PySem.W.kia_one PySem.W.kitx_bool I.kIn True.intro e (fun z => nomatch z) h
 | int i => obtain ⟨t, q⟩ := (show ∃ t, u = Value.int i t from rx); cases q; exact PySem.W.kia_one PySem.W.kitx_int I.kIn True.intro e (fun z => nomatch z) h
 | str y => obtain ⟨t, q⟩ := (show ∃ t, u = Value.str y t from rx); cases q; exact PySem.W.kia_one PySem.W.kitx_str I.kIn True.intro e (fun z => nomatch z) h
 | flt y => obtain ⟨t, q⟩ := (show ∃ t, u = Value.float y t from rx); cases q; exact PySem.W.kia_one PySem.W.kitx_float I.kIn True.intro e (fun z => nomatch z) h
 | @lst a xs ea =>
  cases (show u = Value.ref a from rx)
  obtain ⟨_, _, n, _, h1⟩ := (show ObjOk X.prog X.w H s.heap a (.lst xs) from I.hok a _ ea)
  exact PySem.W.kia_one PySem.W.kitx_list I.kIn ⟨_, h1, rfl⟩ e (fun z => nomatch z) h
 | @frz a ob xs ea =>
  cases (show u = Value.ref a from rx)
  obtain ⟨_, _, _, n, _, h1⟩ := (show ObjOk X.prog X.w H s.heap a (.frz ob (.lst xs)) from I.hok a _ ea)
  exact PySem.W.kia_one PySem.W.kitx_list I.kIn ⟨_, h1, rfl⟩ e (fun z => nomatch z) h
 | @tup a xs ea =>
  cases (show u = Value.ref a from rx)
  obtain ⟨_, _, _, p⟩ := (show ObjOk X.prog X.w H s.heap a (.tup xs) from I.hok a _ ea)
  obtain ⟨o, h1, h2, _⟩ := p
  exact PySem.W.kia_one PySem.W.kitx_tuple I.kIn ⟨o, h1, h2⟩ e (fun z => nomatch z) h
 | @dK a kvs ea =>
  cases (show u = Value.ref a from rx)
  obtain ⟨_, _, vs, _, p⟩ := (show ObjOk X.prog X.w H s.heap a (.dK kvs) from I.hok a _ ea)
  obtain ⟨o, es, ep, h1, h2, _⟩ := p
  exact PySem.W.kia_one PySem.W.kitx_dict I.kIn ⟨o, h1, h2.1⟩ e (fun z => nomatch z) h
 | @dT a kvs ea =>
  cases (show u = Value.ref a from rx)
  obtain ⟨_, _, xs, _, o, es, ep, h1, h2, _⟩ := (show ObjOk X.prog X.w H s.heap a (.dT kvs) from I.hok a _ ea)
  exact PySem.W.kia_one PySem.W.kitx_dict I.kIn ⟨o, h1, h2.1⟩ e (fun z => nomatch z) h
 | @ins a C dx fs ea cl ha hn htk hm =>
  cases (show u = Value.ref a from rx)
  obtain ⟨mA, O, _⟩ := ins_get I.hok ea
  obtain ⟨od, J, _⟩ := O.look
  exact PySem.W.kia_one (PySem.W.kitx_own (cl.get _) cl.hd ha hn htk hm) I.kIn J e (fun z => nomatch z) h
end
structure Room (k : Nat) (A : Around) : Prop where
 hd : A.handled = none
 dp : A.depth + 3 * k + 5 < recursionLimit
 un : A.units + 16 * k + 200 < cLine
theorem Room.mono {j k : Nat} {A : Around} (r : Room k A) (h : j ≤ k) : Room j A := ⟨r.hd, by have := r.dp; omega, by have := r.un; omega⟩
theorem Room.deeper {k : Nat} {A : Around} (r : Room (k + 1) A) (env : Env) : Room k (A.deeper env) :=
 ⟨r.hd, by have := r.dp; show A.depth + 1 + 3 * k + 5 < _; omega, by have := r.un; show A.units + 3 + 16 * k + 200 < _; omega⟩
theorem Room.depth {k : Nat} {A : Around} (r : Room k A) : A.depth < recursionLimit := by have := r.dp; omega
def tNil : TA := fun _ H Q => Q [] H
def tCons (ta : TE) (tr : TA) : TA := fun σ H Q => ta σ H fun x H1 => tr σ H1 fun xs H2 => Q (x :: xs) H2
section
variable {X : Cx} {e : Expr} {es : List Expr} {te : TE} {t : TA} {pos : Pos}
theorem pa_nil : PA X [] tNil := fun _ _ _ _ H Q I h => Calls.spliced_nil ⟨[], H, I, .nil, h⟩
theorem pa_cons (ha : PE X e te) (hr : PA X es t) (hs : starEach (e :: es) X.env = (false, eval e X.env) :: starEach es X.env := by rfl) : PA X (e :: es) (tCons te t) := by
 intro pos pins s σ H Q I h
 rw [hs]
 show wpAny _ _ (spliced ((false, eval e X.env) :: backTo pos (starEach es X.env))) _ _ s
 refine Calls.spliced_cons (thn (ha pins s σ H _ I h) fun u s1 ⟨x, H1, I1, r1, q1⟩ => ?_)
 exact thn (hr pos pins s1 σ H1 _ I1 q1) fun us s2 ⟨xs, H2, I2, r2, q2⟩ => ⟨x :: xs, H2, I2, .cons r1 r2, q2⟩
def tTup (t : TA) : TE := fun σ H Q => t σ H fun xs H1 => xs.length ≤ sizeLine ∧ ∀ p, H1 p = none → Q (.ref p) (upd H1 p (.tup xs))
def tLst (t : TA) : TE := fun σ H Q => t σ H fun xs H1 => xs.length ≤ sizeLine ∧ ∀ p, H1 p = none → Q (.ref p) (upd H1 p (.lst xs))
theorem pe_tup {x1} (h : PA X es t) : PE X (.Tuple es x1 pos) (tTup t) := by
 intro pins s σ H Q I hq
 refine wpAny_Tuple_spliced (thn (h pos pins s σ H _ I hq) fun us s1 ⟨xs, H1, I1, r, z, q⟩ => ⟨by rw [← r.length]; exact z, ?_⟩)
 have hf : H1 s1.heap.objs.size = none := I1.hok.fresh (Nat.le_refl _)
 refine ⟨.ref s1.heap.objs.size, upd H1 s1.heap.objs.size (.tup xs), I1.laid (t' := s1.toks) (fun b u e => Heap.get?_push_of_some _ e) (Nat.le_refl _) ?_, rfl, q _ hf⟩
 exact ⟨z, us, r, ⟨_, Heap.get?_push_size _ rfl, rfl, _, rfl⟩⟩
theorem pe_lst (h : PA X es t) : PE X (.List es pos) (tLst t) := by
 intro pins s σ H Q I hq
 refine wpAny_List_spliced (thn (h pos pins s σ H _ I hq) fun us s1 ⟨xs, H1, I1, r, z, q⟩ => ⟨by rw [← r.length]; exact z, ?_⟩)
 have hf : H1 s1.heap.objs.size = none := I1.hok.fresh (Nat.le_refl _)
 refine ⟨.ref s1.heap.objs.size, upd H1 s1.heap.objs.size (.lst xs), I1.laid (t' := s1.toks) (fun b u e => Heap.get?_push_of_some _ e) (Nat.le_refl _) ?_, rfl, q _ hf⟩
 exact ⟨z, us, 0, r, Heap.get?_push_size _ rfl⟩
end
abbrev Sp := List V → Hp → VK → XK → Prop
abbrev CXT := List Env → Hp → Shared → XK → Value → Shared → Prop
structure Env0 (P : Program) (w : World) (K : PySem.W.Frag) (mg : Str → Option Value) (base : Heap) (A : Around) (outer : List Env) (s : Shared) (H : Hp) : Prop where
 frames : A.frames = some outer
 mod : Mod K mg base
 bs : ∀ b o, base.get? b = some o → s.heap.get? b = some o ∧ H b = none
 bsz : base.objs.size ≤ s.heap.objs.size
 funs : s.heap.FunFrames base outer
 frf : ∀ b ∈ frs outer, H b = none
 hok : HOk P w H s.heap
 bare : AllBare s.gens
def CE (outer : List Env) (P : Program) (w : World) (H : Hp) (s : Shared) (Q : VK) (u : Value) (s' : Shared) : Prop :=
 ∃ v H', s'.os = s.os ∧ AllBare s'.gens ∧ Un (frs outer) [] H H' s.heap s'.heap ∧ HOk P w H' s'.heap ∧ RelV v u ∧ Q v H'
def CR (CX : CXT) (outer : List Env) (P : Program) (w : World) (H : Hp) (s : Shared) (Q : VK) (E : XK) (r : Result) (s' : Shared) : Prop :=
 match r with
 | .ok (.ret u) => CE outer P w H s Q u s'
 | .ok _ => False
 | .error e => CX outer H s E e s'
structure FnOk (P : Program) (w : World) (K : PySem.W.Frag) (mg : Str → Option Value) (base : Heap) (CX : CXT) (k : Nat) (f : Addr) (fd : FuncData) (ps : List Str) (sp : Sp) : Prop where
 len : ∀ vs H Q E, sp vs H Q E → vs.length = ps.length
 run : ∀ (A : Around) (outer : List Env) (s : Shared) (H : Hp) (args : Args) (us : List Value) (vs : List V) (Q : VK) (E : XK), Room k A → Env0 P w K mg base A outer s H → BindsTo s fd args (ps.zip us) → Vals vs us → sp vs H Q E →
  codeAny (model P w) A (.call (.ref f) args) (CR CX outer P w H s Q E) s
theorem FnOk.mono {P : Program} {w : World} {K : PySem.W.Frag} {mg : Str → Option Value} {base : Heap} {CX : CXT} {j k : Nat} {f : Addr} {fd : FuncData} {ps : List Str} {sp : Sp} (F : FnOk P w K mg base CX j f fd ps sp) (h : j ≤ k) :
  FnOk P w K mg base CX k f fd ps sp := ⟨F.len, fun A outer s H args us vs Q E hr => F.run A outer s H args us vs Q E (hr.mono h)⟩
theorem FnOk.imp {P : Program} {w : World} {K : PySem.W.Frag} {mg : Str → Option Value} {base : Heap} {CX : CXT} {k : Nat} {f : Addr} {fd : FuncData} {ps : List Str} {sp sp' : Sp} (F : FnOk P w K mg base CX k f fd ps sp)
  (h : ∀ vs H Q E, sp' vs H Q E → sp vs H Q E) : FnOk P w K mg base CX k f fd ps sp' :=
 ⟨fun vs H Q E q => F.len vs H Q E (h _ _ _ _ q), fun A outer s H args us vs Q E hr he hb hv hs => F.run A outer s H args us vs Q E hr he hb hv (h _ _ _ _ hs)⟩
section
variable {X : Cx} {pins : List (Addr × Obj)} {σ : St} {H : Hp} {s s' : Shared}
theorem Inv.env0 (I : Inv X pins σ H s) : Env0 X.prog X.w X.K X.mg X.base X.A X.stack s H :=
 ⟨I.ok.frames, I.ok.mod, I.bs, Nat.le_trans I.ok.bsz I.sz, I.stack, I.stkFree, I.hok, I.bare⟩
theorem Inv.after {Q : VK} {u : Value} (I : Inv X pins σ H s) (h : CE X.stack X.prog X.w H s Q u s') : EP X pins σ Q u s' := by
 obtain ⟨v, H', os, bare, un, hok, r, q⟩ := h
 obtain ⟨hh, g, d, t, os'⟩ := s'
 obtain rfl : os' = s.os := os
 exact ⟨v, H', I.call (h' := hh) (g' := g) (d' := d) (t' := t) (ch := []) un hok bare (fun b z => absurd z (by simp)), r, q⟩
end
def Binds (K : PySem.W.Frag) (fd : FuncData) (ps : List Str) (ds : List Value) : Prop :=
 ∀ (s : Shared) (us : List Value), K.In s.heap → (us ++ ds).length = ps.length → BindsTo s fd ⟨us, []⟩ (ps.zip (us ++ ds))
theorem Binds.all {K : PySem.W.Frag} {fd : FuncData} {ps : List Str} (h : ∀ us : List Value, us.length = ps.length → bindArgs fd ⟨us, []⟩ = pure (ps.zip us)) : Binds K fd ps [] := fun s us _ hl => by
 rw [List.append_nil] at hl ⊢
 exact .of_eq (h us hl)
def Passes (CX : CXT) (X : Cx) (E : XK) : Prop := ∀ (pins : List (Addr × Obj)) (σ : St) (H : Hp) (s : Shared) (e : Value) (s' : Shared), Inv X pins σ H s → CX X.stack H s E e s' → X.xe e s'
section
variable {X : Cx} {CX : CXT} {k : Nat} {f C : Addr} {fd : FuncData} {ps : List Str} {sp : Sp} {dvs : List V} {ds : List Value} {E : XK} {x m : Str} {p pos apos : Pos} {e o : Expr} {es : List Expr} {ta : TE} {t : TA}
end
section
variable {X : Cx} {CX : CXT} {k : Nat} {f C : Addr} {fd : FuncData} {ps ks : List Str} {sp : Sp} {E : XK} {x m : Str} {p pos apos kpos : Pos} {e o : Expr} {es : List Expr} {kws : List Keyword} {te ta : TE} {t tk : TA} {nm : Option Str}
variable {g : List Value → List Value → List Value} {gV : List V → List V → List V}
end
structure FnScope (N P : List Str) (sc : Scope) : Prop where
 kind : sc.kind = .function
 co : sc.isCoroutine = false
 gen : sc.isGenerator = false
 nd : N.Nodup
 pre : N.take P.length = P
 par : ∀ x ∈ P, sc.names.lookup x = some .local ∨ sc.names.lookup x = some .cell
 nofree : ∀ y ∈ sc.names, y.2 ≠ .free
theorem bindL_out {kindOf : Str → Option NameKind} {x : Str} : ∀ {binds : List (Str × Value)} {m : Str → Option Value}, (∀ v, (x, v) ∉ binds) → bindL kindOf binds m x = m x
 | [], _, _ => rfl
 | (n, v) :: r, m, h => by
  unfold bindL
  rw [bindL_out fun w hw => h w (List.mem_cons_of_mem _ hw)]
  split
  ·have : x ≠ n := by rintro rfl; exact h v List.mem_cons_self
   simp [this]
  ·rfl
theorem bindC_out {kindOf : Str → Option NameKind} {x : Str} : ∀ {binds : List (Str × Value)} {m : Str → Option Value}, (∀ v, (x, v) ∉ binds) → bindC kindOf binds m x = m x
 | [], _, _ => rfl
 | (n, v) :: r, m, h => by
  unfold bindC
  rw [bindC_out fun w hw => h w (List.mem_cons_of_mem _ hw)]
  split
  ·rfl
  ·have : x ≠ n := by rintro rfl; exact h v List.mem_cons_self
   simp [this]
theorem bindL_get {kindOf : Str → Option NameKind} {x : Str} {v : Value} : ∀ {P : List Str} {vs : List Value} {i : Nat} {m : Str → Option Value}, P.Nodup → P[i]? = some x → vs[i]? = some v → kindOf x = some .local →
  bindL kindOf (P.zip vs) m x = some v
 | [], _, _, _, _, h, _, _ => by simp at h
 | _ :: _, [], _, _, _, _, h, _ => by simp at h
 | p :: P, w :: vs, 0, m, nd, h1, h2, hk => by
  simp at h1 h2; subst h1; subst h2
  show bindL kindOf ((p, w) :: P.zip vs) m p = _
  unfold bindL
  rw [bindL_out fun v hv => (List.nodup_cons.mp nd).1 (List.of_mem_zip hv).1, if_pos hk]
  simp
 | p :: P, w :: vs, i + 1, m, nd, h1, h2, hk => by
  show bindL kindOf ((p, w) :: P.zip vs) m x = _
  unfold bindL
  exact bindL_get (i := i) (List.nodup_cons.mp nd).2 (by simpa using h1) (by simpa using h2) hk
theorem bindC_get {kindOf : Str → Option NameKind} {x : Str} {v : Value} : ∀ {P : List Str} {vs : List Value} {i : Nat} {m : Str → Option Value}, P.Nodup → P[i]? = some x → vs[i]? = some v → kindOf x ≠ some .local →
  bindC kindOf (P.zip vs) m x = some v
 | [], _, _, _, _, h, _, _ => by simp at h
 | _ :: _, [], _, _, _, _, h, _ => by simp at h
 | p :: P, w :: vs, 0, m, nd, h1, h2, hk => by
  simp at h1 h2; subst h1; subst h2
  show bindC kindOf ((p, w) :: P.zip vs) m p = _
  unfold bindC
  rw [bindC_out fun v hv => (List.nodup_cons.mp nd).1 (List.of_mem_zip hv).1, if_neg hk]
  simp
 | p :: P, w :: vs, i + 1, m, nd, h1, h2, hk => by
  show bindC kindOf ((p, w) :: P.zip vs) m x = _
  unfold bindC
  exact bindC_get (i := i) (List.nodup_cons.mp nd).2 (by simpa using h1) (by simpa using h2) hk
def start (N : List Str) (vs : List V) : St := vs.map some ++ List.replicate (N.length - vs.length) none
def cxOf (CX : CXT) (P : Program) (w : World) (K : PySem.W.Frag) (mg : Str → Option Value) (base : Heap) (N : List Str) (qual : Str) (scope : Scope) (f : Addr) (cd : Value) (A : Around) (outer : List Env) (s : Shared) (H : Hp) (E : XK) : Cx where
 prog := P
 w := w
 K := K
 mg := mg
 base := base
 A := A.deeper (envOfC qual scope s.heap.objs.size f cd)
 N := N
 s₀ := s
 H₀ := H
 env := envOfC qual scope s.heap.objs.size f cd
 outer := outer
 stack := envOfC qual scope s.heap.objs.size f cd :: outer
 ex := []
 calm := true
 fn := fun _ => true
 pn := []
 xe := fun e s' => wpAny (model P w) (A.deeper (envOfC qual scope s.heap.objs.size f cd)) (leaving (envOfC qual scope s.heap.objs.size f cd) e) (fun _ s'' => CX outer H s E e s'') (fun e' s'' => CX outer H s E e' s'') s'
theorem cell_has {sc : Scope} {n : Nat} {x : Str} (h : sc.names.lookup x = some .cell) : ∃ c, (cellsFrom n sc.names []).lookup x = some c := by
 have q := PySem.W.cellsFrom_some sc.names n [] (.inl h)
 exact Option.isSome_iff_exists.mp q
theorem inv_start {CX : CXT} {P : Program} {w : World} {K : PySem.W.Frag} {mg : Str → Option Value} {base : Heap} {N ps : List Str} {qual : Str} {scope : Scope} {f : Addr} {cd : Value} {A : Around} {outer : List Env} {s s1 : Shared} {H : Hp} {E : XK} {us : List Value} {vs : List V}
  (S : FnScope N ps scope) (hd : A.handled = none) (e0 : Env0 P w K mg base A outer s H) (hl : vs.length = ps.length) (r : Vals vs us)
  (x : InCallC s s.heap.objs.size (bindL (envOfC qual scope s.heap.objs.size f cd).kindOf (ps.zip us) fun _ => none) (cellsFrom (s.heap.objs.size + 1) scope.names []) (bindC (envOfC qual scope s.heap.objs.size f cd).kindOf (ps.zip us) fun _ => none) s1) :
  Inv (cxOf CX P w K mg base N qual scope f cd A outer s H E) [] (start N vs) H s1 := by
 have hpl : ps.length ≤ N.length := by have := congrArg List.length S.pre; rw [List.length_take] at this; omega
 obtain ⟨h1, tk, rfl, hk⟩ := x.done
 have noA : ∀ b : Addr, b ∉ (cxOf CX P w K mg base N qual scope f cd A outer s H E).ex := fun b z => absurd (show b ∈ ([] : List Addr) from z) (by simp)
 refine ⟨⟨e0.mod, S.kind, rfl, rfl, Nat.le_refl _, fun y z c h1 h2 => ?_, fun y hy => ?_, fun y c _ h => ?_, fun _ => hd, Around.frames_deeper e0.frames, .inr ⟨rfl, rfl⟩, fun b z => absurd z (noA b), e0.bs, e0.bsz, fun b _ _ => noA b, fun b z => absurd z (noA b), e0.funs, e0.frf⟩,
  rfl, e0.bare, Un.kept hk, ⟨_, x.toInCall.ns, fun i y v h1 h2 h3 => ?_⟩, fun y c h => ⟨_, x.cell y c h⟩, e0.hok.fresh (Nat.le_refl _), fun y c h => ?_, fun p hp => absurd (show p ∈ ([] : List (Addr × Obj)) from hp) (by simp), e0.hok.kept hk, ?_⟩
 ·exact name_of_addr x.apart (PySem.mem_of_lookup h1) (PySem.mem_of_lookup h2)
 ·have hy : scope.names.lookup y = some .cell ∨ scope.names.lookup y = some .free := hy
  rcases hy with hy | hy
  ·exact cell_has hy
  ·exact absurd rfl (S.nofree _ (PySem.mem_of_lookup hy))
 ·exact Nat.le_of_lt (x.above y c (PySem.mem_of_lookup h))
 ·have hi : i < vs.length := by
   unfold start at h2
   by_cases hi : i < vs.length
   ·exact hi
   ·rw [List.getElem?_append_right (by simpa using hi)] at h2
    rw [List.getElem?_replicate] at h2
    split at h2 <;> cases h2
  have ha : vs[i]? = some v := by
   unfold start at h2
   rw [List.getElem?_append_left (by simpa using hi), List.getElem?_map] at h2
   cases e : vs[i]? with
   | none => rw [e] at h2; cases h2
   | some a => rw [e] at h2; cases h2; rfl
  obtain ⟨u, hu, rv⟩ := r.get ha
  have hp : ps[i]? = some y := by
   rw [← S.pre, List.getElem?_take_of_lt (by omega)]; exact h1
  have ndP : ps.Nodup := by rw [← S.pre]; exact S.nd.sublist (List.take_sublist _ _)
  refine ⟨u, rv, ?_⟩
  rcases S.par y (List.mem_of_getElem? hp) with k | k
  ·exact .inl ⟨k, bindL_get ndP hp hu k⟩
  ·obtain ⟨c, e⟩ := cell_has (n := s.heap.objs.size + 1) k
   refine .inr ⟨.inl k, c, e, ?_⟩
   have q := x.cell y c e
   rw [bindC_get ndP hp hu (by show scope.names.lookup y ≠ _; rw [k]; decide)] at q
   exact q
 ·exact e0.hok.fresh (Nat.le_of_lt (x.above y c (PySem.mem_of_lookup h)))
 ·unfold start
  show _ = N.length
  rw [List.length_append, List.length_map, List.length_replicate]
  omega
theorem fn_of {CX : CXT} {P : Program} {w : World} {K : PySem.W.Frag} {mg : Str → Option Value} {base : Heap} {k : Nat} {f : Addr} {name qual : Str} {params : Arguments} {body : List Stmt} {scope : Scope} {dV kV doc pm cdv ct oc : Value} {an od : Option Addr}
  {osl : Array (Option Value)} {N ps : List Str} {sp : Sp} (lk : K.lookup f = some ⟨oc, od, .func (PySem.W.fnOf name qual params body scope dV kV doc pm an cdv ct), osl⟩) (hcd : PySem.W.codeIn K cdv qual = true) (S : FnScope N ps scope)
  (len : ∀ vs H Q E, sp vs H Q E → vs.length = ps.length)
  (hbody : ∀ (A : Around) (outer : List Env) (s : Shared) (H : Hp) (vs : List V) (Q : VK) (E : XK), Room k (A.deeper (envOfC qual scope s.heap.objs.size f cdv)) → sp vs H Q E →
   ∃ t, PSs (cxOf CX P w K mg base N qual scope f cdv A outer s H E) body t ∧ t { nx := fun _ H' => Q .non H', rt := Q } (start N vs) H) :
  FnOk P w K mg base CX (k + 1) f (PySem.W.fnOf name qual params body scope dV kV doc pm an cdv ct) ps sp := by
 refine ⟨len, fun A outer s H args us vs Q E hr e0 hb r hsp => ?_⟩
 have hl := len _ _ _ _ hsp
 have KX : K.In s.heap := e0.mod.kin.keeps fun b o e => (e0.bs b o e).1
 have lim : s.heap.NoLimit := e0.mod.nolimit.keeps fun b o e => (e0.bs b o e).1
 have hkind : ∀ y ∈ ps.zip us, scope.names.lookup y.1 = some .local ∨ (scope.names.lookup y.1 = some .cell ∧ ((cellsFrom (s.heap.objs.size + 1) scope.names []).lookup y.1).isSome = true) := fun ⟨n, v⟩ hy => by
  rcases S.par n (List.of_mem_zip hy).1 with q | q
  ·exact .inl q
  ·exact .inr ⟨q, PySem.W.cellsFrom_some _ _ _ (.inl q)⟩
 refine codeAny_call_function hr.depth (KX _ _ lk) rfl S.co S.gen rfl (PySem.W.codeRec_of KX hcd) (hb _ _ _ _ ?_)
 refine wpAny_newFunctionEnv_cells S.kind hkind fun env he s1 x => ?_
 subst he
 refine ⟨lim.keeps x.toInCall.keep, codeAny_func ?_⟩
 obtain ⟨t, ht, hq⟩ := hbody A outer s H vs Q E (hr.deeper _) hsp
 have I : Inv (cxOf CX P w K mg base N qual scope f cdv A outer s H E) [] (start N vs) H s1 := inv_start S hr.hd e0 hl r x
 refine wpAny_mono (ht [] s1 (start N vs) H _ I hq) (fun fl s' hs => ?_) fun e s' hs => hs
 have fin : ∀ {σ' : St} {H' : Hp} {v : V} {u : Value}, Inv (cxOf CX P w K mg base N qual scope f cdv A outer s H E) [] σ' H' s' → RelV v u → Q v H' → CE outer P w H s Q u s' :=
  fun {σ' H' v u} J rv q => ⟨v, H', J.os, J.bare, J.base, J.hok, rv, q⟩
 cases fl with
 | ret u =>
  obtain ⟨v, σ', H', J, rv, q⟩ := hs
  exact fin J rv q
 | next =>
  obtain ⟨σ', H', J, q⟩ := hs
  exact fin (v := V.non) (u := Value.none) J rfl q
 | brk =>
  obtain ⟨_, _, _, q⟩ := hs
  exact False.elim q
 | cont =>
  obtain ⟨_, _, _, q⟩ := hs
  exact False.elim q
section
variable {X : Cx} {x : Str} {p pos : Pos} {e : Expr} {es : List Expr} {t : TA} {id T : String} {r : List V → Hp → VK → Prop}
def tCB (r : List V → Hp → VK → Prop) (t : TA) : TE := fun σ H Q => t σ H fun vs H1 => r vs H1 Q
theorem pe_callB (hc : CallR X (.builtin id) r) (hg : Gl X x) (hm : X.mg x = none) (hv : bootBuiltins x = some (.builtin id)) (ha : PA X (e :: es) t) (hn : x ≠ "__name__" := by decide) (hdb : (x == ("__debug__" : Str)) = false := by decide)
  (he : starEach (e :: es) X.env = (false, eval e X.env) :: starEach es X.env := by rfl) (hpl : (backTo pos (starEach es X.env)).any (·.1) = false := by rfl) : PE X (.Call (.Name x p) (e :: es) [] pos) (tCB r t) := by
 intro pins s σ H Q I h
 refine wpAny_Call_Name_kw (ld_blt I hg hm hv ?_ hn hdb)
 exact PyProof.Rows.callWith_builtin1 (thn (ha pos pins s σ H _ I h) fun us s1 ⟨vs, H1, I1, r1, q1⟩ => hc pins s1 σ H1 vs us Q I1 r1 q1) he hpl
theorem pe_callTy (hc : CallR X (.type T) r) (hg : Gl X x) (hm : X.mg x = none) (hv : bootBuiltins x = some (.type T)) (ha : PA X (e :: es) t) (hn : x ≠ "__name__" := by decide) (hdb : (x == ("__debug__" : Str)) = false := by decide)
  (he : starEach (e :: es) X.env = (false, eval e X.env) :: starEach es X.env := by rfl) (hpl : (backTo pos (starEach es X.env)).any (·.1) = false := by rfl) : PE X (.Call (.Name x p) (e :: es) [] pos) (tCB r t) := by
 intro pins s σ H Q I h
 refine wpAny_Call_Name_kw (ld_blt I hg hm hv ?_ hn hdb)
 exact PyProof.Rows.callWith_type1 (thn (ha pos pins s σ H _ I h) fun us s1 ⟨vs, H1, I1, r1, q1⟩ => hc pins s1 σ H1 vs us Q I1 r1 q1) he hpl
end
end L2
namespace HT
open PySem PyProof.Rows
def lexLt : List Int → List Int → Bool
 | [], [] => false
 | [], _ :: _ => true
 | _ :: _, [] => false
 | x :: xs, y :: ys => if x = y then lexLt xs ys else decide (x < y)
theorem lexLt_cons (x y : Int) (xs ys : List Int) : lexLt (x :: xs) (y :: ys) = if x = y then lexLt xs ys else decide (x < y) := rfl
theorem lexLt_nil_nil : lexLt [] [] = false := rfl
section
open PySem.SeqAt
open PySem.AutoSeq1 (wpAny_loadPart')
open PySem.MeetsSeq PySem.MeetsSeq2 PySem.MeetsSeq3
end
section
variable {prog : Program} {w : World} {A : Around} {E : Value → Shared → Prop} {s : Shared}
def sIx (n d : Nat) : Option Int → Nat
 | none => d
 | some v => if v < 0 then (v + (n : Int)).toNat else min v.toNat n
theorem sIx_none (n d : Nat) : sIx n d none = d := rfl
theorem sIx_nat (n d k : Nat) : sIx n d (some (k : Int)) = min k n := by
 show (if (k : Int) < 0 then ((k : Int) + (n : Int)).toNat else min (k : Int).toNat n) = min k n
 rw [if_neg (by omega), Int.toNat_natCast]
end
end HT
namespace L2
open PySem PySem.Spec PyProof.Rows
abbrev TO := St → Hp → (Option Int → Hp → Prop) → Prop
def PO (X : Cx) (e : Option Expr) (t : TO) : Prop :=
 ∀ (pins : List (Addr × Obj)) (s : Shared) (σ : St) (H : Hp) (Q : Option Int → Hp → Prop), Inv X pins σ H s → t σ H Q →
  wpAny (model X.prog X.w) X.A (evalPart e X.env) (fun u s' => ∃ o H', Inv X pins σ H' s' ∧ IsPart u o ∧ Q o H') X.xe s
def tNoPart : TO := fun _ H Q => Q none H
def tPart (t : TE) : TO := fun σ H Q => t σ H fun x H1 => ∃ i, x = .int i ∧ Q (some i) H1
theorem intsAre_of {ns : List Int} : ∀ {us : List Value}, Vals (ns.map V.int) us → IntsAre us ns := by
 induction ns with
 | nil => intro us r; rw [List.map_nil] at r; cases r; exact .nil
 | cons n ns ih =>
  intro us r
  rw [List.map_cons] at r
  cases r with
  | cons r1 r2 =>
   obtain ⟨t, e⟩ := r1
   subst e
   exact .cons n t (ih r2)
section
variable {X : Cx} {e : Expr} {te : TE} {lo hi : Option Expr} {tl th : TO} {pos p2 : Pos}
theorem po_none : PO X none tNoPart := by
 intro pins s σ H Q I h
 rw [evalPart_none]
 exact wpAny_pure ⟨none, H, I, .none, h⟩
theorem po_some (h : PE X e te) : PO X (some e) (tPart te) := by
 intro pins s σ H Q I hw
 rw [evalPart_some]
 refine thn (h pins s σ H _ I hw) fun u s1 ⟨x, H1, I1, r1, q1⟩ => ?_
 obtain ⟨i, rfl, q⟩ := q1
 obtain ⟨t, rfl⟩ := r1
 exact ⟨some i, H1, I1, .int i t, q⟩
def SlR (X : Cx) (r : V → Option Int → Option Int → Hp → VK → Prop) : Prop :=
 ∀ (pins : List (Addr × Obj)) (s : Shared) (σ : St) (H : Hp) (x : V) (v vl vu : Value) (lo hi : Option Int) (sl : Addr) (Q : VK), Inv X pins σ H s → RelV x v → s.heap.IsSliceOf sl vl vu .none → IsPart vl lo → IsPart vu hi → r x lo hi H Q →
  ∃ T id, typeLookup (.type T) "__getitem__" = pure (some (.builtin id)) ∧ s.TypeIs v T ∧ wpAny (model X.prog X.w) X.A (getItem v (.ref sl)) (EP X pins σ Q) X.xe s
def tSl (r : V → Option Int → Option Int → Hp → VK → Prop) (te : TE) (tl th : TO) : TE := fun σ H Q => te σ H fun x H1 => tl σ H1 fun l H2 => th σ H2 fun u H3 => r x l u H3 Q
theorem pe_slice {r : V → Option Int → Option Int → Hp → VK → Prop} (hr : SlR X r) (he : PE X e te) (hl : PO X lo tl) (hu : PO X hi th) : PE X (.Subscript e (.Slice lo hi none p2) pos) (tSl r te tl th) := by
 intro pins s σ H Q I h
 refine Subscript_ (thn (he pins s σ H _ I h) fun v s1 ⟨x, H1, I1, r1, q1⟩ => ?_)
 refine wpAny_Slice (thn (hl pins s1 σ H1 _ I1 q1) fun vl s2 ⟨l, H2, I2, pl, q2⟩ => thn (hu pins s2 σ H2 _ I2 q2) fun vu s3 ⟨u, H3, I3, pu, q3⟩ => ?_)
 rw [evalPart_none]
 refine wpAny_pure ?_
 have I4 : Inv X pins σ H3 { s3 with heap := s3.heap.push { cls := .type "slice", data := .fields #[vl, vu, .none] } } := I3.kept (t' := s3.toks) fun b ob q => Heap.get?_push_of_some _ q
 obtain ⟨T, id, hT, ht, hg⟩ := hr pins { s3 with heap := s3.heap.push { cls := .type "slice", data := .fields #[vl, vu, .none] } } σ H3 x v vl vu l u s3.heap.objs.size Q I4 r1 (Heap.IsSliceOf.new ..) pl pu q3
 show wpAny (model X.prog X.w) X.A (subscriptTail e (.Slice lo hi none p2) v (.ref s3.heap.objs.size)) (EP X pins σ Q) X.xe { s3 with heap := s3.heap.push { cls := .type "slice", data := .fields #[vl, vu, .none] } }
 exact tail_any (ops := [.ref s3.heap.objs.size, v]) ht hT hg (by with_unfolding_all rfl)
def cutV (xs : List V) (lo hi : Option Int) : List V := (xs.drop (HT.sIx xs.length 0 lo)).take (HT.sIx xs.length xs.length hi - HT.sIx xs.length 0 lo)
theorem cutV_length (xs : List V) (lo hi : Option Int) : (cutV xs lo hi).length ≤ xs.length := by
 unfold cutV
 rw [List.length_take, List.length_drop]
 omega
end
def ixN (n : Nat) (i : Int) : Option Nat := if 0 ≤ i then (if i < n then some i.toNat else none) else if -(n : Int) ≤ i then some (i + n).toNat else none
def atI {α : Type} (xs : List α) (i : Int) : Option α := (ixN xs.length i).bind fun j => xs[j]?
theorem ixN_seq {n : Nat} {i : Int} {j : Nat} (h : ixN n i = some j) : seqIndex? i n = some j ∧ j < n ∧ -(n : Int) ≤ i ∧ i < n := by
 unfold ixN at h
 by_cases h0 : 0 ≤ i
 ·rw [if_pos h0] at h
  by_cases h1 : i < n
  ·rw [if_pos h1] at h
   have e : i.toNat = j := Option.some.inj h
   exact ⟨by rw [seqIndex_of h0 h1, e], by omega, by omega, h1⟩
  ·rw [if_neg h1] at h; cases h
 ·rw [if_neg h0] at h
  by_cases h1 : -(n : Int) ≤ i
  ·rw [if_pos h1] at h
   have e : (i + n).toNat = j := Option.some.inj h
   exact ⟨by rw [seqIndex_neg (by omega) h1, e], by omega, h1, by omega⟩
  ·rw [if_neg h1] at h; cases h
theorem atI_get {α : Type} {xs : List α} {i : Int} {v : α} (h : atI xs i = some v) : ∃ j, seqIndex? i xs.length = some j ∧ xs[j]? = some v ∧ j < xs.length ∧ -(xs.length : Int) ≤ i ∧ i < xs.length := by
 unfold atI at h
 cases e : ixN xs.length i with
 | none => rw [e] at h; cases h
 | some j =>
  rw [e] at h
  obtain ⟨h1, h2, h3, h4⟩ := ixN_seq e
  exact ⟨j, h1, h, h2, h3, h4⟩
theorem atI_nat {α : Type} {xs : List α} {j : Nat} {v : α} (h : xs[j]? = some v) : atI xs (j : Int) = some v := by
 have hj : j < xs.length := (List.getElem?_eq_some_iff.mp h).1
 have e : ixN xs.length (j : Int) = some j := by
  unfold ixN
  rw [if_pos (by omega), if_pos (by omega)]; simp
 unfold atI; rw [e]; exact h
theorem atI_last {α : Type} (xs : List α) (v : α) : atI (xs ++ [v]) (-1) = some v := by
 have hl : (xs ++ [v]).length = xs.length + 1 := by simp
 have e : ixN (xs ++ [v]).length (-1) = some xs.length := by
  unfold ixN
  rw [hl, if_neg (by decide), if_pos (by omega)]
  congr 1
  omega
 unfold atI
 rw [e]
 show (xs ++ [v])[xs.length]? = some v
 simp
def PlainIx (b : Expr) : Prop := ∀ o i, subscripted b false o i = operate [o, i] (getItem o i)
def IxR (X : Cx) (r : R2) : Prop :=
 ∀ (value slice : Expr) (pins : List (Addr × Obj)) (s : Shared) (σ : St) (H : Hp) (x y : V) (v u : Value) (Q : VK), Inv X pins σ H s → RelV x v → RelV y u → r x y H Q →
  subscripted slice false v u = operate [v, u] (getItem v u) → wpAny (model X.prog X.w) X.A (subscriptTail value slice v u) (EP X pins σ Q) X.xe s
def MtR (X : Cx) (id : String) (r : V → List V → Hp → VK → Prop) : Prop :=
 ∀ (pins : List (Addr × Obj)) (s : Shared) (σ : St) (H : Hp) (x : V) (xs : List V) (v : Value) (us : List Value) (Q : VK), Inv X pins σ H s → RelV x v → Vals xs us → r x xs H Q →
  wpAny (model X.prog X.w) X.A (call (.builtin id) (v :: us)) (EP X pins σ Q) X.xe s
section
variable {X : Cx} {a b : Expr} {ta tb : TE} {pos : Pos}
theorem IxR.or {r r' : R2} (h : IxR X r) (h' : IxR X r') : IxR X (fun x y H Q => r x y H Q ∨ r' x y H Q) := by
 intro value slice pins s σ H x y v u Q I rx ry q hs
 rcases q with q | q
 ·exact h value slice pins s σ H x y v u Q I rx ry q hs
 ·exact h' value slice pins s σ H x y v u Q I rx ry q hs
theorem pe_ix {r : R2} (hr : IxR X r) (ha : PE X a ta) (hb : PE X b tb) (hs : PlainIx b) : PE X (.Subscript a b pos) (tOp r ta tb) := by
 intro pins s σ H Q I h
 exact Subscript_ (binT ha hb I h fun v u s2 x y H2 I2 rx ry q => hr a b pins s2 σ H2 x y v u Q I2 rx ry q (hs _ _))
def rIxL (K : PySem.W.Frag) : R2 := fun x y H Q => ∃ p xs i v, x = .ref p ∧ y = .int i ∧ SqL K H p xs ∧ atI xs i = some v ∧ Q v H
def rIxT (K : PySem.W.Frag) : R2 := fun x y H Q => ∃ p xs i v, x = .ref p ∧ y = .int i ∧ SqT K H p xs ∧ atI xs i = some v ∧ Q v H
theorem ix_list : IxR X (rIxL X.K) := by
 intro value slice pins s σ H x y v u Q I rx ry h hs
 obtain ⟨p, xs, i, z, rfl, rfl, hq, he, q⟩ := h
 cases rx
 obtain ⟨t, rfl⟩ := ry
 obtain ⟨its, r, pl, hz⟩ := I.list hq
 obtain ⟨j, h1, h2, h3, h4, h5⟩ := atI_get he
 obtain ⟨w, ew, rw'⟩ := r.get h2
 have hl := r.length
 have hn := line63
 have fin : EP X pins σ Q w s := ⟨z, H, I, rw', q⟩
 by_cases h0 : 0 ≤ i
 ·have hj : i.toNat = j := by
   rw [seqIndex_of h0 h5] at h1
   exact Option.some.inj h1
  exact item_listR pl.isList h0 (by omega) (by rw [hj]; simpa using ew) fin hs
 ·have hj : (i + (its.toArray.size : Int)).toNat = j := by
   rw [seqIndex_neg (by omega) h4] at h1
   rw [List.size_toArray, ← hl]
   exact Option.some.inj h1
  exact subscriptTail_builtinR (x := w) pl.isList.typeIs slot_list_getitem.lookup
   (wpAny_getItem_list_neg (Q := fun r s' => r = w ∧ EP X pins σ Q r s') pl.isList (by omega) (by rw [List.size_toArray] <;> omega) (by omega) (by rw [hj]; simpa using ew) ⟨rfl, fin⟩) hs
theorem ix_tup : IxR X (rIxT X.K) := by
 intro value slice pins s σ H x y v u Q I rx ry h hs
 obtain ⟨p, xs, i, z, rfl, rfl, hq, he, q⟩ := h
 cases rx
 obtain ⟨t, rfl⟩ := ry
 obtain ⟨its, r, pl, hz⟩ := I.tuple hq
 obtain ⟨j, h1, h2, h3, h4, h5⟩ := atI_get he
 obtain ⟨w, ew, rw'⟩ := r.get h2
 have hl := r.length
 have hn := line63
 have fin : EP X pins σ Q w s := ⟨z, H, I, rw', q⟩
 exact subscriptTail_builtinR (x := w) pl.typeIs slot_tuple_getitem.lookup
  (getItem_tuple (j := j) (Q := fun r s' => r = w ∧ EP X pins σ Q r s') pl (by omega) (by omega) (by rw [List.size_toArray, ← hl]; exact h1) (by simpa using ew) ⟨rfl, fin⟩) hs
theorem slice_bounds (lo hi : Option Int) (n : Nat) : (sliceBounds lo hi none n).1 = ((HT.sIx n 0 lo : Nat) : Int) ∧ (sliceBounds lo hi none n).2.1 = ((HT.sIx n n hi : Nat) : Int) ∧ (sliceBounds lo hi none n).2.2 = 1 := by
 refine ⟨?_, ?_, rfl⟩
 ·cases lo with
  | none => simp [sliceBounds, HT.sIx]
  | some i =>
   simp only [sliceBounds, HT.sIx, Option.getD_none, show (1 : Int) > 0 by decide, if_true]
   by_cases h : i < 0
   ·simp only [h, if_true] <;> omega
   ·simp only [h, if_false] <;> omega
 ·cases hi with
  | none => simp [sliceBounds, HT.sIx]
  | some i =>
   simp only [sliceBounds, HT.sIx, Option.getD_none, show (1 : Int) > 0 by decide, if_true]
   by_cases h : i < 0
   ·simp only [h, if_true] <;> omega
   ·simp only [h, if_false] <;> omega
theorem slicePick_cut (its : List Value) (lo hi : Option Int) : slicePick its.toArray lo hi none = ((its.drop (HT.sIx its.length 0 lo)).take (HT.sIx its.length its.length hi - HT.sIx its.length 0 lo)).toArray := by
 obtain ⟨h1, h2, h3⟩ := slice_bounds lo hi its.toArray.size
 unfold slicePick
 rw [h1, h2, h3]
 simp only [sliceRange_one, pick_run, List.size_toArray] <;> rfl
def rSlL (K : PySem.W.Frag) : V → Option Int → Option Int → Hp → VK → Prop := fun x lo hi H Q => ∃ a xs, x = .ref a ∧ SqL K H a xs ∧ ∀ p, H p = none → Q (.ref p) (upd H p (.lst (cutV xs lo hi)))
theorem sl_list : SlR X (rSlL X.K) := by
 intro pins s σ H x v vl vu lo hi sl Q I rx hs pl pu h
 obtain ⟨a, xs, rfl, hx, q⟩ := h
 cases rx
 obtain ⟨its, r, ht, hz⟩ := I.list hx
 have hlen := r.length
 refine ⟨"list", _, slot_list_getitem.lookup, ht.isList.typeIs, ?_⟩
 refine wpAny_getItem_list_slice ht.isList hs pl pu .none (by simp) ?_ (by rw [List.size_toArray] <;> omega)
 rw [slicePick_cut, ← hlen]
 refine ⟨.ref s.heap.objs.size, _, I.laid (t' := s.toks) (o := .lst (cutV xs lo hi)) (fun b ob q => Heap.get?_push_of_some _ q) (Nat.le_refl _) ?_, rfl, q _ (I.hok.fresh (Nat.le_refl _))⟩
 exact ⟨Nat.le_trans (cutV_length xs lo hi) hz, _, 0, (r.drop (HT.sIx xs.length 0 lo)).take (HT.sIx xs.length xs.length hi - HT.sIx xs.length 0 lo), Heap.get?_push_size _ rfl⟩
theorem call_len_seq : CallR X (.builtin "len") (fun xs H Q => ∃ p ys, xs = [.ref p] ∧ (SqL X.K H p ys ∨ SqT X.K H p ys) ∧ Q (.int ys.length) H) := by
 intro pins s σ H xs us Q I r h
 obtain ⟨p, ys, rfl, hq, q⟩ := h
 obtain ⟨u, rfl, rx⟩ := vals1 r
 cases rx
 have hn := line63
 rcases hq with hq | hq
 ·obtain ⟨its, r', pl, hz⟩ := I.list hq
  have hlen := r'.length
  exact Calls.call_len_list pl.isList (by simp only [List.size_toArray] <;> omega) ⟨.int ys.length, H, I.tok _, ⟨s.toks + 1, by rw [List.size_toArray, hlen]⟩, q⟩
 ·obtain ⟨its, r', pl, hz⟩ := I.tuple hq
  have hlen := r'.length
  exact len_tuple pl (by simp only [List.size_toArray] <;> omega) ⟨.int ys.length, H, I.tok _, ⟨s.toks + 1, by rw [List.size_toArray, hlen]⟩, q⟩
theorem call_list_of : CallR X (.type "list") (fun xs H Q => ∃ p ys, xs = [.ref p] ∧ (SqL X.K H p ys ∨ SqT X.K H p ys) ∧ ∀ l, H l = none → Q (.ref l) (upd H l (.lst ys))) := by
 intro pins s σ H xs us Q I r h
 obtain ⟨p, ys, rfl, hq, q⟩ := h
 obtain ⟨u, rfl, rx⟩ := vals1 r
 cases rx
 have fin : ∀ (its : List Value), Vals ys its → ys.length ≤ sizeLine → ∀ (h' : Heap) (c' : Nat), (∀ b o', s.heap.get? b = some o' → h'.get? b = some o') →
   h'.get? s.heap.objs.size = some { cls := .type "list", dict := none, data := .seq its.toArray c', slots := #[] } → EP X pins σ Q (.ref s.heap.objs.size) { s with heap := h' } := fun its r' hz h' c' kp e =>
  ⟨.ref s.heap.objs.size, _, I.laid (t' := s.toks) kp (Nat.le_refl _) (show ObjOk X.prog X.w _ h' _ (.lst ys) from ⟨hz, its, c', r', e⟩), rfl, q _ (I.hok.fresh (Nat.le_refl _))⟩
 rcases hq with hq | hq
 ·obtain ⟨its, r', pl, hz⟩ := I.list hq
  have hlen := r'.length
  obtain ⟨o, ho, hc, n, hd⟩ := pl.isList
  exact call_list_seq p (.inl rfl) ho hc hd (fun h' c' kp e => fin its r' hz h' c' kp e) (by simp only [List.size_toArray] <;> omega)
 ·obtain ⟨its, r', pl, hz⟩ := I.tuple hq
  have hlen := r'.length
  obtain ⟨o, ho, hc, n, hd⟩ := pl
  exact call_list_seq p (.inr rfl) ho hc hd (fun h' c' kp e => fin its r' hz h' c' kp e) (by simp only [List.size_toArray] <;> omega)
def tyV (K : PySem.W.Frag) (T : String) (x : V) (H : Hp) : Prop := match x with
 | .str _ => T = "str"
 | .int _ => T = "int"
 | .ref p => (T = "list" ∧ ∃ xs, SqL K H p xs) ∨ (T = "tuple" ∧ ∃ o, K.lookup p = some o ∧ o.cls = .type "tuple" ∧ o.dict = none) ∨
   (T = "dict" ∧ ((∃ kvs, H p = some (.dK kvs)) ∨ ∃ kvs, H p = some (.dT kvs))) ∨ (T = "set" ∧ ∃ S n, H p = some (.set S n))
 | _ => False
theorem tyV_is {pins : List (Addr × Obj)} {σ : St} {H : Hp} {s : Shared} {T : String} {x : V} {v : Value} (I : Inv X pins σ H s) (r : RelV x v) (ty : tyV X.K T x H) :
  s.TypeIs v T ∧ ∀ a, v = .ref a → ∃ ob, s.heap.get? a = some ob ∧ ob.dict = none := by
 cases x with
 | str z =>
  obtain ⟨t, rfl⟩ := r
  cases (show T = "str" from ty)
  exact ⟨typeIs_str s z t, fun _ e => nomatch e⟩
 | int i =>
  obtain ⟨t, rfl⟩ := r
  cases (show T = "int" from ty)
  exact ⟨typeIs_int s i t, fun _ e => nomatch e⟩
 | ref p =>
  cases r
  rcases ty with ⟨rfl, xs, hq⟩ | ⟨rfl, o, hk, hc, hd⟩ | ⟨rfl, hk⟩ | ⟨rfl, S, n, hk⟩
  ·obtain ⟨its, _, pl, _⟩ := I.list hq
   refine ⟨pl.isList.typeIs, fun a e => ?_⟩
   cases e
   obtain ⟨o, n, e, c, hd, _⟩ := pl
   exact ⟨o, e, hd⟩
  ·refine ⟨⟨o, I.kIn p o hk, hc⟩, fun a e => ?_⟩
   cases e
   exact ⟨o, I.kIn _ o hk, hd⟩
  ·have z : ∃ o, s.heap.get? p = some o ∧ o.ExactDict := by
    rcases hk with ⟨kvs, hk⟩ | ⟨kvs, hk⟩
    ·obtain ⟨_, _, _, _, o, _, _, e, ex, _⟩ := I.hok p _ hk
     exact ⟨o, e, ex⟩
    ·obtain ⟨_, _, _, _, o, _, _, e, ex, _⟩ := I.hok p _ hk
     exact ⟨o, e, ex⟩
   obtain ⟨o, e, ex⟩ := z
   refine ⟨⟨o, e, ex.1⟩, fun a e2 => ?_⟩
   cases e2
   exact ⟨o, e, ex.2.1⟩
  ·obtain ⟨o, _, _, _, e, ex, _⟩ := I.hok p _ hk
   refine ⟨⟨o, e, ex.1⟩, fun a e2 => ?_⟩
   cases e2
   exact ⟨o, e, ex.2.1⟩
 | _ => exact False.elim ty
def tBM0 (K : PySem.W.Frag) (T : String) (r : V → List V → Hp → VK → Prop) (to : TE) : TE := fun σ H Q => to σ H fun x H1 => tyV K T x H1 ∧ r x [] H1 Q
def tBM (K : PySem.W.Frag) (T : String) (r : V → List V → Hp → VK → Prop) (to : TE) (t : TA) : TE := fun σ H Q => to σ H fun x H1 => tyV K T x H1 ∧ t σ H1 fun xs H2 => r x xs H2 Q
variable {o e : Expr} {es : List Expr} {to : TE} {t : TA} {name : Str} {apos cpos : Pos} {T id : String} {r : V → List V → Hp → VK → Prop}
theorem pe_bm0 (pa : PlainAttrs T) (slot : Slot T name id) (hty : typeOf (.builtin id) = pure (.type "method_descriptor")) (hm : MtR X id r) (ho : PE X o to)
  (hbase : attributeBase o name X.env (eval o X.env) = eval o X.env := by rfl) (hline : (apos.endLine == cpos.line) = true := by rfl) : PE X (.Call (.Attribute o name apos) [] [] cpos) (tBM0 X.K T r to) := by
 intro pins s σ H Q I h
 refine wpAny_Call_method0_late hbase hline (thn (ho pins s σ H _ I h) fun v s1 ⟨x, H1, I1, r1, ty, q1⟩ => ?_)
 obtain ⟨h1, h2⟩ := tyV_is I1 r1 ty
 exact ⟨T, id, pa, slot, hty, h1, h2, Calls.callWith_builtin rfl (PySem.evalArgs_none (hm pins s1 σ H1 x [] v [] Q I1 r1 .nil q1))⟩
theorem pe_bm (pa : PlainAttrs T) (slot : Slot T name id) (hty : typeOf (.builtin id) = pure (.type "method_descriptor")) (hm : MtR X id r) (ho : PE X o to) (ha : PA X (e :: es) t)
  (hbase : attributeBase o name X.env (eval o X.env) = eval o X.env := by rfl)
  (hfew : ((backTo cpos (starEach (e :: es) X.env)).all (fun x => !x.1) && (backToKw cpos (keywordEach [] X.env)).all (fun x => x.1.isSome)
   && decide ((e :: es).length + ([] : List Keyword).length + (if ([] : List Keyword).isEmpty then 0 else 1) < 30)) = true := by rfl)
  (hline : (apos.endLine == cpos.line) = true := by rfl) (hs : starEach (e :: es) X.env = (false, eval e X.env) :: starEach es X.env := by rfl) (hplain : (backTo cpos (starEach es X.env)).any (·.1) = false := by rfl) :
  PE X (.Call (.Attribute o name apos) (e :: es) [] cpos) (tBM X.K T r to t) := by
 intro pins s σ H Q I h
 refine wpAny_Call_method_late hbase hfew hline rfl (thn (ho pins s σ H _ I h) fun v s1 ⟨x, H1, I1, r1, ty, q1⟩ => ?_)
 obtain ⟨h1, h2⟩ := tyV_is I1 r1 ty
 refine ⟨T, id, pa, slot, hty, h1, h2, ?_⟩
 have hA := ha cpos pins s1 σ H1 _ I1 q1
 rw [hs] at hA ⊢
 refine Calls.callWith_builtin (by show (false || (backTo cpos (starEach es X.env)).any (·.1)) = false; rw [hplain] <;> rfl) (Calls.evalArgs_plain ?_)
 exact thn hA fun us s2 ⟨vs, H2, I2, r2, q2⟩ => hm pins s2 σ H2 x vs v us Q I2 r1 r2 q2
end
def MtM (X : Cx) (id : String) (r : V → List V → Hp → VK → Prop) : Prop :=
 ∀ (pins : List (Addr × Obj)) (s : Shared) (σ : St) (H : Hp) (x : V) (xs : List V) (v : Value) (us : List Value) (Q : VK), Inv X pins σ H s → RelV x v → Vals xs us → r x xs H Q →
  wpAny (model X.prog X.w) X.A (call (.builtin id) (v :: us)) (EP X pins σ Q) X.xe s
theorem Vals.one : ∀ {x : V} {us : List Value}, Vals [x] us → ∃ u, us = [u] ∧ RelV x u
 | _, _, .cons r .nil => ⟨_, rfl, r⟩
theorem Vals.zero : ∀ {us : List Value}, Vals [] us → us = []
 | _, .nil => rfl
theorem Vals.dropLast {xs : List V} {us : List Value} (h : Vals xs us) : Vals xs.dropLast us.dropLast := by
 induction h with
 | nil => exact .nil
 | cons r t ih =>
  cases t with
  | nil => exact .nil
  | cons q t' => exact .cons r ih
theorem erase_last {α : Type} (l : List α) : l.eraseIdx (l.length - 1) = l.dropLast := by
 induction l with
 | nil => rfl
 | cons a r ih =>
  cases r with
  | nil => rfl
  | cons b r =>
   have e : (a :: b :: r).length - 1 = ((b :: r).length - 1) + 1 := by
    have h1 : (a :: b :: r).length = r.length + 2 := rfl
    have h2 : (b :: r).length = r.length + 1 := rfl
    omega
   rw [e, List.eraseIdx_cons_succ, ih]
   all_goals rfl
section
variable {X : Cx} {pins : List (Addr × Obj)} {σ : St} {H : Hp} {s : Shared} {l b : Addr} {xs ys zs : List V}
theorem Inv.lset {its its' : List Value} {n : Nat} {f : Array Value → Array Value} {t' : Nat} (I : Inv X pins σ H s) (hH : H l = some (.lst xs))
  (e : s.heap.get? l = some { cls := .type "list", data := .seq its.toArray n }) (hf : f its.toArray = its'.toArray) (hv : Vals ys its') (hz : ys.length ≤ sizeLine) :
  Inv X pins σ (upd H l (.lst ys)) { s with heap := s.heap.update l (Obj.mapSeq f), toks := t' } := by
 have q := PySem.IsL.update e f
 rw [hf] at q
 refine I.write (x := l) (e := l) (by rw [hH]; exact trivial) (.inl rfl) (fun b' u hb hu => (Heap.get?_update_other s.heap (Obj.mapSeq f) (Ne.symm hb)).trans hu) ⟨_, q⟩ ?_
 exact ⟨hz, its', _, hv, q⟩
theorem Inv.lnew {its : List Value} {t' : Nat} (I : Inv X pins σ H s) (hv : Vals ys its) (hz : ys.length ≤ sizeLine) :
  Inv X pins σ (upd H s.heap.objs.size (.lst ys)) { s with heap := s.heap.push { cls := .type "list", data := .seq its.toArray }, toks := t' } :=
 I.laid (fun _ _ q => Heap.get?_push_of_some _ q) (Nat.le_refl _) ⟨hz, its, 0, hv, Heap.get?_push_size _ rfl⟩
theorem Inv.fresh (I : Inv X pins σ H s) : H s.heap.objs.size = none := I.hok.fresh (Nat.le_refl _)
theorem Inv.lstM (I : Inv X pins σ H s) (hH : H l = some (.lst xs)) : xs.length ≤ sizeLine ∧ ∃ (its : List Value) (n : Nat), Vals xs its ∧ xs.length = its.length ∧ s.heap.get? l = some { cls := .type "list", data := .seq its.toArray n } := by
 obtain ⟨z, its, n, r, e⟩ := I.hok l _ hH
 exact ⟨z, its, n, r, r.length, e⟩
end
section
variable {X : Cx}
def rAppend : V → List V → Hp → VK → Prop := fun x vs H Q => ∃ l xs y, x = .ref l ∧ vs = [y] ∧ H l = some (.lst xs) ∧ xs.length < sizeLine ∧ Q .non (upd H l (.lst (xs ++ [y])))
theorem mt_append : MtM X "list.append" rAppend := by
 intro pins s σ H x vs v us Q I rx rv h
 obtain ⟨l, xs, y, rfl, rfl, hH, hz, q⟩ := h
 cases rx
 obtain ⟨u, rfl, ru⟩ := rv.one
 obtain ⟨z, its, n, r, hl, e⟩ := I.lstM hH
 refine call_meets F.slot_list_append ⟨_, e, rfl⟩ F.entry_list_append (F.args_list_append_2 _ _) (PySem.list_append l its.toArray n u (by rw [List.size_toArray]; omega)) ⟨e, ?_⟩
 refine ⟨.non, _, I.lset (its' := its ++ [u]) hH e (by simp) (r.append (.cons ru .nil)) ?_, rfl, q⟩
 rw [List.length_append, List.length_singleton]
 omega
def rPop : V → List V → Hp → VK → Prop := fun x vs H Q => ∃ l xs y, x = .ref l ∧ vs = [] ∧ H l = some (.lst xs) ∧ xs[xs.length - 1]? = some y ∧ Q y (upd H l (.lst xs.dropLast))
theorem mt_pop : MtM X "list.pop" rPop := by
 intro pins s σ H x vs v us Q I rx rv h
 obtain ⟨l, xs, y, rfl, rfl, hH, hy, q⟩ := h
 cases rx
 have hus := rv.zero
 subst hus
 obtain ⟨z, its, n, r, hl, e⟩ := I.lstM hH
 obtain ⟨u, hu, ru⟩ := r.get hy
 have hy' : its.toArray[its.toArray.size - 1]? = some u := by
  show its.toArray[its.length - 1]? = some u
  rw [← Array.getElem?_toList, ← hl]
  exact hu
 refine call_meets F.slot_list_pop ⟨_, e, rfl⟩ F.entry_list_pop (F.args_list_pop_1 _) (MeetsSeq.list_pop_last l its.toArray n u hy' (by rw [List.size_toArray]; omega)) ⟨e, ?_⟩
 refine ⟨y, _, I.lset (its' := its.dropLast) hH e ?_ r.dropLast ?_, ru, q⟩
 ·show its.toArray.eraseIdxIfInBounds (its.toArray.size - 1) = its.dropLast.toArray
  rw [List.size_toArray, List.eraseIdxIfInBounds_toArray, erase_last]
 ·rw [List.length_dropLast]
  omega
end
section
variable {prog : Program} {w : World} {A : Around} {E : Value → Shared → Prop} {s : Shared}
set_option maxRecDepth 100000 in
end
section
variable {X : Cx}
end
section
variable {κ : Type} [DecidableEq κ]
end
section
variable {P : Program} {w : World} {H : Hp} {h : Heap} {a : Addr}
end
section
variable {X : Cx} {pins : List (Addr × Obj)} {σ : St} {H : Hp} {s : Shared} {a : Addr} {y v : V} {u r : Value} {o : Option V} {A : Around} {E : Value → Shared → Prop}
end
section
variable {X : Cx} {pins : List (Addr × Obj)} {σ : St} {H : Hp} {s : Shared} {a : Addr} {kvs : List (Key × V)} {k : Key} {u : Value} {A : Around} {E : Value → Shared → Prop}
end
section
variable {X : Cx} {o i e value : Expr} {pos pos' tpos : Pos} {td ty tv : TE}
end
section
variable {X : Cx} {pos : Pos}
end
section
variable {X : Cx} {pins : List (Addr × Obj)} {σ : St} {H : Hp} {s : Shared} {a : Addr} {y d : V} {u r : Value} {o : Option V} {A : Around} {E : Value → Shared → Prop}
end
section
variable {X : Cx} {o e f : Expr} {apos cpos : Pos} {td ty tx : TE}
end
section
variable {X : Cx} {pins : List (Addr × Obj)} {σ : St} {H : Hp} {s : Shared} {a : Addr} {kvs : List (Key × V)} {A : Around} {E : Value → Shared → Prop}
end
section
variable {X : Cx} {pins : List (Addr × Obj)} {σ : St} {H : Hp} {s : Shared} {a : Addr} {y : V} {u : Value} {A : Around} {E : Value → Shared → Prop}
end
end L2
namespace Att
open PySem PySem.W PySem.Calls PyProof.Rows
theorem ints_of_wellAll {P : Params} {h : Heap} : ∀ (ns : List Int) (vs : List Value), WellAll P h vs (ns.map WData.int) → IntsAre vs ns := by
 intro ns
 induction ns with
 | nil =>
  intro vs w
  rw [List.map_nil] at w
  cases w
  exact .nil
 | cons n ns ih =>
  intro vs w
  rw [List.map_cons] at w
  cases w with
  | cons a b =>
   cases a
   exact .cons _ _ (ih _ b)
theorem script_of {l : OpenLaw} {n : Nat} (hn : l.most = some n) {P : Params} {h : Heap} {args : List WData} {vals : List Value}
  (hpre : l.row.toRowW.claim.pre args = true) (hwl : WellAll P h vals args) :
  ∃ a vs ns, vals = [Value.ref a] ∧ args = [WData.list (ns.map WData.int)] ∧ h.get? a = some { cls := .type "list", data := .seq vs.toArray } ∧ IntsAre vs ns ∧ ns.length ≤ n := by
 have hsh : WShape.hasAll [] args [.list .int] = true := (pre_splitW hpre).1
 have hc : l.pre.holds [] { args := args } = true := (pre_splitW hpre).2
 obtain ⟨d, r, rfl, h1, h2⟩ := hasAllW_cons hsh
 obtain rfl := hasAllW_nil h2
 obtain ⟨xs, rfl, h3⟩ := hasW_list h1
 obtain ⟨ns, rfl⟩ := items_int h3
 have hlen : ns.length ≤ n := by
  unfold OpenLaw.pre at hc
  have h4 : (WTm.not (.lt (.lit (.int (n : Int))) (.len (.arg 0)))).holds [] { args := [.list (ns.map .int)] } = true := by
   have h4 := (holds_andW hc).1
   rw [hn] at h4
   exact h4
  have h5 := condW_of h4 (w_not (w_lt w_lit (w_len_list (w_arg rfl))))
  rw [List.length_map] at h5
  refine Nat.le_of_not_lt fun q => ?_
  have q' : (n : Int) < ((ns.length : Nat) : Int) := by omega
  first
   | (rw [decide_eq_true q'] at h5; exact absurd h5 (by decide))
   | (simp at h5; omega)
 cases hwl with
 | cons w1 w2 =>
  cases w2
  cases w1 with
  | list ho hall => exact ⟨_, _, ns, rfl, rfl, ho, ints_of_wellAll ns _ hall, hlen⟩
theorem post_true (l : OpenLaw) (args : List WData) : l.row.toRowW.claim.post args (.bool true) args = true :=
 postW_of (r := l.row.toRowW) (X := (true == true))
  (show WShape.has [] (.bool true) .bool = true by first | rfl | decide | simp [WShape.has, WShape.arms, WShape.armsAll])
  (show (WTm.eq .res (.lit (.bool true))).value [] { args := args, res := some (.bool true), after := args } = some (.bool (true == true)) from w_eq_bool (w_res rfl) w_lit) rfl
theorem attach_call {l : OpenLaw} {n : Nat} {q : Program} {loose : List Str} {XP : (Str → Option Value) → Heap → Prop} {YP : World → Heap → Prop} {d : DefRec}
  (hn : l.most = some n) (hdf : d.params.defaults = [])
  (call : ∀ (w : World) (s₀ s₁ : Shared) (mg mb : Str → Option Value) (fa : Addr) (o : Obj) (pm cd doc : Value) (a : Addr) (vs : List Value) (ns : List Int),
   Ground q loose [] XP w s₀ mg mb s₁.heap → YP w s₁.heap →
   s₁.heap.get? fa = some o → o.data = .func (docDef d.name d.params d.body d.scope pm cd doc) → s₁.heap.CodeRec cd d.name → mg d.name = some (.ref fa) →
   s₁.heap.get? a = some { cls := .type "list", data := .seq vs.toArray } → IntsAre vs ns → ns.length ≤ n → s₁.gens = #[] →
   codeAny (model l.prog w) callerA (.call (.ref fa) ⟨[.ref a], []⟩) (fun r s' => r = .ok (.ret (.bool true)) ∧ OldK s₁.heap s'.heap ∧ s'.os = s₁.os ∧ AllBare s'.gens) s₁) :
  WalkO q loose XP YP l.row.toRowW d [] (fun f vs => PySem.call f vs) := by
 intro w s₀ s₁ mg mb G Y fa o pm cd doc dV kV ho hd hcd hD hmg hg args vals as hpre hlay hrd hwl hlo
 obtain rfl : dV = .none := Dflts.none hD hdf
 obtain rfl : kV = .none := Dflts.noKw hD
 obtain ⟨a, vs, ns, rfl, rfl, hobj, hints, hlen⟩ := script_of hn hpre hwl
 refine enter_call (codeAny_mono (call w s₀ s₁ mg mb fa o pm cd doc a vs ns G Y ho (fd_plain hd) hcd hmg hobj hints hlen hg) fun r s' hq => ?_)
 obtain ⟨rfl, h2, h3, h4⟩ := hq
 exact ⟨.inl ⟨.bool true, .bool true, [], rfl, fun _ => rfl, .bool true, post_true l _, fun _ => ⟨List.Pairwise.nil, fun _ hm => (nomatch hm)⟩⟩, h2, h3, h4⟩
section
variable {prog : Program} {w : World} {A : Around} {E : Value → Shared → Prop} {s : Shared} {K : Frag}
end
end Att
namespace L2
open PySem PySem.Spec PyProof.Rows
theorem vals_ints : ∀ {vs : List Value} {ns : List Int}, IntsAre vs ns → Vals (ns.map V.int) vs
 | _, _, .nil => .nil
 | _, _, .cons n t h => .cons ⟨t, rfl⟩ (vals_ints h)
def Only (H : Hp) : Prop := ∀ b, H b = none ∨ ∃ o xs, H b = some (.frz o (.lst xs))
theorem law_call {P : Program} {w : World} {K : PySem.W.Frag} {mg mb : Str → Option Value} {CX : CXT} {k : Nat} {fa a : Addr} {fd : FuncData} {x : Str} {sp : Sp} {s₁ : Shared} {vs : List Value} {ns : List Int}
  (KX : K.In s₁.heap) (hns : s₁.heap.Ns mainGlobals mg) (hb : s₁.heap.Ns builtinsNs mb) (hbb : ∀ x : Str, x ≠ "__name__" → mb x = bootBuiltins x) (hlim : s₁.heap.NoLimit) (hg : s₁.gens = #[])
  (ha : s₁.heap.get? a = some { cls := .type "list", data := .seq vs.toArray }) (hi : IntsAre vs ns) (hl : ns.length ≤ sizeLine) (hr : Room k callerA)
  (F : ∀ base : Heap, K.In base → base.Ns mainGlobals mg → FnOk P w K mg base CX k fa fd [x] sp) (hbind : ∀ (s : Shared) (u : Value), BindsTo s fd ⟨[u], []⟩ [(x, u)])
  (hsp : ∀ H : Hp, Only H → SqL K H a (ns.map V.int) → sp [.ref a] H (fun v _ => v = .bl true) fun _ _ _ => False)
  (hCX : ∀ H e s', CX [] H s₁ (fun _ _ _ => False) e s' → False) :
  codeAny (model P w) callerA (.call (.ref fa) ⟨[.ref a], []⟩) (fun r s' => r = .ok (.ret (.bool true)) ∧ OldK s₁.heap s'.heap ∧ s'.os = s₁.os ∧ AllBare s'.gens) s₁ := by
 have rv := vals_ints hi
 have lenV := hi.length
 have core : ∀ H : Hp, Only H → SqL K H a (ns.map V.int) → HOk P w H s₁.heap → (∀ b, H b ≠ none → b = a) → (H a ≠ none → K.lookup a = none) →
   codeAny (model P w) callerA (.call (.ref fa) ⟨[.ref a], []⟩) (fun r s' => r = .ok (.ret (.bool true)) ∧ OldK s₁.heap s'.heap ∧ s'.os = s₁.os ∧ AllBare s'.gens) s₁ := by
  intro H hO hS hok hA hK
  have base_of : ∀ {b : Addr} {o : Obj}, s₁.heap.get? b = some o → H b = none → (hidT s₁.heap H).get? b = some o := fun e n => hidT_get e n
  have noA : ∀ {b : Addr} {o : Obj} {es : Array DictEntry} {ep : Nat}, s₁.heap.get? b = some o → o.data = .dict es ep → H b = none := fun {b o es ep} e d => by
   cases q : H b with
   | none => rfl
   | some u =>
    have e' : b = a := hA b (by rw [q]; simp)
    subst e'
    rw [ha] at e; cases e
    have d' : Data.seq vs.toArray _ = Data.dict es ep := d
    cases d'
  have nsK : ∀ {b : Addr} {m : Str → Option Value}, s₁.heap.Ns b m → (hidT s₁.heap H).Ns b m := fun {b m} ⟨o, es, ep, e, d, r⟩ => ⟨o, es, ep, base_of e (noA e d), d, r⟩
  have hKb : K.In (hidT s₁.heap H) := fun b o e => base_of (KX b o e) (by
   cases q : H b with
   | none => rfl
   | some u =>
    have e' : b = a := hA b (by rw [q]; simp)
    subst e'
    rw [hK (by rw [q]; simp)] at e; cases e)
  have hM : Mod K mg (hidT s₁.heap H) := ⟨hKb, nsK hns, ⟨mb, nsK hb, hbb⟩, let ⟨mc, h1, h2⟩ := hlim; ⟨mc, nsK h1, h2⟩⟩
  have e0 : Env0 P w K mg (hidT s₁.heap H) callerA [] s₁ H := ⟨rfl, hM, fun b o e => of_hidT e, Nat.le_of_eq (hidT_size _ _), trivial, fun b hb => absurd (show b ∈ ([] : List Addr) from hb) (by simp), hok, .of_eq hg⟩
  refine codeAny_mono ((F _ hKb (nsK hns)).run callerA [] s₁ H ⟨[.ref a], []⟩ [.ref a] [.ref a] _ _ hr e0 (hbind s₁ (.ref a)) (.cons rfl .nil) (hsp H hO hS)) fun r s' h => ?_
  cases r with
  | error e => exact (hCX H e s' h).elim
  | ok fl =>
   cases fl with
   | next => exact False.elim h
   | brk => exact False.elim h
   | cont => exact False.elim h
   | ret u =>
    obtain ⟨v, H', os, bare, un, hok', r', q⟩ := h
    have q' : v = .bl true := q
    subst q'
    obtain rfl : u = Value.bool true := r'
    refine ⟨rfl, OldK.of_keep fun b o e => ?_, os, bare⟩
    cases q : H b with
    | none => exact un.keep b o e q (by intro z; exact absurd (show b ∈ ([] : List Addr) from z) (by simp)) (by simp)
    | some u =>
     rcases hO b with z | ⟨ob, xs, z⟩
     ·rw [q] at z; cases z
     ·have z2 := un.frzs b ob _ z
      obtain ⟨e1, _⟩ := hok b _ z
      obtain ⟨e2, _⟩ := hok' b _ z2
      rw [e] at e1; cases e1
      exact e2
 cases hk : K.lookup a with
 | some o =>
  have e := KX a o hk
  rw [ha] at e
  cases e
  refine core (fun _ => none) (fun _ => .inl rfl) (.inr ⟨_, vs.toArray, _, hk, rfl, rfl, rfl, by rw [List.size_toArray, lenV]; exact hl, by simpa using rv⟩) (fun b u z => by have z' : (none : Option HO) = some u := z; cases z') (fun b z => absurd rfl z) fun z => absurd rfl z
 | none =>
  refine core (fun b => if b = a then some (.frz { cls := .type "list", data := .seq vs.toArray } (.lst (ns.map V.int))) else none) (fun b => ?_) (.inl (.inr ⟨{ cls := .type "list", data := .seq vs.toArray }, if_pos rfl⟩)) (fun b u z => ?_) (fun b z => ?_) fun _ => hk
  ·by_cases hb : b = a
   ·exact .inr ⟨_, _, if_pos hb⟩
   ·exact .inl (if_neg hb)
  ·by_cases hb : b = a
   ·have z' := (if_pos hb).symm.trans z
    cases z'
    subst hb
    exact ⟨ha, by rw [List.length_map]; exact hl, vs, _, rv, ha⟩
   ·have z' := (if_neg hb).symm.trans z
    cases z'
  ·by_cases hb : b = a
   ·exact hb
   ·exact absurd (if_neg hb) z
theorem walk_of {l : PySem.W.OpenLaw} {n k : Nat} {q : Program} {loose : List Str} {XP : (Str → Option Value) → Heap → Prop} {YP : World → Heap → Prop} {d : DefRec} {K : Params → PySem.W.Frag} {CX : World → CXT} {sp : World → Sp} {x : Str}
  (hn : l.most = some n) (hn2 : n ≤ sizeLine) (hdf : d.params.defaults = []) (hr : Room k callerA)
  (hY : ∀ (w : World) (h : Heap), YP w h → (K w.params).In h)
  (F : ∀ (w : World) (mg : Str → Option Value) (fa : Addr) (h : Heap), (K w.params).In h → h.Ns mainGlobals mg → mg d.name = some (.ref fa) →
   ∃ fd : FuncData, (∀ (s : Shared) (u : Value), BindsTo s fd ⟨[u], []⟩ [(x, u)]) ∧
    ∀ base : Heap, (K w.params).In base → base.Ns mainGlobals mg → FnOk l.prog w (K w.params) mg base (CX w) k fa fd [x] (sp w))
  (hsp : ∀ (w : World) (H : Hp) (a : Addr) (ns : List Int), ns.length ≤ n → Only H → SqL (K w.params) H a (ns.map V.int) → sp w [.ref a] H (fun v _ => v = .bl true) fun _ _ _ => False)
  (hCX : ∀ (w : World) (H : Hp) (s : Shared) (e : Value) (s' : Shared), CX w [] H s (fun _ _ _ => False) e s' → False) :
  PySem.W.WalkO q loose XP YP l.row.toRowW d [] (fun f vs => PySem.call f vs) := by
 refine Att.attach_call hn hdf fun w s₀ s₁ mg mb fa o pm cd doc a vs ns G Y ho hd hcd hmg hobj hints hlen hg => ?_
 have KX := hY w _ Y
 obtain ⟨fd, hb, hF⟩ := F w mg fa _ KX G.T.g hmg
 exact law_call KX G.T.g G.T.b G.T.builtins G.T.nolimit hg hobj hints (Nat.le_trans hlen hn2) hr hF hb (fun H hO hS => hsp w H a ns hlen hO hS) fun H e s' => hCX w H s₁ e s'
def defArgs (s : Stmt) : Arguments := match s with
 | .FunctionDef _ a _ _ _ _ _ _ _ _ => a
 | _ => { posonlyargs := [], args := [], vararg := none, kwonlyargs := [], kw_defaults := [], kwarg := none, defaults := [] }
def defBody (s : Stmt) : List Stmt := match s with
 | .FunctionDef _ _ b _ _ _ _ _ _ _ => b
 | _ => []
def defScope (s : Stmt) : Scope := match s with
 | .FunctionDef _ _ _ _ _ _ sc _ _ _ => sc
 | _ => { kind := .function, names := [], isGenerator := false, isCoroutine := false }
abbrev E0 : XK := fun _ _ _ => False
structure Fun (K : PySem.W.Frag) (x qual : Str) (st : Stmt) (f : Addr) (fd : FuncData) : Prop where
 ex : ∃ (oc : Value) (od : Option Addr) (kV doc pm : Value) (an : Option Addr) (cdv ct : Value) (osl : Array (Option Value)),
  fd = PySem.W.fnOf x qual (defArgs st) (defBody st) (defScope st) .none kV doc pm an cdv ct ∧ K.lookup f = some ⟨oc, od, .func fd, osl⟩ ∧ PySem.W.codeIn K cdv qual = true
 kp : PySem.W.keepIn K (.ref f) = true
section
variable {P : Program} {w : World} {K : PySem.W.Frag} {mg : Str → Option Value} {base : Heap}
theorem Fun.binds {x qual : Str} {st : Stmt} {f : Addr} {fd : FuncData} {ps : List Str} (F : Fun K x qual st f fd)
  (h : ∀ (kV doc pm : Value) (an : Option Addr) (cdv ct : Value) (us : List Value), us.length = ps.length → bindArgs (PySem.W.fnOf x qual (defArgs st) (defBody st) (defScope st) .none kV doc pm an cdv ct) ⟨us, []⟩ = pure (ps.zip us)) : Binds K fd ps [] := by
 obtain ⟨oc, od, kV, doc, pm, an, cdv, ct, osl, rfl, lk, hcd⟩ := F.ex
 exact .all (h kV doc pm an cdv ct)
theorem fun_mk {x qual : Str} {st : Stmt} {f : Addr} {oc : Value} {od an : Option Addr} {osl : Array (Option Value)} {kV doc pm cdv ct : Value} (l : K.lookup f = some ⟨oc, od, .func (PySem.W.fnOf x qual (defArgs st) (defBody st) (defScope st) .none kV doc pm an cdv ct), osl⟩)
  (c : PySem.W.codeIn K cdv qual = true) (k : PySem.W.keepIn K (.ref f) = true) : Fun K x qual st f (PySem.W.fnOf x qual (defArgs st) (defBody st) (defScope st) .none kV doc pm an cdv ct) := ⟨⟨oc, od, kV, doc, pm, an, cdv, ct, osl, rfl, l, c⟩, k⟩
end
section
variable {X : Cx}
theorem pv (i : Nat) {x : Str} {pos : Pos} (hN : X.N[i]? = some x := by rfl) (hv : Vis X.env.scope x := by first | exact Or.inl rfl | exact Or.inr (Or.inl rfl) | exact Or.inr (Or.inr rfl)) (hd : (x == ("__debug__" : Str)) = false := by decide)
  (hcd : (x == ("__classdict__" : Str)) = false := by decide) : PE X (.Name x pos) (tVar i) := pe_var hN hv hd hcd
end
def Same (H H' : Hp) : Prop := ∀ b o, H b = some o → H' b = some o
theorem Same.refl (H : Hp) : Same H H := fun _ _ h => h
theorem Same.trans {H H1 H2 : Hp} (a : Same H H1) (b : Same H1 H2) : Same H H2 := fun c o h => b c o (a c o h)
theorem Same.free {H H' : Hp} (e : Same H H') {l : Addr} (h : H' l = Option.none) : H l = Option.none := by
 cases q : H l with
 | none => rfl
 | some o =>
  rw [e l o q] at h
  cases h
theorem Same.seq {K : PySem.W.Frag} {H H' : Hp} {a : Addr} {xs : List V} (e : Same H H') (h : SqL K H a xs) : SqL K H' a xs := by
 rcases h with (h | ⟨o, h⟩) | h
 ·exact .inl (.inl (e _ _ h))
 ·exact .inl (.inr ⟨o, e _ _ h⟩)
 ·exact .inr h
section
variable {X : Cx}
end
section
variable {κ : Type} [DecidableEq κ]
end
end L2

set_option maxHeartbeats 4000000
namespace PySem.W
open PySem PySem.Spec PySem.Calls PyProof.Rows Builtin Builtin.ObjectAttr Builtin.Getset_descriptor
section
variable {prog : Program} {w : World} {A : Around} {E : Value → Shared → Prop} {K : Frag} {h : Heap} {g : Array GenState} {d : Drawn} {t : Nat} {os : OsState} {a C : Addr}
structure ExcK (K : Frag) (C : Addr) : Prop where
 ga : findIn K (.ref C) "__getattribute__" = some (some (.builtin "BaseException.__getattribute__"))
 gt : findIn K (.ref C) "__getattr__" = some none
 cl : findIn K (.ref C) "__class__" = some (some (.builtin "object.__class__"))
 mo : mroIn K C (.type "object") = some true
 mb : mroIn K C (.type "BaseException") = some true
 ic : (clsIn K C).isSome = true
def ExcAt (a : Addr) (cls : Value) (h : Heap) : Prop := ∃ o, h.get? a = some o ∧ o.cls = cls ∧ ∃ vs, o.data = .fields vs
theorem ExcAt.ty {cls : Value} (p : ExcAt a cls h) (M : Model) : Looks M h (typeOf (.ref a)) cls := by
 obtain ⟨o, h1, h2, _⟩ := p
 exact h2 ▸ (Looks.ld h1).andThen .now
theorem xc_get {tp : Value} {R : Result → Shared → Prop} (X : K.In h) (T : ExcK K C) (p : ExcAt a (.ref C) h) (hq : R (.ok (.ret (.ref C))) ⟨h, g, d, t, os⟩) :
  codeAny (model prog w) A (.call (.builtin "getset_descriptor.__get__") ⟨[.builtin "object.__class__", .ref a, tp], []⟩) R ⟨h, g, d, t, os⟩ := by
 have La := p.ty (model prog w)
 have Lb := looks_mroIn (M := model prog w) X T.mo
 refine codeAny_call_builtin KF.slot_gs.plain KF.entry_gs (KF.slot_gs.check _ _ _ _ _ _ _ _ KF.type_class (KF.args_gs _ _ _) ?_)
 unfold Builtin.«getset_descriptor.__get__» descrGet
 rw [dga_obj]
 refine wpAny_bind (wpAny_pure ?_)
 unfold descrGetter descrCheckInstance descrNameAndClass isInstance
 simp only [KF.owner_class]
 repeat lk
 refine ⟨Code.quiet_builtin _ (by decide +kernel), codeAny_builtin KF.entry_class ?_⟩
 unfold Builtin.«object.__class__» shownTypeOf
 repeat lk
 exact hq
theorem xc_entry {tk : Tok} {Q : Fin → Shared → Prop} (X : K.In h) (T : ExcK K C) (p : ExcAt a (.ref C) h) (hq : Q (.done (.ret (.ref C))) ⟨h, g, d, t, os⟩) :
  wpAny (model prog w) A (Builtin.«object.__getattribute__» ⟨[.ref a, .str "__class__" tk], []⟩) Q E ⟨h, g, d, t, os⟩ := by
 have La := p.ty (model prog w)
 have Lc := looks_findIn (M := model prog w) X T.cl
 have hT5 : (⟨h, g, d, t, os⟩ : Shared).TypeIs (.builtin "object.__class__") "getset_descriptor" := F.typeOf_object_class
 have e5 := F.typeOf_object_class
 have e6 := F.slot_gs_get.lookup
 have e7 := F.slot_gs_set.lookup
 repeat (any_goals (first | assumption | with_reducible refine Looks.at (by assumption) ?_ | wp_step))
 refine xc_get X T p ?_
 repeat (any_goals (first | assumption | wp_step))
theorem xc_check {M : Model} {nameV : Value} {Q : Unit → Shared → Prop} (X : K.In h) (T : ExcK K C) (p : ExcAt a (.ref C) h) (hq : Q () ⟨h, g, d, t, os⟩) :
  wpAny M A (checkBuiltinCall "BaseException.__getattribute__" ⟨[.ref a, nameV], []⟩) Q E ⟨h, g, d, t, os⟩ := by
 have hk : builtinKind "BaseException.__getattribute__" = some .slot := by decide +kernel
 have hsp : splitId "BaseException.__getattribute__" = some ("BaseException", "__getattribute__") := by decide +kernel
 have La := p.ty M
 have Lb := looks_mroIn (M := M) X T.mb
 have ha := F.args_bexc_ga (.ref a) nameV
 simp only [checkBuiltinCall, hk, hsp]
 refine wpAny_bind ?_
 unfold isInstance
 repeat (any_goals (first | assumption | with_reducible refine Looks.at (by assumption) ?_ | wp_step))
theorem xc_call {tk : Tok} {R : Result → Shared → Prop} (X : K.In h) (T : ExcK K C) (p : ExcAt a (.ref C) h) (hq : R (.ok (.ret (.ref C))) ⟨h, g, d, t, os⟩) :
  codeAny (model prog w) A (.call (.builtin "BaseException.__getattribute__") ⟨[.ref a, .str "__class__" tk], []⟩) R ⟨h, g, d, t, os⟩ :=
 codeAny_call_builtin F.attr_ValueError.ga.plain F.entry_bexc_ga (xc_check X T p (xc_entry X T p hq))
theorem xc_by {tk : Tok} {Q : Value → Shared → Prop} (X : K.In h) (T : ExcK K C) (p : ExcAt a (.ref C) h) (hq : Q (.ref C) ⟨h, g, d, t, os⟩) : wpAny (model prog w) A (getAttrBy (.ref a) (.str "__class__" tk) false) Q E ⟨h, g, d, t, os⟩ := by
 have La := p.ty (model prog w)
 have Lg := looks_findIn (M := model prog w) X T.ga
 have Lt := looks_findIn (M := model prog w) X T.gt
 have f3 := F.attr_ValueError.ga.bind (.ref a)
 have hx0 : (false && onTheHeap (Value.builtin "BaseException.__getattribute__")) = false := rfl
 have hx2 : (Value.builtin "BaseException.__getattribute__" == Value.builtin "object.__getattribute__") = false := by decide +kernel
 have hx1 : (onTheHeap (Value.ref C) && Value.builtin "BaseException.__getattribute__" == Value.builtin "object.__getattribute__") = false := by rw [hx2]; rfl
 repeat (any_goals (first | assumption | with_reducible refine Looks.at (by assumption) ?_ | wp_step))
 refine xc_call X T p ?_
 repeat (any_goals (first | assumption | wp_step))
theorem xc_attr {Q : Option Value → Shared → Prop} (X : K.In h) (T : ExcK K C) (p : ExcAt a (.ref C) h) (hq : Q (some (.ref C)) ⟨h, g, d, t + 1, os⟩) : wpAny (model prog w) A (getAttr? (.ref a) "__class__") Q E ⟨h, g, d, t, os⟩ := by
 unfold getAttr? getAttrBy?
 repeat (any_goals (first | assumption | with_reducible apply xc_by X T p | wp_step))
theorem kitx_exc (T : ExcK K C) : KitX K (.ref a) (.ref C) (ExcAt a (.ref C)) where
 ty := fun M _ _ p => p.ty M
 it := fun _ _ X _ => by
  have hs := T.ic
  unfold clsIn at hs
  split at hs
  ·rename_i ho
   intro A' Q' E' s' k q
   unfold isType loadHead
   exact wpAny_bind (wpAny_loadPart (k _ _ (X _ _ ho)) (wpAny_pure q))
  ·cases hs
 ne := fun h tp dd its n sl X htp => by
  refine Bool.eq_false_iff.mpr fun q => ?_
  have e : C = tp := Value.ref.inj (beq_iff_eq.mp q)
  have hs := T.ic
  unfold clsIn at hs
  split at hs
  ·rename_i ho
   have z := X _ _ ho
   rw [e, htp] at z
   cases z
  ·cases hs
 ca := fun {_ _ _ _ _ s} X p k => by
  obtain ⟨hh, gg, dd, tt, oo⟩ := s
  exact xc_attr X T p k
end
end PySem.W

namespace L2
open PySem PySem.Spec PyProof.Rows
structure Flown (P : Program) (w : World) (outer : List Env) (H : Hp) (s : Shared) (ea : Addr) (cls : Value) (H' : Hp) (B : Heap) (a0 : Value) (s' : Shared) : Prop where
 os : s'.os = s.os
 bare : AllBare s'.gens
 un : Un (frs outer) [] H H' s.heap s'.heap
 hok : HOk P w H' s'.heap
 fly : Heap.FlyingW B outer ea cls a0 s'.heap
 inB : ∀ b o, s'.heap.get? b = some o → (H' b ≠ none ∨ ((∃ u, s.heap.get? b = some u) ∧ b ∉ frs outer)) → B.get? b = some o
 new : s.heap.get? ea = none
 nt : H' ea = none
def CXr (P : Program) (w : World) : CXT := fun outer H s E e s' =>
 ∃ (ea : Addr) (cls : Value) (H' : Hp) (B : Heap) (a0 : Value), e = .ref ea ∧ Flown P w outer H s ea cls H' B a0 s' ∧ E cls none H'
theorem hok_keep {P : Program} {w : World} {H : Hp} {h h' : Heap} (ok : HOk P w H h) (k : ∀ b o, H b ≠ none → h.get? b = some o → h'.get? b = some o) : HOk P w H h' := fun a o e =>
 (ok a o e).stay (fun b u hb q => k b u (by
  rcases hb with z | z
  ·rw [z, e]; exact fun q => nomatch q
  ·rw [z]; exact fun q => nomatch q) q) (fun _ q => q) fun _ _ q => q
theorem objOk_there {P : Program} {w : World} {H : Hp} {h : Heap} {a : Addr} {o : HO} (x : ObjOk P w H h a o) : ∃ ob, h.get? a = some ob := by
 cases o with
 | lst xs => obtain ⟨_, _, _, _, e⟩ := x; exact ⟨_, e⟩
 | tup xs => obtain ⟨_, _, _, ob, e, _⟩ := x; exact ⟨_, e⟩
 | dK kvs => obtain ⟨_, _, _, _, o, _, _, e, _⟩ := x; exact ⟨_, e⟩
 | dT kvs => obtain ⟨_, _, _, _, o, _, _, e, _⟩ := x; exact ⟨_, e⟩
 | set S n => obtain ⟨o, _, _, _, e, _⟩ := x; exact ⟨_, e⟩
 | ins C dx fs => obtain ⟨_, _, _, e, _⟩ := x; exact ⟨_, e⟩
 | own y => exact x
 | xd fs => obtain ⟨_, ⟨_, _, _, e, _⟩, _⟩ := x; exact ⟨_, e⟩
 | rng lo hi => obtain ⟨_, _, _, e⟩ := x; exact ⟨_, e⟩
 | frz ob u => obtain ⟨e, _⟩ := x; exact ⟨_, e⟩
 | tbl ps => exact ⟨_, (show h.get? a = some _ from x)⟩
 | met f y => exact ⟨_, (show h.get? a = some _ from x)⟩
 | ext φ => obtain ⟨_, e, _⟩ := x; exact e
theorem HOk.there {P : Program} {w : World} {H : Hp} {h : Heap} {a : Addr} (x : HOk P w H h) (n : H a ≠ none) : ∃ ob, h.get? a = some ob := by
 cases q : H a with
 | none => exact absurd q n
 | some u => exact objOk_there (x a u q)
section
variable {P : Program} {w : World} {K : PySem.W.Frag} {mg : Str → Option Value} {base : Heap} {N : List Str} {qual : Str} {scope : Scope} {f : Addr} {cd : Value} {A : Around} {outer : List Env} {s : Shared} {H : Hp} {E : XK}
theorem frs_cons {env : Env} {l : List Env} {L : Addr} (h : env.frame = some L) : frs (env :: l) = L :: frs l := by
 unfold frs
 rw [List.filterMap_cons, h]
theorem flown_mk {X : Cx} {pins : List (Addr × Obj)} {σ : St} {H1 H' : Hp} {s1 : Shared} {B h'' : Heap} {ea : Addr} {cls a0 : Value} {g' : Array GenState} {d' : Drawn} {t' : Nat} {os' : OsState}
  (I : Inv X pins σ H1 s1) (hx : X.ex = []) (hs : X.env.locals ∉ frs X.outer)
  (ho : os' = X.s₀.os) (hg : AllBare g')
  (fly : Heap.FlyingW B X.outer ea cls a0 h'')
  (kp : ∀ b o, s1.heap.get? b = some o → H1 b = none → b ∉ frs X.outer → b ≠ X.env.locals → B.get? b = some o)
  (sl : ∀ b o, s1.heap.get? b = some o → b ∈ frs X.outer → ∃ sl, h''.get? b = some { o with slots := sl })
  (fr : ∀ b o, s1.heap.get? b = some o → H1 b = none → H' b = none)
  (tups : ∀ b xs, H1 b = some (.tup xs) → H' b = some (.tup xs)) (frzs : ∀ b o u, H1 b = some (.frz o u) → H' b = some (.frz o u)) (tbls : ∀ b ps, H1 b = some (.tbl ps) → ∃ more, H' b = some (.tbl (ps ++ more)))
  (hok : HOk X.prog X.w H' h'') (inH : ∀ b o, h''.get? b = some o → H' b ≠ none → B.get? b = some o)
  (th : ∀ b o, s1.heap.get? b = some o → H1 b ≠ none → ∃ o', h''.get? b = some o')
  (inB : ∀ b o, s1.heap.get? b = some o → b ∉ frs X.outer → b ≠ X.env.locals → ∃ o', B.get? b = some o')
  (new : s1.heap.get? ea = none) (nt : H' ea = none) :
  Flown X.prog X.w X.outer X.H₀ X.s₀ ea cls H' B a0 ⟨h'', g', d', t', os'⟩ := by
 have hxn : ∀ b : Addr, b ∉ X.ex := fun b z => by rw [hx] at z; cases z
 have neL : ∀ b o, X.s₀.heap.get? b = some o → b ≠ X.env.locals := fun b o e => Nat.ne_of_lt (Nat.lt_of_lt_of_le (Heap.lt_size e) I.ok.above)
 have st := fly.1
 refine ⟨ho, hg, ⟨fun b o e n hb _ => ?_, fun b o e n hb _ => ?_, fun b o e n _ => ?_, fun b o e _ => ?_, fun b xs e => tups b xs (I.base.tups b xs e), fun b o u e => frzs b o u (I.base.frzs b o u e), fun b ps e => ?_⟩, hok, fly, fun b o e hb => ?_, ?_, nt⟩
 ·exact st b o (kp b o (I.base.keep b o e n hb (hxn b)) (I.base.free b o e n (hxn b)) hb (neL b o e))
 ·obtain ⟨l1, e1⟩ := I.base.slot b o e n hb (hxn b)
  obtain ⟨l2, e2⟩ := sl b _ e1 hb
  exact ⟨l2, e2⟩
 ·obtain ⟨o1, e1⟩ := I.base.there b o e (hxn b)
  exact fr b o1 e1 (I.base.free b o e n (hxn b))
 ·obtain ⟨o1, e1⟩ := I.base.there b o e (hxn b)
  by_cases hb : b ∈ frs X.outer
  ·obtain ⟨l2, e2⟩ := sl b o1 e1 hb
   exact ⟨_, e2⟩
  ·obtain ⟨o2, e2⟩ := inB b o1 e1 hb (neL b o e)
   exact ⟨o2, st b o2 e2⟩
 ·obtain ⟨m1, e1⟩ := I.base.tbls b ps e
  obtain ⟨m2, e2⟩ := tbls b _ e1
  exact ⟨m1 ++ m2, by rw [e2, Array.append_assoc]⟩
 ·rcases hb with hb | ⟨⟨u, hu⟩, hb⟩
  ·exact inH b o e hb
  ·obtain ⟨o1, e1⟩ := I.base.there b u hu (hxn b)
   obtain ⟨o2, e2⟩ := inB b o1 e1 hb (neL b u hu)
   have e3 := st b o2 e2
   have e4 : h''.get? b = some o := e
   rw [e3] at e4
   cases e4
   exact e2
 ·cases q : X.s₀.heap.get? ea with
  | none => rfl
  | some o =>
   obtain ⟨o', e'⟩ := I.base.there ea o q (hxn ea)
   rw [new] at e'
   cases e'
theorem passR : Passes (CXr P w) (cxOf (CXr P w) P w K mg base N qual scope f cd A outer s H E) E := by
 intro pins σ H1 s1 e s1' I h
 obtain ⟨ea, cls, H', B, a0, rfl, F, want⟩ := h
 have hfr : (cxOf (CXr P w) P w K mg base N qual scope f cd A outer s H E).A.frames = some (envOfC qual scope s.heap.objs.size f cd :: outer) := I.ok.frames
 have hstk : frs (cxOf (CXr P w) P w K mg base N qual scope f cd A outer s H E).stack = s.heap.objs.size :: frs outer := frs_cons rfl
 have hLo : s.heap.objs.size ∉ frs outer := fun z => by
  obtain ⟨_, o, ho, _⟩ := I.ok.funs.mem z
  exact absurd (Heap.lt_size ho) (Nat.lt_irrefl _)
 have nst : ∀ {b : Addr}, b ∉ frs outer → b ≠ s.heap.objs.size → b ∉ frs (cxOf (CXr P w) P w K mg base N qual scope f cd A outer s H E).stack := fun h1 h2 z => by
  rw [hstk] at z
  rcases List.mem_cons.mp z with z | z
  ·exact h2 z
  ·exact h1 z
 show wpAny (model P w) _ (leaving _ (.ref ea)) _ _ s1'
 refine wpAny_leaves_onW hfr rfl F.fly fun h'' fl' up => ?_
 have inB' : ∀ b o, s1'.heap.get? b = some o → H' b ≠ none → h''.get? b = some o := fun b o e n => fl'.1 b o (F.inB b o e (.inl n))
 refine ⟨ea, cls, H', B, a0, rfl, flown_mk (X := cxOf (CXr P w) P w K mg base N qual scope f cd A outer s H E) I rfl hLo (F.os.trans I.os) F.bare fl' (fun b o e n hb hL => ?_) (fun b o e hb => ?_) (fun b o e n => F.un.free b o e n (by simp)) F.un.tups F.un.frzs F.un.tbls
  (hok_keep F.hok fun b o n e => inB' b o e n) (fun b o e n => ?_) (fun b o e n => ?_) (fun b o e hb hL => ?_) F.new F.nt, want⟩
 ·exact F.inB b o (F.un.keep b o e n (nst hb hL) (by simp)) (.inr ⟨⟨o, e⟩, nst hb hL⟩)
 ·have hb' : b ∈ frs outer := hb
  have n : H1 b = none := by
   have := I.stkFree b (by rw [hstk]; exact List.mem_cons_of_mem _ hb')
   exact this
  obtain ⟨l1, e1⟩ := F.un.slot b o e n (by rw [hstk]; exact List.mem_cons_of_mem _ hb') (by simp)
  obtain ⟨_, o', ho', hd'⟩ := F.fly.2.2.1.mem (b := b) (by
   have : b ∈ frs (cxOf (CXr P w) P w K mg base N qual scope f cd A outer s H E).stack := by rw [hstk]; exact List.mem_cons_of_mem _ hb'
   exact this)
  rw [e1] at ho'
  cases ho'
  obtain ⟨l2, e2⟩ := up b _ e1 hd'
  exact ⟨l2, e2⟩
 ·obtain ⟨o1, e1⟩ := F.hok.there n
  have e2 := F.inB b o1 e1 (.inl n)
  have e3 := fl'.1 b o1 e2
  rw [e] at e3
  cases e3
  exact e2
 ·obtain ⟨o1, e1⟩ := F.un.there b o e (by simp)
  by_cases hb : b ∈ frs outer
  ·have hz : H1 b = none := I.stkFree b (by rw [hstk]; exact List.mem_cons_of_mem _ hb)
   exact absurd hz n
  ·by_cases hL : b = s.heap.objs.size
   ·have hz : H1 b = none := I.stkFree b (by rw [hstk, hL]; exact List.mem_cons_self)
    exact absurd hz n
   ·exact ⟨o1, fl'.1 b o1 (F.inB b o1 e1 (.inr ⟨⟨o, e⟩, nst hb hL⟩))⟩
 ·obtain ⟨o1, e1⟩ := F.un.there b o e (by simp)
  exact ⟨o1, F.inB b o1 e1 (.inr ⟨⟨o, e⟩, nst hb hL⟩)⟩
end
section
variable {X : Cx} {E : XK}
end
def PassesS (CX : CXT) (X : Cx) (E : St → XK) : Prop := ∀ (pins : List (Addr × Obj)) (σ : St) (H : Hp) (s : Shared) (e : Value) (s' : Shared), Inv X pins σ H s → CX X.stack H s (E σ) e s' → X.xe e s'
def tCallS (sp : Sp) (E : St → XK) (t : TA) : TE := fun σ H Q => t σ H fun vs H1 => sp vs H1 Q (E σ)
section
variable {X : Cx} {CX : CXT} {k : Nat} {f : Addr} {fd : FuncData} {ps : List Str} {sp : Sp} {E : St → XK} {x : Str} {p pos : Pos} {e : Expr} {es : List Expr} {t : TA}
theorem pe_callS (F : FnOk X.prog X.w X.K X.mg X.base CX k f fd ps sp) (hr : Room k X.A) (hg : Gl X x) (hm : X.mg x = some (.ref f)) (hk : PySem.W.keepIn X.K (.ref f) = true) (hb : Binds X.K fd ps []) (hx : PassesS CX X E)
  (ha : PA X (e :: es) t) (hdb : (x == ("__debug__" : Str)) = false := by decide) (he : starEach (e :: es) X.env = (false, eval e X.env) :: starEach es X.env := by rfl) (hpl : (backTo pos (starEach es X.env)).any (·.1) = false := by rfl) :
  PE X (.Call (.Name x p) (e :: es) [] pos) (tCallS sp E t) := by
 intro pins s σ H Q I h
 refine wpAny_Call_Name_kw (ld_glob I hg hm ?_ hdb)
 refine PySem.W.callWith_K (h₀ := X.base) I.ok.mod.kin hk (thn (ha pos pins s σ H _ I h) fun us s1 ⟨vs, H1, I1, r, q⟩ => ⟨I1.kIn, ?_⟩) he hpl
 have hl : us.length = ps.length := by rw [← r.length]; exact F.len _ _ _ _ q
 have hb' := hb s1 us I1.kIn (by rw [List.append_nil]; exact hl)
 rw [List.append_nil] at hb'
 refine wpAny_call (codeAny_mono (F.run X.A X.stack s1 H1 ⟨us, []⟩ us vs Q (E σ) hr I1.env0 hb' r q) fun rr s' hq => ?_)
 cases rr with
 | error e' => exact hx pins σ H1 s1 e' s' I1 hq
 | ok fl =>
  cases fl with
  | ret u => exact I1.after hq
  | next => exact False.elim hq
  | brk => exact False.elim hq
  | cont => exact False.elim hq
end
section
variable {X : Cx} {k : Nat} {f : Addr} {fd : FuncData} {ps : List Str} {sp : Sp} {x : Str} {p pos : Pos} {e : Expr} {es : List Expr} {t : TA}
end
def excO (e : Addr) (cls : Value) : HO := .ext fun h => ∃ o, h.get? e = some o ∧ o.cls = cls ∧ ∃ vs, o.data = .fields vs
abbrev blockCx (X : Cx) (scope : Scope) (cl : List (Str × Addr)) (C : Addr) (N : List Str) (s₀ : Shared) (H₀ : Hp) (ex : List Addr) (pn : List (Addr × Obj)) : Cx :=
 { X with env := compEnvC scope cl C X.env, N := N, s₀ := s₀, H₀ := H₀, outer := X.stack, stack := X.stack, ex := ex, fn := fun _ => false, pn := pn, xe := fun _ _ => False }
structure ClOk (X : Cx) (scope : Scope) (cl : List (Str × Addr)) : Prop where
 clos : closureFor scope X.env = pure cl
 sub : ∀ y c, cl.lookup y = some c → X.env.cells.lookup y = some c
 has : ∀ y, (relabel scope X.env).names.lookup y = some .cell ∨ (relabel scope X.env).names.lookup y = some .free → ∃ c, cl.lookup y = some c
def caps (js : List Nat) (σ : St) : St := js.map fun j => (σ[j]?).getD none
structure CapOk (X : Cx) (scope : Scope) (cl : List (Str × Addr)) (ys : List Str) (js : List Nat) : Prop where
 len : ys.length = js.length
 at_ : ∀ (i : Nat) (y : Str) (j : Nat), ys[i]? = some y → js[i]? = some j → X.N[j]? = some y ∧ (X.env.kindOf y = some .cell ∨ X.env.kindOf y = some .free) ∧ ((relabel scope X.env).names.lookup y = some .cell ∨ (relabel scope X.env).names.lookup y = some .free) ∧ (X.env.cells.lookup y).isSome = true ∧ cl.lookup y = X.env.cells.lookup y
section
variable {X : Cx}
end
def Sz (n : Nat) (x : Int) : Prop := x.natAbs < 2 ^ n
theorem Sz.mono {m n : Nat} {x : Int} (h : Sz m x) (l : m ≤ n) : Sz n x := Nat.lt_of_lt_of_le h (Nat.pow_le_pow_right (by decide) l)
theorem Sz.mul {m n : Nat} {x y : Int} (hx : Sz m x) (hy : Sz n y) : Sz (m + n) (x * y) := by
 unfold Sz at *
 rw [Int.natAbs_mul, Nat.pow_add]
 exact Nat.mul_lt_mul'' hx hy
theorem Sz.add {n : Nat} {x y : Int} (hx : Sz n x) (hy : Sz n y) : Sz (n + 1) (x + y) := by
 unfold Sz at *
 have := Int.natAbs_add_le x y
 rw [Nat.pow_succ]
 omega
theorem Sz.neg {n : Nat} {x : Int} (hx : Sz n x) : Sz n (-x) := by
 unfold Sz at *
 rw [Int.natAbs_neg]
 exact hx
theorem Sz.sub {n : Nat} {x y : Int} (hx : Sz n x) (hy : Sz n y) : Sz (n + 1) (x - y) := by
 have := Sz.add hx hy.neg
 rwa [Int.sub_eq_add_neg]
def CMulW (i j : Int) : Prop := Sz 60000 i ∧ Sz 60000 j
theorem CMulW.ok {i j : Int} (h : CMulW i j) : IntMulOk i j := .of_le (intBits_le_iff.mpr h.1) (intBits_le_iff.mpr h.2) (by decide)
def CDivW (i j : Int) : Prop := j ≠ 0 ∧ Sz 8000 j
section
variable {X : Cx}
theorem op_mulW : OpR X (binaryOp .Mult) (rI CMulW fun i j => .int (i * j)) := opI fun _ _ _ _ _ _ _ hc q => mul_int q hc.ok
theorem log2_small {n : Nat} (h : n < 2 ^ 8000) : n.log2 < 9000 := by
 by_cases z : n = 0
 ·rw [z]; decide
 ·have : n.log2 < 8000 := (Nat.log2_lt z).mpr h
  omega
theorem op_fdivW : OpR X (binaryOp .FloorDiv) (rI CDivW fun i j => .int (i.fdiv j)) := opI fun _ _ _ _ _ _ _ hc q => floordiv_int hc.1 q (.inl (PyProof.noPylong_of_log2 (log2_small hc.2)))
inductive TyX (K : PySem.W.Frag) (H : Hp) : V → Value → Prop where
 | plain {x : V} {t : Value} (h : TyOf K H x t) : TyX K H x t
 | exc {a C : Addr} (e : H a = some (excO a (.ref C))) (T : PySem.W.ExcK K C) : TyX K H (.ref a) (.ref C)
theorem RelV.tyOrRef {y : V} {c u : Value} (h : (∃ n, y = .ty n) ∨ ∃ a, y = .ref a) (r : RelV y c) (r' : RelV y u) : u = c := by
 rcases h with ⟨n, rfl⟩ | ⟨n, rfl⟩
 ·cases r; cases r'; rfl
 ·cases r; cases r'; rfl
def rIsiC (K : PySem.W.Frag) : List V → Hp → VK → Prop := fun xs H Q => ∃ x y t c b, xs = [x, y] ∧ ((∃ n, y = .ty n) ∨ ∃ a, y = .ref a) ∧ TyX K H x t ∧ RelV y c ∧ PySem.W.kitOne K t c = some b ∧ Q (.bl b) H
theorem call_isi : CallR X (.builtin "isinstance") (rIsiC X.K) := by
 intro pins s σ H xs us Q I r h
 obtain ⟨x, y, t, c, b, rfl, hy, ty, rc, e, q⟩ := h
 obtain ⟨u, w', rfl, r1, r2⟩ := vals2 r
 have ec := RelV.tyOrRef hy rc r2
 subst ec
 cases ty with
 | plain ty => exact isinst_ok I r1 ty e fun tk => ⟨.bl b, H, I.tok _, rfl, q⟩
 | @exc a C ea T =>
  cases (show u = Value.ref a from r1)
  obtain ⟨p, _, _⟩ := (show ObjOk X.prog X.w H s.heap a (excO a (.ref C)) from I.hok a _ ea)
  exact PySem.W.kia_one (PySem.W.kitx_exc T) I.kIn p e (fun z => nomatch z) fun tk => ⟨.bl b, H, I.tok _, rfl, q⟩
end
def tIsi (K : PySem.W.Frag) (te : TE) (v : V) : TE := fun σ H Q => te σ H fun x H1 => rIsiC K [x, v] H1 Q
theorem pe_isi {X : Cx} {e c : Expr} {te : TE} {v : V} {p pos : Pos} (hg : Gl X "isinstance") (hm : X.mg "isinstance" = none) (he : PE X e te) (hc : PE X c (tC v)) (h1 : starEach [e, c] X.env = (false, eval e X.env) :: starEach [c] X.env := by rfl)
  (h2 : (backTo pos (starEach [c] X.env)).any (·.1) = false := by rfl) (h3 : starEach [c] X.env = (false, eval c X.env) :: starEach [] X.env := by rfl) : PE X (.Call (.Name "isinstance" p) [e, c] [] pos) (tIsi X.K te v) := fun pins s σ H Q I h =>
 pe_callB call_isi hg hm (by decide +kernel) (pa_cons he (pa_cons hc pa_nil h3) h1) (by decide) (by decide) h1 h2 pins s σ H Q I h
theorem Fun.okX {P : Program} {w : World} {K : PySem.W.Frag} {mg : Str → Option Value} {base : Heap} {x qual : Str} {st : Stmt} {f : Addr} {fd : FuncData} {N ps : List Str} {k : Nat} {sp : Sp} (F : Fun K x qual st f fd) (S : FnScope N ps (defScope st)) (len : ∀ vs H Q E, sp vs H Q E → vs.length = ps.length)
  (hbody : ∀ (cdv : Value) (A : Around) (outer : List Env) (s : Shared) (H : Hp) (vs : List V) (Q : VK) (E : XK), Room k (A.deeper (envOfC qual (defScope st) s.heap.objs.size f cdv)) → sp vs H Q E →
   ∃ t, PSs (cxOf (CXr P w) P w K mg base N qual (defScope st) f cdv A outer s H E) (defBody st) t ∧ t { nx := fun _ H' => Q .non H', rt := Q } (start N vs) H) : FnOk P w K mg base (CXr P w) (k + 1) f fd ps sp := by
 obtain ⟨oc, od, kV, doc, pm, an, cdv, ct, osl, rfl, lk, hcd⟩ := F.ex
 exact fn_of lk hcd S len fun A outer s H vs Q E hr hsp => hbody cdv A outer s H vs Q E hr hsp
theorem Same.upd {H H' : Hp} {p : Addr} (h : Same H H') (hp : H' p = none) (o : HO) : Same H (upd H' p o) := fun b u q => by
 have := h b u q
 rw [upd_ne (ne_of_none this hp)]
 exact this
end L2

namespace FR
def sgn (b : Int) (g : Int) : Int := if b < 0 then -g else g
def mk (t b : Int) : Int × Int := (t.fdiv (sgn b (Int.gcd t b)), b.fdiv (sgn b (Int.gcd t b)))
end FR

namespace L2
open PySem PySem.Spec PyProof.Rows
section
variable {X : Cx}
end
open PySem.W (Dat kqdP kqdPs kqdOk kqd_lay kqd_eqv)
mutual
inductive HasD (H : Hp) : V → Dat → Prop
 | int (i : Int) : HasD H (.int i) (.int i)
 | tup {a : Addr} {xs : List V} {ds : List Dat} : H a = some (.tup xs) → HasDs H xs ds → HasD H (.ref a) (.tuple ds)
 | lst {a : Addr} {xs : List V} {ds : List Dat} : H a = some (.lst xs) → HasDs H xs ds → HasD H (.ref a) (.list ds)
inductive HasDs (H : Hp) : List V → List Dat → Prop
 | nil : HasDs H [] []
 | cons {x : V} {xs : List V} {d : Dat} {ds : List Dat} : HasD H x d → HasDs H xs ds → HasDs H (x :: xs) (d :: ds)
end
mutual
theorem HasD.keep {H H' : Hp} (k : ∀ a o, H a = some o → H' a = some o) : ∀ {v : V} {d : Dat}, HasD H v d → HasD H' v d
 | _, _, .int i => .int i
 | _, _, .tup h r => .tup (k _ _ h) (HasDs.keep k r)
 | _, _, .lst h r => .lst (k _ _ h) (HasDs.keep k r)
theorem HasDs.keep {H H' : Hp} (k : ∀ a o, H a = some o → H' a = some o) : ∀ {v : List V} {d : List Dat}, HasDs H v d → HasDs H' v d
 | _, _, .nil => .nil
 | _, _, .cons h r => .cons (HasD.keep k h) (HasDs.keep k r)
end
mutual
theorem HasD.reads {P : Program} {w : World} {H : Hp} {h : Heap} (ok : HOk P w H h) : ∀ {v : V} {d : Dat}, HasD H v d → ∀ {u : Value}, RelV v u → ∃ as, Reads h u (kqdP d) as
 | _, _, .int i, _, ⟨t, e⟩ => by subst e; exact ⟨_, Reads.int i t⟩
 | _, _, .tup hh r, _, e => by
  have e : _ = Value.ref _ := e
  subst e
  obtain ⟨_, its, rv, o, ho, hc, n, hd⟩ := (show ObjOk P w H h _ _ from ok _ _ hh)
  obtain ⟨as, q⟩ := HasDs.reads ok r rv
  rw [kqdP]
  exact ⟨as, reads_tuple_at ho hc hd (by simpa using q)⟩
 | _, _, .lst hh r, _, e => by
  have e : _ = Value.ref _ := e
  subst e
  obtain ⟨_, its, n, rv, ho⟩ := (show ObjOk P w H h _ _ from ok _ _ hh)
  obtain ⟨as, q⟩ := HasDs.reads ok r rv
  rw [kqdP]
  exact ⟨_, reads_list_at ho rfl rfl (by simpa using q)⟩
theorem HasDs.reads {P : Program} {w : World} {H : Hp} {h : Heap} (ok : HOk P w H h) : ∀ {vs : List V} {ds : List Dat}, HasDs H vs ds → ∀ {us : List Value}, Vals vs us → ∃ as, ReadsAll h us (kqdPs ds) as
 | _, _, .nil, _, .nil => ⟨_, ReadsAll.nil⟩
 | _, _, .cons hd r, _, .cons rv rt => by
  obtain ⟨as, q⟩ := HasD.reads ok hd rv
  obtain ⟨bs, p⟩ := HasDs.reads ok r rt
  rw [kqdPs]
  exact ⟨_, ReadsAll.cons q p⟩
end
section
variable {X : Cx}
end
section
variable {prog : Program} {w : World} {A : Around} {E : Value → Shared → Prop} {s : Shared} {d it : Addr} {es : Array DictEntry} {ep i : Nat}
end
section
variable {prog : Program} {w : World} {A : Around} {R : Result → Shared → Prop} {s : Shared}
abbrev testsOf (ifs : List Expr) (env : Env) : Sem Bool := forIn ifs true fun c r => if r = true then do let ok ← isTrue c env (eval c env); pure (ForInStep.yield ok) else pure (ForInStep.yield r)
theorem comp_loop {elt target iter : Expr} {ifs : List Expr} {scope : Scope} {pos : Pos} {it acc : Value} {env : Env} (I : Nat → Shared → Prop)
  (turn : ∀ n s, I n s → wpAny (model prog w) A (pyNext it) (fun r s₁ => match r with
   | none => R (.ok .next) s₁
   | some v => wpAny (model prog w) A (letOwnedTupleGo target it v) (fun _ s₀ => wpAny (model prog w) A (assign target env v) (fun _ s₂ =>
     wpAny (model prog w) A (testsOf ifs env) (fun ok s₃ =>
      if ok = true then wpAny (model prog w) A (eval elt env) (fun x s₄ =>
       wpAny (model prog w) A (call (.builtin "list.append") [acc, x]) (fun _ s₅ => ∃ m, m < n ∧ I m s₅) (fun _ _ => False) s₄) (fun _ _ => False) s₃
      else ∃ m, m < n ∧ I m s₃) (fun _ _ => False) s₂) (fun _ _ => False) s₀) (fun _ _ => False) s₁) (fun _ _ => False) s)
  (n : Nat) (h : I n s) : codeAny (model prog w) A (.compLoop (.ListComp elt [⟨target, iter, ifs, 0⟩] scope pos) 0 it acc env) R s := by
 refine codeAny_loop rfl I (fun n s hI => ?_) n h
 show wpAny _ A ((compTurn (.ListComp elt [⟨target, iter, ifs, 0⟩] scope pos) 0 it acc env).onRaise (fun x => do noteFrame x env; theTreesLotGoes x)) _ _ s
 refine wpAny_noted ?_
 rw [compTurn_list]
 refine wpAny_bind (wpAny_standAt (wpAny_bind (wpAny_mono (turn n s hI) (fun r s₁ h₁ => ?_) fun _ _ z => z.elim)))
 cases r with
 | none => exact wpAny_pure h₁
 | some v =>
  refine wpAny_bind (wpAny_mono h₁ (fun _ s₀ h₀ => ?_) fun _ _ z => z.elim)
  refine wpAny_bind (wpAny_mono h₀ (fun _ s₂ h₂ => wpAny_bind (wpAny_mono h₂ (fun ok s₃ h₃ => ?_) fun _ _ z => z.elim)) fun _ _ z => z.elim)
  cases ok with
  | false => exact wpAny_pure ⟨rfl, h₃⟩
  | true =>
   exact wpAny_bind (wpAny_bind (wpAny_mono h₃ (fun x s₄ h₄ => wpAny_bind (wpAny_mono h₄ (fun _ s₅ h₅ => wpAny_pure (wpAny_pure ⟨rfl, h₅⟩)) fun _ _ z => z.elim)) fun _ _ z => z.elim))
end
def PTs (X : Cx) (ifs : List Expr) (t : TT) : Prop :=
 ∀ (pins : List (Addr × Obj)) (s : Shared) (σ : St) (H : Hp) (Q : Bool → Hp → Prop), Inv X pins σ H s → t σ H Q → wpAny (model X.prog X.w) X.A (testsOf ifs X.env) (TP X pins σ Q) X.xe s
def tYes : TT := fun _ H Q => Q true H
theorem pts_nil {X : Cx} : PTs X [] tYes := fun _ _ _ H _ I h => wpAny_tests_nil ⟨H, I, h⟩
def tCompG (wi : TI) (g : TG) (tt : TT) (te : TE) (n : Nat) (js : List Nat) : TE := fun σ H Q => wi σ H fun J H1 => ∀ D, H1 D = none → ∃ (N : Nat) (W : Nat → List V → Hp → Prop), W 0 [] (upd H1 D (.lst [])) ∧ ∀ i ys H2, W i ys H2 →
 (J.stop i H2 ∧ Q (.ref D) H2) ∨ (i < N ∧ J.go i H2 ∧ ∀ v H3, J.yld i H2 v H3 → g v (List.replicate n none ++ caps js σ) H3 fun σ2 H4 => (σ2.length = n + js.length ∧ σ2.drop n = caps js σ) ∧ tt σ2 H4 fun b H5 =>
  if b = true then te σ2 H5 fun y H6 => H6 D = some (.lst ys) ∧ ys.length < sizeLine ∧ W (i + 1) (ys ++ [y]) (upd H6 D (.lst (ys ++ [y]))) else W (i + 1) ys H5)
section
variable {X : Cx}
theorem Inv.but {pins : List (Addr × Obj)} {σ : St} {H : Hp} {s : Shared} {C : Addr} {h' : Heap} (I : Inv X pins σ H s) (f : FpOk X pins H C) (hs : Heap.SameBut C s.heap h') : Inv X pins σ H { s with heap := h' } := by
 have ne : ∀ b, b ∉ [C] → b ≠ C := fun b hb z => hb (by rw [z]; exact .head _)
 refine I.call' (s' := { s with heap := h' }) (ch := [C]) rfl ⟨fun b o e n hb hx => (hs.2 b (ne b hx)).trans e, fun b o e n hb hx => ⟨o.slots, (hs.2 b (ne b hx)).trans e⟩, fun b o e n hx => n, fun b o e hx => ⟨o, (hs.2 b (ne b hx)).trans e⟩, fun b xs e => e, fun b o u e => e, fun b ps e => ⟨#[], by rw [Array.append_empty]; exact e⟩⟩ (hok_keep I.hok fun b o nn e => (hs.2 b (fun z => nn (by rw [z]; exact f.1))).trans e) I.bare fun b hb => ?_
 rw [List.mem_singleton.mp hb]
 exact ⟨f.2.2.2.1, f.2.1, f.2.2.2.2.1, f.2.2.2.2.2⟩
set_option maxHeartbeats 8000000 in
theorem comp_core {elt iter tg : Expr} {pos : Pos} {scope : Scope} {ifs : List Expr} {wi : TI} {g : TG} {tt : TT} {te : TE} {xs ys : List Str} {js : List Nat} {cl : List (Str × Addr)} (hc : X.calm = true) (hi : PI X tg iter wi)
  (hcl : ClOk X scope cl) (hcap : CapOk X scope cl ys js) (hcell : ∀ y ∈ scope.names, y.2 ≠ .cell) (hkind : scope.kind = .function) (hnames : ∀ y ∈ scope.names, y.2 = .local → scope.names.lookup y.1 = some .local)
  (hg : ∀ C s₀ H₀ ex pn, PG (blockCx X scope cl C (xs ++ ys) s₀ H₀ ex pn) tg g) (ht : ∀ C s₀ H₀ ex pn, PTs (blockCx X scope cl C (xs ++ ys) s₀ H₀ ex pn) ifs tt) (hb : ∀ C s₀ H₀ ex pn, PE (blockCx X scope cl C (xs ++ ys) s₀ H₀ ex pn) elt te)
  (hs : ∀ x, foldedSetIterable iter X.env x = pure x) {use : Option (Value → Sem Unit)} {QQ : Value → Shared → Prop} {Q : VK} {pins : List (Addr × Obj)} {s : Shared} {σ : St} {H : Hp} {cp : Pos} (I : Inv X pins σ H s)
  (hfin : ∀ (C D : Addr) (s' : Shared) (H' : Hp), Inv X pins σ H' s' → FpOk X pins H' C → (∃ m, s'.heap.Ns C m) → Q (.ref D) H' → compPost (model X.prog X.w) X.A X.xe use QQ (.ref D) C (.ok .next) s')
  (h : tCompG wi g tt te xs.length js σ H Q) :
  wpAny (model X.prog X.w) X.A (comprehension (.ListComp elt [⟨tg, iter, ifs, 0⟩] scope pos) scope X.env cp (newList []) false (eval iter X.env) use) QQ X.xe s := by
 refine wpAny_comprehension_free rfl hs hcl.clos hkind hnames (thn (hi pins s σ H _ I h) fun v s1 h1 => thn h1 fun itv s2 h2 => ?_)
 obtain ⟨it, fp, tn, J, H2, e, I2, T, st2, f2, q2⟩ := h2
 subst e
 obtain ⟨n, W, w0, turn⟩ := q2 s2.heap.objs.size I2.fresh
 refine wpAny_newObj_type (wpAny_newFunctionEnv hcell (by intro y hy; simp at hy) (fun h₁ hns₁ hsb₁ => ?_) hkind)
 dsimp only at hns₁ hsb₁ ⊢
 have I3 := I2.lnew (ys := []) (its := []) (t' := s2.toks) .nil (Nat.zero_le _)
 generalize hg3 : s2.heap.push { cls := .type "list", dict := none, data := .seq ([] : List Value).toArray } = g3 at hns₁ hsb₁ I3 ⊢
 have sz3 : g3.objs.size = s2.heap.objs.size + 1 := by rw [← hg3, Heap.size_push]
 generalize hC : g3.objs.size = C at hns₁ hsb₁ ⊢
 have old3 : ∀ b o, g3.get? b = some o → h₁.get? b = some o := fun b o q => hsb₁.extBut b o (by rw [← hC]; exact Nat.ne_of_lt (Heap.lt_size q)) (Heap.get?_push_of_some _ q)
 have old2 : ∀ b o, s2.heap.get? b = some o → g3.get? b = some o := fun b o q => by rw [← hg3]; exact Heap.get?_push_of_some _ q
 have fpl : ∀ b ∈ fp, ∃ o, s2.heap.get? b = some o ∧ ∀ v, o.data ≠ .cell v := T.obj _ _ st2
 have fplt : ∀ b ∈ fp, b < s2.heap.objs.size := fun b hb => let ⟨o, q, _⟩ := fpl b hb; Heap.lt_size q
 have H3n : ∀ b, b ≠ s2.heap.objs.size → upd H2 s2.heap.objs.size (.lst []) b = H2 b := fun b hb => upd_ne hb
 have fp3 : ∀ b ∈ fp, upd H2 s2.heap.objs.size (.lst []) b = none := fun b hb => by rw [H3n b (Nat.ne_of_lt (fplt b hb))]; exact (f2 b hb).1
 have okX := I3.ok
 have inj : ∀ y z c, cl.lookup y = some c → cl.lookup z = some c → y = z := fun y z c h1 h2 => okX.inj y z c (hcl.sub y c h1) (hcl.sub z c h2)
 have cellE : ∀ y c, cl.lookup y = some c → ∃ v, g3.IsCell c v := fun y c q => I3.cell y c (hcl.sub y c q)
 have st3 : g3.FunFrames X.base X.stack := I3.stack
 have exlt : ∀ b ∈ fp, b ≠ C := fun b hb => by rw [← hC, sz3]; exact Nat.ne_of_lt (Nat.lt_succ_of_lt (fplt b hb))
 have frlt : ∀ b ∈ frs X.stack, b < g3.objs.size := fun b hb => let ⟨_, o, q, _⟩ := st3.mem hb; Heap.lt_size q
 have okB : (blockCx X scope cl C (xs ++ ys) { s2 with heap := g3 } (upd H2 s2.heap.objs.size (.lst [])) fp (X.pn ++ pins)).Ok := by
  refine ⟨okX.mod, hkind, okX.glob, okX.blt, Nat.le_of_eq hC, inj, fun y hy => hcl.has y hy, (fun y c hf _ => nomatch hf), okX.hd, okX.frames, .inl rfl, fun b hb => ⟨exlt b hb, fun y c q z => ?_⟩, I3.bs, Nat.le_trans okX.bsz I3.sz, fun b o q hb => ?_, fun b hb => ?_, st3, I3.stkFree⟩
  ·subst z
   exact (f2 c hb).2.2.2.2.1 y c (hcl.sub y c q) rfl
  ·rcases (f2 b hb).2.2.2.1 with z | z
   ·exact okX.noex b o q z
   ·have := Heap.lt_size (okX.bs b o q).1
    exact absurd (Nat.lt_of_lt_of_le this z) (Nat.lt_irrefl _)
  ·intro hz
   rcases List.mem_cons.mp (I3.stkSub b hz) with z | z
   ·exact (f2 b hb).2.1 z
   ·exact (f2 b hb).2.2.1 z
 have tot : ∀ tk : Nat, Inv (blockCx X scope cl C (xs ++ ys) { s2 with heap := g3 } (upd H2 s2.heap.objs.size (.lst [])) fp (X.pn ++ pins)) [] (List.replicate xs.length none ++ caps js σ) (upd H2 s2.heap.objs.size (.lst [])) { s2 with heap := h₁, toks := tk } := fun tk => by
  refine ⟨okB, rfl, I3.bare, Un.kept old3, ⟨_, hns₁, fun i y v' e1 e2 e3 => ?_⟩, fun y c q => ?_, I3.hok.fresh (Nat.le_of_eq hC), fun y c q => ?_, fun p hp => ?_, I3.hok.kept old3, ?_⟩
  ·by_cases hix : i < xs.length
   ·rw [List.getElem?_append_left (by rw [List.length_replicate]; exact hix), List.getElem?_replicate] at e2
    split at e2 <;> cases e2
   ·have hix' : xs.length ≤ i := by omega
    obtain ⟨k, rfl⟩ : ∃ k, i = xs.length + k := ⟨i - xs.length, by omega⟩
    have e1' : ys[k]? = some y := by
     rw [List.getElem?_append_right (by omega)] at e1
     simpa using e1
    have e2' : (caps js σ)[k]? = some (some v') := by
     rw [List.getElem?_append_right (by rw [List.length_replicate]; omega), List.length_replicate] at e2
     simpa using e2
    unfold caps at e2'
    rw [List.getElem?_map] at e2'
    cases ej : js[k]? with
    | none => rw [ej] at e2'; cases e2'
    | some j =>
     rw [ej] at e2'
     have e2'' : (σ[j]?).getD none = some v' := Option.some.inj e2'
     have eσ : σ[j]? = some (some v') := by
      cases es : σ[j]? with
      | none => rw [es] at e2''; cases e2''
      | some z => rw [es] at e2''; have : z = some v' := e2''; rw [this]
     obtain ⟨c1, c2, c3, c4, c5⟩ := hcap.at_ k y j e1' ej
     obtain ⟨m0, hn0, hl0⟩ := I3.loc
     obtain ⟨u, r, l⟩ := hl0 j y v' c1 eσ (c2.elim (fun z => .inr (.inl z)) fun z => .inr (.inr z))
     refine ⟨u, r, .inr ⟨c3, ?_⟩⟩
     rcases l with ⟨l, _⟩ | ⟨_, c, hcc, z⟩
     ·rcases c2 with c2 | c2
      ·rw [c2] at l; cases l
      ·rw [c2] at l; cases l
     ·obtain ⟨o, ho, hd⟩ := z
      exact ⟨c, c5.trans hcc, o, old3 c o ho, hd⟩
  ·obtain ⟨v0, o, ho, hd⟩ := cellE y c q
   exact ⟨v0, o, old3 c o ho, hd⟩
  ·exact I3.freeC y c (hcl.sub y c q)
  ·have hp' : p ∈ X.pn ++ pins := by simpa using hp
   obtain ⟨p1, p2, p3, p4, p5⟩ := I3.pin p hp'
   refine ⟨old3 _ _ p1, p2, ?_, fun hz => ?_, p5⟩
   ·show p.1 ≠ C
    rw [← hC]
    exact Nat.ne_of_lt (Heap.lt_size p1)
   ·rcases List.mem_cons.mp (I3.stkSub p.1 hz) with z | z
    ·exact p3 z
    ·exact p4 z
  ·show (List.replicate xs.length none ++ caps js σ).length = (xs ++ ys).length
   unfold caps
   simp [hcap.len]
 have fpB : ∀ {H' : Hp}, (∀ b ∈ fp, H' b = none) → ∀ b ∈ fp, FpOk (blockCx X scope cl C (xs ++ ys) { s2 with heap := g3 } (upd H2 s2.heap.objs.size (.lst [])) fp (X.pn ++ pins)) [] H' b := fun hn b hb =>
  ⟨hn b hb, exlt b hb, okB.exfs b hb, .inl hb, (okB.exf b hb).2, fun p hp => (f2 b hb).2.2.2.2.2 p (by simpa using hp)⟩
 have fin : ∀ s' : Shared, (∃ i zs σ' H', Inv (blockCx X scope cl C (xs ++ ys) { s2 with heap := g3 } (upd H2 s2.heap.objs.size (.lst [])) fp (X.pn ++ pins)) [] σ' H' s' ∧ W i zs H' ∧ J.stop i H' ∧ Q (.ref s2.heap.objs.size) H') →
   compPost (model X.prog X.w) X.A X.xe use QQ (.ref s2.heap.objs.size) C (.ok .next) s' := by
  rintro s' ⟨i, zs, σ', H', Ib, w, stop, q⟩
  obtain ⟨m', hn', _⟩ := Ib.loc
  have ub := Ib.base
  have un : Un (frs X.stack) fp (upd H2 s2.heap.objs.size (.lst [])) H' g3 s'.heap := ub
  have IX : Inv X pins σ H' s' := I3.call' (s' := s') (ch := fp) Ib.os un Ib.hok Ib.bare fun b hb => ⟨(f2 b hb).2.2.2.1, (f2 b hb).2.1, (f2 b hb).2.2.2.2.1, (f2 b hb).2.2.2.2.2⟩
  exact hfin C _ s' H' IX (I3.fpOk (Nat.le_of_eq hC) Ib.free) ⟨m', hn'⟩ q
 have loop : ∀ s₃ : Shared, (∃ tk, s₃ = { s2 with heap := h₁, toks := tk }) →
   codeAny (model X.prog X.w) X.A (.compLoop (.ListComp elt [⟨tg, iter, ifs, 0⟩] scope pos) 0 (.ref it) (.ref s2.heap.objs.size) (compEnvC scope cl C X.env)) (compPost (model X.prog X.w) X.A X.xe use QQ (.ref s2.heap.objs.size) C) s₃ := by
  rintro s₃ ⟨tk, rfl⟩
  refine comp_loop (fun k s' => ∃ i zs H', k = n + 1 - i ∧ i ≤ n ∧ Inv (blockCx X scope cl C (xs ++ ys) { s2 with heap := g3 } (upd H2 s2.heap.objs.size (.lst [])) fp (X.pn ++ pins)) [] (List.replicate xs.length none ++ caps js σ) H' s' ∧ tn i s'.heap ∧ (∀ b ∈ fp, H' b = none) ∧ W i zs H')
   ?_ (n + 1) ⟨0, [], _, rfl, Nat.zero_le _, tot tk, T.keep _ _ _ st2 fun b hb o q => old3 b o (old2 b o q), fp3, w0⟩
  rintro k s' ⟨i, zs, H', rfl, hin, Ib, st, fr, w⟩
  rcases turn i zs H' w with ⟨stop, qq⟩ | ⟨hlt, go, step⟩
  ·refine wpAny_mono (T.done (blockCx X scope cl C (xs ++ ys) { s2 with heap := g3 } (upd H2 s2.heap.objs.size (.lst [])) fp (X.pn ++ pins)) rfl rfl rfl hc i [] s' _ H' (fun _ _ => False) Ib (fpB fr) st stop) (fun r s4 ⟨hr, I4⟩ => ?_) fun _ _ z => z.elim
   subst hr
   exact fin s4 ⟨i, zs, _, H', I4, w, stop, qq⟩
  ·refine wpAny_mono (T.item (blockCx X scope cl C (xs ++ ys) { s2 with heap := g3 } (upd H2 s2.heap.objs.size (.lst [])) fp (X.pn ++ pins)) rfl rfl rfl hc i [] s' _ H' (fun _ _ => False) Ib (fpB fr) st go) (fun r s4 ⟨u, hr, h4⟩ => ?_) fun _ _ z => z.elim
   subst hr
   refine wpAny_mono h4 (fun _ s5 ⟨v5, H5, I5, r5, y5, st5, fr5⟩ => ?_) fun _ _ z => z.elim
   have I5' := I5.pinned (fpB fr5) (T.obj _ _ st5)
   have hw5 := step v5 H5 y5
   refine wpAny_mono (hg C _ _ fp (X.pn ++ pins) _ s5 _ H5 v5 u _ I5' r5 hw5) (fun _ s6 ⟨σ6, H6, I6, ⟨hl6, hd6⟩, e6⟩ => ?_) fun _ _ z => z.elim
   have back : ∀ {H' : Hp} {s' : Shared} {pins' : List (Addr × Obj)}, Inv (blockCx X scope cl C (xs ++ ys) { s2 with heap := g3 } (upd H2 s2.heap.objs.size (.lst [])) fp (X.pn ++ pins)) pins' σ6 H' s' → Inv (blockCx X scope cl C (xs ++ ys) { s2 with heap := g3 } (upd H2 s2.heap.objs.size (.lst [])) fp (X.pn ++ pins)) pins' (List.replicate xs.length none ++ caps js σ) H' s' := fun I' => by
    refine I'.weak ?_ fun j v' e => ?_
    ·rw [hl6]; unfold caps; simp
    ·by_cases hj : j < xs.length
     ·rw [List.getElem?_append_left (by rw [List.length_replicate]; exact hj), List.getElem?_replicate] at e
      split at e <;> cases e
     ·rw [List.getElem?_append_right (by rw [List.length_replicate]; omega), List.length_replicate, ← hd6, List.getElem?_drop] at e
      rw [← e]
      congr 1
      omega
   refine wpAny_mono (ht C _ _ fp (X.pn ++ pins) _ s6 _ _ _ I6 e6) (fun ok s6b ⟨H6b, I6b, e6b⟩ => ?_) fun _ _ z => z.elim
   cases ok with
   | false =>
    rw [if_neg Bool.false_ne_true]
    have e6c : W (i + 1) zs H6b := by simpa using e6b
    have I8 := back I6b
    refine ⟨n + 1 - (i + 1), by omega, i + 1, zs, _, rfl, hlt, I8.unpinned (pins := []), ?_, fun b hb => ?_, e6c⟩
    ·exact T.keep _ _ _ st5 fun b hb o q => (I8.pin (b, o) (List.mem_append_right _ (List.mem_append_right _ (mem_pinsAt hb q)))).1
    ·obtain ⟨o, q, d⟩ := T.obj _ _ st5 b hb
     exact (I8.pin (b, o) (List.mem_append_right _ (List.mem_append_right _ (mem_pinsAt hb q)))).2.1
   | true =>
    rw [if_pos rfl]
    have e6c := e6b
    rw [if_pos rfl] at e6c
    refine wpAny_mono (hb C _ _ fp (X.pn ++ pins) _ s6b _ _ _ I6b e6c) (fun y s7 ⟨yv, H7, I7, r7, hD, hz, w7⟩ => ?_) fun _ _ z => z.elim
    obtain ⟨z7, its, n7, rv7, hl7, e7⟩ := I7.lstM hD
    refine append_at (n := n7) (its := its.toArray) e7 (fun h₈ sb8 eD8 => ?_) (by rw [List.size_toArray, ← hl7]; exact Nat.le_of_lt hz)
    have I8 : Inv _ _ _ (upd H7 s2.heap.objs.size (.lst (zs ++ [yv]))) { s7 with heap := h₈, toks := s7.toks } := I7.write (x := s2.heap.objs.size) (e := s2.heap.objs.size) (by rw [hD]; exact trivial) (.inl rfl) (fun b u hb q => (sb8.2 b hb).trans q) ⟨_, eD8⟩
     ⟨by rw [List.length_append]; exact hz, its ++ [y], n7 + 1, rv7.append (.cons r7 .nil), by rw [eD8, List.push_toArray]⟩
    have I9 := back I8
    refine ⟨n + 1 - (i + 1), by omega, i + 1, zs ++ [yv], _, rfl, hlt, I9.unpinned (pins := []), ?_, fun b hb => ?_, w7⟩
    ·exact T.keep _ _ _ st5 fun b hb o q => (I8.pin (b, o) (List.mem_append_right _ (List.mem_append_right _ (mem_pinsAt hb q)))).1
    ·obtain ⟨o, q, d⟩ := T.obj _ _ st5 b hb
     exact (I8.pin (b, o) (List.mem_append_right _ (List.mem_append_right _ (mem_pinsAt hb q)))).2.1
 exact codeAny_compStart_list (loop _ ⟨_, rfl⟩) (T.self _ 0 _ _ _ (T.keep _ _ _ st2 fun b hb o q => old3 b o (old2 b o q)) (loop _ ⟨_, rfl⟩))
theorem pe_compG {elt iter tg : Expr} {pos : Pos} {scope : Scope} {ifs : List Expr} {wi : TI} {g : TG} {tt : TT} {te : TE} {xs ys : List Str} {js : List Nat} {cl : List (Str × Addr)} (hc : X.calm = true) (hi : PI X tg iter wi)
  (hcl : ClOk X scope cl) (hcap : CapOk X scope cl ys js) (hcell : ∀ y ∈ scope.names, y.2 ≠ .cell) (hkind : scope.kind = .function) (hnames : ∀ y ∈ scope.names, y.2 = .local → scope.names.lookup y.1 = some .local)
  (hg : ∀ C s₀ H₀ ex pn, PG (blockCx X scope cl C (xs ++ ys) s₀ H₀ ex pn) tg g) (ht : ∀ C s₀ H₀ ex pn, PTs (blockCx X scope cl C (xs ++ ys) s₀ H₀ ex pn) ifs tt) (hb : ∀ C s₀ H₀ ex pn, PE (blockCx X scope cl C (xs ++ ys) s₀ H₀ ex pn) elt te)
  (hs : ∀ x, foldedSetIterable iter X.env x = pure x := by intro _; rfl) :
  PE X (.ListComp elt [⟨tg, iter, ifs, 0⟩] scope pos) (tCompG wi g tt te xs.length js) := by
 intro pins s σ H Q I h
 rw [eval_ListComp]
 exact comp_core hc hi hcl hcap hcell hkind hnames hg ht hb hs (use := none) (QQ := EP X pins σ Q) (Q := Q) I (fun C D s' H' IX f ⟨m, hn⟩ q => ⟨m, hn, fun h' hs' => ⟨.ref D, H', IX.but f hs', rfl, q⟩⟩) h
theorem ps_compG {elt iter tg : Expr} {pos py spos : Pos} {scope : Scope} {ifs : List Expr} {wi : TI} {g : TG} {tt : TT} {te : TE} {xs ys : List Str} {js : List Nat} {cl : List (Str × Addr)} {i : Nat} {y : Str} (hN : X.N.Nodup) (hiN : X.N[i]? = some y) (hx : Loc X.env.scope y) (hc : X.calm = true) (hi : PI X tg iter wi)
  (hcl : ClOk X scope cl) (hcap : CapOk X scope cl ys js) (hcell : ∀ y ∈ scope.names, y.2 ≠ .cell) (hkind : scope.kind = .function) (hnames : ∀ y ∈ scope.names, y.2 = .local → scope.names.lookup y.1 = some .local)
  (hg : ∀ C s₀ H₀ ex pn, PG (blockCx X scope cl C (xs ++ ys) s₀ H₀ ex pn) tg g) (ht : ∀ C s₀ H₀ ex pn, PTs (blockCx X scope cl C (xs ++ ys) s₀ H₀ ex pn) ifs tt) (hb : ∀ C s₀ H₀ ex pn, PE (blockCx X scope cl C (xs ++ ys) s₀ H₀ ex pn) elt te)
  (hsw : swapsWith (.ListComp elt [⟨tg, iter, ifs, 0⟩] scope pos) (some (.Name y py)) spos.line X.env = pure true) (hs : ∀ x, foldedSetIterable iter X.env x = pure x := by intro _; rfl)
  (hf : X.fn y = true ∨ X.env.scope.names.lookup y = some .local := by first | exact .inl rfl | exact .inr rfl | assumption) :
  PS X (.Assign [.Name y py] (.ListComp elt [⟨tg, iter, ifs, 0⟩] scope pos) spos) (tAsg (tCompG wi g tt te xs.length js) (gName i)) := by
 intro pins s σ H D I h
 rw [exec_Assign_Name_used _ _ _ _ hsw]
 refine wpAny_bind (wpAny_standAt (wpAny_bind ?_))
 show wpAny _ X.A (do let _ ← comprehension (.ListComp elt [⟨tg, iter, ifs, 0⟩] scope pos) scope X.env _ (newList []) false (eval iter X.env) (some (assign (.Name y py) X.env))) _ _ s
 refine wpAny_bind (wpAny_mono (comp_core hc hi hcl hcap hcell hkind hnames hg ht hb hs (use := some (assign (.Name y py) X.env)) (QQ := fun _ s' => ∃ σ' H', Inv X pins σ' H' s' ∧ D.nx σ' H') I (fun C L s' H' IX f ⟨m, hn⟩ q => ?_) h) (fun _ s' hq => wpAny_pure (wpAny_pure hq)) fun _ _ e => e)
 obtain ⟨o, es, ep, ho, hd, hr⟩ := id hn
 have IP := IX.pinned (fp := [C]) (fun b hb => by rw [List.mem_singleton.mp hb]; exact f) (fun b hb => by rw [List.mem_singleton.mp hb]; exact ⟨o, ho, fun v z => by rw [hd] at z; cases z⟩)
 refine wpAny_mono (pg_name (pos := py) hN hiN hx hf _ s' σ H' (.ref L) (.ref L) _ IP rfl q) (fun _ s2 ⟨σ2, H2, I2, q2⟩ => ?_) fun _ _ e => e
 have pc := I2.pin (C, o) (List.mem_append_right _ (List.mem_append_right _ (mem_pinsAt (.head _) ho)))
 exact ⟨m, ⟨o, es, ep, pc.1, hd, hr⟩, fun h' hs' => ⟨σ2, H2, (I2.unpinned (pins := pins)).but ⟨pc.2.1, f.2⟩ hs', q2⟩⟩
end
end L2

namespace M
open PySem PySem.Spec PyProof.Rows L2
abbrev D := PyData
inductive Res (α : Type) where
 | ok (a : α)
 | exc (C : Addr)
 | bad
def Res.bind {α β : Type} (r : Res α) (f : α → Res β) : Res β := match r with
 | .ok a => f a
 | .exc C => .exc C
 | .bad => .bad
def wpR {α : Type} (r : Res α) (Q : α → Prop) (E : Addr → Prop) : Prop := match r with
 | .ok a => Q a
 | .exc C => E C
 | .bad => False
theorem wpR_bind {α β : Type} {r : Res α} {f : α → Res β} {Q : β → Prop} {E : Addr → Prop} : wpR (r.bind f) Q E = wpR r (fun a => wpR (f a) Q E) E := by cases r <;> rfl
theorem wpR_mono {α : Type} {r : Res α} {Q Q' : α → Prop} {E E' : Addr → Prop} (h : wpR r Q E) (hQ : ∀ a, Q a → Q' a) (hE : ∀ C, E C → E' C) : wpR r Q' E' := by
 cases r with
 | ok a => exact hQ a h
 | exc C => exact hE C h
 | bad => exact h
inductive L where
 | p (d : D)
 | o (d : D)
 | x (C : Addr)
 | h (a : Addr)
inductive Ev where
 | p (d : D)
 | f (d : D)
 | b (d : D)
 | x (C : Addr)
def Ev.c : Ev → Ev
 | .f d => .p d
 | r => r
abbrev En := List (Option L)
def kD : Key → D
 | .inl i => .int i
 | .inr x => .str x
def tkD (ks : List Key) : D := .tuple (ks.map kD)
mutual
inductive Rep (K : PySem.W.Frag) (G : Hp) : V → D → Prop
 | non : Rep K G .non .none
 | bl (b : Bool) : Rep K G (.bl b) (.bool b)
 | int (i : Int) : Rep K G (.int i) (.int i)
 | str (x : Str) : Rep K G (.str x) (.str x)
 | tup {a : Addr} {xs : List V} {ds : List D} : G a = some (.tup xs) → Reps K G xs ds → Rep K G (.ref a) (.tuple ds)
 | lst {a : Addr} {xs : List V} {ds : List D} : Rd G a (.lst xs) → Reps K G xs ds → Rep K G (.ref a) (.list ds)
 | dT {a : Addr} {kv : List (List Key × V)} {kvs : List (D × D)} : G a = some (.dT kv) → RepT K G kv kvs → Rep K G (.ref a) (.dict kvs)
 | dK {a : Addr} {kv : List (Key × V)} {kvs : List (D × D)} : G a = some (.dK kv) → RepK K G kv kvs → Rep K G (.ref a) (.dict ((.none, .none) :: kvs))
inductive Reps (K : PySem.W.Frag) (G : Hp) : List V → List D → Prop
 | nil : Reps K G [] []
 | cons {x : V} {xs : List V} {d : D} {ds : List D} : Rep K G x d → Reps K G xs ds → Reps K G (x :: xs) (d :: ds)
inductive RepT (K : PySem.W.Frag) (G : Hp) : List (List Key × V) → List (D × D) → Prop
 | nil : RepT K G [] []
 | cons {k : List Key} {x : V} {d : D} {kv : List (List Key × V)} {kvs : List (D × D)} : Rep K G x d → RepT K G kv kvs → RepT K G ((k, x) :: kv) ((tkD k, d) :: kvs)
inductive RepK (K : PySem.W.Frag) (G : Hp) : List (Key × V) → List (D × D) → Prop
 | nil : RepK K G [] []
 | cons {k : Key} {x : V} {d : D} {kv : List (Key × V)} {kvs : List (D × D)} : Rep K G x d → RepK K G kv kvs → RepK K G ((k, x) :: kv) ((kD k, d) :: kvs)
end
inductive Cont (K : PySem.W.Frag) (G : Hp) : HO → D → Prop
 | lst {xs : List V} {ds : List D} : Reps K G xs ds → Cont K G (.lst xs) (.list ds)
 | dT {kv : List (List Key × V)} {kvs : List (D × D)} : RepT K G kv kvs → Cont K G (.dT kv) (.dict kvs)
 | dK {kv : List (Key × V)} {kvs : List (D × D)} : RepK K G kv kvs → Cont K G (.dK kv) (.dict ((.none, .none) :: kvs))
section
variable {K : PySem.W.Frag} {G G' H H' : Hp}
theorem rd_mono {a : Addr} {u : HO} (s : Same G G') (h : Rd G a u) : Rd G' a u := by
 rcases h with h | ⟨o, h⟩
 ·exact .inl (s _ _ h)
 ·exact .inr ⟨o, s _ _ h⟩
mutual
theorem Rep.mono (s : Same G G') : ∀ {v : V} {d : D}, Rep K G v d → Rep K G' v d
 | _, _, .non => .non
 | _, _, .bl b => .bl b
 | _, _, .int i => .int i
 | _, _, .str x => .str x
 | _, _, .tup h r => .tup (s _ _ h) (Reps.mono s r)
 | _, _, .lst h r => .lst (rd_mono s h) (Reps.mono s r)
 | _, _, .dT h r => .dT (s _ _ h) (RepT.mono s r)
 | _, _, .dK h r => .dK (s _ _ h) (RepK.mono s r)
theorem Reps.mono (s : Same G G') : ∀ {v : List V} {d : List D}, Reps K G v d → Reps K G' v d
 | _, _, .nil => .nil
 | _, _, .cons h r => .cons (Rep.mono s h) (Reps.mono s r)
theorem RepT.mono (s : Same G G') : ∀ {v : List (List Key × V)} {d : List (D × D)}, RepT K G v d → RepT K G' v d
 | _, _, .nil => .nil
 | _, _, .cons h r => .cons (Rep.mono s h) (RepT.mono s r)
theorem RepK.mono (s : Same G G') : ∀ {v : List (Key × V)} {d : List (D × D)}, RepK K G v d → RepK K G' v d
 | _, _, .nil => .nil
 | _, _, .cons h r => .cons (Rep.mono s h) (RepK.mono s r)
end
theorem Cont.mono (s : Same G G') {o : HO} {d : D} (h : Cont K G o d) : Cont K G' o d := by
 cases h with
 | lst r => exact .lst (r.mono s)
 | dT r => exact .dT (r.mono s)
 | dK r => exact .dK (r.mono s)
theorem Cont.rep {a : Addr} {o : HO} {d : D} (h : Cont K G o d) (e : G a = some o) : Rep K G (.ref a) d := by
 cases h with
 | lst r => exact .lst (.inl e) r
 | dT r => exact .dT e r
 | dK r => exact .dK e r
theorem Reps.length : ∀ {xs : List V} {ds : List D}, Reps K G xs ds → xs.length = ds.length
 | _, _, .nil => rfl
 | _, _, .cons _ r => by rw [List.length_cons, List.length_cons, Reps.length r]
theorem Reps.get : ∀ {xs : List V} {ds : List D} {i : Nat} {x : V}, Reps K G xs ds → xs[i]? = some x → ∃ d, ds[i]? = some d ∧ Rep K G x d
 | _, _, _, _, .nil, e => by simp at e
 | _, _, 0, _, .cons h _, e => by simp at e; subst e; exact ⟨_, rfl, h⟩
 | _, _, i + 1, _, .cons _ r, e => by
  have := Reps.get (i := i) r (by simpa using e)
  simpa using this
theorem Reps.get' : ∀ {xs : List V} {ds : List D} {i : Nat} {d : D}, Reps K G xs ds → ds[i]? = some d → ∃ x, xs[i]? = some x ∧ Rep K G x d
 | _, _, _, _, .nil, e => by simp at e
 | _, _, 0, _, .cons h _, e => by simp at e; subst e; exact ⟨_, rfl, h⟩
 | _, _, i + 1, _, .cons _ r, e => by
  have := Reps.get' (i := i) r (by simpa using e)
  simpa using this
theorem Reps.append : ∀ {xs ys : List V} {ds es : List D}, Reps K G xs ds → Reps K G ys es → Reps K G (xs ++ ys) (ds ++ es)
 | _, _, _, _, .nil, r => r
 | _, _, _, _, .cons h t, r => .cons h (Reps.append t r)
theorem Reps.take : ∀ {xs : List V} {ds : List D} (n : Nat), Reps K G xs ds → Reps K G (xs.take n) (ds.take n)
 | _, _, 0, _ => .nil
 | _, _, _ + 1, .nil => .nil
 | _, _, n + 1, .cons h t => .cons h (Reps.take n t)
theorem Reps.drop : ∀ {xs : List V} {ds : List D} (n : Nat), Reps K G xs ds → Reps K G (xs.drop n) (ds.drop n)
 | _, _, 0, r => r
 | _, _, _ + 1, .nil => .nil
 | _, _, n + 1, .cons _ t => Reps.drop n t
end
structure Step (G H G' H' : Hp) : Prop where
 g : Same G G'
 h : Same H H'
 gh : Same G' H'
 new : ∀ b, H b ≠ none → G b = none → G' b = none ∨ ∃ xs, H b = some (.tup xs)
theorem Step.off {G H G' H' : Hp} (s : Step G H G' H') {b : Addr} {o : HO} (h : H b = some o) (n : ∀ xs, o ≠ .tup xs) (g : G b = none) : G' b = none := by
 rcases s.new b (by rw [h]; exact fun z => nomatch z) g with z | ⟨xs, z⟩
 ·exact z
 ·rw [h] at z; exact absurd (Option.some.inj z) (n xs)
theorem same_ne {H H' : Hp} (s : Same H H') {b : Addr} (h : H b ≠ none) : H' b ≠ none := by
 cases e : H b with
 | none => exact absurd e h
 | some o => rw [s b o e]; exact fun z => nomatch z
theorem Step.refl {G H : Hp} (s : Same G H) : Step G H G H := ⟨Same.refl _, Same.refl _, s, fun _ _ h => .inl h⟩
theorem Step.trans {G H G1 H1 G2 H2 : Hp} (a : Step G H G1 H1) (b : Step G1 H1 G2 H2) : Step G H G2 H2 :=
 ⟨a.g.trans b.g, a.h.trans b.h, b.gh, fun c hc hg => by
  rcases a.new c hc hg with z | z
  ·rcases b.new c (same_ne a.h hc) z with y | ⟨xs, y⟩
   ·exact .inl y
   ·cases e : H c with
    | none => exact absurd e hc
    | some o =>
     rw [a.h _ _ e] at y
     exact .inr ⟨xs, y⟩
  ·exact .inr z⟩
theorem Step.put {G H : Hp} {a : Addr} {o : HO} (s : Same G H) (e : H a = none) : Step G H (upd G a o) (upd H a o) :=
 ⟨Same.upd (Same.refl _) (s.free e) o, Same.upd (Same.refl _) e o, fun b u q => by
  by_cases z : b = a
  ·subst z; rw [upd_same] at q ⊢; exact q
  ·rw [upd_ne z] at q ⊢; exact s b u q, fun b hb hg => by
  have z : b ≠ a := fun z => hb (z ▸ e)
  rw [upd_ne z]; exact .inl hg⟩
theorem Step.lay {G H : Hp} {a : Addr} {o : HO} (s : Same G H) (e : H a = none) : Step G H G (upd H a o) :=
 ⟨Same.refl _, Same.upd (Same.refl _) e o, Same.upd s e o, fun _ _ h => .inl h⟩
def EOk (K : PySem.W.Frag) (W : Addr → Option Nat) (Hs G H : Hp) (v : V) : Ev → Prop
 | .p d => Rep K G v d
 | .f d => ∃ a o, v = .ref a ∧ Hs a = none ∧ G a = none ∧ H a = some o ∧ Cont K G o d
 | .b d => ∃ a i o, v = .ref a ∧ W a = some i ∧ H a = some o ∧ Cont K G o d
 | .x C => ∃ e, v = .ref e ∧ G e = some (excO e (.ref C))
theorem EOk.step {K : PySem.W.Frag} {W : Addr → Option Nat} {Hs Hs' G H G' H' : Hp} {v : V} {r : Ev} (h : EOk K W Hs G H v r.c) (s : Step G H G' H') : EOk K W Hs' G' H' v r.c := by
 cases r with
 | p d => exact Rep.mono s.g h
 | f d => exact Rep.mono s.g h
 | b d =>
  obtain ⟨a, i, o, h1, h2, h3, h4⟩ := h
  exact ⟨a, i, o, h1, h2, s.h _ _ h3, h4.mono s.g⟩
 | x C =>
  obtain ⟨e, h1, h2⟩ := h
  exact ⟨e, h1, s.g _ _ h2⟩
theorem EOk.c {K : PySem.W.Frag} {W : Addr → Option Nat} {G H G1 H1 : Hp} {v : V} {r : Ev} (s : Step G H G1 H1) (h : EOk K W H G1 H1 v r) : ∃ G2, Step G H G2 H1 ∧ EOk K W H G2 H1 v r.c := by
 cases r with
 | p d => exact ⟨G1, s, h⟩
 | b d => exact ⟨G1, s, h⟩
 | x d => exact ⟨G1, s, h⟩
 | f d =>
  obtain ⟨a, o, rfl, h1, h2, h3, h4⟩ := h
  refine ⟨upd G1 a o, ⟨s.g.trans (Same.upd (Same.refl _) h2 o), s.h, fun b u q => ?_, fun b hb hg => ?_⟩, (h4.mono (Same.upd (Same.refl _) h2 o)).rep upd_same⟩
  ·by_cases z : b = a
   ·subst z; rw [upd_same] at q; rw [h3]; exact q
   ·rw [upd_ne z] at q; exact s.gh b u q
  ·have z : b ≠ a := fun z => hb (z ▸ h1)
   rw [upd_ne z]; exact s.new b hb hg
structure SimH (B G0 G : Hp) (W : Addr → Option Nat) (H : Hp) : Prop where
 gh : Same G H
 bh : Same B H
 g0 : Same G0 G
 gb : ∀ b, G b ≠ none → G0 b ≠ none ∨ B b = none ∨ ∃ xs, B b = some (.tup xs)
 wf : ∀ a i, W a = some i → G a = none ∧ B a = none ∧ ∃ o, H a = some o ∧ ∀ xs, o ≠ .tup xs
theorem SimH.step {B G0 G H G' H' : Hp} {W : Addr → Option Nat} (s : SimH B G0 G W H) (t : Step G H G' H') : SimH B G0 G' W H' := by
 refine ⟨t.gh, s.bh.trans t.h, s.g0.trans t.g, fun b hb => ?_, fun a i e => ?_⟩
 ·by_cases z : G b = none
  ·refine .inr ?_
   by_cases y : H b = none
   ·exact .inl (s.bh.free y)
   ·rcases t.new b y z with q | ⟨xs, q⟩
    ·exact absurd q hb
    ·cases e : B b with
     | none => exact .inl rfl
     | some o => rw [s.bh _ _ e] at q; exact .inr ⟨xs, q⟩
  ·exact s.gb b z
 ·obtain ⟨h1, h2, o, h3, h4⟩ := s.wf a i e
  exact ⟨t.off h3 h4 h1, h2, o, t.h _ _ h3, h4⟩
theorem Cont.mut {K : PySem.W.Frag} {G : Hp} {o : HO} {d : D} (h : Cont K G o d) : ∀ xs, o ≠ .tup xs := by
 intro xs z
 subst z
 cases h
def Slot (K : PySem.W.Frag) (W : Addr → Option Nat) (G H : Hp) (i : Nat) (v : V) : L → Prop
 | .p d => Rep K G v d
 | .o d => ∃ a o, v = .ref a ∧ W a = some i ∧ H a = some o ∧ Cont K G o d
 | .x C => ∃ e, v = .ref e ∧ G e = some (excO e (.ref C))
 | .h a => v = .ref a
def SimS (K : PySem.W.Frag) (W : Addr → Option Nat) (G H : Hp) (σ : L2.St) (en : En) : Prop := σ.length = en.length ∧ ∀ i l, en[i]? = some (some l) → ∃ v, σ[i]? = some (some v) ∧ Slot K W G H i v l
theorem Slot.step {K : PySem.W.Frag} {W : Addr → Option Nat} {G H G' H' : Hp} {i : Nat} {v : V} {l : L} (h : Slot K W G H i v l) (s : Step G H G' H') : Slot K W G' H' i v l := by
 cases l with
 | p d => exact Rep.mono s.g h
 | o d =>
  obtain ⟨a, o, h1, h2, h3, h4⟩ := h
  exact ⟨a, o, h1, h2, s.h _ _ h3, h4.mono s.g⟩
 | x C =>
  obtain ⟨e, h1, h2⟩ := h
  exact ⟨e, h1, s.g _ _ h2⟩
 | h a => exact h
theorem SimS.step {K : PySem.W.Frag} {W : Addr → Option Nat} {G H G' H' : Hp} {σ : L2.St} {en : En} (h : SimS K W G H σ en) (s : Step G H G' H') : SimS K W G' H' σ en :=
 ⟨h.1, fun i l e => let ⟨v, e1, e2⟩ := h.2 i l e; ⟨v, e1, e2.step s⟩⟩
def PostE (K : PySem.W.Frag) (W : Addr → Option Nat) (G H : Hp) (Q : VK) (r : Ev) : Prop := ∀ G' H' v, Step G H G' H' → EOk K W H G' H' v r → Q v H'
def PostB (G H : Hp) (Q : Bool → Hp → Prop) (b : Bool) : Prop := ∀ G' H', Step G H G' H' → Q b H'
def EOks (K : PySem.W.Frag) (W : Addr → Option Nat) (Hs G H : Hp) : List V → List Ev → Prop
 | [], [] => True
 | v :: vs, r :: rs => EOk K W Hs G H v r ∧ EOks K W Hs G H vs rs
 | _, _ => False
def PostA (K : PySem.W.Frag) (W : Addr → Option Nat) (G H : Hp) (Q : List V → Hp → Prop) (rs : List Ev) : Prop := ∀ G' H' vs, Step G H G' H' → EOks K W H G' H' vs rs → Q vs H'
def PostX (E : XK) (G H : Hp) (C : Addr) : Prop := ∀ G' H', Step G H G' H' → E (.ref C) none H'
theorem PostE.step {K : PySem.W.Frag} {W : Addr → Option Nat} {G H G' H' : Hp} {Q : VK} {r : Ev} (h : PostE K W G H Q r) (s : Step G H G' H') : PostE K W G' H' Q r := fun G2 H2 v s2 e => h G2 H2 v (s.trans s2) (by
 cases r with
 | p d => exact e
 | b d => exact e
 | x d => exact e
 | f d =>
  obtain ⟨a, o, h1, h2, h3, h4, h5⟩ := e
  exact ⟨a, o, h1, s.h.free h2, h3, h4, h5⟩)
theorem PostX.step {E : XK} {G H G' H' : Hp} {C : Addr} (h : PostX E G H C) (s : Step G H G' H') : PostX E G' H' C := fun G2 H2 s2 => h G2 H2 (s.trans s2)
theorem PostB.step {G H G' H' : Hp} {Q : Bool → Hp → Prop} {b : Bool} (h : PostB G H Q b) (s : Step G H G' H') : PostB G' H' Q b := fun G2 H2 s2 => h G2 H2 (s.trans s2)
def tE (K : PySem.W.Frag) (E : L2.St → XK) (f : En → Res Ev) : TE := fun σ H Q => ∃ B G0 G W en, SimH B G0 G W H ∧ SimS K W G H σ en ∧ wpR (f en) (PostE K W G H Q) (PostX (E σ) G H)
def DE (X : Cx) (E : L2.St → XK) (e : Expr) (f : En → Res Ev) : Prop := PE X e (tE X.K E f)
theorem DE.out {X : Cx} {E : L2.St → XK} {e : Expr} {f : En → Res Ev} (h : DE X E e f) : ∃ t, PE X e t ∧ ∀ B G0 G W H σ en Q, SimH B G0 G W H → SimS X.K W G H σ en → wpR (f en) (PostE X.K W G H Q) (PostX (E σ) G H) → t σ H Q :=
 ⟨_, h, fun B G0 G W H σ en Q h1 h2 h3 => ⟨B, G0, G, W, en, h1, h2, h3⟩⟩
theorem DE.in {X : Cx} {E : L2.St → XK} {e : Expr} {f : En → Res Ev} (h : ∃ t, PE X e t ∧ ∀ B G0 G W H σ en Q, SimH B G0 G W H → SimS X.K W G H σ en → wpR (f en) (PostE X.K W G H Q) (PostX (E σ) G H) → t σ H Q) : DE X E e f :=
 fun pins s σ H Q I ⟨B, G0, G, W, en, h1, h2, h3⟩ => let ⟨_, p, m⟩ := h; p pins s σ H Q I (m B G0 G W H σ en Q h1 h2 h3)
def tT (K : PySem.W.Frag) (E : L2.St → XK) (f : En → Res Bool) : TT := fun σ H Q => ∃ B G0 G W en, SimH B G0 G W H ∧ SimS K W G H σ en ∧ wpR (f en) (PostB G H Q) (PostX (E σ) G H)
def tA (K : PySem.W.Frag) (E : L2.St → XK) (f : En → Res (List Ev)) : TA := fun σ H Q => ∃ B G0 G W en, SimH B G0 G W H ∧ SimS K W G H σ en ∧ wpR (f en) (PostA K W G H Q) (PostX (E σ) G H)
def DT (X : Cx) (E : L2.St → XK) (e : Expr) (f : En → Res Bool) : Prop := PT X e (tT X.K E f)
def DW (X : Cx) (E : L2.St → XK) (e : Expr) (f : En → Res Bool) : Prop := PW X e (tT X.K E f)
def DA (X : Cx) (E : L2.St → XK) (es : List Expr) (f : En → Res (List Ev)) : Prop := PA X es (tA X.K E f)
section
variable {X : Cx} {E : L2.St → XK} {e : Expr} {es : List Expr} {f : En → Res Bool} {fr : En → Res (List Ev)}
theorem DT.out (h : DT X E e f) : ∃ t, PT X e t ∧ ∀ B G0 G W H σ en Q, SimH B G0 G W H → SimS X.K W G H σ en → wpR (f en) (PostB G H Q) (PostX (E σ) G H) → t σ H Q :=
 ⟨_, h, fun B G0 G W H σ en Q h1 h2 h3 => ⟨B, G0, G, W, en, h1, h2, h3⟩⟩
theorem DT.in (h : ∃ t, PT X e t ∧ ∀ B G0 G W H σ en Q, SimH B G0 G W H → SimS X.K W G H σ en → wpR (f en) (PostB G H Q) (PostX (E σ) G H) → t σ H Q) : DT X E e f :=
 fun pins s σ H Q I ⟨B, G0, G, W, en, h1, h2, h3⟩ => let ⟨_, p, m⟩ := h; p pins s σ H Q I (m B G0 G W H σ en Q h1 h2 h3)
theorem DW.out (h : DW X E e f) : ∃ t, PW X e t ∧ ∀ B G0 G W H σ en Q, SimH B G0 G W H → SimS X.K W G H σ en → wpR (f en) (PostB G H Q) (PostX (E σ) G H) → t σ H Q :=
 ⟨_, h, fun B G0 G W H σ en Q h1 h2 h3 => ⟨B, G0, G, W, en, h1, h2, h3⟩⟩
theorem DW.in (h : ∃ t, PW X e t ∧ ∀ B G0 G W H σ en Q, SimH B G0 G W H → SimS X.K W G H σ en → wpR (f en) (PostB G H Q) (PostX (E σ) G H) → t σ H Q) : DW X E e f :=
 fun wh pins s σ H Q I ⟨B, G0, G, W, en, h1, h2, h3⟩ => let ⟨_, p, m⟩ := h; p wh pins s σ H Q I (m B G0 G W H σ en Q h1 h2 h3)
theorem DA.out (h : DA X E es fr) : ∃ t, PA X es t ∧ ∀ B G0 G W H σ en Q, SimH B G0 G W H → SimS X.K W G H σ en → wpR (fr en) (PostA X.K W G H Q) (PostX (E σ) G H) → t σ H Q :=
 ⟨_, h, fun B G0 G W H σ en Q h1 h2 h3 => ⟨B, G0, G, W, en, h1, h2, h3⟩⟩
theorem DA.in (h : ∃ t, PA X es t ∧ ∀ B G0 G W H σ en Q, SimH B G0 G W H → SimS X.K W G H σ en → wpR (fr en) (PostA X.K W G H Q) (PostX (E σ) G H) → t σ H Q) : DA X E es fr :=
 fun pos pins s σ H Q I ⟨B, G0, G, W, en, h1, h2, h3⟩ => let ⟨_, p, m⟩ := h; p pos pins s σ H Q I (m B G0 G W H σ en Q h1 h2 h3)
end
theorem DW.t {X : Cx} {E : L2.St → XK} {e : Expr} {f : En → Res Bool} (h : DW X E e f) : DT X E e f := h _
section
variable {X : Cx} {E : L2.St → XK} {a b c e : Expr} {es : List Expr} {fa fb : En → Res Ev} {fr : En → Res (List Ev)} {pos : Pos}
theorem DE.go {K : PySem.W.Frag} {W : Addr → Option Nat} {G H : Hp} {EE : XK} {Q : VK} {r : Res Ev} {k : Ev → Res Ev} {Q' : VK} (hw : wpR (r.bind k) (PostE K W G H Q) (PostX EE G H))
  (h : ∀ (x : Ev) G1 H1 v, Step G H G1 H1 → EOk K W H G1 H1 v x.c → wpR (k x) (PostE K W G1 H1 Q) (PostX EE G1 H1) → Q' v H1) : wpR r (PostE K W G H Q') (PostX EE G H) := by
 rw [wpR_bind] at hw
 refine wpR_mono hw (fun x hx G1 H1 v s e => ?_) fun C h => h
 obtain ⟨G2, s2, e2⟩ := e.c s
 exact h x G2 H1 v s2 e2 (wpR_mono hx (fun r h => h.step s2) fun C h => h.step s2)
theorem DE.goB {K : PySem.W.Frag} {W : Addr → Option Nat} {G H : Hp} {EE : XK} {Q : Bool → Hp → Prop} {r : Res Ev} {k : Ev → Res Bool} {Q' : VK} (hw : wpR (r.bind k) (PostB G H Q) (PostX EE G H))
  (h : ∀ (x : Ev) G1 H1 v, Step G H G1 H1 → EOk K W H G1 H1 v x.c → wpR (k x) (PostB G1 H1 Q) (PostX EE G1 H1) → Q' v H1) : wpR r (PostE K W G H Q') (PostX EE G H) := by
 rw [wpR_bind] at hw
 refine wpR_mono hw (fun x hx G1 H1 v s e => ?_) fun C h => h
 obtain ⟨G2, s2, e2⟩ := e.c s
 exact h x G2 H1 v s2 e2 (wpR_mono hx (fun r h => h.step s2) fun C h => h.step s2)
def OpM (K : PySem.W.Frag) (r : R2) (op : Ev → Ev → Res Ev) : Prop := ∀ (W : Addr → Option Nat) (G H : Hp) (v u : V) (x y : Ev) (Q : VK), Same G H → EOk K W H G H v x.c → EOk K W H G H u y.c → wpR (op x.c y.c) (PostE K W G H Q) (fun _ => False) → r v u H Q
def mBin (op : Ev → Ev → Res Ev) (fa fb : En → Res Ev) : En → Res Ev := fun en => (fa en).bind fun x => (fb en).bind fun y => op x.c y.c
def NoX (op : Ev → Ev → Res Ev) : Prop := ∀ x y C, op x y ≠ .exc C
theorem noX {α : Type} {r : Res α} {Q : α → Prop} {E E' : Addr → Prop} (h : wpR r Q E) (n : ∀ C, r ≠ .exc C) : wpR r Q E' := by
 cases r with
 | ok a => exact h
 | exc C => exact absurd rfl (n C)
 | bad => exact h
theorem op_core {ta tb : TE} {r : R2} {op : Ev → Ev → Res Ev} (ma : ∀ B G0 G W H σ en Q, SimH B G0 G W H → SimS X.K W G H σ en → wpR (fa en) (PostE X.K W G H Q) (PostX (E σ) G H) → ta σ H Q)
  (mb : ∀ B G0 G W H σ en Q, SimH B G0 G W H → SimS X.K W G H σ en → wpR (fb en) (PostE X.K W G H Q) (PostX (E σ) G H) → tb σ H Q) (hm : OpM X.K r op) (hn : NoX op) :
  ∀ B G0 G W H σ en Q, SimH B G0 G W H → SimS X.K W G H σ en → wpR (mBin op fa fb en) (PostE X.K W G H Q) (PostX (E σ) G H) → tOp r ta tb σ H Q := by
 intro B G0 G W H σ en Q hh hs hw
 refine ma B G0 G W H σ en _ hh hs (DE.go hw fun x G1 H1 v s1 e1 h1 => ?_)
 refine mb B G0 G1 W H1 σ en _ (hh.step s1) (hs.step s1) (DE.go h1 fun y G2 H2 u s2 e2 h2 => ?_)
 exact hm W G2 H2 v u x y Q s2.gh (e1.step s2) (by cases y <;> exact e2) (noX h2 (hn _ _))
theorem de_op {op : Operator} {r : R2} {f : Ev → Ev → Res Ev} (ho : OpR X (binaryOp op) r) (hm : OpM X.K r f) (hn : NoX f) (ha : DE X E a fa) (hb : DE X E b fb) : DE X E (.BinOp a op b pos) (mBin f fa fb) := by
 obtain ⟨ta, pa, ma⟩ := ha.out
 obtain ⟨tb, pb, mb⟩ := hb.out
 refine DE.in ?_
 exact ⟨_, pe_op ho pa pb, op_core ma mb hm hn⟩
theorem de_cmp {op : CmpOp} {r : R2} {f : Ev → Ev → Res Ev} (ho : OpR X (compareOp op) r) (hm : OpM X.K r f) (hn : NoX f) (ha : DE X E a fa) (hb : DE X E b fb) (hk : behindInMarks op b = false) : DE X E (.Compare a [op] [b] pos) (mBin f fa fb) := by
 obtain ⟨ta, pa, ma⟩ := ha.out
 obtain ⟨tb, pb, mb⟩ := hb.out
 refine DE.in ?_
 exact ⟨_, pe_cmpR ho pa pb hk, op_core ma mb hm hn⟩
def truthR (r : Ev) : Res Bool := match r with
 | .p (.bool b) => .ok b
 | _ => .bad
def mTru (f : En → Res Ev) : En → Res Bool := fun en => (f en).bind truthR
theorem tru_core {t : TE} (m : ∀ B G0 G W H σ en Q, SimH B G0 G W H → SimS X.K W G H σ en → wpR (fa en) (PostE X.K W G H Q) (PostX (E σ) G H) → t σ H Q) :
  ∀ B G0 G W H σ en Q, SimH B G0 G W H → SimS X.K W G H σ en → wpR (mTru fa en) (PostB G H Q) (PostX (E σ) G H) → t σ H fun x H1 => ∃ k, x = .bl k ∧ Q k H1 := by
 intro B G0 G W H σ en Q hh hs hw
 refine m B G0 G W H σ en _ hh hs (DE.goB hw fun x G1 H1 v s1 e1 h1 => ?_)
 cases x with
 | p d =>
  cases d with
  | bool k => cases e1; exact ⟨k, rfl, h1 G1 H1 (Step.refl s1.gh)⟩
  | _ => exact False.elim h1
 | _ => exact False.elim h1
theorem dt_cmp {op : CmpOp} {r : R2} {f : Ev → Ev → Res Ev} (ho : OpR X (compareOp op) r) (hm : OpM X.K r f) (hn : NoX f) (ha : DE X E a fa) (hb : DE X E b fb) (hk : behindInMarks op b = false) : DT X E (.Compare a [op] [b] pos) (mTru (mBin f fa fb)) := by
 obtain ⟨ta, pa, ma⟩ := ha.out
 obtain ⟨tb, pb, mb⟩ := hb.out
 refine DT.in ?_
 exact ⟨_, pt_cmpR ho pa pb hk, tru_core (op_core ma mb hm hn)⟩
theorem dt_val (h : DE X E e fa) (he : ∀ whole, isTrue e X.env whole = (do let v ← whole; standAt e.pos; holding [v] (truthy v)) := by intro _; rfl) : DT X E e (mTru fa) := by
 obtain ⟨t, p, m⟩ := h.out
 refine DT.in ?_
 exact ⟨_, pt_val p he, tru_core m⟩
def mVar (i : Nat) : En → Res Ev := fun en => match en[i]? with
 | some (some (.p d)) => .ok (.p d)
 | some (some (.o d)) => .ok (.b d)
 | some (some (.x C)) => .ok (.x C)
 | _ => .bad
theorem de_var {i : Nat} {x : Str} (hN : X.N[i]? = some x) (hv : Vis X.env.scope x) (hd : (x == ("__debug__" : Str)) = false := by decide) (hcd : (x == ("__classdict__" : Str)) = false := by decide) : DE X E (.Name x pos) (mVar i) := by
 refine DE.in ?_
 refine ⟨_, pe_var hN hv hd hcd, fun B G0 G W H σ en Q hh hs hw => ?_⟩
 unfold mVar at hw
 split at hw
 ·rename_i d e
  obtain ⟨v, e1, e2⟩ := hs.2 i _ e
  exact ⟨v, e1, hw G H v (Step.refl hh.gh) e2⟩
 ·rename_i d e
  obtain ⟨v, e1, a, o, e2, e3, e4, e5⟩ := hs.2 i _ e
  exact ⟨v, e1, hw G H v (Step.refl hh.gh) ⟨a, i, o, e2, e3, e4, e5⟩⟩
 ·rename_i C e
  obtain ⟨v, e1, e2⟩ := hs.2 i _ e
  exact ⟨v, e1, hw G H v (Step.refl hh.gh) e2⟩
 ·exact hw.elim
def mC (d : D) : En → Res Ev := fun _ => .ok (.p d)
theorem const_core {v : V} {d : D} (h : ∀ G, Rep X.K G v d) : ∀ B G0 G W H σ en Q, SimH B G0 G W H → SimS X.K W G H σ en → wpR (mC d en) (PostE X.K W G H Q) (PostX (E σ) G H) → tC v σ H Q :=
 fun B G0 G W H σ en Q hh hs hw => hw G H v (Step.refl hh.gh) (h G)
theorem de_int {i j} : DE X E (.Constant (.int i) j pos) (mC (.int i)) := DE.in ⟨_, pe_int, const_core fun _ => .int i⟩
theorem de_bl {b j} : DE X E (.Constant (.bool b) j pos) (mC (.bool b)) := DE.in ⟨_, pe_bl, const_core fun _ => .bl b⟩
variable {ga gb : En → Res Bool} {rest : List Expr}
def mAnd (f g : En → Res Bool) : En → Res Bool := fun en => (f en).bind fun c => if c = true then g en else .ok false
def mOr (f g : En → Res Bool) : En → Res Bool := fun en => (f en).bind fun c => if c = true then .ok true else g en
def mNot (f : En → Res Bool) : En → Res Bool := fun en => (f en).bind fun c => .ok (!c)
theorem dw_and1 (ha : DT X E a ga) : DW X E (.BoolOp .And [a] pos) ga := let ⟨t, p, m⟩ := ha.out; DW.in ⟨t, pw_and1 p, m⟩
theorem dw_or1 (ha : DT X E a ga) : DW X E (.BoolOp .Or [a] pos) ga := let ⟨t, p, m⟩ := ha.out; DW.in ⟨t, pw_or1 p, m⟩
theorem dw_and (ha : DT X E a ga) (hb : DW X E (.BoolOp .And (b :: rest) pos) gb) : DW X E (.BoolOp .And (a :: b :: rest) pos) (mAnd ga gb) := by
 obtain ⟨ta, pa, ma⟩ := ha.out
 obtain ⟨tb, pb, mb⟩ := hb.out
 refine DW.in ?_
 refine ⟨_, pw_and pa pb, fun B G0 G W H σ en Q hh hs hw => ma B G0 G W H σ en _ hh hs ?_⟩
 have hw : wpR ((ga en).bind _) _ _ := hw
 rw [wpR_bind] at hw
 refine wpR_mono hw (fun c hc G1 H1 s => ?_) fun C h => h
 cases c with
 | true => exact mb B G0 G1 W H1 σ en Q (hh.step s) (hs.step s) (wpR_mono hc (fun _ h => h.step s) fun _ h => h.step s)
 | false => exact hc G1 H1 s
theorem dw_or (ha : DT X E a ga) (hb : DW X E (.BoolOp .Or (b :: rest) pos) gb) : DW X E (.BoolOp .Or (a :: b :: rest) pos) (mOr ga gb) := by
 obtain ⟨ta, pa, ma⟩ := ha.out
 obtain ⟨tb, pb, mb⟩ := hb.out
 refine DW.in ?_
 refine ⟨_, pw_or pa pb, fun B G0 G W H σ en Q hh hs hw => ma B G0 G W H σ en _ hh hs ?_⟩
 have hw : wpR ((ga en).bind _) _ _ := hw
 rw [wpR_bind] at hw
 refine wpR_mono hw (fun c hc G1 H1 s => ?_) fun C h => h
 cases c with
 | false => exact mb B G0 G1 W H1 σ en Q (hh.step s) (hs.step s) (wpR_mono hc (fun _ h => h.step s) fun _ h => h.step s)
 | true => exact hc G1 H1 s
theorem dt_not (ha : DT X E a ga) : DT X E (.UnaryOp .Not a pos) (mNot ga) := by
 obtain ⟨ta, pa, ma⟩ := ha.out
 refine DT.in ?_
 refine ⟨_, pt_not pa, fun B G0 G W H σ en Q hh hs hw => ma B G0 G W H σ en _ hh hs ?_⟩
 have hw : wpR ((ga en).bind _) _ _ := hw
 rw [wpR_bind] at hw
 exact wpR_mono hw (fun c hc => hc) fun C h => h
def mAndV (f g : En → Res Ev) : En → Res Ev := fun en => (f en).bind fun c => match c with
 | .p (.bool true) => g en
 | .p (.bool false) => .ok (.p (.bool false))
 | _ => .bad
def mOrV (f g : En → Res Ev) : En → Res Ev := fun en => (f en).bind fun c => match c with
 | .p (.bool false) => g en
 | .p (.bool true) => .ok (.p (.bool true))
 | _ => .bad
def mNotV (f : En → Res Ev) : En → Res Ev := fun en => (f en).bind fun c => match c with
 | .p (.bool k) => .ok (.p (.bool (!k)))
 | _ => .bad
theorem de_one {op} (h : DE X E a fa) : DE X E (.BoolOp op [a] pos) fa := let ⟨t, p, m⟩ := h.out; DE.in ⟨t, pe_one p, m⟩
theorem de_and (ha : DE X E a fa) (hb : DE X E (.BoolOp .And (b :: rest) pos) fb) : DE X E (.BoolOp .And (a :: b :: rest) pos) (mAndV fa fb) := by
 obtain ⟨ta, pa, ma⟩ := ha.out
 obtain ⟨tb, pb, mb⟩ := hb.out
 refine DE.in ?_
 refine ⟨_, pe_and pa pb, fun B G0 G W H σ en Q hh hs hw => ma B G0 G W H σ en _ hh hs (DE.go hw fun x G1 H1 v s1 e1 h1 => ?_)⟩
 cases x with
 | p d =>
  cases d with
  | bool k =>
   cases e1
   cases k with
   | true => exact ⟨true, rfl, mb B G0 G1 W H1 σ en Q (hh.step s1) (hs.step s1) h1⟩
   | false => exact ⟨false, rfl, h1 G1 H1 _ (Step.refl s1.gh) (.bl false)⟩
  | _ => exact False.elim h1
 | _ => exact False.elim h1
theorem de_not (ha : DE X E a fa) : DE X E (.UnaryOp .Not a pos) (mNotV fa) := by
 obtain ⟨ta, pa, ma⟩ := ha.out
 refine DE.in ?_
 refine ⟨_, pe_not pa, fun B G0 G W H σ en Q hh hs hw => ma B G0 G W H σ en _ hh hs (DE.go hw fun x G1 H1 v s1 e1 h1 => ?_)⟩
 cases x with
 | p d =>
  cases d with
  | bool k =>
   cases e1
   exact ⟨k, rfl, h1 G1 H1 _ (Step.refl s1.gh) (.bl _)⟩
  | _ => exact False.elim h1
 | _ => exact False.elim h1
def mNil : En → Res (List Ev) := fun _ => .ok []
def mCons (f : En → Res Ev) (g : En → Res (List Ev)) : En → Res (List Ev) := fun en => (f en).bind fun x => (g en).bind fun xs => .ok (x.c :: xs)
theorem da_nil : DA X E [] mNil := DA.in ⟨_, pa_nil, fun B G0 G W H σ en Q hh hs hw => hw G H [] (Step.refl hh.gh) trivial⟩
theorem da_cons (ha : DE X E e fa) (hr : DA X E es fr) (hst : starEach (e :: es) X.env = (false, eval e X.env) :: starEach es X.env := by rfl) : DA X E (e :: es) (mCons fa fr) := by
 obtain ⟨ta, pa, ma⟩ := ha.out
 obtain ⟨tr, pr, mr⟩ := hr.out
 refine DA.in ?_
 refine ⟨_, pa_cons pa pr hst, fun B G0 G W H σ en Q hh hs hw => ma B G0 G W H σ en _ hh hs ?_⟩
 have hw : wpR ((fa en).bind _) _ _ := hw
 rw [wpR_bind] at hw
 refine wpR_mono hw (fun x hx G1 H1 v s e1 => ?_) fun C h => h
 obtain ⟨G2, s2, e2⟩ := e1.c s
 refine mr B G0 G2 W H1 σ en _ (hh.step s2) (hs.step s2) ?_
 rw [wpR_bind] at hx
 refine wpR_mono hx (fun xs hxs G3 H3 vs s3 e3 => ?_) fun C h => h.step s2
 refine hxs G3 H3 (v :: vs) (s2.trans s3) ⟨e2.step s3, ?_⟩
 clear hxs hx hw
 induction xs generalizing vs with
 | nil => cases vs <;> exact e3
 | cons y ys ih =>
  cases vs with
  | nil => exact e3
  | cons u us =>
   refine ⟨?_, ih us e3.2⟩
   have z := e3.1
   cases y with
   | p d => exact z
   | b d => exact z
   | x d => exact z
   | f d =>
    obtain ⟨a, o, h1, h2, h3⟩ := z
    exact ⟨a, o, h1, s2.h.free h2, h3⟩
end
inductive Out where
 | nx (en : En)
 | rt (l : L)
 | bk (en : En)
 | ct (en : En)
 | ex (C : Addr) (en : En)
abbrev MS := En → Option Out
def RetOk (K : PySem.W.Frag) (B G H : Hp) (v : V) : L → Prop
 | .p d => Rep K G v d
 | .o d => ∃ a o, v = .ref a ∧ G a = none ∧ B a = none ∧ H a = some o ∧ Cont K G o d
 | .x C => ∃ e, v = .ref e ∧ G e = some (excO e (.ref C))
 | .h _ => False
def PostS (K : PySem.W.Frag) (B G0 : Hp) (E : L2.St → XK) (Dn : Ends) : Out → Prop
 | .nx en => ∀ G W H σ, SimH B G0 G W H → SimS K W G H σ en → Dn.nx σ H
 | .bk en => ∀ G W H σ, SimH B G0 G W H → SimS K W G H σ en → Dn.bk σ H
 | .ct en => ∀ G W H σ, SimH B G0 G W H → SimS K W G H σ en → Dn.ct σ H
 | .rt l => ∀ G W H v, SimH B G0 G W H → RetOk K B G H v l → Dn.rt v H
 | .ex C en => ∀ G W H σ, SimH B G0 G W H → SimS K W G H σ en → E σ (.ref C) none H
def wpO (o : Option Out) (P : Out → Prop) : Prop := match o with
 | some r => P r
 | none => False
def tS (K : PySem.W.Frag) (E : L2.St → XK) (f : MS) : TS := fun Dn σ H => ∃ B G0 G W en, SimH B G0 G W H ∧ SimS K W G H σ en ∧ wpO (f en) (PostS K B G0 E Dn)
def DS (X : Cx) (E : L2.St → XK) (st : Stmt) (f : MS) : Prop := PS X st (tS X.K E f)
def DSs (X : Cx) (E : L2.St → XK) (st : List Stmt) (f : MS) : Prop := PSs X st (tS X.K E f)
section
variable {X : Cx} {E : L2.St → XK} {st : Stmt} {sts : List Stmt} {f g : MS} {fe : En → Res Ev} {fc : En → Res Bool} {e c : Expr} {pos : Pos}
theorem DS.in (h : ∃ t, PS X st t ∧ ∀ B G0 G W H σ en Dn, SimH B G0 G W H → SimS X.K W G H σ en → wpO (f en) (PostS X.K B G0 E Dn) → t Dn σ H) : DS X E st f :=
 fun pins s σ H Dn I ⟨B, G0, G, W, en, h1, h2, h3⟩ => let ⟨_, p, m⟩ := h; p pins s σ H Dn I (m B G0 G W H σ en Dn h1 h2 h3)
theorem DSs.in (h : ∃ t, PSs X sts t ∧ ∀ B G0 G W H σ en Dn, SimH B G0 G W H → SimS X.K W G H σ en → wpO (f en) (PostS X.K B G0 E Dn) → t Dn σ H) : DSs X E sts f :=
 fun pins s σ H Dn I ⟨B, G0, G, W, en, h1, h2, h3⟩ => let ⟨_, p, m⟩ := h; p pins s σ H Dn I (m B G0 G W H σ en Dn h1 h2 h3)
theorem DS.out (h : DS X E st f) : ∃ t, PS X st t ∧ ∀ B G0 G W H σ en Dn, SimH B G0 G W H → SimS X.K W G H σ en → wpO (f en) (PostS X.K B G0 E Dn) → t Dn σ H :=
 ⟨_, h, fun B G0 G W H σ en Dn h1 h2 h3 => ⟨B, G0, G, W, en, h1, h2, h3⟩⟩
theorem DSs.out (h : DSs X E sts f) : ∃ t, PSs X sts t ∧ ∀ B G0 G W H σ en Dn, SimH B G0 G W H → SimS X.K W G H σ en → wpO (f en) (PostS X.K B G0 E Dn) → t Dn σ H :=
 ⟨_, h, fun B G0 G W H σ en Dn h1 h2 h3 => ⟨B, G0, G, W, en, h1, h2, h3⟩⟩
def mNext : MS := fun en => some (.nx en)
def mSeq (f g : MS) : MS := fun en => match f en with
 | some (.nx e) => g e
 | r => r
theorem dss_nil : DSs X E [] mNext := DSs.in ⟨_, pss_nil, fun B G0 G W H σ en Dn hh hs hw => hw G W H σ hh hs⟩
theorem dss_one (h : DS X E st f) : DSs X E [st] f := let ⟨t, p, m⟩ := h.out; DSs.in ⟨t, pss_one p, m⟩
theorem dss_cons (h1 : DS X E st f) (h2 : DSs X E sts g) : DSs X E (st :: sts) (mSeq f g) := by
 obtain ⟨t, p, m⟩ := h1.out
 obtain ⟨u, q, n⟩ := h2.out
 refine DSs.in ⟨_, pss_cons p q, fun B G0 G W H σ en Dn hh hs hw => m B G0 G W H σ en _ hh hs ?_⟩
 unfold mSeq at hw
 cases ef : f en with
 | none => rw [ef] at hw; exact hw
 | some r =>
  rw [ef] at hw
  cases r with
  | nx e => exact fun G1 W1 H1 σ1 hh1 hs1 => n B G0 G1 W1 H1 σ1 e Dn hh1 hs1 hw
  | rt l => exact hw
  | bk e => exact hw
  | ct e => exact hw
  | ex C e => exact hw
theorem SimS.set {K : PySem.W.Frag} {W : Addr → Option Nat} {G H : Hp} {σ : L2.St} {en : En} {i : Nat} {v : V} {l : L} (h : SimS K W G H σ en) (hl : Slot K W G H i v l) : SimS K W G H (σ.set i (some v)) (en.set i (some l)) := by
 refine ⟨by rw [List.length_set, List.length_set]; exact h.1, fun j m e => ?_⟩
 rw [List.getElem?_set] at e
 rw [List.getElem?_set]
 by_cases hj : i = j
 ·subst hj
  rw [if_pos rfl] at e
  split at e
  ·rename_i hlt
   cases e
   rw [if_pos rfl, if_pos (by rw [h.1]; exact hlt)]
   exact ⟨v, rfl, hl⟩
  ·cases e
 ·rw [if_neg hj] at e ⊢
  exact h.2 j m e
def owner (W : Addr → Option Nat) (a : Addr) (i : Nat) : Addr → Option Nat := fun b => if b = a then some i else W b
theorem take_new {K : PySem.W.Frag} {B G0 G H : Hp} {W : Addr → Option Nat} {σ : L2.St} {en : En} {i : Nat} {a : Addr} {o : HO} {d : D} (hh : SimH B G0 G W H) (hs : SimS K W G H σ en) (hW : W a = none) (hG : G a = none) (hB : B a = none) (hH : H a = some o) (hc : Cont K G o d) :
  SimH B G0 G (owner W a i) H ∧ SimS K (owner W a i) G H (σ.set i (some (.ref a))) (en.set i (some (.o d))) := by
 refine ⟨⟨hh.gh, hh.bh, hh.g0, hh.gb, fun b j e => ?_⟩, SimS.set ⟨hs.1, fun j l e => ?_⟩ ⟨a, o, rfl, if_pos rfl, hH, hc⟩⟩
 ·unfold owner at e
  split at e
  ·rename_i z
   subst z
   exact ⟨hG, hB, o, hH, hc.mut⟩
  ·exact hh.wf b j e
 ·obtain ⟨v, e1, e2⟩ := hs.2 j l e
  refine ⟨v, e1, ?_⟩
  cases l with
  | p d => exact e2
  | x C => exact e2
  | h a => exact e2
  | o d =>
   obtain ⟨b, ob, h1, h2, h3, h4⟩ := e2
   refine ⟨b, ob, h1, ?_, h3, h4⟩
   unfold owner
   rw [if_neg (fun z => by rw [z, hW] at h2; cases h2)]
   exact h2
def mSet (i : Nat) (fe : En → Res Ev) : MS := fun en => match fe en with
 | .ok (.p d) => some (.nx (en.set i (some (.p d))))
 | .ok (.f d) => some (.nx (en.set i (some (.o d))))
 | .ok (.x C) => some (.nx (en.set i (some (.x C))))
 | .ok (.b _) => none
 | .exc C => some (.ex C en)
 | .bad => none
theorem SimH.lone {B G0 G H : Hp} {W : Addr → Option Nat} (hh : SimH B G0 G W H) {a : Addr} (h : H a = none) : W a = none := by
 cases e : W a with
 | none => rfl
 | some i =>
  obtain ⟨_, _, o, q, _⟩ := hh.wf a i e
  rw [h] at q; cases q
theorem set_core {te : TE} {i : Nat} (m : ∀ B G0 G W H σ en Q, SimH B G0 G W H → SimS X.K W G H σ en → wpR (fe en) (PostE X.K W G H Q) (PostX (E σ) G H) → te σ H Q) :
  ∀ B G0 G W H σ en Dn, SimH B G0 G W H → SimS X.K W G H σ en → wpO (mSet i fe en) (PostS X.K B G0 E Dn) → te σ H fun x H1 => Dn.nx (σ.set i (some x)) H1 := by
 intro B G0 G W H σ en Dn hh hs hw
 refine m B G0 G W H σ en _ hh hs ?_
 unfold mSet at hw
 cases ef : fe en with
 | bad => rw [ef] at hw; exact hw
 | exc C => rw [ef] at hw; exact fun G1 H1 s => hw G1 W H1 σ (hh.step s) (hs.step s)
 | ok r =>
  rw [ef] at hw
  cases r with
  | b d => exact hw.elim
  | p d => exact fun G1 H1 v s e => hw G1 W H1 _ (hh.step s) ((hs.step s).set e)
  | x C => exact fun G1 H1 v s e => hw G1 W H1 _ (hh.step s) ((hs.step s).set e)
  | f d =>
   rintro G1 H1 v s ⟨a, o, rfl, h1, h2, h3, h4⟩
   obtain ⟨q1, q2⟩ := take_new (i := i) (hh.step s) (hs.step s) (hh.lone h1) h2 (hh.bh.free h1) h3 h4
   exact hw G1 _ H1 _ q1 q2
theorem ds_set {i : Nat} {x : Str} {pos' : Pos} (hN : X.N.Nodup) (hi : X.N[i]? = some x) (hx : Loc X.env.scope x) (he : DE X E e fe) (hs : swapsWith e (some (.Name x pos')) pos.line X.env = pure false := by rfl) (hf : X.fn x = true ∨ X.env.scope.names.lookup x = some .local := by first | exact .inl rfl | exact .inr rfl | assumption) :
  DS X E (.Assign [.Name x pos'] e pos) (mSet i fe) := by
 obtain ⟨t, p, m⟩ := he.out
 exact DS.in ⟨_, ps_set hN hi hx p hs hf, set_core m⟩
def retL : Ev → L
 | .p d => .p d
 | .f d => .o d
 | .b d => .o d
 | .x C => .x C
def mRet (fe : En → Res Ev) : MS := fun en => match fe en with
 | .ok r => some (.rt (retL r))
 | .exc C => some (.ex C en)
 | .bad => none
theorem ds_ret (he : DE X E e fe) : DS X E (.Return (some e) pos) (mRet fe) := by
 obtain ⟨t, p, m⟩ := he.out
 refine DS.in ⟨_, ps_ret p, fun B G0 G W H σ en Dn hh hs hw => m B G0 G W H σ en _ hh hs ?_⟩
 unfold mRet at hw
 cases ef : fe en with
 | bad => rw [ef] at hw; exact hw
 | exc C => rw [ef] at hw; exact fun G1 H1 s => hw G1 W H1 σ (hh.step s) (hs.step s)
 | ok r =>
  rw [ef] at hw
  intro G1 H1 v s e
  refine hw G1 W H1 v (hh.step s) ?_
  cases r with
  | p d => exact e
  | x C => exact e
  | f d =>
   obtain ⟨a, o, h0, h1, h2, h3, h4⟩ := e
   exact ⟨a, o, h0, h2, hh.bh.free h1, h3, h4⟩
  | b d =>
   obtain ⟨a, i, o, h0, h1, h3, h4⟩ := e
   have z := (hh.step s).wf a i h1
   exact ⟨a, o, h0, z.1, z.2.1, h3, h4⟩
def mIfS (c : En → Res Bool) (f g : MS) : MS := fun en => match c en with
 | .ok k => if k = true then f en else g en
 | .exc C => some (.ex C en)
 | .bad => none
theorem ds_if {A B : List Stmt} (hc : DT X E c fc) (ha : DSs X E A f) (hb : DSs X E B g) : DS X E (.If c A B pos) (mIfS fc f g) := by
 obtain ⟨tc, pc, mc⟩ := hc.out
 obtain ⟨t, p, m⟩ := ha.out
 obtain ⟨u, q, n⟩ := hb.out
 refine DS.in ⟨_, ps_if pc p q, fun B G0 G W H σ en Dn hh hs hw => mc B G0 G W H σ en _ hh hs ?_⟩
 unfold mIfS at hw
 cases ef : fc en with
 | bad => rw [ef] at hw; exact hw
 | exc C => rw [ef] at hw; exact fun G1 H1 s => hw G1 W H1 σ (hh.step s) (hs.step s)
 | ok k =>
  rw [ef] at hw
  intro G1 H1 s
  cases k with
  | true => exact m B G0 G1 W H1 σ en Dn (hh.step s) (hs.step s) hw
  | false => exact n B G0 G1 W H1 σ en Dn (hh.step s) (hs.step s) hw
def frz (i : Nat) (en : En) : En := match en[i]? with
 | some (some (.o d)) => en.set i (some (.p d))
 | _ => en
theorem frz_ok {K : PySem.W.Frag} {B G0 G H : Hp} {W : Addr → Option Nat} {σ : L2.St} {en : En} (i : Nat) (hh : SimH B G0 G W H) (hs : SimS K W G H σ en) : ∃ G' W', SimH B G0 G' W' H ∧ SimS K W' G' H σ (frz i en) := by
 unfold frz
 split
 ·rename_i d e
  obtain ⟨v, e1, a, o, rfl, e2, e3, e4⟩ := hs.2 i _ e
  obtain ⟨w1, w2, w3⟩ := hh.wf a i e2
  have sg : Same G (upd G a o) := Same.upd (Same.refl _) w1 o
  refine ⟨upd G a o, fun b => if b = a then none else W b, ⟨fun b u q => ?_, hh.bh, hh.g0.trans sg, fun b hb => ?_, fun b j e => ?_⟩, by rw [List.length_set]; exact hs.1, fun j l e5 => ?_⟩
  ·by_cases z : b = a
   ·subst z; rw [upd_same] at q; rw [e3]; exact q
   ·rw [upd_ne z] at q; exact hh.gh b u q
  ·by_cases z : b = a
   ·subst z; exact .inr (.inl w2)
   ·rw [upd_ne z] at hb; exact hh.gb b hb
  ·split at e
   ·cases e
   ·rename_i z
    rw [upd_ne z]; exact hh.wf b j e
  ·rw [List.getElem?_set] at e5
   by_cases hj : i = j
   ·subst hj
    rw [if_pos rfl] at e5
    split at e5
    ·cases e5
     exact ⟨_, e1, (e4.mono sg).rep upd_same⟩
    ·cases e5
   ·rw [if_neg hj] at e5
    obtain ⟨v, f1, f2⟩ := hs.2 j l e5
    refine ⟨v, f1, ?_⟩
    cases l with
    | p d => exact f2.mono sg
    | x C => obtain ⟨ea, g1, g2⟩ := f2; exact ⟨ea, g1, sg _ _ g2⟩
    | h a => exact f2
    | o d =>
     obtain ⟨b, ob, g1, g2, g3, g4⟩ := f2
     refine ⟨b, ob, g1, ?_, g3, g4.mono sg⟩
     show (if b = a then none else W b) = some j
     rw [if_neg (fun z => by rw [z, e2] at g2; exact hj (Option.some.inj g2))]
     exact g2
 ·exact ⟨G, W, hh, hs⟩
theorem dss_frz (i : Nat) (h : DSs X E sts f) : DSs X E sts (fun en => f (frz i en)) := by
 obtain ⟨t, p, m⟩ := h.out
 refine DSs.in ⟨t, p, fun B G0 G W H σ en Dn hh hs hw => ?_⟩
 obtain ⟨G', W', h1, h2⟩ := frz_ok i hh hs
 exact m B G0 G' W' H σ _ Dn h1 h2 hw
end
def mWh (c : En → Res Bool) (f : MS) : Nat → MS
 | 0, _ => none
 | n + 1, en => match c en with
  | .bad => none
  | .exc C => some (.ex C en)
  | .ok false => some (.nx en)
  | .ok true => match f en with
   | some (.nx e) => mWh c f n e
   | some (.ct e) => mWh c f n e
   | some (.bk e) => some (.nx e)
   | r => r
theorem mWh_more {c : En → Res Bool} {f : MS} : ∀ {n : Nat} {en : En} {r : Out}, mWh c f n en = some r → mWh c f (n + 1) en = some r
 | 0, _, _, h => by cases h
 | n + 1, en, r, h => by
  unfold mWh at h ⊢
  cases ec : c en with
  | bad => rw [ec] at h; exact h
  | exc C => rw [ec] at h; exact h
  | ok k =>
   rw [ec] at h
   cases k with
   | false => exact h
   | true =>
    dsimp only at h ⊢
    cases ef : f en with
    | none => rw [ef] at h; exact h
    | some o =>
     rw [ef] at h
     cases o with
     | nx e => exact mWh_more (n := n) h
     | ct e => exact mWh_more (n := n) h
     | bk e => exact h
     | rt l => exact h
     | ex C e => exact h
theorem mWh_le {c : En → Res Bool} {f : MS} {n m : Nat} {en : En} {r : Out} (h : mWh c f n en = some r) (l : n ≤ m) : mWh c f m en = some r := by
 induction l with
 | refl => exact h
 | step _ ih => exact mWh_more ih
open Classical in
noncomputable def mWhile (c : En → Res Bool) (f : MS) : MS := fun en => if h : ∃ n r, mWh c f n en = some r then mWh c f h.choose en else none
theorem mWhile_of {c : En → Res Bool} {f : MS} {n : Nat} {en : En} {r : Out} (h : mWh c f n en = some r) : mWhile c f en = some r := by
 unfold mWhile
 have hx : ∃ n r, mWh c f n en = some r := ⟨n, r, h⟩
 rw [dif_pos hx]
 obtain ⟨r', h'⟩ := hx.choose_spec
 rcases Nat.le_total n hx.choose with l | l
 ·exact mWh_le h l
 ·have := mWh_le h' l
  rw [h] at this
  rw [h']; exact this.symm
theorem mWhile_fuel {c : En → Res Bool} {f : MS} {en : En} {P : Out → Prop} (h : wpO (mWhile c f en) P) : ∃ n, wpO (mWh c f n en) P := by
 unfold mWhile at h
 split at h
 ·exact ⟨_, h⟩
 ·exact h.elim
section
variable {X : Cx} {E : L2.St → XK} {st : Stmt} {sts : List Stmt} {f g : MS} {fe : En → Res Ev} {fc : En → Res Bool} {e c : Expr} {pos : Pos}
theorem ds_while (hp : PassesOwn (model X.prog X.w) X.A X.env X.xe) (hc : DT X E c fc) (hb : DSs X E sts f) : DS X E (.While c sts [] pos) (mWhile fc f) := by
 obtain ⟨tc, pc, mc⟩ := hc.out
 obtain ⟨t, p, m⟩ := hb.out
 refine DS.in ⟨_, ps_while hp pc p, fun B G0 G W H σ en Dn hh hs hw => ?_⟩
 obtain ⟨n0, hw⟩ := mWhile_fuel hw
 refine ⟨fun n σ H => ∃ G W en, SimH B G0 G W H ∧ SimS X.K W G H σ en ∧ wpO (mWh fc f n en) (PostS X.K B G0 E Dn), ⟨n0, G, W, en, hh, hs, hw⟩, ?_⟩
 rintro n σ H ⟨G, W, en, hh, hs, hw⟩
 cases n with
 | zero => exact hw.elim
 | succ n =>
  refine mc B G0 G W H σ en _ hh hs ?_
  unfold mWh at hw
  cases ec : fc en with
  | bad => rw [ec] at hw; exact hw
  | exc C => rw [ec] at hw; exact fun G1 H1 s => hw G1 W H1 σ (hh.step s) (hs.step s)
  | ok k =>
   rw [ec] at hw
   intro G1 H1 s
   cases k with
   | false => exact hw G1 W H1 σ (hh.step s) (hs.step s)
   | true =>
    refine ⟨fun σ' H' => ∃ G W en, SimH B G0 G W H' ∧ SimS X.K W G H' σ' en ∧ wpO (mWh fc f n en) (PostS X.K B G0 E Dn), fun σ' H' q => ⟨n, Nat.lt_succ_self n, q⟩, ?_⟩
    refine m B G0 G1 W H1 σ en _ (hh.step s) (hs.step s) ?_
    dsimp only at hw
    cases ef : f en with
    | none => rw [ef] at hw; exact hw
    | some o =>
     rw [ef] at hw
     cases o with
     | nx e => exact fun G2 W2 H2 σ2 h2 s2 => ⟨G2, W2, e, h2, s2, hw⟩
     | ct e => exact fun G2 W2 H2 σ2 h2 s2 => ⟨G2, W2, e, h2, s2, hw⟩
     | bk e => exact hw
     | rt l => exact hw
     | ex C e => exact hw
end
def IterOk (K : PySem.W.Frag) (ds : List D) (G1 : Hp) (J : It) : Prop := ∀ G H, Same G1 G → Same G H →
 (∀ i d, ds[i]? = some d → J.go i H ∧ ∀ v H', J.yld i H v H' → ∃ G', Step G H G' H' ∧ Rep K G' v d) ∧ J.stop ds.length H
def tI (K : PySem.W.Frag) (E : L2.St → XK) (f : En → Res (List D)) : TI := fun σ H R => ∃ B G0 G W en, SimH B G0 G W H ∧ SimS K W G H σ en ∧ wpR (f en) (fun ds => ∀ G' H' J, Step G H G' H' → IterOk K ds G' J → R J H') (PostX (E σ) G H)
def DI (X : Cx) (E : L2.St → XK) (tg e : Expr) (f : En → Res (List D)) : Prop := PI X tg e (tI X.K E f)
def Kept (ks : List Nat) (σ σ' : L2.St) : Prop := σ'.length = σ.length ∧ ∀ j, j ∉ ks → σ'[j]? = σ[j]?
def tG (K : PySem.W.Frag) (ks : List Nat) (f : D → En → Option En) : TG := fun v σ H Q => ∃ G W en d en', Same G H ∧ SimS K W G H σ en ∧ Rep K G v d ∧ f d en = some en' ∧ ∀ σ', SimS K W G H σ' en' → Kept ks σ σ' → Q σ' H
def DG (X : Cx) (tg : Expr) (ks : List Nat) (f : D → En → Option En) : Prop := PG X tg (tG X.K ks f)
def mgName (i : Nat) : D → En → Option En := fun d en => some (en.set i (some (.p d)))
section
variable {X : Cx} {E : L2.St → XK} {pos : Pos}
theorem DI.in {tg e : Expr} {f : En → Res (List D)} (h : ∃ t, PI X tg e t ∧ ∀ B G0 G W H σ en R, SimH B G0 G W H → SimS X.K W G H σ en → wpR (f en) (fun ds => ∀ G' H' J, Step G H G' H' → IterOk X.K ds G' J → R J H') (PostX (E σ) G H) → t σ H R) : DI X E tg e f :=
 fun pins s σ H R I ⟨B, G0, G, W, en, h1, h2, h3⟩ => let ⟨_, p, m⟩ := h; p pins s σ H R I (m B G0 G W H σ en R h1 h2 h3)
theorem dg_name {i : Nat} {x : Str} (hN : X.N.Nodup) (hi : X.N[i]? = some x) (hx : Loc X.env.scope x) (hf : X.fn x = true ∨ X.env.scope.names.lookup x = some .local := by first | exact .inl rfl | exact .inr rfl | assumption) : DG X (.Name x pos) [i] (mgName i) := by
 intro pins s σ H v u Q I r ⟨G, W, en, d, en', h1, h2, h3, h4, h5⟩
 refine pg_name hN hi hx hf pins s σ H v u Q I r ?_
 cases h4
 exact h5 _ (h2.set h3) ⟨List.length_set .., fun j hj => List.getElem?_set_ne (fun z => hj (by rw [z]; exact .head _))⟩
def mLoop (tg : D → En → Option En) (f : MS) : List D → MS
 | [], en => some (.nx en)
 | d :: ds, en => match tg d en with
  | none => none
  | some e1 => match f e1 with
   | some (.nx e2) => mLoop tg f ds e2
   | some (.ct e2) => mLoop tg f ds e2
   | some (.bk e2) => some (.nx e2)
   | r => r
def mFor (fi : En → Res (List D)) (tg : D → En → Option En) (f : MS) : MS := fun en => match fi en with
 | .ok ds => mLoop tg f ds en
 | .exc C => some (.ex C en)
 | .bad => none
theorem SimH.lower {B G0 G1 G H H1 : Hp} {W W1 : Addr → Option Nat} (h : SimH B G1 G W H) (h1 : SimH B G0 G1 W1 H1) : SimH B G0 G W H :=
 ⟨h.gh, h.bh, h1.g0.trans h.g0, fun b hb => (h.gb b hb).elim (fun z => h1.gb b z) .inr, h.wf⟩
theorem SimH.raise {B G0 G H : Hp} {W : Addr → Option Nat} (h : SimH B G0 G W H) : SimH B G G W H := ⟨h.gh, h.bh, Same.refl _, fun _ hb => .inl hb, h.wf⟩
theorem PostS.lower {K : PySem.W.Frag} {B G0 G1 H1 : Hp} {W1 : Addr → Option Nat} {Dn : Ends} {r : Out} (h : PostS K B G0 E Dn r) (h1 : SimH B G0 G1 W1 H1) : PostS K B G1 E Dn r := by
 cases r with
 | nx en => exact fun G W H σ a b => h G W H σ (a.lower h1) b
 | bk en => exact fun G W H σ a b => h G W H σ (a.lower h1) b
 | ct en => exact fun G W H σ a b => h G W H σ (a.lower h1) b
 | rt l => exact fun G W H σ a b => h G W H σ (a.lower h1) b
 | ex C en => exact fun G W H σ a b => h G W H σ (a.lower h1) b
theorem ds_for {tg iter : Expr} {body : List Stmt} {fi : En → Res (List D)} {ks : List Nat} {g : D → En → Option En} {f : MS} (hp : PassesOwn (model X.prog X.w) X.A X.env X.xe) (hc : X.calm = true) (hi : DI X E tg iter fi) (hg : DG X tg ks g) (hb : DSs X E body f)
  (hs : ∀ x, foldedSetIterable iter X.env x = pure x := by intro _; rfl) : DS X E (.For tg iter body [] pos) (mFor fi g f) := by
 obtain ⟨t, p, m⟩ := hb.out
 refine DS.in ⟨_, ps_for hp hc hi hg p hs, fun B G0 G W H σ en Dn hh hs hw => ⟨B, G0, G, W, en, hh, hs, ?_⟩⟩
 unfold mFor at hw
 cases ef : fi en with
 | bad => rw [ef] at hw; exact hw
 | exc C => rw [ef] at hw; exact fun G1 H1 s => hw G1 W H1 σ (hh.step s) (hs.step s)
 | ok ds =>
  rw [ef] at hw
  intro G1 H1 J s1 hJ
  have hh1 := hh.step s1
  refine ⟨fun i n σ H => n = ds.length - i ∧ i ≤ ds.length ∧ ∃ G W en, SimH B G1 G W H ∧ SimS X.K W G H σ en ∧ wpO (mLoop g f (ds.drop i) en) (PostS X.K B G0 E Dn),
   ⟨ds.length, rfl, Nat.zero_le _, G1, W, en, hh1.raise, hs.step s1, hw⟩, ?_⟩
  rintro i n σ H ⟨rfl, hi, G, W, en, hh, hs, hw⟩
  obtain ⟨j1, j2⟩ := hJ G H hh.g0 hh.gh
  by_cases hlt : i < ds.length
  ·refine .inr ?_
   obtain ⟨jg, jy⟩ := j1 i ds[i] (List.getElem?_eq_getElem hlt)
   rw [List.drop_eq_getElem_cons hlt] at hw
   unfold mLoop at hw
   refine ⟨jg, fun σ' H' => ∃ G W en, SimH B G1 G W H' ∧ SimS X.K W G H' σ' en ∧ wpO (mLoop g f (ds.drop (i + 1)) en) (PostS X.K B G0 E Dn), fun σ' H' q => ⟨ds.length - (i + 1), by omega, rfl, hlt, q⟩, fun v H' hy => ?_⟩
   obtain ⟨G2, s2, rv⟩ := jy v H' hy
   cases eg : g ds[i] en with
   | none => rw [eg] at hw; exact hw.elim
   | some e1 =>
    rw [eg] at hw
    dsimp only at hw
    refine ⟨G2, W, en, ds[i], e1, s2.gh, hs.step s2, rv, eg, fun σ' hσ _ => ?_⟩
    refine m B G1 G2 W H' σ' e1 _ (hh.step s2) hσ ?_
    cases ef2 : f e1 with
    | none => rw [ef2] at hw; exact hw
    | some o =>
     rw [ef2] at hw
     cases o with
     | nx e => exact fun G2 W2 H2 σ2 h2 s2 => ⟨G2, W2, e, h2, s2, hw⟩
     | ct e => exact fun G2 W2 H2 σ2 h2 s2 => ⟨G2, W2, e, h2, s2, hw⟩
     | bk e => exact PostS.lower (E := E) (Dn := Dn) (r := .nx e) hw hh1
     | rt l => exact PostS.lower (E := E) (Dn := Dn) (r := .rt l) hw hh1
     | ex C e => exact PostS.lower (E := E) (Dn := Dn) (r := .ex C e) hw hh1
  ·have e : i = ds.length := by omega
   subst e
   rw [List.drop_length] at hw
   exact .inl ⟨j2, hw G W H σ (hh.lower hh1) hs⟩
def listR (r : Ev) : Res (List D) := match r with
 | .p (.list ds) => .ok ds
 | _ => .bad
def mItL (fe : En → Res Ev) : En → Res (List D) := fun en => (fe en).bind fun r => listR r.c
theorem di_list {tg e : Expr} {fe : En → Res Ev} (he : DE X E e fe) : DI X E tg e (mItL fe) := by
 obtain ⟨t, p, m⟩ := he.out
 refine DI.in ⟨_, pi_list p, fun B G0 G W H σ en R hh hs hw => m B G0 G W H σ en _ hh hs ?_⟩
 have hw : wpR ((fe en).bind _) _ _ := hw
 rw [wpR_bind] at hw
 refine wpR_mono hw (fun r hr G1 H1 v s e => ?_) fun C h => h
 obtain ⟨G2, s2, e2⟩ := e.c s
 cases er : r.c with
 | p d =>
  rw [er] at hr e2
  cases d with
  | list ds =>
   cases e2 with
   | @lst a xs _ ha hrs =>
    refine ⟨a, rfl, ⟨xs, s2.gh.seq (.inl ha)⟩, hr G2 H1 _ s2 fun G3 H3 k1 k2 => ⟨fun i d ed => ?_, xs, (k1.trans k2).seq (.inl ha), Nat.le_of_eq hrs.length⟩⟩
    obtain ⟨x, ex, rx⟩ := hrs.get' ed
    refine ⟨⟨xs, x, (k1.trans k2).seq (.inl ha), ex⟩, fun v H' hy => ?_⟩
    obtain ⟨rfl, hy⟩ := hy
    have := hy xs ((k1.trans k2).seq (.inl ha))
    rw [ex] at this
    cases this
    exact ⟨G3, Step.refl k2, rx.mono k1⟩
  | _ => exact False.elim hr
 | f d => rw [er] at hr; exact False.elim hr
 | b d => rw [er] at hr; exact False.elim hr
 | x C => rw [er] at hr; exact False.elim hr
def rngL (lo : Int) (n : Nat) : List D := (List.range n).map fun (k : Nat) => PyData.int (lo + (k : Int))
def rng1R (rs : List Ev) : Res (List D) := match rs with
 | [.p (.int j)] => if -(2 ^ 62) ≤ j ∧ j < 2 ^ 62 then .ok (rngL 0 j.toNat) else .bad
 | _ => .bad
theorem iter_range (K : PySem.W.Frag) (lo : Int) (n : Nat) (G1 : Hp) : IterOk K (rngL lo n) G1 (Itr lo n) := fun G H _ k2 => by
 refine ⟨fun i d ed => ?_, by show n ≤ _; unfold rngL; rw [List.length_map, List.length_range]; exact Nat.le_refl _⟩
 unfold rngL at ed
 rw [List.getElem?_map] at ed
 by_cases hi : i < n
 ·rw [List.getElem?_range hi] at ed
  cases ed
  refine ⟨hi, fun v H' hy => ?_⟩
  obtain ⟨rfl, rfl⟩ := hy
  exact ⟨G, Step.refl k2, .int _⟩
 ·rw [List.getElem?_eq_none (by rw [List.length_range]; omega)] at ed
  cases ed
def mItA (r : List Ev → Res (List D)) (fr : En → Res (List Ev)) : En → Res (List D) := fun en => (fr en).bind r
theorem di_range1 {tg a : Expr} {fr : En → Res (List Ev)} {p : Pos} (hg : Gl X "range") (hm : X.mg "range" = none) (ha : DA X E [a] fr) (hs : starEach [a] X.env = [(false, eval a X.env)] := by rfl) : DI X E tg (.Call (.Name "range" p) [a] [] pos) (mItA rng1R fr) := by
 obtain ⟨t, q, m⟩ := ha.out
 refine DI.in ⟨_, pi_range1 hg hm q hs, fun B G0 G W H σ en R hh hs hw => m B G0 G W H σ en _ hh hs ?_⟩
 have hw : wpR ((fr en).bind _) _ _ := hw
 rw [wpR_bind] at hw
 refine wpR_mono hw (fun rs hr G1 H1 vs s e => ?_) fun C h => h
 unfold rng1R at hr
 split at hr
 ·rename_i j
  split at hr
  ·rename_i hj
   match vs, e with
   | [v], ⟨e1, _⟩ =>
    cases e1
    exact ⟨j, rfl, hj.1, hj.2, hr G1 H1 _ s (iter_range _ _ _ _)⟩
  ·exact False.elim hr
 ·exact False.elim hr
end
def argL : Ev → Option L
 | .p d => some (.p d)
 | .x C => some (.x C)
 | .b _ => none
 | .f _ => none
def argB : Ev → Option L
 | .p d => some (.p d)
 | .b d => some (.p d)
 | .x _ => none
 | .f _ => none
def argsL (g : Ev → Option L) : List Ev → Option (List L)
 | [] => some []
 | r :: rs => match g r with
  | none => none
  | some l => match argsL g rs with
   | none => none
   | some ls => some (l :: ls)
def retE : L → Ev
 | .p d => .p d
 | .o d => .f d
 | .x C => .x C
 | .h a => .x a
mutual
def lfD : D → Bool
 | .list _ => false
 | .dict _ => false
 | .tuple ds => lfA ds
 | _ => true
def lfA : List D → Bool
 | [] => true
 | d :: ds => lfD d && lfA ds
end
def lfP : List (D × D) → Bool
 | [] => true
 | p :: r => lfD p.2 && lfP r
def flatL : L → Bool
 | .p d => lfD d
 | .o (.list ds) => lfA ds
 | .o (.dict kvs) => lfP kvs
 | _ => false
def callR (n : Nat) (m : List L → Res L) (rs : List Ev) : Res Ev := match argsL argL rs with
 | some ls => if ls.length = n then (m ls).bind fun l => .ok (retE l) else .bad
 | none => match argsL argB rs with
  | some ls => if ls.length = n then (m ls).bind fun l => if flatL l = true then .ok (retE l) else .bad else .bad
  | none => .bad
def mCall (n : Nat) (m : List L → Res L) (fr : En → Res (List Ev)) : En → Res Ev := fun en => (fr en).bind (callR n m)
def ArgOk (K : PySem.W.Frag) (G : Hp) (v : V) : L → Prop
 | .p d => Rep K G v d
 | .o _ => False
 | .x C => ∃ e, v = .ref e ∧ G e = some (excO e (.ref C))
 | .h _ => False
def ArgsOk (K : PySem.W.Frag) (G : Hp) : List V → List L → Prop
 | [], [] => True
 | v :: vs, l :: ls => ArgOk K G v l ∧ ArgsOk K G vs ls
 | _, _ => False
theorem ArgsOk.length {K : PySem.W.Frag} {G : Hp} : ∀ {vs : List V} {ls : List L}, ArgsOk K G vs ls → vs.length = ls.length
 | [], [], _ => rfl
 | _ :: _, _ :: _, h => by rw [List.length_cons, List.length_cons, ArgsOk.length h.2]
def spM (K : PySem.W.Frag) (n : Nat) (m : List L → Res L) : Sp := fun vs H Q E => vs.length = n ∧ ∃ G ls, Same G H ∧ ArgsOk K G vs ls ∧
 wpR (m ls) (fun l => ∀ G' H' v, Step G H G' H' → RetOk K H G' H' v l → Q v H') (fun C => ∀ G' H', Step G H G' H' → E (.ref C) none H')
theorem args_L {K : PySem.W.Frag} {W : Addr → Option Nat} {Hs G H : Hp} : ∀ {rs : List Ev} {ls : List L} {vs : List V}, argsL argL rs = some ls → EOks K W Hs G H vs rs → ArgsOk K G vs ls
 | [], _, [], h, _ => by cases h; exact trivial
 | [], _, _ :: _, _, e => e.elim
 | _ :: _, _, [], _, e => e.elim
 | r :: rs, ls, v :: vs, h, e => by
  unfold argsL at h
  cases r with
  | p d =>
   cases er : argsL argL rs with
   | none => rw [er] at h; cases h
   | some ls' => rw [er] at h; cases h; exact ⟨e.1, args_L er e.2⟩
  | x C =>
   cases er : argsL argL rs with
   | none => rw [er] at h; cases h
   | some ls' => rw [er] at h; cases h; exact ⟨e.1, args_L er e.2⟩
  | b d => cases h
  | f d => cases h
def both (W : Addr → Option Nat) (G H : Hp) : Hp := fun b => match W b with
 | some _ => H b
 | none => G b
theorem both_same {W : Addr → Option Nat} {B G0 G H : Hp} (hh : SimH B G0 G W H) : Same G (both W G H) ∧ Same (both W G H) H := by
 refine ⟨fun b o e => ?_, fun b o e => ?_⟩
 ·unfold both
  cases ew : W b with
  | none => exact e
  | some i => rw [(hh.wf b i ew).1] at e; cases e
 ·unfold both at e
  cases ew : W b with
  | none => rw [ew] at e; exact hh.gh b o e
  | some i => rw [ew] at e; exact e
theorem args_B {K : PySem.W.Frag} {W : Addr → Option Nat} {Hs B G0 G H : Hp} (hh : SimH B G0 G W H) : ∀ {rs : List Ev} {ls : List L} {vs : List V}, argsL argB rs = some ls → EOks K W Hs G H vs rs → ArgsOk K (both W G H) vs ls
 | [], _, [], h, _ => by cases h; exact trivial
 | [], _, _ :: _, _, e => e.elim
 | _ :: _, _, [], _, e => e.elim
 | r :: rs, ls, v :: vs, h, e => by
  unfold argsL at h
  cases r with
  | p d =>
   cases er : argsL argB rs with
   | none => rw [er] at h; cases h
   | some ls' => rw [er] at h; cases h; exact ⟨Rep.mono (both_same hh).1 e.1, args_B hh er e.2⟩
  | b d =>
   cases er : argsL argB rs with
   | none => rw [er] at h; cases h
   | some ls' =>
    rw [er] at h; cases h
    refine ⟨?_, args_B hh er e.2⟩
    obtain ⟨a, i, o, rfl, h1, h2, h3⟩ := e.1
    exact (h3.mono (both_same hh).1).rep (by unfold both; rw [h1]; exact h2)
  | x d => cases h
  | f d => cases h
mutual
theorem lf_rep {K : PySem.W.Frag} {G G' : Hp} (k : ∀ b xs, G b = some (.tup xs) → G' b = some (.tup xs)) : ∀ {v : V} {d : D}, lfD d = true → Rep K G v d → Rep K G' v d
 | _, _, _, .non => .non
 | _, _, _, .bl b => .bl b
 | _, _, _, .int i => .int i
 | _, _, _, .str x => .str x
 | _, _, hf, .tup h r => .tup (k _ _ h) (lf_reps k (by unfold lfD at hf; exact hf) r)
 | _, _, hf, .lst _ _ => by unfold lfD at hf; cases hf
 | _, _, hf, .dT _ _ => by unfold lfD at hf; cases hf
 | _, _, hf, .dK _ _ => by unfold lfD at hf; cases hf
theorem lf_reps {K : PySem.W.Frag} {G G' : Hp} (k : ∀ b xs, G b = some (.tup xs) → G' b = some (.tup xs)) : ∀ {vs : List V} {ds : List D}, lfA ds = true → Reps K G vs ds → Reps K G' vs ds
 | _, _, _, .nil => .nil
 | _, _, hf, .cons h r => by
  unfold lfA at hf
  have hf := Bool.and_eq_true_iff.mp hf
  exact .cons (lf_rep k hf.1 h) (lf_reps k hf.2 r)
end
theorem lf_repT {K : PySem.W.Frag} {G G' : Hp} (k : ∀ b xs, G b = some (.tup xs) → G' b = some (.tup xs)) : ∀ {kv : List (List Key × V)} {kvs : List (D × D)}, lfP kvs = true → RepT K G kv kvs → RepT K G' kv kvs
 | _, _, _, .nil => .nil
 | _, _, hf, .cons h r => by
  unfold lfP at hf
  have hf := Bool.and_eq_true_iff.mp hf
  exact .cons (lf_rep k hf.1 h) (lf_repT k hf.2 r)
theorem lf_repK {K : PySem.W.Frag} {G G' : Hp} (k : ∀ b xs, G b = some (.tup xs) → G' b = some (.tup xs)) : ∀ {kv : List (Key × V)} {kvs : List (D × D)}, lfP kvs = true → RepK K G kv kvs → RepK K G' kv kvs
 | _, _, _, .nil => .nil
 | _, _, hf, .cons h r => by
  unfold lfP at hf
  have hf := Bool.and_eq_true_iff.mp hf
  exact .cons (lf_rep k hf.1 h) (lf_repK k hf.2 r)
def lessW (W : Addr → Option Nat) (G : Hp) : Hp := fun b => match W b with
 | some _ => none
 | none => G b
theorem flat_rep {K : PySem.W.Frag} {W : Addr → Option Nat} {H1 G H Hs : Hp} {v : V} {l : L} (hf : flatL l = true) (hH : Hs = Hs) (hs : ∀ b, H1 b = none → Hs b = none) (k : ∀ b xs, G b = some (.tup xs) → lessW W G b = some (.tup xs)) (h : RetOk K H1 G H v l) : EOk K W Hs (lessW W G) H v (retE l) := by
 have n0 : ∀ b, G b = none → lessW W G b = none := fun b e => by
  unfold lessW
  cases W b with
  | none => exact e
  | some _ => rfl
 cases l with
 | x C => cases hf
 | h a => cases hf
 | p d => exact lf_rep k hf h
 | o d =>
  obtain ⟨a, o, rfl, h1, h2, h3, h4⟩ := h
  refine ⟨a, o, rfl, hs _ h2, n0 _ h1, h3, ?_⟩
  cases h4 with
  | lst r => exact .lst (lf_reps k hf r)
  | dT r => exact .dT (lf_repT k hf r)
  | dK r => exact .dK (lf_repK k (by unfold flatL at hf; unfold lfP at hf; exact (Bool.and_eq_true_iff.mp hf).2) r)
theorem call_core {K : PySem.W.Frag} {W : Addr → Option Nat} {B G0 G H G1 H1 : Hp} {n : Nat} {m : List L → Res L} {rs : List Ev} {vs : List V} {Q : VK} {EE : XK} (hh : SimH B G0 G W H) (s : Step G H G1 H1) (e : EOks K W H G1 H1 vs rs)
  (hr : wpR (callR n m rs) (PostE K W G H Q) (PostX EE G H)) : spM K n m vs H1 Q EE := by
 unfold callR at hr
 split at hr
 ·rename_i ls el
  split at hr
  ·rename_i hn
   have ha := args_L el e
   refine ⟨by rw [ha.length]; exact hn, G1, ls, s.gh, ha, ?_⟩
   rw [wpR_bind] at hr
   refine wpR_mono hr (fun l hl G2 H2 v s2 rv => hl G2 H2 v (s.trans s2) ?_) fun C h G2 H2 s2 => h G2 H2 (s.trans s2)
   cases l with
   | p d => exact rv
   | x C => exact rv
   | h a => exact rv.elim
   | o d =>
    obtain ⟨a, o, h1, h2, h3, h4, h5⟩ := rv
    exact ⟨a, o, h1, s.h.free h3, h2, h4, h5⟩
  ·exact hr.elim
 ·split at hr
  ·rename_i ls el
   split at hr
   ·rename_i hn
    have hh1 := hh.step s
    have ha := args_B hh1 el e
    obtain ⟨k1, k2⟩ := both_same hh1
    refine ⟨by rw [ha.length]; exact hn, both W G1 H1, ls, k2, ha, ?_⟩
    rw [wpR_bind] at hr
    refine wpR_mono hr (fun l hl G2 H2 v s2 rv => ?_) fun C h G2 H2 s2 => h G1 H2 (s.trans ⟨Same.refl _, s2.h, s.gh.trans s2.h, fun _ _ q => .inl q⟩)
    split at hl
    ·rename_i hf
     have kt : ∀ b xs, G2 b = some (.tup xs) → lessW W G2 b = some (.tup xs) := fun b xs eb => by
      unfold lessW
      cases ew : W b with
      | none => exact eb
      | some i =>
       obtain ⟨_, _, o, e1, e2⟩ := hh1.wf b i ew
       have e3 := s2.gh _ _ eb
       rw [s2.h _ _ e1] at e3
       exact absurd (Option.some.inj e3) (e2 xs)
     refine hl (lessW W G2) H2 v ⟨fun b o eb => ?_, s.h.trans s2.h, fun b o eb => ?_, fun b hb hg => ?_⟩ (flat_rep hf rfl (fun b e => s.h.free e) kt rv)
     ·have e1 := s.g _ _ eb
      unfold lessW
      cases ew : W b with
      | none => exact s2.g _ _ (k1 _ _ e1)
      | some i => rw [(hh1.wf b i ew).1] at e1; cases e1
     ·unfold lessW at eb
      cases ew : W b with
      | none => rw [ew] at eb; exact s2.gh _ _ eb
      | some i => rw [ew] at eb; cases eb
     ·unfold lessW
      cases ew : W b with
      | some i => exact .inl rfl
      | none =>
       rcases s.new b hb hg with z | z
       ·have z2 : both W G1 H1 b = none := by unfold both; rw [ew]; exact z
        rcases s2.new b (same_ne s.h hb) z2 with y | ⟨xs, y⟩
        ·exact .inl y
        ·cases e : H b with
         | none => exact absurd e hb
         | some o => rw [s.h _ _ e] at y; exact .inr ⟨xs, y⟩
       ·exact .inr z
    ·exact hl.elim
   ·exact hr.elim
  ·exact hr.elim
section
variable {X : Cx} {E : L2.St → XK} {k : Nat} {f : Addr} {fd : FuncData} {ps : List Str} {x : Str} {p pos : Pos} {e : Expr} {es : List Expr} {fr : En → Res (List Ev)} {n : Nat} {m : List L → Res L}
theorem de_call (F : FnOk X.prog X.w X.K X.mg X.base (CXr X.prog X.w) k f fd ps (spM X.K n m)) (hr : Room k X.A) (hg : Gl X x) (hm : X.mg x = some (.ref f)) (hk : PySem.W.keepIn X.K (.ref f) = true) (hb : Binds X.K fd ps []) (hx : PassesS (CXr X.prog X.w) X E)
  (ha : DA X E (e :: es) fr) (hdb : (x == ("__debug__" : Str)) = false := by decide) (he : starEach (e :: es) X.env = (false, eval e X.env) :: starEach es X.env := by rfl) (hpl : (backTo pos (starEach es X.env)).any (·.1) = false := by rfl) :
  DE X E (.Call (.Name x p) (e :: es) [] pos) (mCall n m fr) := by
 obtain ⟨t, q, mm⟩ := ha.out
 refine DE.in ⟨_, pe_callS F hr hg hm hk hb hx q hdb he hpl, fun B G0 G W H σ en Q hh hs hw => mm B G0 G W H σ en _ hh hs ?_⟩
 have hw : wpR ((fr en).bind _) _ _ := hw
 rw [wpR_bind] at hw
 exact wpR_mono hw (fun rs hr G1 H1 vs s e => call_core hh s e hr) fun C h => h
def CallM (K : PySem.W.Frag) (r : List V → Hp → VK → Prop) (f : List Ev → Res Ev) : Prop := ∀ (W : Addr → Option Nat) (Hs G H : Hp) (vs : List V) (rs : List Ev) (Q : VK), Same G H → EOks K W Hs G H vs rs → wpR (f rs) (PostE K W G H Q) (fun _ => False) → r vs H Q
def NoXs (f : List Ev → Res Ev) : Prop := ∀ rs C, f rs ≠ .exc C
def mCallB (f : List Ev → Res Ev) (fr : En → Res (List Ev)) : En → Res Ev := fun en => (fr en).bind f
theorem callB_core {r : List V → Hp → VK → Prop} {f : List Ev → Res Ev} {t : TA} (hm : CallM X.K r f) (hn : NoXs f) (mm : ∀ B G0 G W H σ en Q, SimH B G0 G W H → SimS X.K W G H σ en → wpR (fr en) (PostA X.K W G H Q) (PostX (E σ) G H) → t σ H Q) :
  ∀ B G0 G W H σ en Q, SimH B G0 G W H → SimS X.K W G H σ en → wpR (mCallB f fr en) (PostE X.K W G H Q) (PostX (E σ) G H) → tCB r t σ H Q := by
 intro B G0 G W H σ en Q hh hs hw
 refine mm B G0 G W H σ en _ hh hs ?_
 have hw : wpR ((fr en).bind _) _ _ := hw
 rw [wpR_bind] at hw
 exact wpR_mono hw (fun rs hr G1 H1 vs s e => hm W H G1 H1 vs rs Q s.gh e (noX (wpR_mono hr (fun _ h => h.step s) fun _ h => h) (hn rs))) fun C h => h
theorem de_callB {id : String} {r : List V → Hp → VK → Prop} {f : List Ev → Res Ev} (hc : CallR X (.builtin id) r) (hM : CallM X.K r f) (hn : NoXs f) (hg : Gl X x) (hm : X.mg x = none) (hv : bootBuiltins x = some (.builtin id)) (ha : DA X E (e :: es) fr) (hnn : x ≠ "__name__" := by decide) (hdb : (x == ("__debug__" : Str)) = false := by decide)
  (he : starEach (e :: es) X.env = (false, eval e X.env) :: starEach es X.env := by rfl) (hpl : (backTo pos (starEach es X.env)).any (·.1) = false := by rfl) : DE X E (.Call (.Name x p) (e :: es) [] pos) (mCallB f fr) := by
 obtain ⟨t, q, mm⟩ := ha.out
 exact DE.in ⟨_, pe_callB hc hg hm hv q hnn hdb he hpl, callB_core hM hn mm⟩
theorem de_callTy {T : String} {r : List V → Hp → VK → Prop} {f : List Ev → Res Ev} (hc : CallR X (.type T) r) (hM : CallM X.K r f) (hn : NoXs f) (hg : Gl X x) (hm : X.mg x = none) (hv : bootBuiltins x = some (.type T)) (ha : DA X E (e :: es) fr) (hnn : x ≠ "__name__" := by decide) (hdb : (x == ("__debug__" : Str)) = false := by decide)
  (he : starEach (e :: es) X.env = (false, eval e X.env) :: starEach es X.env := by rfl) (hpl : (backTo pos (starEach es X.env)).any (·.1) = false := by rfl) : DE X E (.Call (.Name x p) (e :: es) [] pos) (mCallB f fr) := by
 obtain ⟨t, q, mm⟩ := ha.out
 exact DE.in ⟨_, pe_callTy hc hg hm hv q hnn hdb he hpl, callB_core hM hn mm⟩
end
def startE (n : Nat) (ls : List L) : En := ls.map some ++ List.replicate (n - ls.length) none
def runF (n : Nat) (f : MS) (ls : List L) : Res L := match f (startE n ls) with
 | some (.nx _) => .ok (.p .none)
 | some (.rt l) => .ok l
 | some (.ex C _) => .exc C
 | _ => .bad
theorem args_slots {K : PySem.W.Frag} {W : Addr → Option Nat} {G H : Hp} : ∀ {vs : List V} {ls : List L} (i : Nat) (l : L), ArgsOk K G vs ls → ls[i]? = some l → ∃ v, vs[i]? = some v ∧ ∀ j, Slot K W G H j v l
 | [], [], _, _, _, e => by simp at e
 | v :: vs, l :: ls, 0, m, h, e => by
  simp at e; subst e
  refine ⟨v, rfl, fun j => ?_⟩
  have z := h.1
  cases l with
  | p d => exact z
  | x C => exact z
  | h a => exact z.elim
  | o d => exact z.elim
 | v :: vs, l :: ls, i + 1, m, h, e => by
  have := args_slots (W := W) (H := H) i m h.2 (by simpa using e)
  simpa using this
theorem start_sim {K : PySem.W.Frag} {W : Addr → Option Nat} {G H : Hp} {N : List Str} {vs : List V} {ls : List L} (h : ArgsOk K G vs ls) : SimS K W G H (L2.start N vs) (startE N.length ls) := by
 have hl := h.length
 refine ⟨by unfold L2.start startE; simp [hl], fun i l e => ?_⟩
 unfold startE at e
 by_cases hi : i < ls.length
 ·rw [List.getElem?_append_left (by rw [List.length_map]; exact hi), List.getElem?_map] at e
  cases e2 : ls[i]? with
  | none => rw [e2] at e; cases e
  | some l' =>
   rw [e2] at e
   cases e
   obtain ⟨v, e3, e4⟩ := args_slots (W := W) (H := H) i l h e2
   refine ⟨v, ?_, e4 i⟩
   unfold L2.start
   rw [List.getElem?_append_left (by rw [List.length_map, hl]; exact hi), List.getElem?_map, e3]
   rfl
 ·rw [List.getElem?_append_right (by rw [List.length_map]; omega), List.getElem?_replicate] at e
  split at e <;> cases e
theorem step_of {G H G' H' : Hp} {W : Addr → Option Nat} (h : SimH H G G' W H') : Step G H G' H' := ⟨h.g0, h.bh, h.gh, fun b hb hg => by
 cases e : G' b with
 | none => exact .inl rfl
 | some o =>
  rcases h.gb b (by rw [e]; exact fun z => nomatch z) with z | z | z
  ·exact absurd hg z
  ·exact absurd z hb
  ·exact .inr z⟩
theorem body_core {K : PySem.W.Frag} {N : List Str} {n : Nat} {m : List L → Res L} {fm : MS} {vs : List V} {H : Hp} {Q : VK} {E : XK} (h : spM K n m vs H Q E) (hm : ∀ ls, m ls = .bad ∨ runF N.length fm ls = m ls) :
  tS K (fun _ => E) fm { nx := fun _ H' => Q .non H', rt := Q } (L2.start N vs) H := by
 obtain ⟨hl, G, ls, gh, ha, hw⟩ := h
 refine ⟨H, G, G, fun _ => none, startE N.length ls, ⟨gh, Same.refl _, Same.refl _, fun _ hb => .inl hb, fun a i e => nomatch e⟩, start_sim ha, ?_⟩
 rcases hm ls with e | e
 ·rw [e] at hw; exact hw.elim
 ·rw [← e] at hw
  unfold runF at hw
  cases ef : fm (startE N.length ls) with
  | none => rw [ef] at hw; exact hw
  | some o =>
   rw [ef] at hw
   cases o with
   | nx en => exact fun G' W' H' σ' h1 _ => hw G' H' .non (step_of h1) .non
   | rt l => exact fun G' W' H' v h1 h2 => hw G' H' v (step_of h1) h2
   | bk en => exact hw.elim
   | ct en => exact hw.elim
   | ex C en => exact fun G' W' H' σ' h1 _ => hw G' H' (step_of h1)
section
variable {P : Program} {w : World} {K : PySem.W.Frag} {mg : Str → Option Value} {base : Heap}
theorem passS {N : List Str} {qual : Str} {scope : Scope} {f : Addr} {cd : Value} {A : Around} {outer : List Env} {s : Shared} {H : Hp} {E : XK} : PassesS (CXr P w) (cxOf (CXr P w) P w K mg base N qual scope f cd A outer s H E) (fun _ => E) :=
 fun pins σ H s e s' I h => passR pins σ H s e s' I h
theorem passF {X : Cx} : PassesS (CXr P w) X (fun _ => E0) := fun _ _ _ _ _ _ _ ⟨_, _, _, _, _, _, _, z⟩ => z.elim
theorem fnM {x qual : Str} {st : Stmt} {f : Addr} {fd : FuncData} {N ps : List Str} {k n : Nat} {m : List L → Res L} (F : Fun K x qual st f fd) (S : FnScope N ps (defScope st)) (hn : n = ps.length)
  (hbody : ∀ (cdv : Value) (A : Around) (outer : List Env) (s : Shared) (H : Hp) (E : XK), Room k (A.deeper (envOfC qual (defScope st) s.heap.objs.size f cdv)) →
   ∃ fm, DSs (cxOf (CXr P w) P w K mg base N qual (defScope st) f cdv A outer s H E) (fun _ => E) (defBody st) fm ∧ ∀ ls, m ls = .bad ∨ runF N.length fm ls = m ls) : FnOk P w K mg base (CXr P w) (k + 1) f fd ps (spM K n m) := by
 refine F.okX S (fun vs H Q E h => ?_) (fun cdv A outer s H vs Q E hr h => ?_)
 ·rw [← hn]; exact h.1
 ·obtain ⟨fm, hd, hm⟩ := hbody cdv A outer s H E hr
  exact ⟨_, hd, body_core h hm⟩
end
def mRaise (C : Addr) (fr : En → Res (List Ev)) : MS := fun en => match fr en with
 | .ok rs => if rs.length ≤ 1000 then some (.ex C en) else none
 | .exc C => some (.ex C en)
 | .bad => none
section
variable {X : Cx}
end
def pureL : List Ev → Option (List D)
 | [] => some []
 | r :: rs => match r with
  | .p d => match pureL rs with
   | some ds => some (d :: ds)
   | none => none
  | _ => none
theorem pure_reps {K : PySem.W.Frag} {W : Addr → Option Nat} {Hs G H : Hp} : ∀ {rs : List Ev} {ds : List D} {vs : List V}, pureL rs = some ds → EOks K W Hs G H vs rs → Reps K G vs ds
 | [], _, [], h, _ => by cases h; exact .nil
 | [], _, _ :: _, _, e => e.elim
 | _ :: _, _, [], _, e => e.elim
 | r :: rs, ds, v :: vs, h, e => by
  unfold pureL at h
  cases r with
  | p d =>
   dsimp only at h
   cases er : pureL rs with
   | none => rw [er] at h; cases h
   | some ds' => rw [er] at h; cases h; exact .cons e.1 (pure_reps er e.2)
  | x C => cases h
  | b d => cases h
  | f d => cases h
def tupR' (rs : List Ev) : Res Ev := match pureL rs with
 | some ds => if ds.length ≤ 1000 then .ok (.p (.tuple ds)) else .bad
 | none => .bad
def lstR' (rs : List Ev) : Res Ev := match pureL rs with
 | some ds => if ds.length ≤ 1000 then .ok (.f (.list ds)) else .bad
 | none => .bad
section
variable {X : Cx} {E : L2.St → XK} {es : List Expr} {fr : En → Res (List Ev)} {pos : Pos}
theorem de_tup {x1} (h : DA X E es fr) : DE X E (.Tuple es x1 pos) (mCallB tupR' fr) := by
 obtain ⟨t, q, m⟩ := h.out
 refine DE.in ⟨_, pe_tup q, fun B G0 G W H σ en Q hh hs hw => m B G0 G W H σ en _ hh hs ?_⟩
 have hw : wpR ((fr en).bind _) _ _ := hw
 rw [wpR_bind] at hw
 refine wpR_mono hw (fun rs hr G1 H1 vs s e => ?_) fun C h => h
 unfold tupR' at hr
 split at hr
 ·rename_i ds el
  have rp := pure_reps el e
  split at hr
  ·rename_i hl
   refine ⟨by rw [rp.length]; exact Nat.le_trans hl (by decide), fun p hp => ?_⟩
   have st := Step.put (o := .tup vs) s.gh hp
   exact hr _ _ _ (s.trans st) (.tup upd_same (rp.mono st.g))
  ·exact False.elim hr
 ·exact False.elim hr
theorem de_lst (h : DA X E es fr) : DE X E (.List es pos) (mCallB lstR' fr) := by
 obtain ⟨t, q, m⟩ := h.out
 refine DE.in ⟨_, pe_lst q, fun B G0 G W H σ en Q hh hs hw => m B G0 G W H σ en _ hh hs ?_⟩
 have hw : wpR ((fr en).bind _) _ _ := hw
 rw [wpR_bind] at hw
 refine wpR_mono hw (fun rs hr G1 H1 vs s e => ?_) fun C h => h
 unfold lstR' at hr
 split at hr
 ·rename_i ds el
  have rp := pure_reps el e
  split at hr
  ·rename_i hl
   refine ⟨by rw [rp.length]; exact Nat.le_trans hl (by decide), fun p hp => ?_⟩
   have st := Step.lay (o := .lst vs) s.gh hp
   exact hr _ _ _ (s.trans st) ⟨p, _, rfl, s.h.free hp, s.gh.free hp, upd_same, .lst rp⟩
  ·exact False.elim hr
 ·exact False.elim hr
end
def mapO (g : D → Option (Option D)) : List D → Option (List D)
 | [] => some []
 | d :: ds => match g d with
  | none => none
  | some o => match mapO g ds with
   | none => none
   | some r => some (match o with
    | some y => y :: r
    | none => r)
def capO (o : Option (Option L)) : Option L := match o with
 | some (some (.p d)) => some (.p d)
 | some (some (.x C)) => some (.x C)
 | _ => none
def capE (js : List Nat) (en : En) : En := js.map fun j => capO en[j]?
def mYes : En → Res Bool := fun _ => .ok true
def compItem (n : Nat) (js : List Nat) (tg : D → En → Option En) (ft : En → Res Bool) (fe : En → Res Ev) (en : En) (d : D) : Option (Option D) := match tg d (List.replicate n none ++ capE js en) with
 | none => none
 | some e => match ft e with
  | .ok true => match fe e with
   | .ok r => match r.c with
    | .p y => some (some y)
    | _ => none
   | _ => none
  | .ok false => some none
  | _ => none
def compR (g : D → Option (Option D)) (ds : List D) : Res Ev := if ds.length ≤ 100000 then match mapO g ds with
  | some r => .ok (.f (.list r))
  | none => .bad
 else .bad
def mComp (n : Nat) (js : List Nat) (fi : En → Res (List D)) (tg : D → En → Option En) (ft : En → Res Bool) (fe : En → Res Ev) : En → Res Ev := fun en => (fi en).bind fun ds => compR (compItem n js tg ft fe en) ds
def DTs (X : Cx) (ifs : List Expr) (f : En → Res Bool) : Prop := PTs X ifs (tT X.K (fun _ => E0) f)
theorem sim0 {G H : Hp} (h : Same G H) : SimH H G G (fun _ => none) H := ⟨h, Same.refl _, Same.refl _, fun _ hb => .inl hb, fun a i e => nomatch e⟩
theorem caps_sim {K : PySem.W.Frag} {W : Addr → Option Nat} {G H : Hp} {σ : L2.St} {en : En} (n : Nat) (js : List Nat) (h : SimS K W G H σ en) : SimS K (fun _ => none) G H (List.replicate n none ++ caps js σ) (List.replicate n none ++ capE js en) := by
 refine ⟨by unfold caps capE; simp, fun i l e => ?_⟩
 by_cases hi : i < n
 ·rw [List.getElem?_append_left (by rw [List.length_replicate]; exact hi), List.getElem?_replicate] at e
  split at e <;> cases e
 ·rw [List.getElem?_append_right (by rw [List.length_replicate]; omega), List.length_replicate] at e ⊢
  unfold capE at e
  unfold caps
  rw [List.getElem?_map] at e ⊢
  cases ej : js[i - n]? with
  | none => rw [ej] at e; cases e
  | some j =>
   rw [ej] at e
   have e' : capO en[j]? = some l := Option.some.inj e
   unfold capO at e'
   split at e'
   ·rename_i d q
    cases e'
    obtain ⟨v, h1, h2⟩ := h.2 j _ q
    exact ⟨v, by show some ((σ[j]?).getD none) = _; rw [h1]; rfl, h2⟩
   ·rename_i d q
    cases e'
    obtain ⟨v, h1, h2⟩ := h.2 j _ q
    exact ⟨v, by show some ((σ[j]?).getD none) = _; rw [h1]; rfl, h2⟩
   ·cases e'
section
variable {X : Cx} {E : L2.St → XK} {pos : Pos}
theorem dts_nil : DTs X [] mYes := fun pins s σ H Q I ⟨B, G0, G, W, en, h1, h2, h3⟩ => pts_nil pins s σ H Q I (h3 G H (Step.refl h1.gh))
theorem comp_sim {elt iter tg : Expr} {scope : Scope} {ifs : List Expr} {n : Nat} {js ks : List Nat} {fi : En → Res (List D)} {g : D → En → Option En} {ft : En → Res Bool} {fe : En → Res Ev} {xs ys : List Str} {cl : List (Str × Addr)} (hc : X.calm = true) (hi : DI X E tg iter fi)
  (hcl : ClOk X scope cl) (hcap : CapOk X scope cl ys js) (hcell : ∀ y ∈ scope.names, y.2 ≠ .cell) (hkind : scope.kind = .function) (hnames : ∀ y ∈ scope.names, y.2 = .local → scope.names.lookup y.1 = some .local) (hn : xs.length = n) (hks : ∀ j ∈ ks, j < n)
  (hg : ∀ C s₀ H₀ ex pn, DG (blockCx X scope cl C (xs ++ ys) s₀ H₀ ex pn) tg ks g) (ht : ∀ C s₀ H₀ ex pn, DTs (blockCx X scope cl C (xs ++ ys) s₀ H₀ ex pn) ifs ft) (hb : ∀ C s₀ H₀ ex pn, DE (blockCx X scope cl C (xs ++ ys) s₀ H₀ ex pn) (fun _ => E0) elt fe)
  : ∀ B G0 G W H σ en Q, SimH B G0 G W H → SimS X.K W G H σ en → wpR (mComp n js fi g ft fe en) (PostE X.K W G H Q) (PostX (E σ) G H) → tCompG (tI X.K E fi) (tG X.K ks g) (tT X.K (fun _ => E0) ft) (tE X.K (fun _ => E0) fe) xs.length js σ H Q := by
 subst hn
 refine fun B G0 G W H σ en Q hh hs hw => ⟨B, G0, G, W, en, hh, hs, ?_⟩
 have hw : wpR ((fi en).bind _) _ _ := hw
 rw [wpR_bind] at hw
 refine wpR_mono hw (fun ds hds G1 H1 J s1 hJ D hD => ?_) fun C h => h
 unfold compR at hds
 split at hds
 case isFalse => exact hds.elim
 rename_i hlen
 split at hds
 case h_2 => exact hds.elim
 rename_i r em
 have gD : G1 D = none := s1.gh.free hD
 have keyH : ∀ {G2 H2 : Hp} {y : List V}, Step G1 H1 G2 H2 → G2 D = none → Step G1 H1 G2 (upd H2 D (.lst y)) := fun st hg2 => by
  refine ⟨st.g, fun b o e => ?_, fun b o e => ?_, st.new⟩
  ·rw [upd_ne (ne_of_none e hD)]; exact st.h b o e
  ·rw [upd_ne (ne_of_none e hg2)]; exact st.gh b o e
 refine ⟨ds.length, fun i ys H2 => i ≤ ds.length ∧ ys.length ≤ i ∧ ∃ G2 rs rest, Step G1 H1 G2 H2 ∧ G2 D = none ∧ H2 D = some (.lst ys) ∧ Reps X.K G2 ys rs ∧ mapO (compItem xs.length js g ft fe en) (ds.drop i) = some rest ∧ rs ++ rest = r,
  ⟨Nat.zero_le _, Nat.zero_le _, G1, [], r, Step.lay s1.gh hD, gD, upd_same, .nil, em, rfl⟩, ?_⟩
 rintro i zs H2 ⟨hi, hzl, G2, rs, rest, st, g2, h2, rp, em2, er⟩
 obtain ⟨j1, j2⟩ := hJ G2 H2 st.g st.gh
 by_cases hlt : i < ds.length
 ·refine .inr ⟨hlt, ?_⟩
  obtain ⟨jg, jy⟩ := j1 i ds[i] (List.getElem?_eq_getElem hlt)
  refine ⟨jg, fun v H3 hy => ?_⟩
  obtain ⟨G3, s3, rv⟩ := jy v H3 hy
  rw [List.drop_eq_getElem_cons hlt] at em2
  unfold mapO at em2
  cases ec : compItem xs.length js g ft fe en ds[i] with
  | none => rw [ec] at em2; cases em2
  | some o =>
   rw [ec] at em2
   dsimp only at em2
   cases em3 : mapO (compItem xs.length js g ft fe en) (ds.drop (i + 1)) with
   | none => rw [em3] at em2; cases em2
   | some rest' =>
    rw [em3] at em2
    have em2 := Option.some.inj em2
    unfold compItem at ec
    split at ec
    ·cases ec
    ·rename_i e eg
     have in3 := caps_sim xs.length js (hs.step ((s1.trans st).trans s3))
     refine ⟨G3, fun _ => none, _, ds[i], e, s3.gh, in3, rv, eg, fun σ' hσ hk => ⟨⟨?_, ?_⟩, ?_⟩⟩
     ·rw [hk.1]; unfold caps; simp
     ·refine List.ext_getElem? fun j => ?_
      rw [List.getElem?_drop, hk.2 (xs.length + j) fun z => absurd (hks _ z) (by omega), List.getElem?_append_right (by rw [List.length_replicate]; omega), List.length_replicate]
      congr 1
      omega
     ·refine ⟨_, _, G3, fun _ => none, e, sim0 s3.gh, hσ, ?_⟩
      cases et : ft e with
      | bad => rw [et] at ec; cases ec
      | exc C => rw [et] at ec; cases ec
      | ok k =>
       rw [et] at ec
       intro G5 H5 s5
       cases k with
       | false =>
        cases ec
        rw [if_neg Bool.false_ne_true]
        have s25 := s3.trans s5
        exact ⟨hlt, Nat.le_succ_of_le hzl, G5, rs, rest', st.trans s25, s25.off h2 (fun xs z => nomatch z) g2, s25.h _ _ h2, rp.mono s25.g, em3, by rw [← er, ← em2]⟩
       | true =>
        rw [if_pos rfl]
        refine ⟨_, _, G5, fun _ => none, e, sim0 s5.gh, hσ.step s5, ?_⟩
        dsimp only at ec
        cases ee : fe e with
        | bad => rw [ee] at ec; cases ec
        | exc C => rw [ee] at ec; cases ec
        | ok q =>
         rw [ee] at ec
         intro G6 H6 y s6 ey
         obtain ⟨G7, s7, e7⟩ := EOk.c s6 ey
         dsimp only at ec
         split at ec
         ·rename_i y' eq
          cases ec
          rw [eq] at e7
          have s27 := (s3.trans s5).trans s7
          have g7 := s27.off h2 (fun xs z => nomatch z) g2
          refine ⟨s27.h _ _ h2, Nat.lt_of_le_of_lt (Nat.le_trans hzl (Nat.le_trans hi hlen)) (by decide), hlt, by rw [List.length_append]; exact Nat.succ_le_succ hzl, G7, rs ++ [y'], rest', keyH (st.trans s27) g7, g7, upd_same, (rp.mono s27.g).append (.cons e7 .nil), em3, ?_⟩
          rw [← er, ← em2, List.append_assoc]
          rfl
         ·cases ec
 ·have e : i = ds.length := by omega
  subst e
  rw [List.drop_length] at em2
  cases em2
  rw [List.append_nil] at er
  subst er
  exact .inl ⟨j2, hds G2 H2 _ (s1.trans st) ⟨D, _, rfl, s1.h.free hD, g2, h2, .lst rp⟩⟩
theorem de_comp {elt iter tg : Expr} {scope : Scope} {ifs : List Expr} {n : Nat} {js ks : List Nat} {fi : En → Res (List D)} {g : D → En → Option En} {ft : En → Res Bool} {fe : En → Res Ev} {xs ys : List Str} {cl : List (Str × Addr)} (hc : X.calm = true) (hi : DI X E tg iter fi)
  (hcl : ClOk X scope cl) (hcap : CapOk X scope cl ys js) (hcell : ∀ y ∈ scope.names, y.2 ≠ .cell) (hkind : scope.kind = .function) (hnames : ∀ y ∈ scope.names, y.2 = .local → scope.names.lookup y.1 = some .local) (hn : xs.length = n) (hks : ∀ j ∈ ks, j < n)
  (hg : ∀ C s₀ H₀ ex pn, DG (blockCx X scope cl C (xs ++ ys) s₀ H₀ ex pn) tg ks g) (ht : ∀ C s₀ H₀ ex pn, DTs (blockCx X scope cl C (xs ++ ys) s₀ H₀ ex pn) ifs ft) (hb : ∀ C s₀ H₀ ex pn, DE (blockCx X scope cl C (xs ++ ys) s₀ H₀ ex pn) (fun _ => E0) elt fe)
  (hs : ∀ x, foldedSetIterable iter X.env x = pure x := by intro _; rfl) : DE X E (.ListComp elt [⟨tg, iter, ifs, 0⟩] scope pos) (mComp n js fi g ft fe) :=
 DE.in ⟨_, pe_compG (xs := xs) (g := tG X.K ks g) (tt := tT X.K (fun _ => E0) ft) (te := tE X.K (fun _ => E0) fe) hc hi hcl hcap hcell hkind hnames hg ht hb hs, comp_sim hc hi hcl hcap hcell hkind hnames hn hks hg ht hb⟩
theorem ds_setC {i : Nat} {y : Str} {py spos : Pos} (hN : X.N.Nodup) (hiN : X.N[i]? = some y) (hx : Loc X.env.scope y) {elt iter tg : Expr} {scope : Scope} {ifs : List Expr} {n : Nat} {js ks : List Nat} {fi : En → Res (List D)} {g : D → En → Option En} {ft : En → Res Bool} {fe : En → Res Ev} {xs ys : List Str} {cl : List (Str × Addr)} (hc : X.calm = true) (hi : DI X E tg iter fi)
  (hcl : ClOk X scope cl) (hcap : CapOk X scope cl ys js) (hcell : ∀ y ∈ scope.names, y.2 ≠ .cell) (hkind : scope.kind = .function) (hnames : ∀ y ∈ scope.names, y.2 = .local → scope.names.lookup y.1 = some .local) (hn : xs.length = n) (hks : ∀ j ∈ ks, j < n)
  (hg : ∀ C s₀ H₀ ex pn, DG (blockCx X scope cl C (xs ++ ys) s₀ H₀ ex pn) tg ks g) (ht : ∀ C s₀ H₀ ex pn, DTs (blockCx X scope cl C (xs ++ ys) s₀ H₀ ex pn) ifs ft) (hb : ∀ C s₀ H₀ ex pn, DE (blockCx X scope cl C (xs ++ ys) s₀ H₀ ex pn) (fun _ => E0) elt fe)
  (hsw : swapsWith (.ListComp elt [⟨tg, iter, ifs, 0⟩] scope pos) (some (.Name y py)) spos.line X.env = pure true := by rfl) (hs : ∀ x, foldedSetIterable iter X.env x = pure x := by intro _; rfl)
  (hf : X.fn y = true ∨ X.env.scope.names.lookup y = some .local := by first | exact .inl rfl | exact .inr rfl | assumption) : DS X E (.Assign [.Name y py] (.ListComp elt [⟨tg, iter, ifs, 0⟩] scope pos) spos) (mSet i (mComp n js fi g ft fe)) :=
 DS.in ⟨_, ps_compG (xs := xs) (g := tG X.K ks g) (tt := tT X.K (fun _ => E0) ft) (te := tE X.K (fun _ => E0) fe) hN hiN hx hc hi hcl hcap hcell hkind hnames hg ht hb hsw hs hf, set_core (comp_sim hc hi hcl hcap hcell hkind hnames hn hks hg ht hb)⟩
end
section
variable {X : Cx} {K : PySem.W.Frag}
def rOr (r r' : R2) : R2 := fun x y H Q => r x y H Q ∨ r' x y H Q
theorem OpR.or' {f : Value → Value → Sem Value} {r r' : R2} (h : OpR X f r) (h' : OpR X f r') : OpR X f (rOr r r') := OpR.or h h'
def rCatR : R2 := fun x y H Q => ∃ l b xs zs, x = .ref l ∧ y = .ref b ∧ Rd H l (.lst xs) ∧ Rd H b (.lst zs) ∧ xs.length + zs.length ≤ sizeLine ∧ ∀ p, H p = none → Q (.ref p) (upd H p (.lst (xs ++ zs)))
theorem op_catR : OpR X (binaryOp .Add) rCatR := by
 intro pins s σ H x y v u Q I rx ry h
 obtain ⟨l, b, xs, zs, rfl, rfl, hH, hB, hz, q⟩ := h
 cases rx
 cases ry
 obtain ⟨z, its, n, r, e⟩ := hH.ok I.hok
 obtain ⟨z2, its2, n2, r2, e2⟩ := hB.ok I.hok
 have hl := r.length
 have hl2 := r2.length
 refine PySem.P.add_list e e2 ?_ (by rw [List.size_toArray, List.size_toArray]; omega)
 have ea : its.toArray ++ its2.toArray = (its ++ its2).toArray := by simp
 rw [ea]
 exact ⟨.ref _, _, I.lnew (t' := s.toks) (r.append r2) (by rw [List.length_append]; omega), rfl, q _ I.fresh⟩
def rStrCat : R2 := fun x y H Q => ∃ i j, x = .str i ∧ y = .str j ∧ i.length + j.length ≤ sizeLine ∧ Q (.str (i ++ j)) H
def lstOf : Ev → Option (List D)
 | .p (.list ds) => some ds
 | .b (.list ds) => some ds
 | _ => none
theorem lst_at {W : Addr → Option Nat} {Hs G H : Hp} {v : V} {r : Ev} {ds : List D} (gh : Same G H) (h : EOk K W Hs G H v r) (e : lstOf r = some ds) : ∃ a xs, v = .ref a ∧ Rd H a (.lst xs) ∧ Reps K G xs ds := by
 cases r with
 | p d =>
  cases d with
  | list es =>
   cases e
   cases h with
   | @lst a xs _ h1 h2 => exact ⟨a, xs, rfl, rd_mono gh h1, h2⟩
  | _ => cases e
 | b d =>
  cases d with
  | list es =>
   cases e
   obtain ⟨a, i, o, rfl, h1, h2, h3⟩ := h
   cases h3 with
   | @lst xs _ h4 => exact ⟨a, xs, rfl, .inl h2, h4⟩
  | _ => cases e
 | f d => cases e
 | x C => cases e
def dat : Ev → Option D
 | .p d => some d
 | .b d => some d
 | _ => none
theorem EOk.read {W : Addr → Option Nat} {Hs G H : Hp} {v : V} {r : Ev} {d : D} (gh : Same G H) (h : EOk K W Hs G H v r) (e : dat r = some d) : Rep K H v d := by
 cases r with
 | p d => cases e; exact Rep.mono gh h
 | b d =>
  cases e
  obtain ⟨a, i, o, rfl, h1, h2, h3⟩ := h
  exact (h3.mono gh).rep h2
 | f d => cases e
 | x C => cases e
open Classical in
noncomputable def intE (C : Int → Int → Prop) (g : Int → Int → D) (x y : Ev) : Res Ev := match x, y with
 | .p (.int i), .p (.int j) => if C i j then .ok (.p (g i j)) else .bad
 | _, _ => .bad
def intE0 (g : Int → Int → D) (x y : Ev) : Res Ev := match x, y with
 | .p (.int i), .p (.int j) => .ok (.p (g i j))
 | _, _ => .bad
theorem noX_intE {C : Int → Int → Prop} {g : Int → Int → D} : NoX (intE C g) := by
 intro x y A h
 unfold intE at h
 split at h
 ·split at h <;> cases h
 ·cases h
theorem noX_intE0 {g : Int → Int → D} : NoX (intE0 g) := by
 intro x y A h
 unfold intE0 at h
 split at h <;> cases h
theorem om_int {C : Int → Int → Prop} {g : Int → Int → D} {gv : Int → Int → V} (hg : ∀ G i j, Rep K G (gv i j) (g i j)) : OpM K (rI C gv) (intE C g) := by
 intro W G H v u x y Q gh hx hy hw
 unfold intE at hw
 split at hw
 ·rename_i i j e1 e2
  rw [e1] at hx; rw [e2] at hy
  cases hx; cases hy
  split at hw
  ·rename_i hc
   exact ⟨i, j, rfl, rfl, hc, hw G H _ (Step.refl gh) (hg G i j)⟩
  ·exact hw.elim
 ·exact hw.elim
theorem om_int0 {g : Int → Int → D} {gv : Int → Int → V} (hg : ∀ G i j, Rep K G (gv i j) (g i j)) : OpM K (rI0 gv) (intE0 g) := by
 intro W G H v u x y Q gh hx hy hw
 unfold intE0 at hw
 split at hw
 ·rename_i i j e1 e2
  rw [e1] at hx; rw [e2] at hy
  cases hx; cases hy
  exact ⟨i, j, rfl, rfl, hw G H _ (Step.refl gh) (hg G i j)⟩
 ·exact hw.elim
noncomputable abbrev mulE : Ev → Ev → Res Ev := intE CMulW fun i j => .int (i * j)
noncomputable abbrev fdivE : Ev → Ev → Res Ev := intE CDivW fun i j => .int (i.fdiv j)
noncomputable abbrev modE : Ev → Ev → Res Ev := intE (fun _ j => j ≠ 0) fun i j => .int (i.fmod j)
noncomputable abbrev powE : Ev → Ev → Res Ev := intE CPow fun i j => .int (i ^ j.toNat)
abbrev subE : Ev → Ev → Res Ev := intE0 fun i j => .int (i - j)
abbrev ltE : Ev → Ev → Res Ev := intE0 fun i j => .bool (decide (i < j))
abbrev leE : Ev → Ev → Res Ev := intE0 fun i j => .bool (decide (i ≤ j))
abbrev gtE : Ev → Ev → Res Ev := intE0 fun i j => .bool (decide (j < i))
theorem om_mul : OpM K (rI CMulW fun i j => .int (i * j)) mulE := om_int fun _ _ _ => .int _
theorem om_fdiv : OpM K (rI CDivW fun i j => .int (i.fdiv j)) fdivE := om_int fun _ _ _ => .int _
theorem om_mod : OpM K (rI (fun _ j => j ≠ 0) fun i j => .int (i.fmod j)) modE := om_int fun _ _ _ => .int _
theorem om_pow : OpM K (rI CPow fun i j => .int (i ^ j.toNat)) powE := om_int fun _ _ _ => .int _
theorem om_sub : OpM K (rI0 fun i j => .int (i - j)) subE := om_int0 fun _ _ _ => .int _
def addE (x y : Ev) : Res Ev := match x, y with
 | .p (.int i), .p (.int j) => .ok (.p (.int (i + j)))
 | .p (.str i), .p (.str j) => if i.length + j.length ≤ 100000 then .ok (.p (.str (i ++ j))) else .bad
 | x, y => match lstOf x, lstOf y with
  | some ds, some es => if ds.length + es.length ≤ 100000 then .ok (.f (.list (ds ++ es))) else .bad
  | _, _ => .bad
theorem noX_add : NoX addE := by
 intro x y A h
 unfold addE at h
 split at h
 ·cases h
 ·split at h <;> cases h
 ·split at h
  ·split at h <;> cases h
  ·cases h
abbrev rAddA : R2 := rOr (rI0 fun i j => .int (i + j)) (rOr rStrCat rCatR)
theorem op_addA : OpR X (binaryOp .Add) rAddA := OpR.or' op_add (OpR.or' op_add_str op_catR)
theorem om_add : OpM K rAddA addE := by
 intro W G H v u x y Q gh hx hy hw
 unfold addE at hw
 split at hw
 ·rename_i i j e1 e2
  rw [e1] at hx; rw [e2] at hy
  cases hx; cases hy
  exact .inl ⟨i, j, rfl, rfl, hw G H _ (Step.refl gh) (.int _)⟩
 ·rename_i i j e1 e2
  rw [e1] at hx; rw [e2] at hy
  cases hx; cases hy
  split at hw
  ·rename_i hl
   exact .inr (.inl ⟨i, j, rfl, rfl, Nat.le_trans hl (by decide), hw G H _ (Step.refl gh) (.str _)⟩)
  ·exact hw.elim
 ·split at hw
  ·rename_i ds es e1 e2
   obtain ⟨a, xs, rfl, h1, h2⟩ := lst_at gh hx e1
   obtain ⟨b, ys, rfl, h3, h4⟩ := lst_at gh hy e2
   split at hw
   ·rename_i hl
    refine .inr (.inr ⟨a, b, xs, ys, rfl, rfl, h1, h3, by rw [h2.length, h4.length]; exact Nat.le_trans hl (by decide), fun p hp => ?_⟩)
    exact hw _ _ _ (Step.lay gh hp) ⟨p, _, rfl, hp, gh.free hp, upd_same, .lst (h2.append h4)⟩
   ·exact hw.elim
  ·exact hw.elim
theorem om_cmp {p : Int → Int → Bool} : OpM K (rI0 fun i j => .bl (p i j)) (intE0 fun i j => .bool (p i j)) := om_int0 fun _ _ _ => .bl _
mutual
theorem Rep.reads {P : Program} {w : World} {H : Hp} {h : Heap} (ok : HOk P w H h) : ∀ {v : V} {d : D}, Rep K H v d → d.canLay0 = true → ∀ {u : Value}, RelV v u → ∃ as, Reads h u d as
 | _, _, .non, _, _, e => by cases e; exact ⟨_, Reads.none⟩
 | _, _, .bl b, _, _, e => by cases e; exact ⟨_, Reads.bool b⟩
 | _, _, .int i, _, _, ⟨t, e⟩ => by subst e; exact ⟨_, Reads.int i t⟩
 | _, _, .str i, _, _, ⟨t, e⟩ => by subst e; exact ⟨_, Reads.str i t⟩
 | _, _, .tup hh r, hc, _, e => by
  have e : _ = Value.ref _ := e
  subst e
  obtain ⟨_, its, rv, o, ho, hcl, n, hd⟩ := (show ObjOk P w H h _ _ from ok _ _ hh)
  obtain ⟨as, q⟩ := Reps.reads ok r (by simpa [PyData.canLay0] using hc) rv
  exact ⟨as, reads_tuple_at ho hcl hd (by simpa using q)⟩
 | _, _, .lst hh r, hc, _, e => by
  have e : _ = Value.ref _ := e
  subst e
  obtain ⟨_, its, n, rv, ho⟩ := hh.ok ok
  obtain ⟨as, q⟩ := Reps.reads ok r (by simpa [PyData.canLay0] using hc) rv
  exact ⟨_, reads_list_at ho rfl rfl (by simpa using q)⟩
 | _, _, .dT _ _, hc, _, _ => by simp [PyData.canLay0] at hc
 | _, _, .dK _ _, hc, _, _ => by simp [PyData.canLay0] at hc
theorem Reps.reads {P : Program} {w : World} {H : Hp} {h : Heap} (ok : HOk P w H h) : ∀ {vs : List V} {ds : List D}, Reps K H vs ds → PyData.canLayAll0 ds = true → ∀ {us : List Value}, Vals vs us → ∃ as, ReadsAll h us ds as
 | _, _, .nil, _, _, .nil => ⟨_, ReadsAll.nil⟩
 | _, _, .cons hd r, hc, _, .cons rv rt => by
  simp only [PyData.canLayAll0, Bool.and_eq_true] at hc
  obtain ⟨as, q⟩ := Rep.reads ok hd hc.1 rv
  obtain ⟨bs, p⟩ := Reps.reads ok r hc.2 rt
  exact ⟨_, ReadsAll.cons q p⟩
end
def rEqP (K : PySem.W.Frag) (ng : Bool) : R2 := fun x y H Q => ∃ d e, Rep K H x d ∧ Rep K H y e ∧ SeqAt.shaped d = true ∧ SeqAt.shaped e = true ∧ Q (.bl (if ng then !PyData.eqv d e else PyData.eqv d e)) H
theorem op_eqP {K : PySem.W.Frag} (hu : X.A.units + 64 < cLine) : OpR X (compareOp .Eq) (rEqP K false) := by
 intro pins s σ H x y v u Q I rx ry h
 obtain ⟨d, e, h1, h2, o1, o2, q⟩ := h
 obtain ⟨as, r1⟩ := h1.reads I.hok (Bool.and_eq_true_iff.mp o1).1 rx
 obtain ⟨bs, r2⟩ := h2.reads I.hok (Bool.and_eq_true_iff.mp o2).1 ry
 exact eq_dataH r1 r2 o1 o2 hu ⟨.bl _, H, I, rfl, q⟩
theorem op_neP {K : PySem.W.Frag} (hu : X.A.units + 64 < cLine) : OpR X (compareOp .NotEq) (rEqP K true) := by
 intro pins s σ H x y v u Q I rx ry h
 obtain ⟨d, e, h1, h2, o1, o2, q⟩ := h
 obtain ⟨as, r1⟩ := h1.reads I.hok (Bool.and_eq_true_iff.mp o1).1 rx
 obtain ⟨bs, r2⟩ := h2.reads I.hok (Bool.and_eq_true_iff.mp o2).1 ry
 exact ne_dataH r1 r2 o1 o2 hu ⟨.bl _, H, I, rfl, q⟩
def eqE (ng : Bool) (x y : Ev) : Res Ev := match dat x, dat y with
 | some d, some e => if SeqAt.shaped d = true ∧ SeqAt.shaped e = true then .ok (.p (.bool (if ng then !PyData.eqv d e else PyData.eqv d e))) else .bad
 | _, _ => .bad
theorem noX_eq {ng : Bool} : NoX (eqE ng) := by
 intro x y A h
 unfold eqE at h
 split at h
 ·split at h <;> cases h
 ·cases h
theorem om_eq {ng : Bool} : OpM K (rEqP K ng) (eqE ng) := by
 intro W G H v u x y Q gh hx hy hw
 unfold eqE at hw
 split at hw
 ·rename_i d e e1 e2
  split at hw
  ·rename_i hs
   exact ⟨d, e, hx.read gh e1, hy.read gh e2, hs.1, hs.2, hw G H _ (Step.refl gh) (.bl _)⟩
  ·exact hw.elim
 ·exact hw.elim
def mUn (op : Ev → Res Ev) (fa : En → Res Ev) : En → Res Ev := fun en => (fa en).bind fun x => op x.c
variable {E : L2.St → XK} {a b : Expr} {fa fb : En → Res Ev} {pos : Pos}
def negE (x : Ev) : Res Ev := match x with
 | .p (.int i) => .ok (.p (.int (-i)))
 | _ => .bad
theorem de_neg (ha : DE X E a fa) : DE X E (.UnaryOp .USub a pos) (mUn negE fa) := by
 obtain ⟨t, p, m⟩ := ha.out
 refine DE.in ⟨_, pe_un un_neg p, fun B G0 G W H σ en Q hh hs hw => m B G0 G W H σ en _ hh hs (DE.go hw fun x G1 H1 v s1 e1 h1 => ?_)⟩
 unfold negE at h1
 split at h1
 ·rename_i i e
  rw [e] at e1
  cases e1
  exact ⟨i, rfl, h1 G1 H1 _ (Step.refl s1.gh) (.int _)⟩
 ·exact h1.elim
def seqOf : Ev → Option (List D)
 | .p (.list ds) => some ds
 | .b (.list ds) => some ds
 | .p (.tuple ds) => some ds
 | _ => none
def ixE (x y : Ev) : Res Ev := match y with
 | .p (.int i) => match seqOf x with
  | some ds => match atI ds i with
   | some d => .ok (.p d)
   | none => .bad
  | none => .bad
 | _ => .bad
theorem noX_ix : NoX ixE := by
 intro x y A h
 unfold ixE at h
 split at h
 ·split at h
  ·split at h <;> cases h
  ·cases h
 ·cases h
theorem reps_at {G : Hp} {xs : List V} {ds : List D} {i : Int} {d : D} (r : Reps K G xs ds) (h : atI ds i = some d) : ∃ x, atI xs i = some x ∧ Rep K G x d := by
 unfold atI at h ⊢
 rw [r.length]
 cases e : ixN ds.length i with
 | none => rw [e] at h; cases h
 | some j =>
  rw [e] at h
  exact r.get' h
def rIxA (K : PySem.W.Frag) : R2 := fun x y H Q => rIxL K x y H Q ∨ rIxT K x y H Q
theorem ix_A : IxR X (rIxA X.K) := ix_list.or ix_tup
theorem om_ix : OpM K (rIxA K) ixE := by
 intro W G H v u x y Q gh hx hy hw
 unfold ixE at hw
 split at hw
 ·rename_i i ey
  rw [ey] at hy
  cases hy
  split at hw
  ·rename_i ds ed
   split at hw
   ·rename_i d ea
    cases ex : x.c with
    | p dd =>
     rw [ex] at ed hx
     cases dd with
     | list es =>
      cases ed
      cases hx with
      | @lst a xs _ h1 h2 =>
       obtain ⟨z, h3, h4⟩ := reps_at h2 ea
       exact .inl ⟨a, xs, i, z, rfl, rfl, .inl (rd_mono gh h1), h3, hw G H _ (Step.refl gh) h4⟩
     | tuple es =>
      cases ed
      cases hx with
      | @tup a xs _ h1 h2 =>
       obtain ⟨z, h3, h4⟩ := reps_at h2 ea
       exact .inr ⟨a, xs, i, z, rfl, rfl, SqT.of (gh _ _ h1), h3, hw G H _ (Step.refl gh) h4⟩
     | _ => cases ed
    | b dd =>
     rw [ex] at ed hx
     cases dd with
     | list es =>
      cases ed
      obtain ⟨a, k, o, rfl, h1, h2, h3⟩ := hx
      cases h3 with
      | @lst xs _ h4 =>
       obtain ⟨z, h5, h6⟩ := reps_at h4 ea
       exact .inl ⟨a, xs, i, z, rfl, rfl, .inl (.inl h2), h5, hw G H _ (Step.refl gh) h6⟩
     | _ => cases ed
    | f dd => rw [ex] at ed; cases ed
    | x C => rw [ex] at ed; cases ed
   ·exact hw.elim
  ·exact hw.elim
 ·exact hw.elim
theorem de_ix (ha : DE X E a fa) (hb : DE X E b fb) (hs : PlainIx b) : DE X E (.Subscript a b pos) (mBin ixE fa fb) := by
 obtain ⟨ta, pa, ma⟩ := ha.out
 obtain ⟨tb, pb, mb⟩ := hb.out
 exact DE.in ⟨_, pe_ix ix_A pa pb hs, op_core ma mb om_ix noX_ix⟩
def lenE (rs : List Ev) : Res Ev := match rs with
 | [x] => match seqOf x with
  | some ds => .ok (.p (.int ds.length))
  | none => .bad
 | _ => .bad
theorem noX_len : NoXs lenE := by
 intro rs C h
 unfold lenE at h
 split at h
 ·split at h <;> cases h
 ·cases h
theorem cm_len : CallM K (fun xs H Q => ∃ p ys, xs = [.ref p] ∧ (SqL K H p ys ∨ SqT K H p ys) ∧ Q (.int ys.length) H) lenE := by
 intro W Hs G H vs rs Q gh he hw
 unfold lenE at hw
 split at hw
 ·rename_i x
  match vs, he with
  | [v], ⟨h1, _⟩ =>
   split at hw
   ·rename_i ds ed
    cases x with
    | p dd =>
     cases dd with
     | list es =>
      cases ed
      cases h1 with
      | @lst a xs _ k1 k2 => exact ⟨a, xs, rfl, .inl (.inl (rd_mono gh k1)), by rw [k2.length]; exact hw G H _ (Step.refl gh) (.int _)⟩
     | tuple es =>
      cases ed
      cases h1 with
      | @tup a xs _ k1 k2 => exact ⟨a, xs, rfl, .inr (SqT.of (gh _ _ k1)), by rw [k2.length]; exact hw G H _ (Step.refl gh) (.int _)⟩
     | _ => cases ed
    | b dd =>
     cases dd with
     | list es =>
      cases ed
      obtain ⟨a, k, o, rfl, k1, k2, k3⟩ := h1
      cases k3 with
      | @lst xs _ k4 => exact ⟨a, xs, rfl, .inl (.inl (.inl k2)), by rw [k4.length]; exact hw G H _ (Step.refl gh) (.int _)⟩
     | _ => cases ed
    | f dd => cases ed
    | x C => cases ed
   ·exact hw.elim
 ·exact hw.elim
def absE (rs : List Ev) : Res Ev := match rs with
 | [.p (.int i)] => .ok (.p (.int (if i < 0 then -i else i)))
 | _ => .bad
theorem noX_abs : NoXs absE := by
 intro rs C h
 unfold absE at h
 split at h <;> cases h
theorem cm_abs : CallM K (fun xs H Q => ∃ i, xs = [.int i] ∧ Q (.int (if i < 0 then -i else i)) H) absE := by
 intro W Hs G H vs rs Q gh he hw
 unfold absE at hw
 split at hw
 ·rename_i i
  match vs, he with
  | [v], ⟨h1, _⟩ => cases h1; exact ⟨i, rfl, hw G H _ (Step.refl gh) (.int _)⟩
 ·exact hw.elim
def mm2E (f : Int → Int → Int) (rs : List Ev) : Res Ev := match rs with
 | [.p (.int i), .p (.int j)] => .ok (.p (.int (f i j)))
 | _ => .bad
theorem noX_mm2 {f : Int → Int → Int} : NoXs (mm2E f) := by
 intro rs C h
 unfold mm2E at h
 split at h <;> cases h
theorem cm_mm2 {f : Int → Int → Int} : CallM K (fun xs H Q => ∃ i j, xs = [.int i, .int j] ∧ Q (.int (f i j)) H) (mm2E f) := by
 intro W Hs G H vs rs Q gh he hw
 unfold mm2E at hw
 split at hw
 ·rename_i i j
  match vs, he with
  | [v, u], ⟨h1, h2, _⟩ => cases h1; cases h2; exact ⟨i, j, rfl, hw G H _ (Step.refl gh) (.int _)⟩
 ·exact hw.elim
def listE (rs : List Ev) : Res Ev := match rs with
 | [x] => match seqOf x with
  | some ds => .ok (.f (.list ds))
  | none => .bad
 | _ => .bad
theorem noX_list : NoXs listE := by
 intro rs C h
 unfold listE at h
 split at h
 ·split at h <;> cases h
 ·cases h
theorem cm_list : CallM K (fun xs H Q => ∃ p ys, xs = [.ref p] ∧ (SqL K H p ys ∨ SqT K H p ys) ∧ ∀ l, H l = none → Q (.ref l) (upd H l (.lst ys))) listE := by
 intro W Hs G H vs rs Q gh he hw
 unfold listE at hw
 split at hw
 ·rename_i x
  match vs, he with
  | [v], ⟨h1, _⟩ =>
   split at hw
   ·rename_i ds ed
    have fin : ∀ {xs : List V}, Reps K G xs ds → ∀ l, H l = none → Q (.ref l) (upd H l (.lst xs)) := fun r l hl =>
     hw _ _ _ (Step.lay gh hl) ⟨l, _, rfl, hl, gh.free hl, upd_same, .lst r⟩
    cases x with
    | p dd =>
     cases dd with
     | list es =>
      cases ed
      cases h1 with
      | @lst a xs _ k1 k2 => exact ⟨a, xs, rfl, .inl (.inl (rd_mono gh k1)), fin k2⟩
     | tuple es =>
      cases ed
      cases h1 with
      | @tup a xs _ k1 k2 => exact ⟨a, xs, rfl, .inr (SqT.of (gh _ _ k1)), fin k2⟩
     | _ => cases ed
    | b dd =>
     cases dd with
     | list es =>
      cases ed
      obtain ⟨a, k, o, rfl, k1, k2, k3⟩ := h1
      cases k3 with
      | @lst xs _ k4 => exact ⟨a, xs, rfl, .inl (.inl (.inl k2)), fin k4⟩
     | _ => cases ed
    | f dd => cases ed
    | x C => cases ed
   ·exact hw.elim
 ·exact hw.elim
def tyD : D → String
 | .none => "NoneType"
 | .bool _ => "bool"
 | .int _ => "int"
 | .str _ => "str"
 | .list _ => "list"
 | .tuple _ => "tuple"
 | .dict _ => "dict"
def isiE (K : PySem.W.Frag) (c : Value) (x : Ev) : Res Ev := match dat x with
 | some d => match PySem.W.kitOne K (.type (tyD d)) c with
  | some b => .ok (.p (.bool b))
  | none => .bad
 | none => .bad
theorem rep_ty {H : Hp} {v : V} {d : D} (h : Rep K H v d) : TyOf K H v (.type (tyD d)) := by
 cases h with
 | non => exact .non
 | bl b => exact .bl b
 | int i => exact .int i
 | str i => exact .str i
 | tup h _ => exact .tup h
 | lst h _ =>
  rcases h with h | ⟨o, h⟩
  ·exact .lst h
  ·exact .frz h
 | dT h _ => exact .dT h
 | dK h _ => exact .dK h
theorem de_isi {e c : Expr} {v : V} {cv : Value} {p : Pos} (hg : Gl X "isinstance") (hm : X.mg "isinstance" = none) (hv : (∃ n, v = .ty n) ∨ ∃ a, v = .ref a) (hr : RelV v cv) (he : DE X E e fa) (hc : PE X c (tC v))
  (h1 : starEach [e, c] X.env = (false, eval e X.env) :: starEach [c] X.env := by rfl) (h2 : (backTo pos (starEach [c] X.env)).any (·.1) = false := by rfl) (h3 : starEach [c] X.env = (false, eval c X.env) :: starEach [] X.env := by rfl) :
  DE X E (.Call (.Name "isinstance" p) [e, c] [] pos) (mUn (isiE X.K cv) fa) := by
 obtain ⟨t, q, m⟩ := he.out
 refine DE.in ⟨_, pe_isi hg hm q hc h1 h2 h3, fun B G0 G W H σ en Q hh hs hw => m B G0 G W H σ en _ hh hs (DE.go hw fun x G1 H1 u s1 e1 k1 => ?_)⟩
 unfold isiE at k1
 split at k1
 ·rename_i d ed
  split at k1
  ·rename_i b eb
   exact ⟨u, v, .type (tyD d), cv, b, rfl, hv, .plain (rep_ty (EOk.read s1.gh e1 ed)), hr, eb, k1 G1 H1 _ (Step.refl s1.gh) (.bl _)⟩
  ·exact k1.elim
 ·exact k1.elim
end
section
variable {P : Program} {w : World} {K : PySem.W.Frag} {mg : Str → Option Value} {base : Heap}
structure Def (K : PySem.W.Frag) (mg : Str → Option Value) (x : Str) (ps : List Str) (st : Stmt) : Prop where
 ex : ∃ f fd, Fun K x x st f fd ∧ Binds K fd ps [] ∧ PySem.W.keepIn K (.ref f) = true ∧ mg x = some (.ref f)
structure Cal (P : Program) (w : World) (K : PySem.W.Frag) (mg : Str → Option Value) (base : Heap) (k : Nat) (x : Str) (n : Nat) (m : List L → Res L) : Prop where
 ex : ∃ f fd ps, FnOk P w K mg base (CXr P w) k f fd ps (spM K n m) ∧ Binds K fd ps [] ∧ PySem.W.keepIn K (.ref f) = true ∧ mg x = some (.ref f)
theorem calM {x : Str} {st : Stmt} {N ps : List Str} {k n : Nat} {m : List L → Res L} (Df : Def K mg x ps st) (S : FnScope N ps (defScope st)) (hn : n = ps.length)
  (hbody : ∀ (f : Addr) (cdv : Value) (A : Around) (outer : List Env) (s : Shared) (H : Hp) (E : XK), Room k (A.deeper (envOfC x (defScope st) s.heap.objs.size f cdv)) →
   ∃ fm, DSs (cxOf (CXr P w) P w K mg base N x (defScope st) f cdv A outer s H E) (fun _ => E) (defBody st) fm ∧ ∀ ls, m ls = .bad ∨ runF N.length fm ls = m ls) : Cal P w K mg base (k + 1) x n m := by
 obtain ⟨f, fd, F, b, kp, h⟩ := Df.ex
 exact ⟨f, fd, ps, fnM F S hn fun cdv A outer s H E hr => hbody f cdv A outer s H E hr, b, kp, h⟩
end
section
variable {X : Cx} {E : L2.St → XK} {k j : Nat} {x : Str} {p pos : Pos} {e : Expr} {es : List Expr} {fr : En → Res (List Ev)} {n : Nat} {m : List L → Res L}
theorem de_callC (c : Cal X.prog X.w X.K X.mg X.base j x n m) (hr : Room k X.A) (hx : PassesS (CXr X.prog X.w) X E) (ha : DA X E (e :: es) fr) (hg : Gl X x := by rfl) (hjk : j ≤ k := by decide) (hdb : (x == ("__debug__" : Str)) = false := by decide)
  (he : starEach (e :: es) X.env = (false, eval e X.env) :: starEach es X.env := by rfl) (hpl : (backTo pos (starEach es X.env)).any (·.1) = false := by rfl) :
  DE X E (.Call (.Name x p) (e :: es) [] pos) (mCall n m fr) := by
 obtain ⟨f, fd, ps, F, b, kp, h⟩ := c.ex
 exact de_call (F.mono hjk) hr hg h kp b hx ha hdb he hpl
theorem dv (i : Nat) (hN : X.N[i]? = some x := by rfl) (hv : Vis X.env.scope x := by first | exact Or.inl rfl | exact Or.inr (Or.inl rfl) | exact Or.inr (Or.inr rfl)) (hd : (x == ("__debug__" : Str)) = false := by decide) (hcd : (x == ("__classdict__" : Str)) = false := by decide) :
  DE X E (.Name x pos) (mVar i) := de_var hN hv hd hcd
theorem u64 {A : Around} (hr : Room k A) : A.units + 64 < cLine := by have := hr.un; omega
theorem u1 {A : Around} (hr : Room k A) : A.units + 1 < cLine := by have := hr.un; omega
theorem cap_nil {scope : Scope} {cl : List (Str × Addr)} : CapOk X scope cl [] [] := ⟨rfl, fun i y j h _ => by simp at h⟩
theorem cap_cons {scope : Scope} {cl : List (Str × Addr)} {y : Str} {ys : List Str} {j : Nat} {js : List Nat} (h : X.N[j]? = some y ∧ (X.env.kindOf y = some .cell ∨ X.env.kindOf y = some .free) ∧ ((relabel scope X.env).names.lookup y = some .cell ∨ (relabel scope X.env).names.lookup y = some .free) ∧ (X.env.cells.lookup y).isSome = true ∧ cl.lookup y = X.env.cells.lookup y)
  (t : CapOk X scope cl ys js) : CapOk X scope cl (y :: ys) (j :: js) :=
 ⟨by rw [List.length_cons, List.length_cons, t.len], fun i z q e1 e2 => by
  cases i with
  | zero => simp at e1 e2; subst e1 e2; exact h
  | succ i => exact t.at_ i z q (by simpa using e1) (by simpa using e2)⟩
theorem cl_ok {scope : Scope} {cl : List (Str × Addr)} {ys : List Str} {js : List Nat} (clos : closureFor scope X.env = pure cl) (sub : ∀ q ∈ cl, X.env.cells.lookup q.1 = some q.2) (cap : CapOk X scope cl ys js) (hcell : ∀ y ∈ scope.names, y.2 ≠ .cell) (hfree : ∀ q ∈ scope.names, q.2 = .free → q.1 ∈ ys) : ClOk X scope cl := by
 refine ⟨clos, fun y c h => sub _ (PySem.mem_of_lookup h), fun y hy => ?_⟩
 have hm : y ∈ ys := by
  rcases hy with hy | hy
  ·have m := PySem.mem_of_lookup hy
   obtain ⟨⟨n0, k0⟩, m0, e0⟩ := List.mem_map.mp m
   dsimp only at e0
   split at e0
   ·rename_i z
    injection e0 with e1 e2
    subst e1
    have : k0 = .free := by
     cases k0 <;> simp at z ⊢
    exact hfree _ m0 this
   ·injection e0 with e1 e2
    exact absurd e2 (hcell _ m0)
  ·have m := PySem.mem_of_lookup hy
   obtain ⟨⟨n0, k0⟩, m0, e0⟩ := List.mem_map.mp m
   dsimp only at e0
   split at e0
   ·injection e0 with e1 e2
    cases e2
   ·injection e0 with e1 e2
    subst e1
    exact hfree _ m0 e2
 obtain ⟨i, hi, e⟩ := List.mem_iff_getElem.mp hm
 have hj : i < js.length := by rw [← cap.len]; exact hi
 obtain ⟨_, _, _, h4, h5⟩ := cap.at_ i y js[i] (by rw [List.getElem?_eq_getElem hi, e]) (List.getElem?_eq_getElem hj)
 rw [h5]
 exact Option.isSome_iff_exists.mp h4
theorem write_ok {K : PySem.W.Frag} {B G0 G H : Hp} {W : Addr → Option Nat} {σ : L2.St} {en : En} {i : Nat} {a : Addr} {o' : HO} {d' : D} (hh : SimH B G0 G W H) (hs : SimS K W G H σ en) (hW : W a = some i) (hv : σ[i]? = some (some (.ref a))) (hc : Cont K G o' d') :
  SimH B G0 G W (upd H a o') ∧ SimS K W G (upd H a o') σ (en.set i (some (.o d'))) := by
 obtain ⟨g1, g2, g3⟩ := hh.wf a i hW
 refine ⟨⟨fun b o e => ?_, fun b o e => ?_, hh.g0, hh.gb, fun b j e => ?_⟩, by rw [List.length_set]; exact hs.1, fun j l e => ?_⟩
 ·rw [upd_ne (ne_of_none e g1)]; exact hh.gh b o e
 ·rw [upd_ne (ne_of_none e g2)]; exact hh.bh b o e
 ·obtain ⟨k1, k2, o, k3, k4⟩ := hh.wf b j e
  refine ⟨k1, k2, ?_⟩
  by_cases z : b = a
  ·rw [z, upd_same]; exact ⟨_, rfl, hc.mut⟩
  ·rw [upd_ne z]; exact ⟨o, k3, k4⟩
 ·rw [List.getElem?_set] at e
  by_cases hj : i = j
  ·subst hj
   rw [if_pos rfl] at e
   split at e
   ·cases e
    exact ⟨_, hv, a, o', rfl, hW, upd_same, hc⟩
   ·cases e
  ·rw [if_neg hj] at e
   obtain ⟨v, e1, e2⟩ := hs.2 j l e
   refine ⟨v, e1, ?_⟩
   cases l with
   | p d => exact e2
   | x C => exact e2
   | h a => exact e2
   | o d =>
    obtain ⟨b, ob, h1, h2, h3, h4⟩ := e2
    refine ⟨b, ob, h1, h2, ?_, h4⟩
    rw [upd_ne (fun z => by rw [z, hW] at h2; exact hj (Option.some.inj h2))]
    exact h3
def mAppend (i : Nat) (fe : En → Res Ev) : MS := fun en => match en[i]? with
 | some (some (.o (.list ds))) => match fe en with
  | .ok r => match r.c with
   | .p d => if ds.length ≤ 100000 then some (.nx (en.set i (some (.o (.list (ds ++ [d])))))) else none
   | _ => none
  | .exc C => some (.ex C en)
  | .bad => none
 | _ => none
theorem ds_append {i : Nat} {fe : En → Res Ev} {st : Stmt} (he : DE X E e fe) (hp : ∀ t, PE X e t → PS X st (tDrop (tBM X.K "list" rAppend (tVar i) (tCons t tNil)))) : DS X E st (mAppend i fe) := by
 obtain ⟨t, q, mm⟩ := he.out
 refine DS.in ⟨_, hp t q, fun B G0 G W H σ en Dn hh hs hw => ?_⟩
 unfold mAppend at hw
 split at hw
 ·rename_i ds ei
  obtain ⟨v, e1, a, o, rfl, e2, e3, e4⟩ := hs.2 i _ ei
  cases e4 with
  | @lst xs _ rp =>
  refine ⟨_, e1, .inl ⟨rfl, _, SqL.of e3⟩, mm B G0 G W H σ en _ hh hs ?_⟩
  cases ef : fe en with
  | bad => rw [ef] at hw; exact hw
  | exc C => rw [ef] at hw; exact fun G1 H1 s => hw G1 W H1 σ (hh.step s) (hs.step s)
  | ok r =>
   rw [ef] at hw
   intro G1 H1 y s ey
   obtain ⟨G2, s2, ey2⟩ := ey.c s
   dsimp only at hw
   cases er : r.c with
   | p d =>
    rw [er] at hw ey2
    dsimp only at hw
    split at hw
    ·rename_i hl
     have hx := s2.h _ _ e3
     refine ⟨a, xs, y, rfl, rfl, hx, Nat.lt_of_le_of_lt (by rw [rp.length]; exact hl) (by decide), ?_⟩
     obtain ⟨w1, w2⟩ := write_ok (o' := .lst (xs ++ [y])) (d' := .list (ds ++ [d])) (hh.step s2) (hs.step s2) e2 e1 (.lst ((rp.mono s2.g).append (.cons ey2 .nil)))
     exact hw _ _ _ _ w1 w2
    ·exact hw.elim
   | f d => rw [er] at hw; exact hw.elim
   | b d => rw [er] at hw; exact hw.elim
   | x C => rw [er] at hw; exact hw.elim
 ·exact hw.elim
end
section
variable {X : Cx} {K : PySem.W.Frag} {E : L2.St → XK} {a b : Expr} {fa fb : En → Res Ev} {pos : Pos}
end
end M

namespace SRT
open PySem PySem.W PyProof.Rows
structure Ord (lt : Nat → Nat → Bool) : Prop where
 as : ∀ i j, lt i j = true → lt j i = false
 tr : ∀ i j k, lt j i = false → lt k j = false → lt k i = false
section
variable {lt : Nat → Nat → Bool} {n : Nat} {cmp : Nat → Nat → (Bool → Shared → Prop) → Shared → Prop} {s : Shared}
def le (lt : Nat → Nat → Bool) (a b : Nat) : Prop := lt b a = false
theorem Ord.rf (o : Ord lt) (i : Nat) : le lt i i := by
 cases e : lt i i with
 | false => exact e
 | true => have := o.as i i e; rw [e] at this; cases this
theorem Ord.tot (o : Ord lt) {i j : Nat} (h : lt i j = true) : le lt i j := o.as i j h
def Pt (p : Array Nat) (i : Nat) : Nat := p.getD i 0
def Sd (lt : Nat → Nat → Bool) (p : Array Nat) (m : Nat) : Prop := ∀ i j, i ≤ j → j < m → le lt (Pt p i) (Pt p j)
def NI (lt : Nat → Nat → Bool) (p : Array Nat) (m : Nat) : Prop := ∀ i j, i ≤ j → j < m → le lt (Pt p j) (Pt p i)
def Pm (n : Nat) (p : Array Nat) : Prop := p.Perm (List.range n).toArray
theorem Pm.size {p : Array Nat} (h : Pm n p) : p.size = n := by
 have := h.size_eq
 simpa using this
theorem Pm.bd {p : Array Nat} (h : Pm n p) (hn : 0 < n) (i : Nat) : Pt p i < n := by
 unfold Pt
 by_cases hi : i < p.size
 ·have e : p.getD i 0 = p[i] := by simp [Array.getD, hi]
  rw [e]
  have : p[i] ∈ (List.range n).toArray := h.mem_iff.mp (Array.getElem_mem hi)
  simpa using this
 ·have e : p.getD i 0 = 0 := by simp [Array.getD, hi]
  rw [e]; exact hn
theorem Pt_of {p q : Array Nat} {i j : Nat} (h : p[i]? = q[j]?) : Pt p i = Pt q j := by
 unfold Pt
 rw [Array.getD_eq_getD_getElem?, Array.getD_eq_getD_getElem?, h]
theorem rev_pm {p : Array Nat} (h : Pm n p) (i j : Nat) : Pm n (kas_rev p i j) := (mirror_perm _ _ _ _).trans h
theorem rev_pt {p : Array Nat} {i j : Nat} (hj : j ≤ p.size) (k : Nat) : Pt (kas_rev p i j) k = if i ≤ k ∧ k < j then Pt p (i + j - 1 - k) else Pt p k := by
 have e := getElem?_mirror_all (xs := p) (i := i) hj k
 split
 ·rename_i h
  rw [if_pos h] at e
  exact Pt_of e
 ·rename_i h
  rw [if_neg h] at e
  exact Pt_of e
variable (hc : ∀ i j C, i < n → j < n → C (lt i j) s → cmp i j C s) (hn : 0 < n) (o : Ord lt)
include hc hn
theorem asc_wp {Q : Nat → Shared → Prop} {p : Array Nat} (hp : Pm n p) : ∀ (f a : Nat), (∀ m, a ≤ m → m ≤ a + f → (∀ k, a ≤ k → k < m → le lt (Pt p (k - 1)) (Pt p k)) → (m < a + f → lt (Pt p m) (Pt p (m - 1)) = true) → Q m s) →
  (kas_asc p f a).kasWp cmp Q s
 | 0, a, h => h a (Nat.le_refl _) (Nat.le_refl _) (fun k h1 h2 => absurd h2 (by omega)) (fun h => absurd h (by omega))
 | f + 1, a, h => by
  refine hc _ _ _ (hp.bd hn _) (hp.bd hn _) ?_
  show KasT.kasWp cmp (if lt (Pt p a) (Pt p (a - 1)) = true then .ret a else kas_asc p f (a + 1)) Q s
  cases e : lt (Pt p a) (Pt p (a - 1)) with
  | true =>
   rw [if_pos rfl]
   exact h a (Nat.le_refl _) (by omega) (fun k h1 h2 => absurd h2 (by omega)) fun _ => e
  | false =>
   rw [if_neg Bool.false_ne_true]
   refine asc_wp hp f (a + 1) fun m h1 h2 h3 h4 => h m (by omega) (by omega) (fun k k1 k2 => ?_) fun z => h4 (by omega)
   by_cases ek : k = a
   ·subst ek; exact e
   ·exact h3 k (by omega) k2
include o
omit hc hn in
theorem sd_up {p : Array Nat} {a m : Nat} (h1 : 1 ≤ a) (hs : Sd lt p a) (hk : ∀ k, a ≤ k → k < m → le lt (Pt p (k - 1)) (Pt p k)) : Sd lt p m := by
 intro i j hij hj
 induction j with
 | zero =>
  have : i = 0 := by omega
  subst this
  exact o.rf _
 | succ j ih =>
  by_cases e : i = j + 1
  ·subst e; exact o.rf _
  ·have ih := ih (by omega) (by omega)
   by_cases hja : j + 1 < a
   ·exact hs i (j + 1) hij hja
   ·have := hk (j + 1) (by omega) hj
    exact o.tr _ _ _ ih this
omit hc hn in
theorem ni_rev {p : Array Nat} {m : Nat} (hm : m ≤ p.size) (h : NI lt p m) : Sd lt (kas_rev p 0 m) m := by
 intro i j hij hj
 rw [rev_pt hm, rev_pt hm, if_pos ⟨Nat.zero_le _, by omega⟩, if_pos ⟨Nat.zero_le _, hj⟩]
 exact h _ _ (by omega) (by omega)
theorem tail_wp {Q : Nat × Array Nat → Shared → Prop} {p : Array Nat} {a r : Nat} (hp : Pm n p) (h1 : 1 ≤ a) (ha : a ≤ r) (hr : r ≤ n) (hni : NI lt p a) (h : ∀ m q, 1 ≤ m → m ≤ r → Pm n q → Sd lt q m → Q (m, q) s) : (kas_tail3 a r p).kasWp cmp Q s := by
 unfold kas_tail3
 rw [KasT.kasWp_bind]
 have hz : a ≤ p.size := by rw [hp.size]; omega
 refine asc_wp hc hn (rev_pm hp 0 a) _ _ fun m h2 h3 h4 _ => ?_
 exact h m _ (by omega) (by omega) (rev_pm hp 0 a) (sd_up o h1 (ni_rev o hz hni) h4)
omit hc hn in
theorem rev_eq {p : Array Nat} {i j : Nat} (hj : j ≤ p.size) (he : ∀ a b, i ≤ a → a < j → i ≤ b → b < j → le lt (Pt p a) (Pt p b)) (k : Nat) : le lt (Pt (kas_rev p i j) k) (Pt p k) ∧ le lt (Pt p k) (Pt (kas_rev p i j) k) := by
 rw [rev_pt hj]
 split
 ·rename_i h
  exact ⟨he _ _ (by omega) (by omega) h.1 h.2, he _ _ h.1 h.2 (by omega) (by omega)⟩
 ·exact ⟨o.rf _, o.rf _⟩
omit hc hn in
theorem ni_rev_eq {p : Array Nat} {i j m : Nat} (hj : j ≤ p.size) (he : ∀ a b, i ≤ a → a < j → i ≤ b → b < j → le lt (Pt p a) (Pt p b)) (h : NI lt p m) : NI lt (kas_rev p i j) m := fun a b hab hb =>
 o.tr _ _ _ (rev_eq o hj he b).1 (o.tr _ _ _ (h a b hab hb) (rev_eq o hj he a).2)
theorem desc_wp {Q : Array Nat × Nat × Nat → Shared → Prop} {r : Nat} (hr : r ≤ n) : ∀ (f : Nat) (p : Array Nat) (a q : Nat), Pm n p → a + f ≤ r → q + 1 ≤ a → NI lt p a → (∀ x y, a - (q + 1) ≤ x → x < a → a - (q + 1) ≤ y → y < a → le lt (Pt p x) (Pt p y)) →
  (∀ p' a' q', Pm n p' → a ≤ a' → a' ≤ r → q' + 1 ≤ a' → NI lt p' a' → (∀ x y, a' - (q' + 1) ≤ x → x < a' → a' - (q' + 1) ≤ y → y < a' → le lt (Pt p' x) (Pt p' y)) → Q (p', a', q') s) → (kas_desc f p a q).kasWp cmp Q s
 | 0, p, a, q, hp, hf, hq, hni, he, h => h p a q hp (Nat.le_refl _) (by omega) hq hni he
 | f + 1, p, a, q, hp, hf, hq, hni, he, h => by
  have hz : a ≤ p.size := by rw [hp.size]; omega
  refine hc _ _ _ (hp.bd hn _) (hp.bd hn _) ?_
  show KasT.kasWp cmp (if lt (Pt p a) (Pt p (a - 1)) = true then (if q > 0 then kas_desc f (kas_rev p (a - (q + 1)) a) (a + 1) 0 else kas_desc f p (a + 1) 0)
   else .ask (Pt p (a - 1)) (Pt p a) fun d => if d = true then .ret (p, a, q) else kas_desc f p (a + 1) (q + 1)) Q s
  have grow : ∀ {p' : Array Nat}, NI lt p' a → le lt (Pt p' a) (Pt p' (a - 1)) → NI lt p' (a + 1) := fun {p'} h1 h2 i j hij hj => by
   by_cases e : j = a
   ·subst e
    by_cases e2 : i = j
    ·subst e2; exact o.rf _
    ·exact o.tr _ _ _ h2 (h1 i (j - 1) (by omega) (by omega))
   ·exact h1 i j hij (by omega)
  cases e : lt (Pt p a) (Pt p (a - 1)) with
  | true =>
   rw [if_pos rfl]
   by_cases hq0 : q > 0
   ·rw [if_pos hq0]
    have n1 := ni_rev_eq o hz he hni
    have e1 : Pt (kas_rev p (a - (q + 1)) a) a = Pt p a := by rw [rev_pt hz, if_neg (by omega)]
    have le1 : le lt (Pt (kas_rev p (a - (q + 1)) a) a) (Pt (kas_rev p (a - (q + 1)) a) (a - 1)) := by
     rw [e1]
     exact o.tr _ _ _ (o.tot e) (rev_eq o hz he (a - 1)).2
    refine desc_wp hr f _ (a + 1) 0 (rev_pm hp _ _) (by omega) (by omega) (grow n1 le1) (fun x y h1 h2 h3 h4 => ?_) fun p' a' q' k1 k2 k3 k4 k5 k6 => h p' a' q' k1 (by omega) k3 k4 k5 k6
    have : x = y := by omega
    subst this; exact o.rf _
   ·rw [if_neg hq0]
    refine desc_wp hr f _ (a + 1) 0 hp (by omega) (by omega) (grow hni (o.tot e)) (fun x y h1 h2 h3 h4 => ?_) fun p' a' q' k1 k2 k3 k4 k5 k6 => h p' a' q' k1 (by omega) k3 k4 k5 k6
    have : x = y := by omega
    subst this; exact o.rf _
  | false =>
   rw [if_neg Bool.false_ne_true]
   refine hc _ _ _ (hp.bd hn _) (hp.bd hn _) ?_
   show KasT.kasWp cmp (if lt (Pt p (a - 1)) (Pt p a) = true then .ret (p, a, q) else kas_desc f p (a + 1) (q + 1)) Q s
   cases e2 : lt (Pt p (a - 1)) (Pt p a) with
   | true =>
    rw [if_pos rfl]
    exact h p a q hp (Nat.le_refl _) (by omega) hq hni he
   | false =>
    rw [if_neg Bool.false_ne_true]
    have eq1 : le lt (Pt p (a - 1)) (Pt p a) := e
    have eq2 : le lt (Pt p a) (Pt p (a - 1)) := e2
    refine desc_wp hr f p (a + 1) (q + 1) hp (by omega) (by omega) (grow hni eq2) (fun x y h1 h2 h3 h4 => ?_) fun p' a' q' k1 k2 k3 k4 k5 k6 => h p' a' q' k1 (by omega) k3 k4 k5 k6
    by_cases hx : x = a
    ·subst hx
     by_cases hy : y = x
     ·subst hy; exact o.rf _
     ·exact o.tr _ _ _ eq2 (he _ _ (by omega) (by omega) (by omega) (by omega))
    ·by_cases hy : y = a
     ·subst hy
      exact o.tr _ _ _ (he _ (y - 1) (by omega) (by omega) (by omega) (by omega)) eq1
     ·exact he _ _ (by omega) (by omega) (by omega) (by omega)
theorem descPart_wp {Q : Nat × Array Nat → Shared → Prop} {p : Array Nat} {a r : Nat} (hp : Pm n p) (h1 : 1 ≤ a) (ha : a + 1 ≤ r) (hr : r ≤ n) (hni : NI lt p (a + 1)) (h : ∀ m q, 1 ≤ m → m ≤ r → Pm n q → Sd lt q m → Q (m, q) s) : (kas_descPart a r p).kasWp cmp Q s := by
 unfold kas_descPart
 rw [KasT.kasWp_bind]
 refine desc_wp hc hn o hr _ p (a + 1) 0 hp (by omega) (by omega) hni (fun x y h1 h2 h3 h4 => ?_) fun p' a' q' k1 k2 k3 k4 k5 k6 => ?_
 ·have : x = y := by omega
  subst this; exact o.rf _
 ·have hz : a' ≤ p'.size := by rw [k1.size]; omega
  show KasT.kasWp cmp (if q' > 0 then kas_tail3 a' r (kas_rev p' (a' - (q' + 1)) a') else kas_tail3 a' r p') Q s
  by_cases hq : q' > 0
  ·rw [if_pos hq]
   exact tail_wp hc hn o (rev_pm k1 _ _) (by omega) k3 hr (ni_rev_eq o hz k6 k5) h
  ·rw [if_neg hq]
   exact tail_wp hc hn o k1 (by omega) k3 hr k5 h
theorem count_wp {Q : Nat × Array Nat → Shared → Prop} {p : Array Nat} {r : Nat} (hp : Pm n p) (h1 : 1 ≤ r) (hr : r ≤ n) (h : ∀ m q, 1 ≤ m → m ≤ r → Pm n q → Sd lt q m → Q (m, q) s) : (kas_count r p).kasWp cmp Q s := by
 unfold kas_count
 rw [KasT.kasWp_bind]
 have s1 : Sd lt p 1 := fun i j hij hj => by
  have : i = j := by omega
  subst this; exact o.rf _
 refine asc_wp hc hn hp _ _ fun m h2 h3 h4 h5 => ?_
 have sm := sd_up o (Nat.le_refl 1) s1 h4
 show KasT.kasWp cmp (if (m == r) = true then .ret (m, p) else if m > 1 then .ask (Pt p 0) (Pt p (m - 1)) fun c => if c = true then .ret (m, p) else kas_descPart m r (kas_rev p 0 m) else kas_descPart m r p) Q s
 by_cases em : m = r
 ·rw [if_pos (by simp [em])]
  exact h m p h2 (by omega) hp sm
 ·rw [if_neg (by simp [em])]
  have hlt := h5 (by omega)
  have hz : m ≤ p.size := by rw [hp.size]; omega
  by_cases hm : m > 1
  ·rw [if_pos hm]
   refine hc _ _ _ (hp.bd hn _) (hp.bd hn _) ?_
   show KasT.kasWp cmp (if lt (Pt p 0) (Pt p (m - 1)) = true then .ret (m, p) else kas_descPart m r (kas_rev p 0 m)) Q s
   cases e : lt (Pt p 0) (Pt p (m - 1)) with
   | true => rw [if_pos rfl]; exact h m p h2 (by omega) hp sm
   | false =>
    rw [if_neg Bool.false_ne_true]
    have e : le lt (Pt p (m - 1)) (Pt p 0) := e
    have he : ∀ a b, 0 ≤ a → a < m → 0 ≤ b → b < m → le lt (Pt p a) (Pt p b) := fun a b _ ha _ hb =>
     o.tr _ _ _ (sm a (m - 1) (by omega) (by omega)) (o.tr _ _ _ e (sm 0 b (by omega) hb))
    have nm : NI lt p m := fun i j hij hj => he j i (by omega) hj (by omega) (by omega)
    have n2 := ni_rev_eq o hz he nm
    have em1 : Pt (kas_rev p 0 m) m = Pt p m := by rw [rev_pt hz, if_neg (by omega)]
    refine descPart_wp hc hn o (rev_pm hp 0 m) (by omega) (by omega) hr (fun i j hij hj => ?_) h
    by_cases ej : j = m
    ·subst ej
     by_cases ei : i = j
     ·subst ei; exact o.rf _
     ·rw [em1]
      refine o.tr _ _ _ (o.tot hlt) (o.tr _ _ _ (rev_eq o hz he (j - 1)).2 ?_)
      exact n2 i (j - 1) (by omega) (by omega)
    ·exact n2 i j hij (by omega)
  ·rw [if_neg hm]
   have e1 : m = 1 := by omega
   subst e1
   refine descPart_wp hc hn o hp (Nat.le_refl 1) (by omega) hr (fun i j hij hj => ?_) h
   by_cases ei : i = j
   ·subst ei; exact o.rf _
   ·have : i = 0 ∧ j = 1 := by omega
    obtain ⟨rfl, rfl⟩ := this
    exact o.tot hlt
theorem place_wp {Q : Nat → Shared → Prop} {p : Array Nat} {k : Nat} (hp : Pm n p) (hs : Sd lt p k) : ∀ (f l r : Nat), l ≤ r → r ≤ k → r - l ≤ f → (∀ i, i < l → le lt (Pt p i) (Pt p k)) → (∀ i, r ≤ i → i < k → lt (Pt p k) (Pt p i) = true) →
  (∀ m, m ≤ k → (∀ i, i < m → le lt (Pt p i) (Pt p k)) → (∀ i, m ≤ i → i < k → lt (Pt p k) (Pt p i) = true) → Q m s) → (kas_place p k f l r).kasWp cmp Q s
 | 0, l, r, h1, h2, h3, h4, h5, h => by
  have : l = r := by omega
  subst this
  exact h l h2 h4 h5
 | f + 1, l, r, h1, h2, h3, h4, h5, h => by
  unfold kas_place
  by_cases e : l ≥ r
  ·rw [if_pos e]
   have : l = r := by omega
   subst this
   exact h l h2 h4 h5
  ·rw [if_neg e]
   refine hc _ _ _ (hp.bd hn _) (hp.bd hn _) ?_
   show KasT.kasWp cmp (if lt (Pt p k) (Pt p ((l + r) / 2)) = true then kas_place p k f l ((l + r) / 2) else kas_place p k f ((l + r) / 2 + 1) r) Q s
   cases ec : lt (Pt p k) (Pt p ((l + r) / 2)) with
   | true =>
    rw [if_pos rfl]
    refine place_wp hp hs f l ((l + r) / 2) (by omega) (by omega) (by omega) h4 (fun i i1 i2 => ?_) h
    cases ei : lt (Pt p k) (Pt p i) with
    | true => rfl
    | false =>
     have := o.tr _ _ _ (hs ((l + r) / 2) i i1 i2) ei
     rw [ec] at this; cases this
   | false =>
    rw [if_neg Bool.false_ne_true]
    refine place_wp hp hs f ((l + r) / 2 + 1) r (by omega) h2 (by omega) (fun i i1 => ?_) h5 h
    exact o.tr _ _ _ (hs i ((l + r) / 2) (by omega) (by omega)) ec
omit hc hn in
theorem bub_pt {p : Array Nat} {k l : Nat} (hk : k < p.size) (hl : l ≤ k) (i : Nat) : Pt (bubble p k (k - l)) i = if i = l then Pt p k else if l < i ∧ i ≤ k then Pt p (i - 1) else Pt p i := by
 have e := getElem?_bubble hk (k - l) (by omega) i
 have e1 : k - (k - l) = l := by omega
 rw [e1] at e
 repeat' split
 ·rename_i h; rw [if_pos h] at e; exact Pt_of e
 ·rename_i h h2; rw [if_neg h, if_pos h2] at e; exact Pt_of e
 ·rename_i h h2; rw [if_neg h, if_neg h2] at e; exact Pt_of e
theorem bin_wp {Q : Array Nat → Shared → Prop} : ∀ (f : Nat) (p : Array Nat) (k : Nat), Pm n p → k + f ≤ n → Sd lt p k → (∀ q, Pm n q → Sd lt q (k + f) → Q q s) → (kas_bin f p k).kasWp cmp Q s
 | 0, p, k, hp, _, hs, h => h p hp hs
 | f + 1, p, k, hp, hk, hs, h => by
  unfold kas_bin
  rw [KasT.kasWp_bind]
  have hz : k < p.size := by rw [hp.size]; omega
  refine place_wp hc hn o hp hs k 0 k (Nat.zero_le _) (Nat.le_refl _) (by omega) (fun i h => absurd h (by omega)) (fun i h1 h2 => absurd h2 (by omega)) fun l hl h1 h2 => ?_
  refine bin_wp f _ (k + 1) ((bubble_perm _ _ _).trans hp) (by omega) (fun i j hij hj => ?_) fun q q1 q2 => h q q1 (by rw [show k + (f + 1) = k + 1 + f by omega]; exact q2)
  rw [bub_pt o hz hl, bub_pt o hz hl]
  by_cases ei : i = l
  ·rw [if_pos ei]
   by_cases ej : j = l
   ·rw [if_pos ej]; exact o.rf _
   ·rw [if_neg ej, if_pos ⟨by omega, by omega⟩]
    exact o.tot (h2 (j - 1) (by omega) (by omega))
  ·rw [if_neg ei]
   by_cases ej : j = l
   ·rw [if_pos ej, if_neg (by omega)]
    exact h1 i (by omega)
   ·rw [if_neg ej]
    by_cases hi : l < i ∧ i ≤ k
    ·rw [if_pos hi, if_pos ⟨by omega, by omega⟩]
     exact hs _ _ (by omega) (by omega)
    ·rw [if_neg hi]
     by_cases hj2 : l < j ∧ j ≤ k
     ·rw [if_pos hj2]
      exact hs _ _ (by omega) (by omega)
     ·rw [if_neg hj2]
      exact hs _ _ (by omega) (by omega)
theorem sort_wp {Q : Array Nat → Shared → Prop} (h : ∀ q, Pm n q → Sd lt q n → Q q s) : (kas_sort n).kasWp cmp Q s := by
 unfold kas_sort
 rw [KasT.kasWp_bind]
 refine count_wp hc hn o (Array.Perm.refl _) hn (Nat.le_refl n) fun m q h1 h2 h3 h4 => ?_
 show KasT.kasWp cmp (if m < n then kas_bin (n - max m 1) q (max m 1) else .ret q) Q s
 have em : max m 1 = m := by omega
 by_cases e : m < n
 ·rw [if_pos e, em]
  refine bin_wp hc hn o _ _ _ h3 (by omega) h4 fun q' k1 k2 => h q' k1 (by rw [show m + (n - m) = n by omega] at k2; exact k2)
 ·rw [if_neg e]
  have : m = n := by omega
  subst this
  exact h q h3 h4
end
end SRT

namespace SRT
open PySem PySem.W PyProof.Rows L2
def TupI (h : Heap) (v : Value) (ns : List Int) : Prop := ∃ t o xs c, v = .ref t ∧ h.get? t = some o ∧ o.cls = .type "tuple" ∧ o.data = .seq xs c ∧ IntsAre xs.toList ns
theorem TupI.at {h h' : Heap} {v : Value} {ns : List Int} (x : TupI h v ns) (k : ∀ t o, v = .ref t → h.get? t = some o → h'.get? t = some o) : TupI h' v ns :=
 let ⟨t, o, xs, c, e, ho, r⟩ := x; ⟨t, o, xs, c, e, k t o e ho, r⟩
theorem ints_len : ∀ {vs : List Value} {ns : List Int}, IntsAre vs ns → vs.length = ns.length
 | _, _, .nil => rfl
 | _, _, .cons _ _ r => by rw [List.length_cons, List.length_cons, ints_len r]
theorem lex_as : ∀ a b : List Int, HT.lexLt a b = true → HT.lexLt b a = false
 | [], [], h => by cases h
 | [], _ :: _, _ => rfl
 | _ :: _, [], h => by cases h
 | x :: a, y :: b, h => by
  rw [HT.lexLt_cons] at h ⊢
  by_cases e : x = y
  ·rw [if_pos e] at h; rw [if_pos e.symm]; exact lex_as a b h
  ·rw [if_neg e] at h; rw [if_neg (Ne.symm e)]
   have := of_decide_eq_true h
   exact decide_eq_false (by omega)
theorem lex_tr : ∀ a b c : List Int, HT.lexLt b a = false → HT.lexLt c b = false → HT.lexLt c a = false
 | [], _, [], _, _ => rfl
 | [], b, _ :: _, _, _ => rfl
 | _ :: _, [], _, h, _ => by cases h
 | x :: a, y :: b, [], _, h => by cases h
 | x :: a, y :: b, z :: c, h1, h2 => by
  rw [HT.lexLt_cons] at h1 h2 ⊢
  by_cases e1 : y = x
  ·subst e1
   rw [if_pos rfl] at h1
   by_cases e2 : z = y
   ·subst e2
    rw [if_pos rfl] at h2 ⊢
    exact lex_tr a b c h1 h2
   ·rw [if_neg e2] at h2 ⊢
    exact h2
  ·rw [if_neg e1] at h1
   have q1 := of_decide_eq_false h1
   by_cases e2 : z = y
   ·subst e2
    rw [if_neg e1]
    exact h1
   ·rw [if_neg e2] at h2
    have q2 := of_decide_eq_false h2
    have e3 : z ≠ x := by omega
    rw [if_neg e3]
    exact decide_eq_false (by omega)
theorem lex_eq : ∀ a b : List Int, HT.lexLt a b = false → HT.lexLt b a = false → a = b
 | [], [], _, _ => rfl
 | [], _ :: _, h, _ => by cases h
 | _ :: _, [], _, h => by cases h
 | x :: a, y :: b, h1, h2 => by
  rw [HT.lexLt_cons] at h1 h2
  by_cases e : x = y
  ·subst e
   rw [if_pos rfl] at h1 h2
   rw [lex_eq a b h1 h2]
  ·rw [if_neg e] at h1; rw [if_neg (Ne.symm e)] at h2
   have q1 := of_decide_eq_false h1
   have q2 := of_decide_eq_false h2
   omega
theorem lex_ord (ks : List (List Int)) : Ord fun i j => HT.lexLt (ks.getD i []) (ks.getD j []) := ⟨fun _ _ => lex_as _ _, fun _ _ _ => lex_tr _ _ _⟩
section
variable {prog : Program} {w : World} {A : Around} {E : Value → Shared → Prop} {s : Shared}
theorem katlex {b fin : Bool} {Q : Bool → Shared → Prop} : ∀ {us ws : List Value} {ns ms : List Int} (i : Nat), IntsAre us ns → IntsAre ws ms → (fin = decide (ns.length < ms.length)) → Q (HT.lexLt ns ms) s → KatLex prog w A b fin Q (us.zip ws) i s
 | _, _, [], [], i, .nil, .nil, hf, q => by
  rw [hf]; exact q
 | _, _, [], m :: ms, i, .nil, .cons _ _ _, hf, q => by
  rw [hf]
  show Q (decide (0 < ms.length + 1)) s
  rw [decide_eq_true (Nat.succ_pos _)]
  exact q
 | _, _, n :: ns, [], i, .cons _ _ _, .nil, hf, q => by
  rw [hf]
  show Q (decide (ns.length + 1 < 0)) s
  rw [decide_eq_false (Nat.not_lt_zero _)]
  exact q
 | _, _, n :: ns, m :: ms, i, .cons _ t hi, .cons _ u hj, hf, q => by
  rw [HT.lexLt_cons] at q
  refine kat_cons (wpAny_eqBool_int ?_)
  by_cases e : n = m
  ·rw [if_pos e] at q
   rw [show (n == m) = true by simp [e]]
   exact kat_yes (katlex (i + 1) hi hj (by rw [hf]; simp) q)
  ·rw [if_neg e] at q
   rw [show (n == m) = false by simp [e]]
   refine kat_no ?_
   cases eb : (b && i == 0) with
   | true => exact oneLt_int q
   | false => exact kat_one _ _ (lt_int q)
theorem keyLt_at {x y : Value} {ns ms : List Int} {Q : Bool → Shared → Prop} (b : Bool) (hx : TupI s.heap x ns) (hy : TupI s.heap y ms) (q : Q (HT.lexLt ns ms) s) : wpAny (model prog w) A (keyLt' (tuples' b) x y) Q E s := by
 obtain ⟨t, o, xs, c, rfl, ho, hc, hd, hi⟩ := hx
 obtain ⟨t2, o2, xs2, c2, rfl, ho2, hc2, hd2, hi2⟩ := hy
 refine kat_lt ho hd ho2 hd2 (katlex 0 hi hi2 ?_ q)
 have e1 := ints_len hi
 have e2 := ints_len hi2
 rw [Array.length_toList] at e1 e2
 rw [e1, e2]
def TupsI (h : Heap) (vs : List Value) (ks : List (List Int)) : Prop := vs.length = ks.length ∧ ∀ (i : Nat) (v : Value) (k : List Int), vs[i]? = some v → ks[i]? = some k → TupI h v k ∧ k ≠ []
theorem TupsI.cons {h : Heap} {v : Value} {vs : List Value} {ks : List (List Int)} (x : TupsI h (v :: vs) ks) : ∃ k r, ks = k :: r ∧ TupI h v k ∧ k ≠ [] ∧ TupsI h vs r := by
 obtain ⟨hl, ha⟩ := x
 cases ks with
 | nil => simp at hl
 | cons k r =>
  obtain ⟨h1, h2⟩ := ha 0 v k rfl rfl
  exact ⟨k, r, rfl, h1, h2, by simpa using hl, fun i v k e1 e2 => ha (i + 1) v k (by simpa using e1) (by simpa using e2)⟩
theorem kats {h : Heap} : ∀ {vs : List Value} {ks : List (List Int)}, TupsI h vs ks → ∃ fs, KatTups h vs fs ∧ fs.length = vs.length ∧ ∀ f ∈ fs, ∃ i t, f = Value.int i t
 | [], _, _ => ⟨[], KatTups.nil, rfl, fun _ z => nomatch z⟩
 | v :: vs, ks, x => by
  obtain ⟨k, r, rfl, ⟨t, o, xs, c, rfl, ho, hc, hd, hi⟩, hk, hr⟩ := x.cons
  obtain ⟨fs, h1, h2, h3⟩ := kats hr
  cases k with
  | nil => exact absurd rfl hk
  | cons n k =>
   cases hx : xs.toList with
   | nil => rw [hx] at hi; cases hi
   | cons y ys =>
    rw [hx] at hi
    cases hi with
    | cons _ tt _ =>
     refine ⟨.int n tt :: fs, KatTups.cons ho hc hd ?_ h1, by simp [h2], fun f hf => ?_⟩
     ·have : xs.toList[0]? = some (Value.int n tt) := by rw [hx]; rfl
      simpa using this
     ·rcases List.mem_cons.mp hf with rfl | hf
      ·exact ⟨n, tt, rfl⟩
      ·exact h3 f hf
theorem range_getD (vs : List Value) : ((List.range vs.length).map fun i => vs.getD i Value.none) = vs := by
 refine List.ext_getElem? fun i => ?_
 rw [List.getElem?_map]
 by_cases hi : i < vs.length
 ·rw [List.getElem?_range hi]
  simp [hi]
 ·rw [List.getElem?_eq_none (by rw [List.length_range]; omega), List.getElem?_eq_none (by omega)]
  rfl
theorem list_sort_tup {a : Addr} {vs : List Value} {n : Nat} {ks : List (List Int)} {P : PySem.Fin → Shared → Prop} (ho : s.heap.get? a = some (seqObj "list" vs.toArray n)) (ht : TupsI s.heap vs ks) (hna : ∀ v ∈ vs, v ≠ .ref a) (h64 : vs.length < 64)
  (h : ∀ q : Array Nat, Pm vs.length q → Sd (fun i j => HT.lexLt (ks.getD i []) (ks.getD j [])) q vs.length → P (.done (.ret .none)) { s with heap := sortedHeap s.heap a vs (q.toList.map fun i => vs.getD i Value.none).toArray }) :
  wpAny (model prog w) A (Builtin.«list.sort» ⟨[.ref a], []⟩) P E s := by
 rw [list_sort_plain]
 have ha : a < s.heap.objs.size := Heap.lt_size ho
 refine wpAny_bind (listItems_at ho rfl ?_)
 refine wpAny_bind (listUpdate_at ho rfl ?_ (by rw [List.size_toArray, sizeLine_eq]; omega) (Nat.zero_le _))
 obtain ⟨e1, ho1⟩ : ∃ e1, (s.heap.update a (Obj.mapSeq fun _ => (#[] : Array Value))).get? a = some (seqObj "list" #[] e1) := ⟨_, get?_update_seq ho (fun _ => #[])⟩
 refine wpAny_bind (seqEpoch_at ho1 rfl ?_)
 refine wpAny_bind (wpAny_newTuple ?_ (by show vs.length ≤ _; rw [sizeLine_eq]; omega))
 refine wpAny_bind (wpAny_newList ?_ (Nat.zero_le _))
 refine wpAny_holding ?_
 have keep : ∀ b o, b ≠ a → s.heap.get? b = some o → (((s.heap.update a (Obj.mapSeq fun _ => (#[] : Array Value))).push (seqObj "tuple" vs.toArray 0)).push (seqObj "list" #[] 0)).get? b = some o := fun b o hb e => by
  refine Heap.get?_push_of_some _ (Heap.get?_push_of_some _ ?_)
  rw [Heap.get?_update_ne _ _ _ _ hb]
  exact e
 have ho6 : (((s.heap.update a (Obj.mapSeq fun _ => (#[] : Array Value))).push (seqObj "tuple" vs.toArray 0)).push (seqObj "list" #[] 0)).get? a = some (seqObj "list" #[] e1) := Heap.get?_push_of_some _ (Heap.get?_push_of_some _ ho1)
 show wpAny (model prog w) A _ P E { s with heap := ((s.heap.update a (Obj.mapSeq fun _ => (#[] : Array Value))).push (seqObj "tuple" vs.toArray 0)).push (seqObj "list" #[] 0) }
 dsimp only
 by_cases h2 : vs.toArray.size < 2
 ·rw [if_pos h2, if_pos h2]
  refine wpAny_bind (wpAny_pure ?_)
  rw [StateT.run_pure]
  refine wpAny_bind (wpAny_pure ?_)
  dsimp only
  have e0 : (arrOf (SortSt.mk' general' (vs.toArray.zip vs.toArray) #[] 7 none)).map (·.2) = ((List.range vs.length).toArray.toList.map fun i => vs.getD i Value.none).toArray := by
   show (vs.toArray.zip vs.toArray).map (·.2) = _
   rw [List.toList_toArray, range_getD]
   apply Array.toList_inj.mp
   simp [List.map_snd_zip]
  rw [e0]
  refine wpAny_bind (seqEpoch_at ho6 rfl ?_)
  refine wpAny_bind (listUpdate_at ho6 rfl ?_ (Nat.zero_le _) (by rw [List.toList_toArray, range_getD, List.size_toArray, sizeLine_eq]; omega))
  simp only [bne_self_eq_false, Bool.false_eq_true, if_false]
  refine wpAny_pure (h (List.range vs.length).toArray (Array.Perm.refl _) fun i j hij hj => ?_)
  have : i = j := by rw [List.size_toArray] at h2; omega
  subst this
  exact (lex_ord ks).rf _
 ·rw [if_neg h2, if_neg h2]
  have h2' : 2 ≤ vs.length := by rw [List.size_toArray] at h2; omega
  have ht6 : TupsI (((s.heap.update a (Obj.mapSeq fun _ => (#[] : Array Value))).push (seqObj "tuple" vs.toArray 0)).push (seqObj "list" #[] 0)) vs ks := ⟨ht.1, fun i v k q1 q2 => by
   obtain ⟨z1, z2⟩ := ht.2 i v k q1 q2
   exact ⟨z1.at fun t o ev et => keep t o (fun z => hna v (List.mem_of_getElem? q1) (by rw [ev, z])) et, z2⟩⟩
  obtain ⟨fs, f1, f2, f3⟩ := kats ht6
  refine wpAny_bind (kat_kind (T := .type "int") f1 (by rw [f2]; omega) (fun v hv => ?_) rfl ?_)
  ·obtain ⟨i, t, rfl⟩ := f3 v hv
   exact .now
  refine wpAny_bind (wpAny_mono (kat_run (κ := tuples' (Value.type "int" != Value.type "tuple")) (ks := vs) (Q := fun st' s' => ∃ p : Array Nat, s' = { s with heap := ((s.heap.update a (Obj.mapSeq fun _ => (#[] : Array Value))).push (seqObj "tuple" vs.toArray 0)).push (seqObj "list" #[] 0) } ∧ p.size = vs.length ∧ arrOf st' = p.map (kas_item (vs.toArray.zip vs.toArray)) ∧ failedOf st' = none ∧ Pm vs.length p ∧ Sd (fun i j => HT.lexLt (ks.getD i []) (ks.getD j [])) p vs.length)
   (G := fun p s' => s' = { s with heap := ((s.heap.update a (Obj.mapSeq fun _ => (#[] : Array Value))).push (seqObj "tuple" vs.toArray 0)).push (seqObj "list" #[] 0) } ∧ Pm vs.length p ∧ Sd (fun i j => HT.lexLt (ks.getD i []) (ks.getD j [])) p vs.length)
   rfl h2' h64 (fun p st' s' a1 a2 a3 a4 => ⟨p, a4.1, a1, a2, a3, a4.2⟩) (sort_wp (n := vs.length) (lt := fun i j => HT.lexLt (ks.getD i []) (ks.getD j [])) (fun i j C hi hj hC => ?_) (by omega) (lex_ord ks) fun q q1 q2 => ⟨rfl, q1, q2⟩)) ?_ fun _ _ e => e)
  ·unfold kas_ask
   have hi' : vs[i]? = some vs[i] := List.getElem?_eq_getElem hi
   have hj' : vs[j]? = some vs[j] := List.getElem?_eq_getElem hj
   have ki : i < ks.length := by rw [← ht.1]; exact hi
   have kj : j < ks.length := by rw [← ht.1]; exact hj
   have di : vs.getD i Value.none = vs[i] := by simp [hi]
   have dj : vs.getD j Value.none = vs[j] := by simp [hj]
   have ei : ks.getD i [] = ks[i] := by simp [ki]
   have ej : ks.getD j [] = ks[j] := by simp [kj]
   rw [di, dj]
   rw [ei, ej] at hC
   exact keyLt_at _ (ht6.2 i _ _ hi' (List.getElem?_eq_getElem ki)).1 (ht6.2 j _ _ hj' (List.getElem?_eq_getElem kj)).1 hC
  ·rintro ⟨⟨⟩, st'⟩ s' ⟨p, rfl, hp, har, hf, hpm, hsd⟩
   dsimp only
   have hout := kat_snds (ks := vs) (vs := vs) rfl har
   have hsz : (List.toArray (p.toList.map fun i => vs.getD i Value.none)).size = vs.length := by rw [List.size_toArray, List.length_map, Array.length_toList, hp]
   rw [hout]
   refine wpAny_bind (seqEpoch_at ho6 rfl ?_)
   refine wpAny_bind (listUpdate_at ho6 rfl ?_ (Nat.zero_le _) (Nat.le_trans (Nat.le_of_eq hsz) (by rw [sizeLine_eq]; omega)))
   rw [hf]
   simp only [bne_self_eq_false, Bool.false_eq_true, if_false]
   exact wpAny_pure (h p hpm hsd)
theorem sorted_keep {h : Heap} {a : Addr} {vs : List Value} {out : Array Value} {b : Addr} {o : Obj} (hb : b ≠ a) (e : h.get? b = some o) : (sortedHeap h a vs out).get? b = some o := by
 unfold sortedHeap
 rw [Heap.get?_update_ne _ _ _ _ hb]
 refine Heap.get?_push_of_some _ (Heap.get?_push_of_some _ ?_)
 rw [Heap.get?_update_ne _ _ _ _ hb]
 exact e
theorem sorted_here {h : Heap} {a : Addr} {vs : List Value} {n : Nat} {out : Array Value} (e : h.get? a = some (seqObj "list" vs.toArray n)) : ∃ c, (sortedHeap h a vs out).get? a = some (seqObj "list" out c) := by
 obtain ⟨e1, ho1⟩ : ∃ e1, (h.update a (Obj.mapSeq fun _ => (#[] : Array Value))).get? a = some (seqObj "list" #[] e1) := ⟨_, get?_update_seq e (fun _ => #[])⟩
 exact ⟨_, get?_update_seq (Heap.get?_push_of_some _ (Heap.get?_push_of_some _ ho1)) fun _ => out⟩
theorem sorted_tup {r : Addr} {Q : Value → Shared → Prop} {Ok : List Value → Prop} (hcol : ∀ R : List Value → Shared → Prop, (∀ h' tk vs, (∀ b o, s.heap.get? b = some o → h'.get? b = some o) → Ok vs → R vs { s with heap := h', toks := tk }) → wpAny (model prog w) A.in1 (collect (.ref r)) R E s)
  (ks : List (List Int)) (hok : ∀ vs, Ok vs → TupsI s.heap vs ks ∧ vs.length < 64)
  (h : ∀ (h' hf : Heap) (tk c : Nat) (vs : List Value) (q : Array Nat), (∀ b o, s.heap.get? b = some o → h'.get? b = some o) → (∀ b o, h'.get? b = some o → hf.get? b = some o) → Ok vs → Pm vs.length q → Sd (fun i j => HT.lexLt (ks.getD i []) (ks.getD j [])) q vs.length →
   hf.get? h'.objs.size = some (seqObj "list" (q.toList.map fun i => vs.getD i Value.none).toArray c) → Q (.ref h'.objs.size) { s with heap := hf, toks := tk }) :
  wpAny (model prog w) A (call (.builtin "sorted") [.ref r]) Q E s := by
 refine Calls.call_function_entry kind_sorted plain_sorted entry_sorted (args_sorted1 _) ?_
 unfold Builtin.«sorted»
 refine wpAny_bind (m := checkCount "sorted" 1 1 _) (wpAny_pure ?_)
 refine wpAny_bind (hcol _ fun h' tk vs keep ov => ?_)
 obtain ⟨ht, h64⟩ := hok vs ov
 refine wpAny_bind (wpAny_newList ?_ (by rw [sizeLine_eq]; omega))
 have hoL : (h'.push (seqObj "list" vs.toArray 0)).get? h'.objs.size = some (seqObj "list" vs.toArray 0) := Heap.get?_push_size _ rfl
 have keep2 : ∀ b o, s.heap.get? b = some o → (h'.push (seqObj "list" vs.toArray 0)).get? b = some o := fun b o e => Heap.get?_push_of_some _ (keep b o e)
 have lt : ∀ b o, s.heap.get? b = some o → b ≠ h'.objs.size := fun b o e => Nat.ne_of_lt (Heap.lt_size (keep b o e))
 have tat : ∀ v ∈ vs, ∃ t o, v = .ref t ∧ s.heap.get? t = some o := fun v hv => by
  obtain ⟨i, hi, e⟩ := List.mem_iff_getElem.mp hv
  have ki : i < ks.length := by rw [← ht.1]; exact hi
  obtain ⟨⟨t, o, _, _, e1, e2, _⟩, _⟩ := ht.2 i v ks[i] (by rw [List.getElem?_eq_getElem hi, e]) (List.getElem?_eq_getElem ki)
  exact ⟨t, o, e1, e2⟩
 have ht2 : TupsI (h'.push (seqObj "list" vs.toArray 0)) vs ks := ⟨ht.1, fun i v k q1 q2 => let ⟨z1, z2⟩ := ht.2 i v k q1 q2; ⟨z1.at fun t o _ et => keep2 t o et, z2⟩⟩
 refine wpAny_bind (wpAny_holding (wpAny_call_entry slot_list_sort ⟨_, hoL, rfl⟩ entry_list_sort (list_sort_tup (s := { s with heap := h'.push (seqObj "list" vs.toArray 0), toks := tk }) hoL ht2 (fun v hv z => ?_) h64 fun q a1 a2 => ⟨_, rfl, ?_⟩) (args_list_sort _)))
 ·obtain ⟨t, o, e1, e2⟩ := tat v hv
  rw [e1] at z
  injection z with z
  exact lt t o e2 z
 ·obtain ⟨c, hc⟩ := sorted_here (out := (q.toList.map fun i => vs.getD i Value.none).toArray) hoL
  exact wpAny_pure ⟨_, rfl, h h' _ tk c vs q keep (fun b o e => sorted_keep (Nat.ne_of_lt (Heap.lt_size e)) (Heap.get?_push_of_some _ e)) ov a1 a2 hc⟩
def RefI (H : Hp) (ts : List V) (ks : List (List Int)) : Prop := ts.length = ks.length ∧ ∀ (i : Nat) (t : V) (k : List Int), ts[i]? = some t → ks[i]? = some k → (∃ b, t = .ref b ∧ H b = some (.tup (k.map V.int))) ∧ k ≠ []
end
theorem refI_tups {P : Program} {w : World} {H : Hp} {h : Heap} {ts : List V} {ks : List (List Int)} {vs : List Value} (ok : HOk P w H h) (r : RefI H ts ks) (v : Vals ts vs) : TupsI h vs ks := by
 have hl := v.length
 refine ⟨by rw [← hl]; exact r.1, fun i u k e1 e2 => ?_⟩
 have hi : i < ts.length := by
  have := (List.getElem?_eq_some_iff.mp e1).1
  omega
 obtain ⟨⟨b, eb, hb⟩, hk⟩ := r.2 i ts[i] k (List.getElem?_eq_getElem hi) e2
 obtain ⟨u', e3, ru⟩ := v.get (i := i) (x := ts[i]) (List.getElem?_eq_getElem hi)
 rw [e1] at e3
 cases e3
 rw [eb] at ru
 cases (show u = Value.ref b from ru)
 obtain ⟨_, its, rv, o, ho, hc, n, hd⟩ := (show ObjOk P w H h b (.tup (k.map V.int)) from ok b _ hb)
 exact ⟨⟨b, o, _, n, rfl, ho, hc, hd, by rw [List.toList_toArray]; exact intsAre_of rv⟩, hk⟩
def lexOf (ks : List (List Int)) : Nat → Nat → Bool := fun i j => HT.lexLt (ks.getD i []) (ks.getD j [])
theorem vals_pick {ts : List V} {vs : List Value} (v : Vals ts vs) : ∀ (l : List Nat), (∀ i ∈ l, i < ts.length) → Vals (l.map fun i => ts.getD i .non) (l.map fun i => vs.getD i Value.none)
 | [], _ => .nil
 | i :: l, h => by
  have hi := h i (.head _)
  obtain ⟨u, e, r⟩ := v.get (i := i) (x := ts[i]) (List.getElem?_eq_getElem hi)
  have e1 : ts.getD i .non = ts[i] := by simp [hi]
  have e2 : vs.getD i Value.none = u := by simp [e]
  refine .cons ?_ (vals_pick v l fun j hj => h j (.tail _ hj))
  show RelV (ts.getD i .non) (vs.getD i Value.none)
  rw [e1, e2]; exact r
section
variable {X : Cx}
theorem sort_inv {pins : List (Addr × Obj)} {σ : L2.St} {H : Hp} {s : Shared} {Q : VK} {ts : List V} {vs : List Value} {h' hf : Heap} {tk c : Nat} {q : Array Nat} (I : Inv X pins σ H s) (v : Vals ts vs) (h64 : vs.length < 64) (k1 : ∀ b o, s.heap.get? b = some o → h'.get? b = some o) (k2 : ∀ b o, h'.get? b = some o → hf.get? b = some o) (hp : Pm vs.length q)
  (hc : hf.get? h'.objs.size = some (seqObj "list" (q.toList.map fun i => vs.getD i Value.none).toArray c)) (hq : ∀ D, H D = none → Q (.ref D) (upd H D (.lst (q.toList.map fun i => ts.getD i .non)))) : EP X pins σ Q (.ref h'.objs.size) { s with heap := hf, toks := tk } := by
 have I1 : Inv X pins σ H { s with heap := h', toks := tk } := I.kept (t' := tk) k1
 have hb : ∀ i ∈ q.toList, i < ts.length := fun i hi => by
  have : i ∈ (List.range vs.length).toArray := hp.mem_iff.mp (Array.mem_toList_iff.mp hi)
  rw [v.length]
  simpa using this
 have hl : q.toList.length = vs.length := by rw [Array.length_toList]; exact hp.size
 refine ⟨.ref h'.objs.size, _, I1.laid (a := h'.objs.size) (o := .lst (q.toList.map fun i => ts.getD i .non)) (t' := tk) k2 (Nat.le_refl _) ⟨?_, _, c, vals_pick v _ hb, hc⟩, rfl, hq _ (I1.hok.fresh (Nat.le_refl _))⟩
 rw [List.length_map, hl, sizeLine_eq]
 omega
end
end SRT

namespace M
open PySem PySem.Spec PyProof.Rows L2 SRT
def tupD (k : List Int) : D := .tuple (k.map .int)
def intsK : List D → Option (List Int)
 | [] => some []
 | .int i :: ds => match intsK ds with
  | some r => some (i :: r)
  | none => none
 | _ => none
def intsD : D → Option (List Int)
 | .tuple ds => intsK ds
 | _ => none
def keysD : List D → Option (List (List Int))
 | [] => some []
 | d :: ds => match intsD d with
  | none => none
  | some k => match keysD ds with
   | none => none
   | some ks => some (k :: ks)
theorem intsK_eq : ∀ {ds : List D} {k : List Int}, intsK ds = some k → ds = k.map .int
 | [], _, h => by cases h; rfl
 | d :: ds, k, h => by
  cases d with
  | int i =>
   unfold intsK at h
   cases e : intsK ds with
   | none => rw [e] at h; cases h
   | some r => rw [e] at h; cases h; rw [intsK_eq e]; rfl
  | _ => cases h
theorem intsK_map : ∀ k : List Int, intsK (k.map .int) = some k
 | [] => rfl
 | i :: k => by
  show (match intsK (k.map .int) with | some r => some (i :: r) | none => none) = _
  rw [intsK_map k]
theorem intsD_tup (k : List Int) : intsD (tupD k) = some k := intsK_map k
theorem intsD_eq {d : D} {k : List Int} (h : intsD d = some k) : d = tupD k := by
 cases d with
 | tuple ds => unfold tupD; rw [← intsK_eq h]
 | _ => cases h
theorem keysD_eq : ∀ {ds : List D} {ks : List (List Int)}, keysD ds = some ks → ds = ks.map tupD
 | [], _, h => by cases h; rfl
 | d :: ds, ks, h => by
  unfold keysD at h
  cases e : intsD d with
  | none => rw [e] at h; cases h
  | some k =>
   rw [e] at h
   cases e2 : keysD ds with
   | none => rw [e2] at h; cases h
   | some ks' => rw [e2] at h; cases h; rw [intsD_eq e, keysD_eq e2]; rfl
theorem keysD_map : ∀ ks : List (List Int), keysD (ks.map tupD) = some ks
 | [] => rfl
 | k :: ks => by
  show (match intsD (tupD k) with | none => none | some k => match keysD (ks.map tupD) with | none => none | some ks => some (k :: ks)) = _
  rw [intsD_tup, keysD_map ks]
def insK (k : List Int) : List (List Int) → List (List Int)
 | [] => [k]
 | x :: r => if HT.lexLt k x = true then k :: x :: r else x :: insK k r
def sortK : List (List Int) → List (List Int)
 | [] => []
 | k :: ks => insK k (sortK ks)
def leK (a b : List Int) : Prop := HT.lexLt b a = false
theorem insK_perm (k : List Int) : ∀ l, (insK k l).Perm (k :: l)
 | [] => .refl _
 | x :: r => by
  unfold insK
  split
  ·exact .refl _
  ·exact ((insK_perm k r).cons x).trans (List.Perm.swap k x r)
theorem sortK_perm : ∀ l, (sortK l).Perm l
 | [] => .refl _
 | k :: ks => (insK_perm k _).trans ((sortK_perm ks).cons k)
theorem insK_mem {k y : List Int} {l : List (List Int)} (h : y ∈ insK k l) : y = k ∨ y ∈ l := by
 have := (insK_perm k l).mem_iff.mp h
 exact List.mem_cons.mp this
theorem insK_sorted (k : List Int) : ∀ l, l.Pairwise leK → (insK k l).Pairwise leK
 | [], _ => List.pairwise_singleton _ _
 | x :: r, h => by
  unfold insK
  obtain ⟨h1, h2⟩ := List.pairwise_cons.mp h
  split
  ·rename_i e
   have e1 := lex_as _ _ e
   exact List.pairwise_cons.mpr ⟨fun y hy => by
    rcases List.mem_cons.mp hy with rfl | hy
    ·exact e1
    ·exact lex_tr _ _ _ e1 (h1 y hy), h⟩
  ·rename_i e
   refine List.pairwise_cons.mpr ⟨fun y hy => ?_, insK_sorted k r h2⟩
   rcases insK_mem hy with rfl | hy
   ·exact Bool.eq_false_iff.mpr e
   ·exact h1 y hy
theorem sortK_sorted : ∀ l, (sortK l).Pairwise leK
 | [] => .nil
 | k :: ks => insK_sorted k _ (sortK_sorted ks)
theorem sorted_uniq : ∀ {a b : List (List Int)}, a.Perm b → a.Pairwise leK → b.Pairwise leK → a = b
 | [], b, p, _, _ => (List.Perm.nil_eq p)
 | x :: a, [], p, _, _ => absurd p.length_eq (by simp)
 | x :: a, y :: b, p, ha, hb => by
  obtain ⟨a1, a2⟩ := List.pairwise_cons.mp ha
  obtain ⟨b1, b2⟩ := List.pairwise_cons.mp hb
  have hx : x ∈ y :: b := p.mem_iff.mp (.head _)
  have hy : y ∈ x :: a := p.mem_iff.mpr (.head _)
  have e : x = y := by
   rcases List.mem_cons.mp hx with e | hx
   ·exact e
   ·rcases List.mem_cons.mp hy with e | hy
    ·exact e.symm
    ·exact lex_eq _ _ (b1 x hx) (a1 y hy)
  subst e
  rw [sorted_uniq (List.Perm.cons_inv p) a2 b2]
theorem picked {ks : List (List Int)} {q : Array Nat} {n : Nat} (hn : n = ks.length) (hp : Pm n q) (hs : Sd (lexOf ks) q n) : (q.toList.map fun i => ks.getD i []) = sortK ks := by
 subst hn
 have e0 : ((List.range ks.length).map fun i => ks.getD i []) = ks := by
  refine List.ext_getElem? fun i => ?_
  rw [List.getElem?_map]
  by_cases hi : i < ks.length
  ·rw [List.getElem?_range hi]; simp [hi]
  ·rw [List.getElem?_eq_none (by rw [List.length_range]; omega), List.getElem?_eq_none (by omega)]; rfl
 have p1 : q.toList.Perm (List.range ks.length) := by
  have := hp.toList
  simpa using this
 have p2 : (q.toList.map fun i => ks.getD i []).Perm ks := by
  have := p1.map (fun i => ks.getD i [])
  rwa [e0] at this
 refine sorted_uniq (p2.trans (sortK_perm ks).symm) ?_ (sortK_sorted ks)
 rw [List.pairwise_iff_getElem]
 intro i j hi hj hij
 rw [List.length_map] at hi hj
 rw [List.getElem_map, List.getElem_map]
 have sz : q.toList.length = ks.length := by rw [Array.length_toList]; exact hp.size
 have := hs i j (Nat.le_of_lt hij) (by omega)
 unfold SRT.le lexOf Pt at this
 have e1 : q.getD i 0 = q.toList[i] := by
  have : i < q.size := by rw [← Array.length_toList]; exact hi
  simp [Array.getD, this]
 have e2 : q.getD j 0 = q.toList[j] := by
  have : j < q.size := by rw [← Array.length_toList]; exact hj
  simp [Array.getD, this]
 rw [e1, e2] at this
 exact this
section
variable {X : Cx} {K : PySem.W.Frag}
theorem rep_tupD {G : Hp} {v : V} {k : List Int} (h : Rep K G v (tupD k)) : ∃ b, v = .ref b ∧ G b = some (.tup (k.map V.int)) := by
 cases h with
 | @tup b xs _ h1 h2 =>
  refine ⟨b, rfl, ?_⟩
  have : xs = k.map V.int := by
   clear h1
   induction k generalizing xs with
   | nil => cases h2; rfl
   | cons i k ih =>
    cases h2 with
    | cons r t => cases r; rw [ih t]; rfl
  rw [← this]; exact h1
theorem tupD_rep {G : Hp} {b : Addr} {k : List Int} (h : G b = some (.tup (k.map V.int))) : Rep K G (.ref b) (tupD k) := by
 refine .tup h ?_
 clear h
 induction k with
 | nil => exact .nil
 | cons i k ih => exact .cons (.int i) ih
theorem reps_refI {G H : Hp} (gh : Same G H) : ∀ {ts : List V} {ks : List (List Int)}, Reps K G ts (ks.map tupD) → (∀ k ∈ ks, k ≠ []) → RefI H ts ks := by
 intro ts ks r hne
 refine ⟨by rw [r.length, List.length_map], fun i t k e1 e2 => ?_⟩
 obtain ⟨d, e3, rd⟩ := r.get e1
 rw [List.getElem?_map, e2] at e3
 cases e3
 obtain ⟨b, rfl, hb⟩ := rep_tupD rd
 exact ⟨⟨b, rfl, gh _ _ hb⟩, hne k (List.mem_of_getElem? e2)⟩
theorem pick_reps {G : Hp} {ts : List V} {ks : List (List Int)} (h : ∀ (i : Nat), i < ks.length → Rep K G (ts.getD i .non) (tupD (ks.getD i []))) : ∀ l : List Nat, (∀ i ∈ l, i < ks.length) → Reps K G (l.map fun i => ts.getD i .non) ((l.map fun i => ks.getD i []).map tupD)
 | [], _ => .nil
 | i :: l, hl => .cons (h i (hl i (.head _))) (pick_reps h l fun j hj => hl j (.tail _ hj))
theorem pm_lt {n : Nat} {q : Array Nat} (hp : Pm n q) : ∀ i ∈ q.toList, i < n := fun i hi => by
 have : i ∈ (List.range n).toArray := hp.mem_iff.mp (Array.mem_toList_iff.mp hi)
 simpa using this
def wt (G H : Hp) : Hp := fun b => match G b with
 | some o => some o
 | none => match H b with
  | some (.tup xs) => some (.tup xs)
  | _ => none
theorem wt_same {G H : Hp} : Same G (wt G H) := fun b o e => by unfold wt; rw [e]
theorem wt_in {G H : Hp} (gh : Same G H) : Same (wt G H) H := fun b o e => by
 unfold wt at e
 cases eg : G b with
 | some u => rw [eg] at e; cases e; exact gh _ _ eg
 | none =>
  rw [eg] at e
  dsimp only at e
  split at e
  ·rename_i xs eh
   cases e; exact eh
  ·cases e
theorem wt_tup {G H : Hp} (gh : Same G H) {b : Addr} {xs : List V} (e : H b = some (.tup xs)) : wt G H b = some (.tup xs) := by
 unfold wt
 cases eg : G b with
 | some u =>
  have := gh _ _ eg
  rw [e] at this
  exact this.symm
 | none => dsimp only; rw [e]
theorem wt_step {G H : Hp} (gh : Same G H) : Step G H (wt G H) H := ⟨wt_same, Same.refl _, wt_in gh, fun b hb hg => by
 unfold wt
 rw [hg]
 dsimp only
 split
 ·rename_i xs eh; exact .inr ⟨xs, eh⟩
 ·exact .inl rfl⟩
end
end M

namespace L2
open PySem PySem.Spec PyProof.Rows
section
variable {X : Cx}
end
end L2
namespace M
open PySem PySem.Spec PyProof.Rows L2
section
variable {X : Cx} {E : L2.St → XK}
def mMeth (i : Nat) (g : List D → Option (List D)) : MS := fun en => match en[i]? with
 | some (some (.o (.list ds))) => match g ds with
  | some es => some (.nx (en.set i (some (.o (.list es)))))
  | none => none
 | _ => none
theorem ds_meth {i : Nat} {st : Stmt} {r : V → List V → Hp → VK → Prop} {g : List D → Option (List D)} (hp : PS X st (tDrop (tBM0 X.K "list" r (tVar i))))
  (hg : ∀ (G H : Hp) (a : Addr) (xs : List V) (ds es : List D) (Q : VK), H a = some (.lst xs) → Reps X.K G xs ds → g ds = some es → (∀ u ys, Reps X.K G ys es → Q u (upd H a (.lst ys))) → r (.ref a) [] H Q) : DS X E st (mMeth i g) := by
 refine DS.in ⟨_, hp, fun B G0 G W H σ en Dn hh hs hw => ?_⟩
 unfold mMeth at hw
 split at hw
 ·rename_i ds ei
  obtain ⟨v, e1, a, o, rfl, e2, e3, e4⟩ := hs.2 i _ ei
  cases e4 with
  | @lst xs _ rp =>
  cases eg : g ds with
  | none => rw [eg] at hw; exact hw.elim
  | some es =>
   rw [eg] at hw
   refine ⟨_, e1, .inl ⟨rfl, _, SqL.of e3⟩, hg G H a xs ds es _ e3 rp eg fun u ys ry => ?_⟩
   obtain ⟨w1, w2⟩ := write_ok (o' := .lst ys) (d' := .list es) hh hs e2 e1 (.lst ry)
   exact hw _ _ _ _ w1 w2
 ·exact hw.elim
theorem Reps.rev {K : PySem.W.Frag} {G : Hp} : ∀ {xs : List V} {ds : List D}, Reps K G xs ds → Reps K G xs.reverse ds.reverse
 | _, _, .nil => .nil
 | _, _, .cons h r => by
  rw [List.reverse_cons, List.reverse_cons]
  exact (Reps.rev r).append (.cons h .nil)
theorem Reps.dropLast {K : PySem.W.Frag} {G : Hp} : ∀ {xs : List V} {ds : List D}, Reps K G xs ds → Reps K G xs.dropLast ds.dropLast
 | _, _, .nil => .nil
 | _, _, .cons h .nil => .nil
 | _, _, .cons h (.cons h2 r) => .cons h (Reps.dropLast (.cons h2 r))
def mPop (i : Nat) : MS := mMeth i fun ds => if ds = [] then none else some ds.dropLast
theorem ds_pop {i : Nat} {st : Stmt} (hp : PS X st (tDrop (tBM0 X.K "list" rPop (tVar i)))) : DS X E st (mPop i) :=
 ds_meth hp fun G H a xs ds es Q h rp e q => by
  split at e
  ·cases e
  ·rename_i hne
   cases e
   have hl := rp.length
   have hx : xs ≠ [] := fun z => hne (List.length_eq_zero_iff.mp (by rw [← hl, z]; rfl))
   have hpos : xs.length - 1 < xs.length := Nat.sub_lt (List.length_pos_iff.mpr hx) (by decide)
   exact ⟨a, xs, _, rfl, rfl, h, List.getElem?_eq_getElem hpos, q _ _ rp.dropLast⟩
def cutD (ds : List D) (lo hi : Option Int) : List D := (ds.drop (HT.sIx ds.length 0 lo)).take (HT.sIx ds.length ds.length hi - HT.sIx ds.length 0 lo)
theorem Reps.cut {K : PySem.W.Frag} {G : Hp} {xs : List V} {ds : List D} (r : Reps K G xs ds) (lo hi : Option Int) : Reps K G (cutV xs lo hi) (cutD ds lo hi) := by
 unfold cutV cutD
 rw [r.length]
 exact (r.drop _).take _
def mNoP : En → Res (Option Int) := fun _ => .ok none
def mPt (fe : En → Res Ev) : En → Res (Option Int) := fun en => (fe en).bind fun x => match x.c with
 | .p (.int i) => .ok (some i)
 | _ => .bad
def tP (K : PySem.W.Frag) (E : L2.St → XK) (f : En → Res (Option Int)) : TO := fun σ H R => ∃ B G0 G W en, SimH B G0 G W H ∧ SimS K W G H σ en ∧ wpR (f en) (fun k => ∀ G' H', Step G H G' H' → R k H') (PostX (E σ) G H)
def DP (X : Cx) (E : L2.St → XK) (o : Option Expr) (f : En → Res (Option Int)) : Prop := PO X o (tP X.K E f)
theorem dp_none : DP X E none mNoP := fun pins s σ H R I ⟨B, G0, G, W, en, hh, hs, hw⟩ => po_none pins s σ H R I (hw G H (Step.refl hh.gh))
theorem dp_some {e : Expr} {fe : En → Res Ev} (he : DE X E e fe) : DP X E (some e) (mPt fe) := fun pins s σ H R I ⟨B, G0, G, W, en, hh, hs, hw⟩ => by
 obtain ⟨t, p, m⟩ := he.out
 refine po_some p pins s σ H R I (m B G0 G W H σ en _ hh hs ?_)
 unfold mPt at hw
 rw [wpR_bind] at hw
 refine wpR_mono hw (fun x hx G1 H1 v s1 e1 => ?_) fun C h => h
 obtain ⟨G2, s2, e2⟩ := e1.c s1
 cases ex : x.c with
 | p d =>
  rw [ex] at hx e2
  cases d with
  | int i => cases e2; exact ⟨i, rfl, hx G2 H1 s2⟩
  | _ => exact hx.elim
 | f d => rw [ex] at hx; exact hx.elim
 | b d => rw [ex] at hx; exact hx.elim
 | x C => rw [ex] at hx; exact hx.elim
def mSl (fe : En → Res Ev) (fl fh : En → Res (Option Int)) : En → Res Ev := fun en => (fe en).bind fun x => (fl en).bind fun l => (fh en).bind fun u => match lstOf x.c with
 | some ds => .ok (.f (.list (cutD ds l u)))
 | none => .bad
theorem de_sl {e : Expr} {lo hi : Option Expr} {fe : En → Res Ev} {fl fh : En → Res (Option Int)} {p2 pos : Pos} (he : DE X E e fe) (hl : DP X E lo fl) (hu : DP X E hi fh) : DE X E (.Subscript e (.Slice lo hi none p2) pos) (mSl fe fl fh) := by
 obtain ⟨t, p, m⟩ := he.out
 refine DE.in ⟨_, pe_slice sl_list p hl hu, fun B G0 G W H σ en Q hh hs hw => ?_⟩
 unfold mSl at hw
 refine m B G0 G W H σ en _ hh hs (DE.go hw fun x G1 H1 v s1 e1 h1 => ?_)
 refine ⟨B, G0, G1, W, en, hh.step s1, hs.step s1, ?_⟩
 rw [wpR_bind] at h1
 refine wpR_mono h1 (fun l hx G2 H2 s2 => ?_) fun C h => h
 refine ⟨B, G0, G2, W, en, (hh.step s1).step s2, (hs.step s1).step s2, ?_⟩
 have hx' := wpR_mono hx (fun r h => h.step s2) (fun C h => h.step s2)
 rw [wpR_bind] at hx'
 refine wpR_mono hx' (fun u hy G3 H3 s3 => ?_) fun C h => h
 cases ex : lstOf x.c with
 | none => rw [ex] at hy; exact hy.elim
 | some ds =>
  rw [ex] at hy
  obtain ⟨a, xs, rfl, rd, rp⟩ := lst_at (Hs := H) s3.gh (e1.step (s2.trans s3)) ex
  exact ⟨a, xs, rfl, .inl rd, fun p hp => hy _ _ _ (s3.trans (Step.lay s3.gh hp)) ⟨p, _, rfl, s3.h.free hp, s3.gh.free hp, upd_same, .lst (rp.cut l u)⟩⟩
end
section
variable {K : PySem.W.Frag}
end
end M

namespace L2
open PySem PySem.Spec PyProof.Rows
section
variable {X : Cx}
end
end L2
namespace M
open PySem PySem.Spec PyProof.Rows L2
end M

namespace L2
open PySem PySem.Spec PyProof.Rows
section
variable {X : Cx}
end
end L2
namespace M
open PySem PySem.Spec PyProof.Rows L2
variable {K : PySem.W.Frag}
end M

namespace M
open PySem PySem.Spec PyProof.Rows L2
section
variable {X : Cx} {E : L2.St → XK} {e : Expr}
end
section
variable {X : Cx} {K : PySem.W.Frag}
end
end M

namespace L2
open PySem PySem.Spec PyProof.Rows
theorem nolen_lri : typeLookup (Value.type "list_reverseiterator") (Str.ofString "__len__") = pure none := by rfl
theorem hint_lri : typeLookup (Value.type "list_reverseiterator") (Str.ofString "__length_hint__") = pure (some (Value.builtin "list_reverseiterator.__length_hint__")) := by rfl
theorem sub_lri : isSubtype (Value.type "list_reverseiterator") (Value.type "list_reverseiterator") = pure true := by rfl
theorem walks_rev {prog : Program} {w : World} {A : Around} (hh : A.handled = none) {I l : Addr} (hne : l ≠ I) (items : Array Value) :
  WalksS prog w A I [I, l] [I] Eq items.size (fun i v => items[items.size - 1 - i]? = some v) (fun i s => s.heap.IsRevIter I l ((items.size : Int) - 1 - i) ∧ s.heap.IsList l items) where
 sub := fun b hb => by rw [List.mem_singleton.mp hb]; exact .head _
 grefl := fun _ => rfl
 gtrans := fun _ _ _ h1 h2 => h1.trans h2
 frame := fun i s h' tk st _ k => by
  obtain ⟨⟨o, h1, h2, h3⟩, ⟨p, h4, h5⟩⟩ := st
  exact ⟨⟨o, k I (.head _) o h1, h2, h3⟩, ⟨p, k l (.tail _ (.head _)) p h4, h5⟩⟩
 item := fun i s Q E hi st k => by
  obtain ⟨st1, st2⟩ := st
  have e : ((items.size : Int) - 1 - i) = ((items.size - 1 - i : Nat) : Int) := by omega
  rw [e] at st1
  have hx : items.size - 1 - i < items.size := by omega
  refine wpAny_pyNext_rev_item st1 st2 (x := items[items.size - 1 - i]) (by simp [hx]) fun h' g1 g2 => ?_
  refine k _ _ (by simp [hx]) ⟨?_, ?_⟩ ⟨fun b o hb q => ?_, rfl, rfl, rfl, Nat.le_refl _⟩
  ·have e2 : ((items.size - 1 - i : Nat) : Int) - 1 = (items.size : Int) - 1 - ((i + 1 : Nat) : Int) := by omega
   rw [← e2]
   exact g1
  ·obtain ⟨p, h4, h5⟩ := st2
   exact ⟨p, (g2.2 l hne).trans h4, h5⟩
  ·exact (g2.2 b (fun z => hb (by rw [z]; exact .head _))).trans q
 done := fun s Q E st k => by
  obtain ⟨st1, st2⟩ := st
  have e : ((items.size : Int) - 1 - (items.size : Nat)) = -1 := by omega
  rw [e] at st1
  exact wpAny_pyNext_rev_end hh st1 fun h' g => k _ ⟨fun b o hb q => g b o (fun z => hb (by rw [z]; exact .head _)) q, rfl, rfl, rfl, Nat.le_refl _⟩
 self := fun i s Q E st h => wpAny_pyIter_revIter st.1 h
theorem hint_rev {prog : Program} {w : World} {A : Around} {E : Value → Shared → Prop} {s : Shared} {I : Addr} {Q : Bool → Shared → Prop} (t : s.TypeIs (.ref I) "list_reverseiterator") (q : Q false s) : wpAny (model prog w) A (Builtin.List.listLengthHint (.ref I)) Q E s := by
 unfold Builtin.List.listLengthHint
 refine wpAny_bind (wpAny_specialOf t nolen_lri ?_)
 refine wpAny_bind (wpAny_specialOf t hint_lri ?_)
 refine wpAny_bind (wpAny_isInstance t sub_lri ?_)
 exact wpAny_pure q
theorem extend_rev {prog : Program} {w : World} {A : Around} (hh : A.in1.handled = none) {s : Shared} {R : Result → Shared → Prop} {I l : Addr} {items : Array Value} (hne : l ≠ I) (hI : s.heap.IsRevIter I l ((items.size : Int) - 1)) (hl : s.heap.IsList l items) (S : Addr) (hS1 : S ≠ I) (hS2 : S ≠ l) (res : Value) (c₀ : Nat)
  (hS : s.heap.get? S = some { cls := Value.type "list", data := Data.seq #[] c₀ }) (hz : items.size ≤ sizeLine)
  (k : ∀ (s' : Shared) (acc' : Array Value) (c' : Nat), Moved [S, I] Eq s s' → s'.heap.get? S = some { cls := Value.type "list", data := Data.seq acc' c' } → ItemsOf (fun i v => items[items.size - 1 - i]? = some v) acc' items.size → R (.ok (.ret res)) s') :
  wpAny (model prog w) A.in1 (Builtin.List.listExtendWith (.ref S) (.ref I) res) (fun fin s' => match fin with
   | Fin.done f => R (.ok f) s'
   | Fin.again c' => c'.quiet = true ∧ codeAny (model prog w) A c' R s') (fun e s' => R (.error e) s') s := by
 have t : s.TypeIs (.ref I) "list_reverseiterator" := by
  obtain ⟨o, h1, h2, _⟩ := hI
  exact ⟨o, h1, h2⟩
 unfold Builtin.List.listExtendWith
 refine wpAny_bind (wpAny_typeOf t ?_)
 have e : (Builtin.List.listSameRef (.ref S) (.ref I) || Value.type "list_reverseiterator" == Value.type "list" || Value.type "list_reverseiterator" == Value.type "tuple") = false := by
  have : (S == I) = false := beq_false_of_ne hS1
  show ((S == I) || _ || _) = false
  rw [this]
  decide
 rw [e, if_neg (by decide)]
 refine wpAny_bind (wpAny_pyIter_revIter hI ?_)
 refine wpAny_bind (wpAny_holding (hint_rev t ?_))
 refine wpAny_pure ?_
 refine ⟨plainId_quiet F.plain_extend_loop _, ?_⟩
 exact codeAny_extend_loopS (walks_rev hh hne items) hz S (by simp [hS1, hS2]) res items.size 0 s #[] c₀ rfl (Nat.zero_le _) ⟨by simpa using hI, hl⟩ hS ⟨rfl, fun j v h => by simp at h⟩ k
theorem call_list_rev {prog : Program} {w : World} {A : Around} {E : Value → Shared → Prop} (hh : A.in1.in1.handled = none) {s : Shared} {Q : Value → Shared → Prop} {I l : Addr} {items : Array Value} (hne : l ≠ I) (hI : s.heap.IsRevIter I l ((items.size : Int) - 1)) (hl : s.heap.IsList l items) (hz : items.size ≤ sizeLine)
  (k : ∀ (s' : Shared) (acc' : Array Value) (c' : Nat), (∀ b o, b ≠ I → s.heap.get? b = some o → s'.heap.get? b = some o) → s'.gens = s.gens → s'.drawn = s.drawn → s'.os = s.os → s'.heap.get? s.heap.objs.size = some { cls := Value.type "list", data := Data.seq acc' c' } → ItemsOf (fun i v => items[items.size - 1 - i]? = some v) acc' items.size → Q (.ref s.heap.objs.size) s') :
  wpAny (model prog w) A (call (.type "list") [.ref I]) Q E s := by
 obtain ⟨oI, hI1, hI2, hI3⟩ := id hI
 obtain ⟨ol, hl1, hl2⟩ := id hl
 have lI : I < s.heap.objs.size := Heap.lt_size hI1
 have ll : l < s.heap.objs.size := Heap.lt_size hl1
 refine callType_codes F.called_list (F.typeCall_list_1 _) F.entry_list_init (code_list_new _ ?_) ?_ (Q₁ := fun obj s₁ => obj = .ref s.heap.objs.size ∧ s₁ = { s with heap := s.heap.push { cls := Value.type "list", data := Data.seq #[] } })
 ·exact ⟨rfl, rfl⟩
 ·rintro obj s₁ ⟨rfl, rfl⟩
  have hS : (s.heap.push { cls := Value.type "list", data := Data.seq #[] }).get? s.heap.objs.size = some { cls := Value.type "list", data := Data.seq #[] } := Heap.get?_push_size s.heap rfl
  refine ⟨⟨_, hS, rfl⟩, F.args_list_init_2 _ _, ?_⟩
  have hI' : (s.heap.push { cls := Value.type "list", data := Data.seq #[] }).get? I = some oI := Heap.get?_push_of_some _ hI1
  have hl' : (s.heap.push { cls := Value.type "list", data := Data.seq #[] }).get? l = some ol := Heap.get?_push_of_some _ hl1
  have u1 : ((s.heap.push { cls := Value.type "list", data := Data.seq #[] }).update s.heap.objs.size (Obj.mapSeq fun _ => #[])).get? s.heap.objs.size = some { cls := Value.type "list", data := Data.seq #[] } := (Heap.get?_update_self _ hS rfl).trans rfl
  have u2 : ∀ b o, b ≠ s.heap.objs.size → (s.heap.push { cls := Value.type "list", data := Data.seq #[] }).get? b = some o → ((s.heap.push { cls := Value.type "list", data := Data.seq #[] }).update s.heap.objs.size (Obj.mapSeq fun _ => #[])).get? b = some o := fun b o hb q => (Heap.get?_update_other _ _ (Ne.symm hb)).trans q
  refine wpAny_bind ?_
  unfold Builtin.List.listItems
  refine wpAny_bind (wpAny_seqItems hS rfl (wpAny_pure ?_))
  refine wpAny_bind (wpAny_updateSeq hS rfl ?_ (by decide) (by decide))
  refine wpAny_bind (wpAny_letGo ?_)
  refine extend_rev (A := A.in1) hh hne ⟨oI, u2 I oI (Nat.ne_of_lt lI) hI', hI2, hI3⟩ ⟨ol, u2 l ol (Nat.ne_of_lt ll) hl', hl2⟩ s.heap.objs.size (Nat.ne_of_gt lI) (Nat.ne_of_gt ll) .none 0 u1 hz fun s' acc' c' mv g it => ?_
  exact ⟨rfl, k s' acc' c' (fun b o hb q => mv.heap b o (by
   have : b ≠ s.heap.objs.size := Nat.ne_of_lt (Heap.lt_size q)
   simp [hb, this]) (u2 b o (Nat.ne_of_lt (Heap.lt_size q)) (Heap.get?_push_of_some _ q))) mv.gens.symm mv.drawn mv.os g it⟩
section
variable {X : Cx}
theorem bT_rev0 : bootBuiltins "reversed" = some (.type "reversed") := by decide +kernel
theorem bT_list0 : bootBuiltins "list" = some (.type "list") := by decide +kernel
def tLR (K : PySem.W.Frag) (te : TE) : TE := fun σ H Q => te σ H fun x H1 => ∃ a xs, x = .ref a ∧ SqL K H1 a xs ∧ ∀ l, H1 l = none → Q (.ref l) (upd H1 l (.lst xs.reverse))
theorem vals_rev {xs : List V} {its : List Value} (r : Vals xs its) {acc : Array Value} (h : ItemsOf (fun i v => its.toArray[its.toArray.size - 1 - i]? = some v) acc its.toArray.size) : acc.toList = its.reverse := by
 obtain ⟨h1, h2⟩ := h
 have h1 : acc.size = its.length := h1.trans (List.size_toArray ..)
 apply List.ext_getElem?
 intro i
 rw [Array.getElem?_toList]
 by_cases hi : i < its.length
 ·have hx : i < acc.size := by omega
  have this := h2 i acc[i] (by simp [hx])
  have this : its.toArray[its.toArray.size - 1 - i]? = some acc[i] := this
  rw [Array.getElem?_eq_getElem hx, List.getElem?_reverse hi]
  rw [List.size_toArray, List.getElem?_toArray] at this
  exact this.symm
 ·rw [Array.getElem?_eq_none (by omega), List.getElem?_eq_none (by rw [List.length_reverse]; omega)]
theorem vals_reverse : ∀ {xs : List V} {us : List Value}, Vals xs us → Vals xs.reverse us.reverse
 | _, _, .nil => .nil
 | _, _, .cons r t => by
  rw [List.reverse_cons, List.reverse_cons]
  exact (vals_reverse t).append (.cons r .nil)
theorem pe_listrev {e : Expr} {te : TE} {p1 p2 pos1 pos2 : Pos} (hc : X.calm = true) (hg1 : Gl X "list") (hm1 : X.mg "list" = none) (hg2 : Gl X "reversed") (hm2 : X.mg "reversed" = none) (he : PE X e te)
  (hs1 : starEach [.Call (.Name "reversed" p2) [e] [] pos2] X.env = (false, eval (.Call (.Name "reversed" p2) [e] [] pos2) X.env) :: starEach [] X.env := by rfl) (hs2 : starEach [e] X.env = (false, eval e X.env) :: starEach [] X.env := by rfl) :
  PE X (.Call (.Name "list" p1) [.Call (.Name "reversed" p2) [e] [] pos2] [] pos1) (tLR X.K te) := by
 intro pins s σ H Q I h
 refine wpAny_Call_Name_kw (ld_blt I hg1 hm1 bT_list0 (PyProof.Rows.callWith_type1 ?_ hs1 rfl))
 rw [hs1]
 show wpAny _ _ (spliced ((false, eval _ X.env) :: backTo pos1 (starEach [] X.env))) _ _ s
 refine Calls.spliced_cons (wpAny_Call_Name_kw (ld_blt I hg2 hm2 bT_rev0 (PyProof.Rows.callWith_type1 ?_ hs2 rfl)))
 rw [hs2]
 show wpAny _ _ (spliced ((false, eval _ X.env) :: backTo pos2 (starEach [] X.env))) _ _ s
 refine Calls.spliced_cons (thn (he pins s σ H _ I h) fun u s1 ⟨x, H1, I1, r1, a, xs, ex, hq, q⟩ => Calls.spliced_nil ?_)
 subst ex
 cases (show u = Value.ref a from r1)
 obtain ⟨its, rv, pl, hz⟩ := I1.list hq
 refine call_reversed_list pl.isList (Calls.spliced_nil ?_)
 have hlen := rv.length
 have kp : ∀ b o, s1.heap.get? b = some o → (s1.heap.push (revObj a ((its.toArray.size : Int) - 1))).get? b = some o := fun b o q => Heap.get?_push_of_some _ q
 have I2 : Inv X pins σ H1 { s1 with heap := s1.heap.push (revObj a ((its.toArray.size : Int) - 1)) } := I1.kept (t' := s1.toks) kp
 have hR : (s1.heap.push (revObj a ((its.toArray.size : Int) - 1))).get? s1.heap.objs.size = some (revObj a ((its.toArray.size : Int) - 1)) := Heap.get?_push_size _ rfl
 have hp := I1.fpOk (Nat.le_refl _) (I1.hok.fresh (Nat.le_refl s1.heap.objs.size))
 obtain ⟨o, n, ho, hoc, hod, hos⟩ := pl
 have lt : a < s1.heap.objs.size := Heap.lt_size ho
 refine call_list_rev (s := { s1 with heap := s1.heap.push (revObj a ((its.toArray.size : Int) - 1)) }) (I := s1.heap.objs.size) (l := a) (items := its.toArray) (I.ok.hd hc) (Nat.ne_of_lt lt) ⟨_, hR, rfl, rfl⟩ ⟨o, kp a o ho, hoc, n, hos⟩ (by rw [List.size_toArray]; omega) fun s' acc c' k1 k2 k3 k4 k5 k6 => ?_
 have ev := vals_rev rv k6
 have hsz : (s1.heap.push (revObj a ((its.toArray.size : Int) - 1))).objs.size = s1.heap.objs.size + 1 := by simp [Heap.push]
 have hH : H1 (s1.heap.objs.size + 1) = none := I2.hok.fresh (a := s1.heap.objs.size + 1) (by show (s1.heap.push _).objs.size ≤ _; rw [hsz]; exact Nat.le_refl _)
 rw [show ({ s1 with heap := s1.heap.push (revObj a ((its.toArray.size : Int) - 1)) } : Shared).heap.objs.size = s1.heap.objs.size + 1 from hsz] at k5 ⊢
 obtain ⟨f0, f1, f2, f3, f4, f5⟩ := hp
 have keep : ∀ b o, b ∉ [s1.heap.objs.size] → (s1.heap.push (revObj a ((its.toArray.size : Int) - 1))).get? b = some o → s'.heap.get? b = some o := fun b o hb q => k1 b o (fun z => hb (by rw [z]; exact .head _)) q
 have trk : ∀ b o, H1 b = some o → b ∉ [s1.heap.objs.size] := fun b o q hb => by rw [List.mem_singleton.mp hb, f0] at q; cases q
 have nn : ∀ b o, H1 b = some o → b ≠ s1.heap.objs.size + 1 := fun b o q z => by rw [z, hH] at q; cases q
 refine ⟨.ref (s1.heap.objs.size + 1), upd H1 (s1.heap.objs.size + 1) (.lst xs.reverse), ?_, rfl, q _ hH⟩
 have st := Inv.step (X := X) (pins := pins) (σ := σ) (H := H1) (s := { s1 with heap := s1.heap.push (revObj a ((its.toArray.size : Int) - 1)) }) (H' := upd H1 (s1.heap.objs.size + 1) (.lst xs.reverse)) (h' := s'.heap) (g' := s1.gens) (d' := s1.drawn) (t' := s'.toks) (ch := [s1.heap.objs.size]) I2 (fun b hb => by rw [List.mem_singleton.mp hb]; exact ⟨f3, f1, f4, f5⟩) (fun b o _ _ hb q _ => keep b o hb q) (fun b o _ _ hb q _ => ⟨o.slots, keep b o hb q⟩)
  (fun b o _ q n => by rw [upd_ne (fun z => by have := Heap.lt_size q; rw [z] at this; exact absurd (show s1.heap.objs.size + 1 < s1.heap.objs.size + 1 by rw [← hsz]; exact hsz ▸ this) (Nat.lt_irrefl _))]; exact n) (fun b o hb q => ⟨o, keep b o hb q⟩)
  (fun b ys q => by rw [upd_ne (nn b _ q)]; exact q) (fun b o v q => by rw [upd_ne (nn b _ q)]; exact q) (fun b ps q => ⟨#[], by rw [upd_ne (nn b _ q), q]; simp⟩) (fun m hm => by
   obtain ⟨o, es, ep, ho, r⟩ := hm
   exact ⟨o, es, ep, keep _ o (fun z => f1 (List.mem_singleton.mp z).symm) ho, r⟩) (fun b v q => by
   by_cases hb : b = s1.heap.objs.size + 1
   ·subst hb
    rw [upd_same] at q
    cases q
    refine ⟨by rw [List.length_reverse]; exact hz, its.reverse, c', vals_reverse rv, ?_⟩
    rw [k5, ← ev]
   ·rw [upd_ne hb] at q
    refine (I2.hok b v q).stay (fun c w' hc q' => keep c w' ?_ q') (fun c q' => ?_) fun c ys q' => ?_
    ·rcases hc with z | z
     ·rw [z]; exact trk b v q
     ·exact trk c _ z
    ·rw [upd_ne (nn c _ q')]; exact q'
    ·rw [upd_ne (nn c _ q')]; exact q') I1.bare
 have es : s' = { heap := s'.heap, gens := s1.gens, drawn := s1.drawn, toks := s'.toks, os := s1.os } := by
  cases s'
  cases k2
  cases k3
  cases k4
  rfl
 rw [es]
 exact st
end
end L2
namespace M
open PySem PySem.Spec PyProof.Rows L2
def revE (x : Ev) : Res Ev := match lstOf x with
 | some ds => .ok (.f (.list ds.reverse))
 | none => .bad
theorem de_listrev {X : Cx} {E : L2.St → XK} {e : Expr} {fe : En → Res Ev} {p1 p2 pos1 pos2 : Pos} (hc : X.calm = true) (hg1 : Gl X "list") (hm1 : X.mg "list" = none) (hg2 : Gl X "reversed") (hm2 : X.mg "reversed" = none) (he : DE X E e fe)
  (hs1 : starEach [.Call (.Name "reversed" p2) [e] [] pos2] X.env = (false, eval (.Call (.Name "reversed" p2) [e] [] pos2) X.env) :: starEach [] X.env := by rfl) (hs2 : starEach [e] X.env = (false, eval e X.env) :: starEach [] X.env := by rfl) :
  DE X E (.Call (.Name "list" p1) [.Call (.Name "reversed" p2) [e] [] pos2] [] pos1) (mUn revE fe) := by
 obtain ⟨t, q, m⟩ := he.out
 refine DE.in ⟨_, pe_listrev hc hg1 hm1 hg2 hm2 q hs1 hs2, fun B G0 G W H σ en Q hh hs hw => m B G0 G W H σ en _ hh hs ?_⟩
 have hw : wpR ((fe en).bind _) _ _ := hw
 rw [wpR_bind] at hw
 refine wpR_mono hw (fun r hr G1 H1 v s e => ?_) fun C h => h
 obtain ⟨G2, s2, e2⟩ := e.c s
 unfold revE at hr
 cases el : lstOf r.c with
 | none => rw [el] at hr; exact hr.elim
 | some ds =>
  rw [el] at hr
  obtain ⟨a, xs, rfl, h1, h2⟩ := lst_at s2.gh e2 el
  refine ⟨a, xs, rfl, .inl h1, fun l hl => ?_⟩
  exact hr G2 _ _ (s2.trans (Step.lay s2.gh hl)) ⟨l, _, rfl, s2.h.free hl, s2.gh.free hl, upd_same, .lst h2.rev⟩
end M

namespace L2
open PySem PySem.Spec PyProof.Rows
section
variable {X : Cx}
theorem vals_intsT : ∀ {is : List Int} {us : List Value}, Vals (is.map V.int) us → ∃ ts : List (Int × Tok), us = ts.map (fun p => Value.int p.1 p.2) ∧ ts.map (·.1) = is
 | [], _, .nil => ⟨[], rfl, rfl⟩
 | i :: is, _, .cons r t => by
  obtain ⟨tk, e⟩ := r
  obtain ⟨ts, e1, e2⟩ := vals_intsT t
  refine ⟨(i, tk) :: ts, ?_, ?_⟩
  ·rw [e, e1]; rfl
  ·rw [List.map_cons, e2]
end
end L2
namespace M
open PySem PySem.Spec PyProof.Rows L2
variable {K : PySem.W.Frag}
def intsOf : List D → Option (List Int)
 | [] => some []
 | .int b :: ds => match intsOf ds with
  | some bs => some (b :: bs)
  | none => none
 | _ => none
theorem intsOf_map : ∀ is : List Int, intsOf (is.map .int) = some is
 | [] => rfl
 | i :: is => by
  show (match intsOf (is.map .int) with | some bs => some (i :: bs) | none => none) = _
  rw [intsOf_map is]
theorem ints_reps {G : Hp} : ∀ {ds : List D} {bs : List Int} {xs : List V}, intsOf ds = some bs → Reps K G xs ds → xs = bs.map V.int
 | [], _, _, h, .nil => by cases h; rfl
 | d :: ds, bs, _, h, .cons r t => by
  cases d with
  | int b =>
   unfold intsOf at h
   cases e : intsOf ds with
   | none => rw [e] at h; cases h
   | some bs' =>
    rw [e] at h
    cases h
    cases r
    rw [ints_reps e t]
    rfl
  | _ => cases h
end M

namespace L2
open PySem PySem.Spec PyProof.Rows
section
variable {X : Cx} {tg : Expr}
end
end L2
namespace M
open PySem PySem.Spec PyProof.Rows L2
section
variable {X : Cx} {E : L2.St → XK} {pos : Pos}
end
end M
namespace L2
open PySem PySem.Spec PyProof.Rows M
section
variable {X : Cx}
end
end L2
namespace M
open PySem PySem.Spec PyProof.Rows L2
variable {K : PySem.W.Frag}
end M

namespace L2
open PySem PySem.Spec PyProof.Rows
end L2
namespace M
open PySem PySem.Spec PyProof.Rows L2
section
variable {X : Cx} {E : L2.St → XK}
end
variable {K : PySem.W.Frag}
end M

namespace L2
open PySem PySem.Spec PyProof.Rows M
section
variable {X : Cx}
end
end L2
namespace M
open PySem PySem.Spec PyProof.Rows L2
variable {K : PySem.W.Frag}
end M

namespace L2
open PySem PySem.Spec PyProof.Rows
def CMulX (i j : Int) : Prop := CMulW i j ∨ CMul i j
theorem op_mulX {X : Cx} : OpR X (binaryOp .Mult) (rI CMulX fun i j => .int (i * j)) := opI fun _ _ _ _ _ _ _ hc q => mul_int q (hc.elim CMulW.ok CMul.ok)
end L2
namespace M
open PySem PySem.Spec PyProof.Rows L2
variable {K : PySem.W.Frag}
noncomputable abbrev mulXE : Ev → Ev → Res Ev := intE CMulX fun i j => .int (i * j)
theorem om_mulX : OpM K (rI CMulX fun i j => .int (i * j)) mulXE := om_int fun _ _ _ => .int _
theorem mulX_ok {i j : Int} (h : CMulX i j) : mulXE (.p (.int i)) (.p (.int j)) = .ok (.p (.int (i * j))) := by simp [intE, h]
end M

namespace L2
open PySem PySem.Spec PyProof.Rows M SRT
section
variable {prog : Program} {w : World} {A : Around} {E : Value → Shared → Prop} {s : Shared}
end
section
variable {X : Cx}
end
end L2
namespace M
open PySem PySem.Spec PyProof.Rows L2 SRT
variable {K : PySem.W.Frag}
end M

namespace L2
open PySem PySem.Spec PyProof.Rows
section
variable {X : Cx} {CX : CXT} {k : Nat} {f : Addr} {fd : FuncData} {ps : List Str} {sp : Sp} {E : St → XK} {x : Str} {p pos : Pos}
end
end L2
namespace M
open PySem PySem.Spec PyProof.Rows L2
section
variable {X : Cx} {E : L2.St → XK} {k j : Nat} {x : Str} {p pos : Pos} {n : Nat} {m : List L → Res L}
end
end M

namespace L2
open PySem PySem.Spec PyProof.Rows
section
variable {X : Cx} {pos : Pos}
end
end L2
namespace M
open PySem PySem.Spec PyProof.Rows L2
section
variable {X : Cx} {E : L2.St → XK} {pos : Pos}
end
end M

namespace L2
open PySem PySem.Spec PyProof.Rows
section
variable {X : Cx}
def rSum (K : PySem.W.Frag) : List V → Hp → VK → Prop := fun xs H Q => ∃ (a : Addr) (is : List Int), xs = [.ref a] ∧ SqL K H a (is.map V.int) ∧ Q (.int is.sum) H
theorem preSum_sum (f : Nat → Int) : ∀ (is : List Int), (∀ j, j < is.length → f j = (is[j]?).getD 0) → preSum f is.length = is.sum := by
 have gen : ∀ (n : Nat) (is : List Int), is.length = n → (∀ j, j < is.length → f j = (is[j]?).getD 0) → preSum f n = is.sum := by
  intro n
  induction n with
  | zero =>
   intro is h _
   rw [List.length_eq_zero_iff.mp h]
   rfl
  | succ n ih =>
   intro is h hj
   have hne : is ≠ [] := fun z => by rw [z] at h; cases h
   have e : is = is.dropLast ++ [is.getLast hne] := (List.dropLast_concat_getLast hne).symm
   have hl : is.dropLast.length = n := by rw [List.length_dropLast]; omega
   have h1 := ih is.dropLast hl fun j hj' => by
    rw [hj j (by omega)]
    conv => lhs; rw [e]
    rw [List.getElem?_append_left hj']
   show preSum f n + f n = is.sum
   rw [h1, hj n (by omega)]
   conv => rhs; rw [e, List.sum_append]
   conv => lhs; rw [e]
   rw [List.getElem?_append_right (by omega), hl]
   simp
 exact fun is hj => gen _ is rfl hj
theorem call_sumL (hc : X.calm = true) {K : PySem.W.Frag} (hK : X.K = K) : CallR X (.builtin "sum") (rSum K) := by
 subst hK
 intro pins s σ H xs us Q I r h
 obtain ⟨a, is, rfl, hq, q⟩ := h
 obtain ⟨u, rfl, ru⟩ := vals1 r
 cases ru
 obtain ⟨its, rv, p, hz⟩ := I.list hq
 obtain ⟨ts, e1, e2⟩ := vals_intsT rv
 have hl : s.heap.IsList a (intItems ts.toArray) := by
  have h := p.isList
  rw [e1] at h
  simpa [intItems] using h
 have hn : ts.length = is.length := by
  have := congrArg List.length e2
  rw [List.length_map] at this
  exact this
 have num : ∀ j, numAt ts.toArray j = (is[j]?).getD 0 := fun j => by
  rw [← e2]
  simp [numAt]
 refine sum_intListG (A := X.A) (I.ok.hd hc) hl fun h' tk t' hk => ⟨.int is.sum, H, I.kept hk, ?_, q⟩
 refine ⟨t', ?_⟩
 rw [List.size_toArray, hn, preSum_sum _ is fun j _ => num j]
end
end L2
namespace M
open PySem PySem.Spec PyProof.Rows L2
section
variable {K : PySem.W.Frag}
def sumE (rs : List Ev) : Res Ev := match rs with
 | [x] => match lstOf x with
  | some ds => match intsOf ds with
   | some is => .ok (.p (.int is.sum))
   | none => .bad
  | none => .bad
 | _ => .bad
theorem noX_sum : NoXs sumE := by
 intro rs C h
 unfold sumE at h
 split at h
 ·split at h
  ·split at h <;> cases h
  ·cases h
 ·cases h
theorem cm_sum : CallM K (rSum K) sumE := by
 intro W Hs G H vs rs Q gh he hw
 unfold sumE at hw
 split at hw
 ·rename_i x
  match vs, he with
  | [v], ⟨h1, _⟩ =>
   split at hw
   ·rename_i ds ed
    obtain ⟨a, xs, rfl, k1, k2⟩ := lst_at gh h1 ed
    split at hw
    ·rename_i is eb
     have := ints_reps eb k2
     subst this
     exact ⟨a, is, rfl, .inl k1, hw G H _ (Step.refl gh) (.int _)⟩
    ·exact hw.elim
   ·exact hw.elim
 ·exact hw.elim
end
end M
namespace L2
open PySem PySem.Spec PyProof.Rows
section
variable {X : Cx}
end
end L2
namespace M
open PySem PySem.Spec PyProof.Rows L2
end M

namespace L2
open PySem PySem.Spec PyProof.Rows
section
variable {prog : Program} {w : World} {A : Around} {E : Value → Shared → Prop} {s : Shared}
end
section
variable {X : Cx}
end
end L2
namespace M
open PySem PySem.Spec PyProof.Rows L2
section
variable {K : PySem.W.Frag}
end
end M

namespace L2
open PySem PySem.Spec PyProof.Rows
section
variable {X : Cx}
end
end L2
namespace M
open PySem PySem.Spec PyProof.Rows L2
variable {K : PySem.W.Frag}
end M

namespace L2
open PySem PySem.Spec PyProof.Rows
section
variable {X : Cx}
end
end L2
namespace M
open PySem PySem.Spec PyProof.Rows L2
section
variable {X : Cx} {E : L2.St → XK} {sts rest A : List Stmt} {st : Stmt} {fA g : MS} {fe : En → Res Ev} {fc : En → Res Bool} {e c : Expr} {pos pos2 : Pos}
end
end M

namespace L2
open PySem
def lpN (mask : Nat) (i p : Nat) : Nat → Nat × Nat
 | 0 => (i, p)
 | m + 1 => lpN mask (SetTable.leap mask i p).1 (SetTable.leap mask i p).2 m
theorem lpN_add (mask : Nat) : ∀ (a b i p : Nat), lpN mask i p (a + b) = lpN mask (lpN mask i p a).1 (lpN mask i p a).2 b
 | 0, b, i, p => by rw [Nat.zero_add]; rfl
 | a + 1, b, i, p => by
  rw [Nat.succ_add]
  show lpN mask _ _ (a + b) = _
  rw [lpN_add mask a b]
  rfl
theorem lpN_2 (mask : Nat) : ∀ (m i p : Nat), (lpN mask i p m).2 = p / 32 ^ m
 | 0, i, p => by simp [lpN]
 | m + 1, i, p => by
  show (lpN mask _ (p / 32) m).2 = _
  rw [lpN_2 mask m, Nat.div_div_eq_div_mul, Nat.pow_succ, Nat.mul_comm]
theorem lpN_1 (mask : Nat) : ∀ (m i p : Nat), i ≤ mask → (lpN mask i p m).1 ≤ mask
 | 0, i, p, h => h
 | m + 1, i, p, _ => by
  show (lpN mask ((i * 5 + 1 + p / 32) % (mask + 1)) (p / 32) m).1 ≤ mask
  exact lpN_1 mask m _ _ (Nat.le_of_lt_succ (Nat.mod_lt _ (Nat.succ_pos _)))
def orb (mask : Nat) : Nat → Nat → List Nat
 | 0, _ => []
 | n + 1, i => i :: orb mask n ((i * 5 + 1) % (mask + 1))
theorem orb_at (mask : Nat) : ∀ (n i q : Nat), q ∈ orb mask n i → ∃ m, m < n ∧ (lpN mask i 0 m).1 = q
 | n + 1, i, q, h => by
  rcases List.mem_cons.mp h with z | z
  ·exact ⟨0, Nat.succ_pos _, z.symm⟩
  ·obtain ⟨m, hm, e⟩ := orb_at mask n _ q z
   exact ⟨m + 1, Nat.succ_lt_succ hm, e⟩
def MaskOk (mask : Nat) : Prop := mask = 7 ∨ mask = 31
theorem orb_all {mask : Nat} (hm : MaskOk mask) {i q : Nat} (hi : i ≤ mask) (hq : q ≤ mask) : q ∈ orb mask (mask + 1) i := by
 have key : ∀ mask, MaskOk mask → (List.range (mask + 1)).all (fun i => (List.range (mask + 1)).all fun q => (orb mask (mask + 1) i).contains q) = true := by
  rintro _ (rfl | rfl) <;> decide +kernel
 have a := List.all_eq_true.mp (key mask hm) i (List.mem_range.mpr (Nat.lt_succ_of_le hi))
 have b := List.all_eq_true.mp a q (List.mem_range.mpr (Nat.lt_succ_of_le hq))
 exact List.contains_iff_mem.mp b
theorem lp_cover {mask : Nat} (hm : MaskOk mask) {i p q : Nat} (hi : i ≤ mask) (hp : p < 2 ^ 64) (hq : q ≤ mask) : ∃ m, m ≤ 13 + mask ∧ (lpN mask i p m).1 = q := by
 have e2 : (lpN mask i p 13).2 = 0 := by
  rw [lpN_2]
  exact Nat.div_eq_of_lt (Nat.lt_of_lt_of_le hp (by decide))
 obtain ⟨m, h1, h2⟩ := orb_at mask _ _ _ (orb_all hm (lpN_1 mask 13 i p hi) hq)
 refine ⟨13 + m, by omega, ?_⟩
 rw [lpN_add, e2]
 exact h2
theorem nd_len {α : Type} [DecidableEq α] : ∀ {l m : List α}, l.Nodup → (∀ x ∈ l, x ∈ m) → l.length ≤ m.length
 | [], m, _, _ => Nat.zero_le _
 | x :: l, m, h, s => by
  obtain ⟨h1, h2⟩ := List.nodup_cons.mp h
  have hx := s x (.head _)
  have q := nd_len (m := m.erase x) h2 fun y hy => (List.mem_erase_of_ne (show y ≠ x from fun z => h1 (by rw [← z]; exact hy))).mpr (s y (.tail _ hy))
  rw [List.length_erase_of_mem hx] at q
  have := List.length_pos_of_mem hx
  rw [List.length_cons]
  omega
theorem miss {mask : Nat} {l : List Nat} (h : l.length ≤ mask) : ∃ q, q ≤ mask ∧ q ∉ l := by
 by_cases z : ∀ q ∈ List.range (mask + 1), q ∈ l
 ·have := nd_len List.nodup_range z
  rw [List.length_range] at this
  omega
 ·obtain ⟨q, hq⟩ := Classical.not_forall.mp z
  obtain ⟨h1, h2⟩ := Classical.not_imp.mp hq
  exact ⟨q, Nat.le_of_lt_succ (List.mem_range.mp h1), h2⟩
def advN (t : SetTable) : Nat → SetTable.Probe → SetTable.Probe
 | 0, p => p
 | k + 1, p => advN t k (t.advance p)
theorem advN_add (t : SetTable) : ∀ (a b : Nat) (p : SetTable.Probe), advN t (a + b) p = advN t b (advN t a p)
 | 0, b, p => by rw [Nat.zero_add]; rfl
 | a + 1, b, p => by
  rw [Nat.succ_add]
  exact advN_add t a b _
def runS (t : SetTable) (i p : Nat) : SetTable.Probe := { j := i, more := SetTable.runEnd t.mask i - i, i, perturb := p, dummy := none }
theorem adv_run (t : SetTable) : ∀ (r j i p : Nat), advN t (r + 1) { j, more := r, i, perturb := p, dummy := none } = runS t (SetTable.leap t.mask i p).1 (SetTable.leap t.mask i p).2
 | 0, j, i, p => rfl
 | r + 1, j, i, p => adv_run t r (j + 1) i p
theorem adv_runs (t : SetTable) : ∀ (m i p : Nat), ∃ k, k ≤ 10 * m ∧ advN t k (runS t i p) = runS t (lpN t.mask i p m).1 (lpN t.mask i p m).2
 | 0, i, p => ⟨0, Nat.le_refl _, rfl⟩
 | m + 1, i, p => by
  have r9 : SetTable.runEnd t.mask i - i ≤ 9 := by unfold SetTable.runEnd; split <;> omega
  obtain ⟨k, h1, h2⟩ := adv_runs t m (SetTable.leap t.mask i p).1 (SetTable.leap t.mask i p).2
  refine ⟨(SetTable.runEnd t.mask i - i) + 1 + k, by omega, ?_⟩
  rw [advN_add]
  show advN t k (advN t _ { j := i, more := SetTable.runEnd t.mask i - i, i := i, perturb := p, dummy := none }) = _
  rw [adv_run t]
  exact h2
theorem bits_lt (h : Int) : SetTable.bits h < 2 ^ 64 := by
 unfold SetTable.bits
 omega
def cntS (l : List (Option Nat)) : Nat := (l.filterMap id).length
theorem cnt_set : ∀ (l : List (Option Nat)) (j k : Nat), l[j]? = some none → cntS (l.set j (some k)) = cntS l + 1
 | none :: l, 0, k, _ => by simp [cntS]
 | x :: l, j + 1, k, h => by
  have ih := cnt_set l j k h
  cases x <;> simp_all [cntS]
theorem free_some {mask : Nat} {ow : Array (Option Nat)} : ∀ (m fuel i p : Nat), m < fuel → i ≤ mask → ow[(lpN mask i p m).1]? = some none → ∃ j, SetTable.layClean.free mask ow fuel i p = some j ∧ ow[j]? = some none
 | m, fuel + 1, i, p, hk, hi, he => by
  unfold SetTable.layClean.free
  have gd : ∀ j, (ow.getD j (some 0)).isNone = true → ow[j]? = some none := fun j z => by
   cases q : ow[j]? with
   | none => rw [Array.getD_eq_getD_getElem?, q] at z; cases z
   | some x => rw [Array.getD_eq_getD_getElem?, q] at z; cases x with
    | none => rfl
    | some y => cases z
  cases q : (List.range (SetTable.runEnd mask i + 1 - i)).find? fun k => (ow.getD (i + k) (some 0)).isNone with
  | some k => exact ⟨i + k, rfl, gd _ (List.find?_some (p := fun k => (ow.getD (i + k) (some 0)).isNone) q)⟩
  | none =>
   dsimp only
   cases m with
   | zero =>
    have he : ow[i]? = some none := he
    have := List.find?_eq_none.mp q 0 (List.mem_range.mpr (by unfold SetTable.runEnd; split <;> omega))
    rw [Nat.add_zero, Array.getD_eq_getD_getElem?, he] at this
    simp at this
   | succ m => exact free_some m fuel _ _ (by omega) (Nat.le_of_lt_succ (Nat.mod_lt _ (Nat.succ_pos _))) he
theorem cnt_le : ∀ l : List (Option Nat), cntS l < l.length → ∃ q : Nat, l[q]? = some none
 | none :: l, _ => ⟨0, rfl⟩
 | some x :: l, h => by
  have h : cntS l + 1 < l.length + 1 := h
  obtain ⟨q, hq⟩ := cnt_le l (by omega)
  exact ⟨q + 1, hq⟩
theorem cnt_rep : ∀ n : Nat, cntS (List.replicate n none) = 0
 | 0 => rfl
 | n + 1 => cnt_rep n
structure Own (mask : Nat) (ow : Array (Option Nat)) (k : Nat) : Prop where
 s : ow.size = mask + 1
 c : cntS ow.toList = k
 v : ∀ (j x : Nat), ow[j]? = some (some x) → x < k
theorem own_step {mask : Nat} (hm : MaskOk mask) {ow : Array (Option Nat)} {k : Nat} (o : Own mask ow k) (hk : k ≤ mask) (h : Int) : ∃ j, SetTable.layClean.free mask ow (SetTable.turns mask) (SetTable.bits h % (mask + 1)) (SetTable.bits h) = some j ∧ Own mask (ow.setIfInBounds j (some k)) (k + 1) := by
 obtain ⟨q, hq⟩ := cnt_le ow.toList (by rw [o.c, Array.length_toList, o.s]; omega)
 rw [Array.getElem?_toList] at hq
 have q1 : q ≤ mask := by
  have := (Array.getElem?_eq_some_iff.mp hq).1
  rw [o.s] at this
  omega
 have i0 : SetTable.bits h % (mask + 1) ≤ mask := Nat.le_of_lt_succ (Nat.mod_lt _ (Nat.succ_pos _))
 obtain ⟨m, m1, m2⟩ := lp_cover hm i0 (bits_lt h) q1
 obtain ⟨j, j1, j2⟩ := free_some (mask := mask) (ow := ow) m (SetTable.turns mask) _ (SetTable.bits h) (by unfold SetTable.turns; omega) i0 (by rw [m2]; exact hq)
 have jl := (Array.getElem?_eq_some_iff.mp j2).1
 refine ⟨j, j1, by simp [o.s], ?_, fun a x z => ?_⟩
 ·rw [Array.toList_setIfInBounds, cnt_set _ _ _ (by rw [Array.getElem?_toList]; exact j2), o.c]
 ·rw [Array.getElem?_setIfInBounds] at z
  split at z
  ·cases z; omega
  ·have := o.v a x z; omega
theorem lay_fold {mask : Nat} (hm : MaskOk mask) : ∀ (hs : List Int) (ow : Array (Option Nat)) (k : Nat), Own mask ow k → k + hs.length ≤ mask → ∃ ow', hs.foldl (fun acc h => do
  let (owner, k) ← acc
  let j ← SetTable.layClean.free mask owner (SetTable.turns mask) (SetTable.bits h % (mask + 1)) (SetTable.bits h)
  pure (owner.setIfInBounds j (some k), k + 1)) (some (ow, k)) = some (ow', k + hs.length) ∧ Own mask ow' (k + hs.length)
 | [], ow, k, o, _ => ⟨ow, rfl, o⟩
 | h :: hs, ow, k, o, hk => by
  rw [List.length_cons] at hk
  obtain ⟨j, j1, j2⟩ := own_step hm o (by omega) h
  obtain ⟨ow', e, o'⟩ := lay_fold hm hs _ _ j2 (by omega)
  rw [show k + 1 + hs.length = k + (h :: hs).length by rw [List.length_cons]; omega] at e o'
  refine ⟨ow', ?_, o'⟩
  rw [List.foldl_cons, ← e]
  congr 1
  show (SetTable.layClean.free mask ow _ _ _).bind _ = _
  rw [j1]
  rfl
theorem lay_ok {mask : Nat} (hm : MaskOk mask) (hs : Array Int) (hk : hs.size ≤ mask) : ∃ ow, SetTable.layClean mask hs = some ow ∧ Own mask ow hs.size := by
 have o0 : Own mask (Array.replicate (mask + 1) none) 0 := ⟨by simp, by rw [Array.toList_replicate]; exact cnt_rep _, fun j x z => by
  rw [Array.getElem?_replicate] at z
  split at z <;> cases z⟩
 obtain ⟨ow, e, o⟩ := lay_fold hm hs.toList _ 0 o0 (by rw [Array.length_toList]; omega)
 rw [Array.length_toList, Nat.zero_add] at e o
 refine ⟨ow, ?_, o⟩
 unfold SetTable.layClean
 rw [← Array.foldl_toList]
 exact (congrArg (Option.map Prod.fst) e).trans rfl
theorem fm_len {α β : Type} {f : α → Option β} : ∀ {l : List α}, (∀ x ∈ l, (f x).isSome = true) → (l.filterMap f).length = l.length
 | [], _ => rfl
 | x :: l, h => by
  obtain ⟨y, hy⟩ := Option.isSome_iff_exists.mp (h x (.head _))
  rw [List.filterMap_cons, hy]
  dsimp only
  rw [List.length_cons, fm_len fun z hz => h z (.tail _ hz), List.length_cons]
theorem fm_pair {α : Type} (g : Nat → Option α) : ∀ l : List Nat, (l.filterMap fun j => (g j).map fun x => (j, x)).length = ((l.map g).filterMap id).length
 | [] => rfl
 | x :: l => by
  rw [List.filterMap_cons, List.map_cons, List.filterMap_cons]
  cases g x with
  | none => exact fm_pair g l
  | some y => exact congrArg Nat.succ (fm_pair g l)
theorem range_get (ow : Array (Option Nat)) : (List.range ow.size).map (fun j => ow.getD j none) = ow.toList := by
 apply List.ext_getElem
 ·simp
 ·intro i h1 h2
  have : i < ow.size := by simpa using h1
  simp [Array.getD, this]
theorem relaid_ok {t : SetTable} {es : Array (Int × Value)} {wanted : Nat} (hm : MaskOk (SetTable.sizeAbove wanted - 1)) (hk : es.size ≤ SetTable.sizeAbove wanted - 1) : ∃ t' order, t.relaid (es.map (·.1)) wanted = some (t', order) ∧ t'.mask = SetTable.sizeAbove wanted - 1 ∧ t'.dummies = #[] ∧ t'.place.size = es.size ∧ (order.filterMap (es[·]?)).size = es.size := by
 obtain ⟨ow, e, o⟩ := lay_ok hm (es.map (·.1)) (by rw [Array.size_map]; exact hk)
 rw [Array.size_map] at o
 have ll : ((List.range (SetTable.sizeAbove wanted - 1 + 1)).filterMap fun j => (ow.getD j none).map fun x => (j, x)).length = es.size := by
  rw [fm_pair, ← o.s, range_get]
  exact o.c
 unfold SetTable.relaid SetTable.laid
 rw [e]
 refine ⟨_, _, rfl, rfl, rfl, ?_, ?_⟩
 ·rw [List.size_toArray, List.length_map]
  exact ll
 ·rw [← Array.length_toList, Array.toList_filterMap, List.toList_toArray, fm_len fun x hx => ?_, List.length_map]
  ·exact ll
  ·obtain ⟨y, hy, rfl⟩ := List.mem_map.mp hx
   obtain ⟨j, _, hj⟩ := List.mem_filterMap.mp hy
   have : y.2 < es.size := by
    refine o.v j y.2 ?_
    cases q : ow[j]? with
    | none => rw [Array.getD_eq_getD_getElem?, q] at hj; cases hj
    | some x =>
     rw [Array.getD_eq_getD_getElem?, q] at hj
     cases x with
     | none => cases hj
     | some x => cases hj; rfl
   simp [this]
section
variable {prog : Program} {w : World} {A : Around} {E : Value → Shared → Prop} {s : Shared} {K : Type} [DecidableEq K] {knd : KeyKind prog w K}
end
section
variable {prog : Program} {w : World} {A : Around} {K : Type} [DecidableEq K] {knd : KeyKind prog w K} {R : Result → Shared → Prop} {I : Addr} {fp wr : List Addr} {G : Array GenState → Array GenState → Prop} {n : Nat} {P : Nat → Value → Prop} {St : Nat → Shared → Prop}
end
section
variable {prog : Program} {w : World} {A : Around} {E : Value → Shared → Prop} {s : Shared} {K : Type} [DecidableEq K] {knd : KeyKind prog w K}
def nSet (led : Bool) : Obj := { cls := .type "set", dict := none, data := .set #[] 0 (.fresh 0 0 led) }
theorem call_set1 {x : Value} {Q : Value → Shared → Prop}
  (h : ∀ led, wpAny (model prog w) A.in1.in1 (Builtin.«set.__init__» ⟨[.ref s.heap.objs.size, x], []⟩)
   (fun fin s' => match fin with | .done f => wants (fun r s₂ => r = .none ∧ Q (.ref s.heap.objs.size) s₂) E (.ok f) s' | .again c' => c'.quiet = true ∧ codeAny (model prog w) A.in1 c' (wants (fun r s₂ => r = .none ∧ Q (.ref s.heap.objs.size) s₂) E) s')
   (fun e s' => wants (fun r s₂ => r = .none ∧ Q (.ref s.heap.objs.size) s₂) E (.error e) s') { s with heap := s.heap.push (nSet led) }) :
  wpAny (model prog w) A (call (.type "set") [x]) Q E s := by
 have ft := F.called_set
 obtain ⟨c, tl, hmro⟩ := ft.mro
 have hmade := ft.made
 have hsub := ft.sub
 have h1 := ft.notType
 have h2 := ft.canCreate
 have hct := F.typeCall_set_1 x
 refine wpAny_call (codeAny_of_tree (wpAny_pure ⟨Code.quiet_builtin _ (by decide +kernel), codeAny_builtin F.entry_type_call ?_⟩))
 rw [Around.under_plain (weight_type_call_type "set" [x] []) rfl]
 repeat (any_goals (first | assumption | wp_step))
 refine codeAny_mono (code_set_new_1 x (E := E) (Q₁ := fun obj s₁ => ∃ led, obj = .ref s.heap.objs.size ∧ s₁ = { s with heap := s.heap.push (nSet led) }) fun led => ⟨led, rfl, rfl⟩) fun r s₁ hr => ?_
 cases r with
 | error e => exact hr
 | ok fl =>
  cases fl with
  | ret obj =>
   obtain ⟨led, rfl, rfl⟩ := hr
   have hT : Shared.TypeIs { s with heap := s.heap.push (nSet led) } (.ref s.heap.objs.size) "set" := ⟨_, Heap.get?_push_size _ rfl, rfl⟩
   have hli := ft.init.lookup
   have hbi := ft.init.bind (.ref s.heap.objs.size)
   repeat (any_goals (first | assumption | wp_step))
   refine codeAny_mono (codeAny_call_builtin ft.init.plain F.entry_set_init (check_set_init_1 hT (h led))) fun r₂ s₂ hr₂ => ?_
   cases r₂ with
   | error e => exact hr₂
   | ok f2 =>
    cases f2 with
    | ret u =>
     obtain ⟨rfl, hq⟩ := hr₂
     repeat (any_goals (first | assumption | wp_step))
    | _ => exact hr₂.elim
  | _ => exact hr.elim
end
section
variable {X : Cx}
end
end L2
namespace M
open PySem PySem.Spec PyProof.Rows L2
theorem reps_ints {K : PySem.W.Frag} {G : Hp} : ∀ {zs : List V} {k : List Int}, Reps K G zs (k.map .int) → zs = (k.map Sum.inl).map kV
 | [], [], _ => rfl
 | [], _ :: _, r => by cases r
 | _ :: _, [], r => by cases r
 | z :: zs, i :: k, .cons r t => by
  cases r
  rw [reps_ints t]
  rfl
end M

namespace HS
open PySem
theorem nd_len {α : Type} [DecidableEq α] : ∀ {l m : List α}, l.Nodup → (∀ x ∈ l, x ∈ m) → l.length ≤ m.length
 | [], m, _, _ => Nat.zero_le _
 | x :: l, m, h, s => by
  obtain ⟨h1, h2⟩ := List.nodup_cons.mp h
  have hx := s x (.head _)
  have q := nd_len (m := m.erase x) h2 fun y hy => (List.mem_erase_of_ne (show y ≠ x from fun z => h1 (by rw [← z]; exact hy))).mpr (s y (.tail _ hy))
  rw [List.length_erase_of_mem hx] at q
  have := List.length_pos_of_mem hx
  rw [List.length_cons]
  omega
def adv (mask : Nat) (p : SetTable.Probe) : SetTable.Probe := if p.more > 0 then { p with j := p.j + 1, more := p.more - 1 } else
 { p with j := (SetTable.leap mask p.i p.perturb).1, more := SetTable.runEnd mask (SetTable.leap mask p.i p.perturb).1 - (SetTable.leap mask p.i p.perturb).1, i := (SetTable.leap mask p.i p.perturb).1, perturb := (SetTable.leap mask p.i p.perturb).2 }
def runS (mask i p : Nat) : SetTable.Probe := { j := i, more := SetTable.runEnd mask i - i, i, perturb := p, dummy := none }
def pst (mask : Nat) (h : Int) : SetTable.Probe := runS mask (SetTable.bits h % (mask + 1)) (SetTable.bits h)
def advM (mask : Nat) : Nat → SetTable.Probe → SetTable.Probe
 | 0, p => p
 | k + 1, p => adv mask (advM mask k p)
def pth (mask : Nat) (h : Int) (k : Nat) : Nat := (advM mask k (pst mask h)).j
theorem adv_d (mask : Nat) (p : SetTable.Probe) : (adv mask p).dummy = p.dummy := by
 unfold adv
 split <;> rfl
theorem advM_d (mask : Nat) (p : SetTable.Probe) : ∀ k, (advM mask k p).dummy = p.dummy
 | 0 => rfl
 | k + 1 => (adv_d mask _).trans (advM_d mask p k)
theorem advM_add (mask : Nat) (p : SetTable.Probe) (a : Nat) : ∀ b, advM mask (a + b) p = advM mask b (advM mask a p)
 | 0 => rfl
 | b + 1 => congrArg (adv mask) (advM_add mask p a b)
theorem adv_in (mask i p : Nat) : ∀ r, r ≤ SetTable.runEnd mask i - i → advM mask r (runS mask i p) = { j := i + r, more := SetTable.runEnd mask i - i - r, i, perturb := p, dummy := none }
 | 0, _ => rfl
 | r + 1, h => by
  show adv mask (advM mask r (runS mask i p)) = _
  rw [adv_in mask i p r (by omega)]
  unfold adv
  rw [if_pos (show SetTable.runEnd mask i - i - r > 0 by omega)]
  congr 1
theorem adv_nx (mask i p : Nat) : advM mask (SetTable.runEnd mask i - i + 1) (runS mask i p) = runS mask (SetTable.leap mask i p).1 (SetTable.leap mask i p).2 := by
 show adv mask (advM mask (SetTable.runEnd mask i - i) (runS mask i p)) = _
 rw [adv_in mask i p _ (Nat.le_refl _)]
 unfold adv
 rw [if_neg (by simp)]
 rfl
theorem run9 (mask i : Nat) : SetTable.runEnd mask i - i ≤ 9 := by unfold SetTable.runEnd; split <;> omega
def lpN (mask : Nat) (i p : Nat) : Nat → Nat × Nat
 | 0 => (i, p)
 | m + 1 => lpN mask (SetTable.leap mask i p).1 (SetTable.leap mask i p).2 m
theorem lpN_add (mask : Nat) : ∀ (a b i p : Nat), lpN mask i p (a + b) = lpN mask (lpN mask i p a).1 (lpN mask i p a).2 b
 | 0, b, i, p => by rw [Nat.zero_add]; rfl
 | a + 1, b, i, p => by
  rw [Nat.succ_add]
  show lpN mask _ _ (a + b) = _
  rw [lpN_add mask a b]
  rfl
theorem lpN_2 (mask : Nat) : ∀ (m i p : Nat), (lpN mask i p m).2 = p / 32 ^ m
 | 0, i, p => by simp [lpN]
 | m + 1, i, p => by
  show (lpN mask _ (p / 32) m).2 = _
  rw [lpN_2 mask m, Nat.div_div_eq_div_mul, Nat.pow_succ, Nat.mul_comm]
theorem lpN_1 (mask : Nat) : ∀ (m i p : Nat), i ≤ mask → (lpN mask i p m).1 ≤ mask
 | 0, i, p, h => h
 | m + 1, i, p, _ => by
  show (lpN mask ((i * 5 + 1 + p / 32) % (mask + 1)) (p / 32) m).1 ≤ mask
  exact lpN_1 mask m _ _ (Nat.le_of_lt_succ (Nat.mod_lt _ (Nat.succ_pos _)))
theorem adv_runs (mask : Nat) : ∀ (m i p : Nat), ∃ k, k ≤ 10 * m ∧ advM mask k (runS mask i p) = runS mask (lpN mask i p m).1 (lpN mask i p m).2
 | 0, i, p => ⟨0, Nat.le_refl _, rfl⟩
 | m + 1, i, p => by
  have r9 := run9 mask i
  obtain ⟨k, h1, h2⟩ := adv_runs mask m (SetTable.leap mask i p).1 (SetTable.leap mask i p).2
  refine ⟨(SetTable.runEnd mask i - i) + 1 + k, by omega, ?_⟩
  rw [advM_add, adv_nx]
  exact h2
def orb (mask : Nat) : Nat → Nat → List Nat
 | 0, _ => []
 | n + 1, i => i :: orb mask n ((i * 5 + 1) % (mask + 1))
theorem orb_at (mask : Nat) : ∀ (n i q : Nat), q ∈ orb mask n i → ∃ m, m < n ∧ (lpN mask i 0 m).1 = q
 | n + 1, i, q, h => by
  rcases List.mem_cons.mp h with z | z
  ·exact ⟨0, Nat.succ_pos _, z.symm⟩
  ·obtain ⟨m, hm, e⟩ := orb_at mask n _ q z
   exact ⟨m + 1, Nat.succ_lt_succ hm, e⟩
def MOk (mask : Nat) : Prop := mask = 7 ∨ mask = 31 ∨ mask = 127
def bitsOf (l : List Nat) : Nat := l.foldl (fun a q => a ||| (1 <<< q)) 0
theorem bits_mem : ∀ (l : List Nat) (a q : Nat), (l.foldl (fun a q => a ||| (1 <<< q)) a).testBit q = true → a.testBit q = true ∨ q ∈ l
 | [], a, q, h => .inl h
 | x :: l, a, q, h => by
  rcases bits_mem l _ q h with z | z
  ·rw [Nat.testBit_or, Bool.or_eq_true] at z
   rcases z with z | z
   ·exact .inl z
   ·rw [Nat.one_shiftLeft, Nat.testBit_two_pow] at z
    exact .inr (by rw [← of_decide_eq_true z]; exact .head _)
  ·exact .inr (.tail _ z)
theorem orb_all {mask : Nat} (hm : MOk mask) {i q : Nat} (hi : i ≤ mask) (hq : q ≤ mask) : q ∈ orb mask (mask + 1) i := by
 have key : ∀ mask, MOk mask → (List.range (mask + 1)).all (fun i => Nat.beq (bitsOf (orb mask (mask + 1) i)) (2 ^ (mask + 1) - 1)) = true := by
  rintro _ (rfl | rfl | rfl) <;> decide +kernel
 have a := List.all_eq_true.mp (key mask hm) i (List.mem_range.mpr (Nat.lt_succ_of_le hi))
 have a := Nat.eq_of_beq_eq_true a
 have t : (bitsOf (orb mask (mask + 1) i)).testBit q = true := by
  rw [a, Nat.testBit_two_pow_sub_one]
  exact decide_eq_true (Nat.lt_succ_of_le hq)
 rcases bits_mem _ 0 q t with z | z
 ·rw [Nat.zero_testBit] at z
  cases z
 ·exact z
theorem bits_lt (h : Int) : SetTable.bits h < 2 ^ 64 := by
 unfold SetTable.bits
 omega
theorem lp_cover {mask : Nat} (hm : MOk mask) {i p q : Nat} (hi : i ≤ mask) (hp : p < 2 ^ 64) (hq : q ≤ mask) : ∃ m, m ≤ 13 + mask ∧ (lpN mask i p m).1 = q := by
 have e2 : (lpN mask i p 13).2 = 0 := by
  rw [lpN_2]
  exact Nat.div_eq_of_lt (Nat.lt_of_lt_of_le hp (by decide))
 obtain ⟨m, h1, h2⟩ := orb_at mask _ _ _ (orb_all hm (lpN_1 mask 13 i p hi) hq)
 refine ⟨13 + m, by omega, ?_⟩
 rw [lpN_add, e2]
 exact h2
theorem pth_cover {mask : Nat} (hm : MOk mask) (h : Int) {q : Nat} (hq : q ≤ mask) : ∃ k, k ≤ 10 * (13 + mask) ∧ pth mask h k = q := by
 obtain ⟨m, m1, m2⟩ := lp_cover hm (Nat.le_of_lt_succ (Nat.mod_lt (SetTable.bits h) (Nat.succ_pos mask))) (bits_lt h) hq
 obtain ⟨k, k1, k2⟩ := adv_runs mask m (SetTable.bits h % (mask + 1)) (SetTable.bits h)
 refine ⟨k, by omega, ?_⟩
 show (advM mask k (runS mask _ _)).j = q
 rw [k2]
 exact m2
theorem miss {mask : Nat} {l : List Nat} (h : l.length ≤ mask) : ∃ q, q ≤ mask ∧ q ∉ l := by
 by_cases z : ∀ q ∈ List.range (mask + 1), q ∈ l
 ·have := nd_len List.nodup_range z
  rw [List.length_range] at this
  omega
 ·obtain ⟨q, hq⟩ := Classical.not_forall.mp z
  obtain ⟨h1, h2⟩ := Classical.not_imp.mp hq
  exact ⟨q, Nat.le_of_lt_succ (List.mem_range.mp h1), h2⟩
def Ris (xs : Array Nat) : Prop := ∀ (i j a b : Nat), i < j → xs[i]? = some a → xs[j]? = some b → a < b
theorem below_go (xs : Array Nat) (j : Nat) (hr : Ris xs) : ∀ (fuel lo hi : Nat), hi - lo ≤ fuel → lo ≤ hi → hi ≤ xs.size → (∀ i a, i < lo → xs[i]? = some a → a < j) → (∀ i a, hi ≤ i → xs[i]? = some a → j ≤ a) →
  SetTable.below.go xs j fuel lo hi ≤ xs.size ∧ (∀ i a, i < SetTable.below.go xs j fuel lo hi → xs[i]? = some a → a < j) ∧ (∀ i a, SetTable.below.go xs j fuel lo hi ≤ i → xs[i]? = some a → j ≤ a)
 | 0, lo, hi, hf, h1, h2, h3, h4 => by
  have : lo = hi := by omega
  subst this
  exact ⟨h2, h3, h4⟩
 | fuel + 1, lo, hi, hf, h1, h2, h3, h4 => by
  unfold SetTable.below.go
  by_cases z : lo < hi
  ·rw [if_pos z]
   dsimp only
   have m1 : lo ≤ (lo + hi) / 2 := by omega
   have m2 : (lo + hi) / 2 < hi := by omega
   have m3 : (lo + hi) / 2 < xs.size := by omega
   have g : xs.getD ((lo + hi) / 2) j = xs[(lo + hi) / 2] := by simp [Array.getD, m3]
   rw [g]
   have gm : xs[(lo + hi) / 2]? = some xs[(lo + hi) / 2] := Array.getElem?_eq_getElem m3
   by_cases y : xs[(lo + hi) / 2] < j
   ·rw [if_pos y]
    refine below_go xs j hr fuel _ _ (by omega) (by omega) h2 (fun i a hi' e => ?_) h4
    rcases Nat.lt_or_ge i ((lo + hi) / 2) with w | w
    ·exact Nat.lt_trans (hr _ _ _ _ w e gm) y
    ·have : i = (lo + hi) / 2 := by omega
     subst this
     rw [gm] at e
     cases e
     exact y
   ·rw [if_neg y]
    refine below_go xs j hr fuel _ _ (by omega) (by omega) (by omega) h3 (fun i a hi' e => ?_)
    rcases Nat.lt_or_ge ((lo + hi) / 2) i with w | w
    ·have := hr _ _ _ _ w gm e
     omega
    ·have : i = (lo + hi) / 2 := by omega
     subst this
     rw [gm] at e
     cases e
     omega
  ·rw [if_neg z]
   have : lo = hi := by omega
   subst this
   exact ⟨h2, h3, h4⟩
theorem below_ok {xs : Array Nat} (hr : Ris xs) (j : Nat) : SetTable.below xs j ≤ xs.size ∧ (∀ i a, i < SetTable.below xs j → xs[i]? = some a → a < j) ∧ (∀ i a, SetTable.below xs j ≤ i → xs[i]? = some a → j ≤ a) := by
 unfold SetTable.below
 refine below_go xs j hr _ _ _ (Nat.le_refl _) (Nat.zero_le _) (Nat.le_refl _) (fun i a h => absurd h (Nat.not_lt_zero _)) (fun i a h e => ?_)
 rw [Array.getElem?_eq_none h] at e
 cases e
theorem slot_in {t : SetTable} (hr : Ris t.place) {j : Nat} (h : j ∈ t.place.toList) : ∃ i, t.slot j = .live i ∧ t.place[i]? = some j := by
 obtain ⟨i, hi⟩ := List.mem_iff_getElem?.mp h
 rw [Array.getElem?_toList] at hi
 obtain ⟨b1, b2, b3⟩ := below_ok hr j
 have e : SetTable.below t.place j = i := by
  rcases Nat.lt_trichotomy (SetTable.below t.place j) i with z | z | z
  ·have hb : SetTable.below t.place j < t.place.size := Nat.lt_trans z (Array.getElem?_eq_some_iff.mp hi).1
   have a := b3 _ _ (Nat.le_refl _) (Array.getElem?_eq_getElem hb)
   have b := hr _ _ _ _ z (Array.getElem?_eq_getElem hb) hi
   omega
  ·exact z
  ·have := b2 i j z hi
   omega
 refine ⟨i, ?_, hi⟩
 unfold SetTable.slot
 dsimp only
 rw [e, if_pos (by rw [hi]; exact beq_self_eq_true _)]
theorem slot_out {t : SetTable} (hd : t.dummies = #[]) {j : Nat} (h : j ∉ t.place.toList) : t.slot j = .empty := by
 unfold SetTable.slot SetTable.has
 rw [hd]
 dsimp only
 have : (t.place[SetTable.below t.place j]? == some j) = false := by
  rw [beq_eq_false_iff_ne]
  exact fun z => h (Array.mem_toList_iff.mpr (Array.mem_of_getElem? z))
 rw [this]
 simp
theorem ins_toList {α : Type} (xs : Array α) (p : Nat) (x : α) : (SetTable.insertAt xs p x).toList = xs.toList.take p ++ x :: xs.toList.drop p := by
 unfold SetTable.insertAt
 simp
 exact List.take_of_length_le (by simp)
theorem ris_list {xs : Array Nat} (h : xs.toList.Pairwise (· < ·)) : Ris xs := fun i j a b hij hi hj => by
 rw [← Array.getElem?_toList] at hi hj
 obtain ⟨h1, e1⟩ := List.getElem?_eq_some_iff.mp hi
 obtain ⟨h2, e2⟩ := List.getElem?_eq_some_iff.mp hj
 rw [← e1, ← e2]
 exact List.pairwise_iff_getElem.mp h i j h1 h2 hij
theorem list_ris {xs : Array Nat} (h : Ris xs) : xs.toList.Pairwise (· < ·) := List.pairwise_iff_getElem.mpr fun i j h1 h2 hij => h i j _ _ hij (by rw [← Array.getElem?_toList]; exact List.getElem?_eq_getElem h1) (by rw [← Array.getElem?_toList]; exact List.getElem?_eq_getElem h2)
theorem ris_ins {xs : Array Nat} (hr : Ris xs) {j : Nat} (h : j ∉ xs.toList) : Ris (SetTable.insertAt xs (SetTable.below xs j) j) := by
 obtain ⟨b1, b2, b3⟩ := below_ok hr j
 have l := list_ris hr
 refine ris_list ?_
 rw [ins_toList]
 have lo : ∀ a ∈ xs.toList.take (SetTable.below xs j), a < j := fun a ha => by
  obtain ⟨i, hi⟩ := List.mem_iff_getElem?.mp ha
  rw [List.getElem?_take] at hi
  split at hi
  ·rename_i z
   rw [Array.getElem?_toList] at hi
   exact b2 i a z hi
  ·cases hi
 have hi : ∀ a ∈ xs.toList.drop (SetTable.below xs j), j < a := fun a ha => by
  obtain ⟨i, hi⟩ := List.mem_iff_getElem?.mp ha
  rw [List.getElem?_drop, Array.getElem?_toList] at hi
  have := b3 _ a (Nat.le_add_right _ _) hi
  have ne : a ≠ j := fun z => h (z ▸ List.mem_of_mem_drop ha)
  omega
 rw [List.pairwise_append]
 refine ⟨List.Pairwise.sublist (List.take_sublist _ _) l, List.pairwise_cons.mpr ⟨hi, List.Pairwise.sublist (List.drop_sublist _ _) l⟩, fun a ha b hb => ?_⟩
 rcases List.mem_cons.mp hb with z | z
 ·rw [z]; exact lo a ha
 ·exact Nat.lt_trans (lo a ha) (hi b z)
theorem go_ok {t : SetTable} (hd : t.dummies = #[]) (hr : Ris t.place) {f : Nat → Int} {h : Int} : ∀ (n fuel k : Nat), n < fuel → (pth t.mask h (k + n) ∉ t.place.toList ∨ ∃ i, t.place[i]? = some (pth t.mask h (k + n)) ∧ f i = h) →
  (∃ k', k ≤ k' ∧ k' ≤ k + n ∧ pth t.mask h k' ∉ t.place.toList ∧ (∀ q, k ≤ q → q < k' → ∃ i, t.place[i]? = some (pth t.mask h q) ∧ f i ≠ h) ∧ SetTable.probe.go t f h fuel (advM t.mask k (pst t.mask h)) = some (.empty (pth t.mask h k') none)) ∨
  (∃ k' i, k ≤ k' ∧ k' ≤ k + n ∧ t.place[i]? = some (pth t.mask h k') ∧ f i = h ∧ (∀ q, k ≤ q → q < k' → ∃ i, t.place[i]? = some (pth t.mask h q) ∧ f i ≠ h) ∧ SetTable.probe.go t f h fuel (advM t.mask k (pst t.mask h)) = some (.candidate (pth t.mask h k') i (advM t.mask (k' + 1) (pst t.mask h))))
 | n, fuel + 1, k, hn, he => by
  unfold SetTable.probe.go
  by_cases z : pth t.mask h k ∈ t.place.toList
  ·obtain ⟨i, s1, s2⟩ := slot_in hr z
   have s1 : t.slot (advM t.mask k (pst t.mask h)).j = .live i := s1
   rw [s1]
   dsimp only
   by_cases y : f i = h
   ·rw [if_pos (by rw [beq_iff_eq]; exact y)]
    exact .inr ⟨k, i, Nat.le_refl _, Nat.le_add_right _ _, s2, y, fun q h1 h2 => by omega, rfl⟩
   ·rw [if_neg (by rw [beq_iff_eq]; exact y)]
    cases n with
    | zero =>
     rcases he with e | ⟨i', e1, e2⟩
     ·exact absurd z e
     ·have : i = i' := by
       rcases Nat.lt_trichotomy i i' with w | w | w
       ·exact absurd (hr _ _ _ _ w s2 e1) (Nat.lt_irrefl _)
       ·exact w
       ·exact absurd (hr _ _ _ _ w e1 s2) (Nat.lt_irrefl _)
      rw [this] at y
      exact absurd e2 y
    | succ n =>
     have ad : t.advance (advM t.mask k (pst t.mask h)) = advM t.mask (k + 1) (pst t.mask h) := rfl
     rw [ad]
     have ek : k + 1 + n = k + (n + 1) := by omega
     rcases go_ok hd hr n fuel (k + 1) (by omega) (by rw [ek]; exact he) with ⟨k', a1, a2, a3, a4, a5⟩ | ⟨k', i', a1, a2, a3, a4, a5, a6⟩
     ·refine .inl ⟨k', by omega, by omega, a3, fun q h1 h2 => ?_, a5⟩
      rcases Nat.lt_or_ge k q with w | w
      ·exact a4 q w h2
      ·have : q = k := by omega
       rw [this]; exact ⟨i, s2, y⟩
     ·refine .inr ⟨k', i', by omega, by omega, a3, a4, fun q h1 h2 => ?_, a6⟩
      rcases Nat.lt_or_ge k q with w | w
      ·exact a5 q w h2
      ·have : q = k := by omega
       rw [this]; exact ⟨i, s2, y⟩
  ·have s1 : t.slot (advM t.mask k (pst t.mask h)).j = .empty := slot_out hd z
   rw [s1]
   dsimp only
   rw [advM_d]
   exact .inl ⟨k, Nat.le_refl _, Nat.le_add_right _ _, z, fun q h1 h2 => by omega, rfl⟩
structure Tab (t : SetTable) (hs : List Int) : Prop where
 d : t.dummies = #[]
 m : MOk t.mask
 r : Ris t.place
 s : t.place.size = hs.length
 z : hs.length ≤ t.mask
 p : ∀ (i : Nat) h j, hs[i]? = some h → t.place[i]? = some j → ∃ k, k ≤ 10 * (13 + t.mask) ∧ pth t.mask h k = j ∧ ∀ q, q < k → pth t.mask h q ∈ t.place.toList
theorem put_place (t : SetTable) (j : Nat) : (t.put j).1.place = SetTable.insertAt t.place (SetTable.below t.place j) j ∧ (t.put j).2 = SetTable.below t.place j := ⟨rfl, rfl⟩
theorem put_dum {t : SetTable} (hd : t.dummies = #[]) (j : Nat) : (t.put j).1.dummies = #[] := by
 unfold SetTable.put
 rw [hd]
 rfl
theorem Tab.put {t : SetTable} {hs : List Int} (T : Tab t hs) {h : Int} {k : Nat} (hk : k ≤ 10 * (13 + t.mask)) (hn : pth t.mask h k ∉ t.place.toList) (hp : ∀ q, q < k → pth t.mask h q ∈ t.place.toList) (hz : hs.length + 1 ≤ t.mask) :
  Tab (t.put (pth t.mask h k)).1 (hs.take (t.put (pth t.mask h k)).2 ++ h :: hs.drop (t.put (pth t.mask h k)).2) := by
 obtain ⟨b1, _, _⟩ := below_ok T.r (pth t.mask h k)
 have pl := (put_place t (pth t.mask h k)).1
 have pe := (put_place t (pth t.mask h k)).2
 have sub : ∀ x ∈ t.place.toList, x ∈ (t.put (pth t.mask h k)).1.place.toList := fun x hx => by
  rw [pl, ins_toList]
  rw [← List.take_append_drop (SetTable.below t.place (pth t.mask h k)) t.place.toList] at hx
  rcases List.mem_append.mp hx with z | z
  ·exact List.mem_append_left _ z
  ·exact List.mem_append_right _ (.tail _ z)
 have lt : (hs.take (t.put (pth t.mask h k)).2).length = SetTable.below t.place (pth t.mask h k) := by
  rw [pe, List.length_take]
  have := T.s
  omega
 have lp : (t.place.toList.take (SetTable.below t.place (pth t.mask h k))).length = SetTable.below t.place (pth t.mask h k) := by
  rw [List.length_take, Array.length_toList]
  omega
 refine ⟨put_dum T.d _, T.m, by rw [pl]; exact ris_ins T.r hn, ?_, ?_, fun i h' j e1 e2 => ?_⟩
 ·rw [← Array.length_toList, pl, ins_toList, List.length_append, List.length_append, List.length_cons, List.length_cons, lp, lt, List.length_drop, List.length_drop, Array.length_toList, pe, T.s]
 ·rw [List.length_append, List.length_cons, lt, List.length_drop, pe]
  have := T.s
  show _ ≤ t.mask
  omega
 ·have up : ∀ {h' j}, (∃ k, k ≤ 10 * (13 + t.mask) ∧ pth t.mask h' k = j ∧ ∀ q, q < k → pth t.mask h' q ∈ t.place.toList) → ∃ k', k' ≤ 10 * (13 + t.mask) ∧ pth t.mask h' k' = j ∧ ∀ q, q < k' → pth t.mask h' q ∈ (t.put (pth t.mask h k)).1.place.toList := fun ⟨k', a, b, c⟩ => ⟨k', a, b, fun q hq => sub _ (c q hq)⟩
  rw [← Array.getElem?_toList, pl, ins_toList] at e2
  rcases Nat.lt_trichotomy i (SetTable.below t.place (pth t.mask h k)) with z | z | z
  ·rw [List.getElem?_append_left (by rw [lt]; exact z), List.getElem?_take] at e1
   rw [List.getElem?_append_left (by rw [lp]; exact z), List.getElem?_take] at e2
   rw [pe, if_pos z] at e1
   rw [if_pos z, Array.getElem?_toList] at e2
   exact up (T.p i h' j e1 e2)
  ·rw [List.getElem?_append_right (by rw [lt]; omega), lt, z, Nat.sub_self] at e1
   rw [List.getElem?_append_right (by rw [lp]; omega), lp, z, Nat.sub_self] at e2
   cases e1
   cases e2
   exact ⟨k, hk, rfl, fun q hq => sub _ (hp q hq)⟩
  ·rw [List.getElem?_append_right (by rw [lt]; omega), lt] at e1
   rw [List.getElem?_append_right (by rw [lp]; omega), lp] at e2
   obtain ⟨d, hd⟩ : ∃ d, i - SetTable.below t.place (pth t.mask h k) = d + 1 := ⟨i - SetTable.below t.place (pth t.mask h k) - 1, by omega⟩
   rw [hd, List.getElem?_cons_succ, List.getElem?_drop] at e1 e2
   rw [pe] at e1
   rw [Array.getElem?_toList] at e2
   exact up (T.p _ h' j e1 e2)
def cntS (l : List (Option Nat)) : Nat := (l.filterMap id).length
theorem cnt_set : ∀ (l : List (Option Nat)) (j k : Nat), l[j]? = some none → cntS (l.set j (some k)) = cntS l + 1
 | none :: l, 0, k, _ => by simp [cntS]
 | x :: l, j + 1, k, h => by
  have ih := cnt_set l j k h
  cases x <;> simp_all [cntS]
theorem cnt_le : ∀ l : List (Option Nat), cntS l < l.length → ∃ q : Nat, l[q]? = some none
 | none :: l, _ => ⟨0, rfl⟩
 | some x :: l, h => by
  have h : cntS l + 1 < l.length + 1 := h
  obtain ⟨q, hq⟩ := cnt_le l (by omega)
  exact ⟨q + 1, hq⟩
theorem cnt_rep : ∀ n : Nat, cntS (List.replicate n none) = 0
 | 0 => rfl
 | n + 1 => cnt_rep n
def Occ (ow : Array (Option Nat)) (j : Nat) : Prop := ∃ y, ow[j]? = some (some y)
theorem free_path {mask : Nat} {ow : Array (Option Nat)} (hs : ow.size = mask + 1) {h : Int} : ∀ (m fuel i p b : Nat), m < fuel → i ≤ mask → advM mask b (pst mask h) = runS mask i p → (∀ q, q < b → Occ ow (pth mask h q)) → ow[(lpN mask i p m).1]? = some none →
  ∃ j n, SetTable.layClean.free mask ow fuel i p = some j ∧ ow[j]? = some none ∧ n ≤ b + 10 * m ∧ pth mask h n = j ∧ ∀ q, q < n → Occ ow (pth mask h q)
 | m, fuel + 1, i, p, b, hk, hi, hb, hq, he => by
  unfold SetTable.layClean.free
  have rl : SetTable.runEnd mask i ≤ mask ∧ i ≤ SetTable.runEnd mask i := by unfold SetTable.runEnd; split <;> omega
  have r9 := run9 mask i
  have gd : ∀ j, (ow.getD j (some 0)).isNone = true → ow[j]? = some none := fun j z => by
   cases q : ow[j]? with
   | none => rw [Array.getD_eq_getD_getElem?, q] at z; cases z
   | some x => rw [Array.getD_eq_getD_getElem?, q] at z; cases x with
    | none => rfl
    | some y => cases z
  have go : ∀ j, j ≤ mask → ¬ ((ow.getD j (some 0)).isNone = true) → Occ ow j := fun j hj z => by
   have hl : j < ow.size := by omega
   cases q : ow[j]? with
   | none => rw [Array.getElem?_eq_getElem hl] at q; cases q
   | some x =>
    cases x with
    | none => rw [Array.getD_eq_getD_getElem?, q] at z; exact absurd rfl z
    | some y => exact ⟨y, q⟩
  have at' : ∀ r, r ≤ SetTable.runEnd mask i - i → pth mask h (b + r) = i + r := fun r hr => by
   show (advM mask (b + r) (pst mask h)).j = _
   rw [advM_add, hb, adv_in mask i p r hr]
  cases q : (List.range (SetTable.runEnd mask i + 1 - i)).find? fun k => (ow.getD (i + k) (some 0)).isNone with
  | some k =>
   obtain ⟨z1, as, bs, e1, e2⟩ := List.find?_eq_some_iff_append.mp q
   have hkr : k < SetTable.runEnd mask i + 1 - i := List.mem_range.mp (List.mem_of_find?_eq_some q)
   have bef : ∀ r, r < k → Occ ow (i + r) := fun r hr => by
    refine go _ (by omega) fun w => ?_
    have hm : r ∈ List.range (SetTable.runEnd mask i + 1 - i) := List.mem_range.mpr (by omega)
    rw [e1] at hm
    rcases List.mem_append.mp hm with y | y
    ·have := e2 r y
     rw [w] at this
     cases this
    ·have srt : (as ++ k :: bs).Pairwise (· < ·) := by rw [← e1]; exact List.pairwise_lt_range
     have := (List.pairwise_append.mp srt).2.1
     rcases List.mem_cons.mp y with x | x
     ·omega
     ·have := (List.pairwise_cons.mp this).1 r x
      omega
   refine ⟨i + k, b + k, rfl, gd _ z1, ?_, at' k (by omega), fun r hr => ?_⟩
   ·cases m with
    | zero =>
     have he : ow[i]? = some none := he
     rcases Nat.eq_zero_or_pos k with y | y
     ·omega
     ·obtain ⟨x, hx⟩ := bef 0 y
      rw [Nat.add_zero, he] at hx
      cases hx
    | succ m => omega
   ·rcases Nat.lt_or_ge r b with y | y
    ·exact hq r y
    ·have := bef (r - b) (by omega)
     have a := at' (r - b) (by omega)
     rw [show b + (r - b) = r by omega] at a
     rw [a]
     exact this
  | none =>
   dsimp only
   have all : ∀ r, r ≤ SetTable.runEnd mask i - i → Occ ow (i + r) := fun r hr => go _ (by omega) fun w => by
    exact List.find?_eq_none.mp q r (List.mem_range.mpr (by omega)) w
   cases m with
   | zero =>
    have he : ow[i]? = some none := he
    obtain ⟨x, hx⟩ := all 0 (Nat.zero_le _)
    rw [Nat.add_zero, he] at hx
    cases hx
   | succ m =>
    have hb' : advM mask (b + (SetTable.runEnd mask i - i + 1)) (pst mask h) = runS mask (SetTable.leap mask i p).1 (SetTable.leap mask i p).2 := by
     rw [advM_add, hb, adv_nx]
    obtain ⟨j, n, f1, f2, f3, f4, f5⟩ := free_path hs m fuel _ _ _ (by omega) (Nat.le_of_lt_succ (Nat.mod_lt _ (Nat.succ_pos _))) hb' (fun r hr => by
     rcases Nat.lt_or_ge r b with y | y
     ·exact hq r y
     ·have a := at' (r - b) (by omega)
      rw [show b + (r - b) = r by omega] at a
      rw [a]
      exact all (r - b) (by omega)) he
    exact ⟨j, n, f1, f2, by omega, f4, f5⟩
structure Ly (mask : Nat) (ow : Array (Option Nat)) (hs : List Int) (k : Nat) : Prop where
 s : ow.size = mask + 1
 c : cntS ow.toList = k
 v : ∀ (j x : Nat), ow[j]? = some (some x) → x < k
 i : ∀ (j j' x : Nat), ow[j]? = some (some x) → ow[j']? = some (some x) → j = j'
 p : ∀ (j x : Nat) h, ow[j]? = some (some x) → hs[x]? = some h → ∃ n, n ≤ 10 * (13 + mask) ∧ pth mask h n = j ∧ ∀ q, q < n → Occ ow (pth mask h q)
theorem ly_step {mask : Nat} (hm : MOk mask) {ow : Array (Option Nat)} {hs : List Int} {k : Nat} (o : Ly mask ow hs k) (hk : k ≤ mask) {h : Int} (hh : hs[k]? = some h) : ∃ j, SetTable.layClean.free mask ow (SetTable.turns mask) (SetTable.bits h % (mask + 1)) (SetTable.bits h) = some j ∧ Ly mask (ow.setIfInBounds j (some k)) hs (k + 1) := by
 obtain ⟨q, hq⟩ := cnt_le ow.toList (by rw [o.c, Array.length_toList, o.s]; omega)
 rw [Array.getElem?_toList] at hq
 have q1 : q ≤ mask := by
  have := (Array.getElem?_eq_some_iff.mp hq).1
  rw [o.s] at this
  omega
 have i0 : SetTable.bits h % (mask + 1) ≤ mask := Nat.le_of_lt_succ (Nat.mod_lt _ (Nat.succ_pos _))
 obtain ⟨m, m1, m2⟩ := lp_cover hm i0 (bits_lt h) q1
 obtain ⟨j, n, j1, j2, j3, j4, j5⟩ := free_path (mask := mask) o.s (h := h) m (SetTable.turns mask) _ (SetTable.bits h) 0 (by unfold SetTable.turns; omega) i0 rfl (fun q hq => absurd hq (Nat.not_lt_zero _)) (by rw [m2]; exact hq)
 have jl := (Array.getElem?_eq_some_iff.mp j2).1
 have get : ∀ a, (ow.setIfInBounds j (some k))[a]? = if j = a then some (some k) else ow[a]? := fun a => by
  rw [Array.getElem?_setIfInBounds]
  split
  ·rfl
  ·rfl
 have up : ∀ a, Occ ow a → Occ (ow.setIfInBounds j (some k)) a := fun a ⟨y, hy⟩ => by
  by_cases z : j = a
  ·exact ⟨k, by rw [get, if_pos z]⟩
  ·exact ⟨y, by rw [get, if_neg z]; exact hy⟩
 refine ⟨j, j1, by simp [o.s], ?_, fun a x z => ?_, fun a a' x z z' => ?_, fun a x h' z e => ?_⟩
 ·rw [Array.toList_setIfInBounds, cnt_set _ _ _ (by rw [Array.getElem?_toList]; exact j2), o.c]
 ·rw [get] at z
  split at z
  ·cases z; omega
  ·have := o.v a x z; omega
 ·rw [get] at z z'
  split at z
  ·split at z'
   ·omega
   ·cases z
    exact absurd (o.v a' k z') (Nat.lt_irrefl _)
  ·split at z'
   ·cases z'
    exact absurd (o.v a k z) (Nat.lt_irrefl _)
   ·exact o.i a a' x z z'
 ·rw [get] at z
  split at z
  ·rename_i y
   cases z
   rw [hh] at e
   cases e
   exact ⟨n, by omega, by rw [j4, y], fun q hq => up _ (j5 q hq)⟩
  ·obtain ⟨n', a1, a2, a3⟩ := o.p a x h' z e
   exact ⟨n', a1, a2, fun q hq => up _ (a3 q hq)⟩
theorem ly_fold {mask : Nat} (hm : MOk mask) {hs : List Int} : ∀ (l : List Int) (ow : Array (Option Nat)) (k : Nat), Ly mask ow hs k → k + l.length ≤ mask → (∀ i, l[i]? = hs[k + i]?) → ∃ ow', l.foldl (fun acc h => do
  let (owner, k) ← acc
  let j ← SetTable.layClean.free mask owner (SetTable.turns mask) (SetTable.bits h % (mask + 1)) (SetTable.bits h)
  pure (owner.setIfInBounds j (some k), k + 1)) (some (ow, k)) = some (ow', k + l.length) ∧ Ly mask ow' hs (k + l.length)
 | [], ow, k, o, _, _ => ⟨ow, rfl, o⟩
 | h :: l, ow, k, o, hk, hl => by
  rw [List.length_cons] at hk
  obtain ⟨j, j1, j2⟩ := ly_step hm o (by omega) (h := h) (hl 0).symm
  obtain ⟨ow', e, o'⟩ := ly_fold hm l _ _ j2 (by omega) (fun i => by
   have := hl (i + 1)
   rw [show k + 1 + i = k + (i + 1) by omega]
   exact this)
  rw [show k + 1 + l.length = k + (h :: l).length by rw [List.length_cons]; omega] at e o'
  refine ⟨ow', ?_, o'⟩
  rw [List.foldl_cons, ← e]
  congr 1
  show (SetTable.layClean.free mask ow _ _ _).bind _ = _
  rw [j1]
  rfl
theorem ly_ok {mask : Nat} (hm : MOk mask) (hs : Array Int) (hk : hs.size ≤ mask) : ∃ ow, SetTable.layClean mask hs = some ow ∧ Ly mask ow hs.toList hs.size := by
 have o0 : Ly mask (Array.replicate (mask + 1) none) hs.toList 0 := by
  have no : ∀ (j x : Nat), (Array.replicate (mask + 1) (none : Option Nat))[j]? ≠ some (some x) := fun j x z => by
   rw [Array.getElem?_replicate] at z
   split at z <;> cases z
  exact ⟨by simp, by rw [Array.toList_replicate]; exact cnt_rep _, fun j x z => absurd z (no j x), fun j _ x z => absurd z (no j x), fun j x _ z => absurd z (no j x)⟩
 obtain ⟨ow, e, o⟩ := ly_fold hm hs.toList _ 0 o0 (by rw [Array.length_toList]; omega) (fun i => by rw [Nat.zero_add])
 rw [Array.length_toList, Nat.zero_add] at e o
 refine ⟨ow, ?_, o⟩
 unfold SetTable.layClean
 rw [← Array.foldl_toList]
 exact (congrArg (Option.map Prod.fst) e).trans rfl
theorem fm_len {α β : Type} {f : α → Option β} : ∀ {l : List α}, (∀ x ∈ l, (f x).isSome = true) → (l.filterMap f).length = l.length
 | [], _ => rfl
 | x :: l, h => by
  obtain ⟨y, hy⟩ := Option.isSome_iff_exists.mp (h x (.head _))
  rw [List.filterMap_cons, hy]
  dsimp only
  rw [List.length_cons, fm_len fun z hz => h z (.tail _ hz), List.length_cons]
theorem fm_get {α β : Type} {f : α → Option β} : ∀ {l : List α} (i : Nat), (∀ x ∈ l, (f x).isSome = true) → (l.filterMap f)[i]? = (l[i]?).bind f
 | [], i, _ => by simp
 | x :: l, i, h => by
  obtain ⟨y, hy⟩ := Option.isSome_iff_exists.mp (h x (.head _))
  rw [List.filterMap_cons, hy]
  dsimp only
  cases i with
  | zero => simp [hy]
  | succ i =>
   rw [List.getElem?_cons_succ, List.getElem?_cons_succ]
   exact fm_get i fun z hz => h z (.tail _ hz)
theorem fm_fst {α : Type} (g : Nat → Option α) : ∀ l : List Nat, (l.filterMap fun j => (g j).map fun x => (j, x)).map Prod.fst = l.filter fun j => (g j).isSome
 | [] => rfl
 | x :: l => by
  rw [List.filterMap_cons, List.filter_cons]
  cases g x with
  | none => exact fm_fst g l
  | some y => exact congrArg (x :: ·) (fm_fst g l)
theorem fm_pair {α : Type} (g : Nat → Option α) : ∀ l : List Nat, (l.filterMap fun j => (g j).map fun x => (j, x)).length = ((l.map g).filterMap id).length
 | [] => rfl
 | x :: l => by
  rw [List.filterMap_cons, List.map_cons, List.filterMap_cons]
  cases g x with
  | none => exact fm_pair g l
  | some y => exact congrArg Nat.succ (fm_pair g l)
theorem range_get (ow : Array (Option Nat)) : (List.range ow.size).map (fun j => ow.getD j none) = ow.toList := by
 apply List.ext_getElem
 ·simp
 ·intro i h1 h2
  have : i < ow.size := by simpa using h1
  simp [Array.getD, this]
theorem perm_rng {l : List Nat} {n : Nat} (nd : l.Nodup) (hl : l.length = n) (hb : ∀ x ∈ l, x < n) : l.Perm (List.range n) := by
 have key : ∀ {l m : List Nat}, l.Nodup → (∀ x ∈ l, x ∈ m) → m.length ≤ l.length → l.Perm m := by
  intro l
  induction l with
  | nil =>
   intro m _ _ h
   have : m = [] := List.length_eq_zero_iff.mp (by simpa using h)
   rw [this]
  | cons x l ih =>
   intro m h s hl
   obtain ⟨h1, h2⟩ := List.nodup_cons.mp h
   have hx := s x (.head _)
   have q := ih (m := m.erase x) h2 (fun y hy => (List.mem_erase_of_ne (show y ≠ x from fun z => h1 (by rw [← z]; exact hy))).mpr (s y (.tail _ hy))) (by rw [List.length_erase_of_mem hx]; rw [List.length_cons] at hl; omega)
   exact (q.cons x).trans (List.perm_cons_erase hx).symm
 exact key nd (fun x hx => List.mem_range.mpr (hb x hx)) (by rw [List.length_range, hl]; exact Nat.le_refl _)
theorem relaid_ok {t : SetTable} {hs : List Int} {wanted : Nat} (hm : MOk (SetTable.sizeAbove wanted - 1)) (hk : hs.length ≤ SetTable.sizeAbove wanted - 1) : ∃ t' order, t.relaid hs.toArray wanted = some (t', order) ∧ t'.mask = SetTable.sizeAbove wanted - 1 ∧ t'.led = t.led ∧ t'.plain = t.plain ∧ order.toList.Perm (List.range hs.length) ∧ Tab t' (order.toList.filterMap (hs[·]?)) := by
 obtain ⟨ow, e, o⟩ := ly_ok hm hs.toArray (by rw [List.size_toArray]; exact hk)
 rw [List.size_toArray] at o
 generalize hM : SetTable.sizeAbove wanted - 1 = mask at *
 have hL : ∀ y, y ∈ ((List.range (mask + 1)).filterMap fun j => (ow.getD j none).map fun x => (j, x)) → ow[y.1]? = some (some y.2) := fun y hy => by
  obtain ⟨j, hj, ej⟩ := List.mem_filterMap.mp hy
  have hj : j < ow.size := by rw [o.s]; exact List.mem_range.mp hj
  rw [Array.getD_eq_getD_getElem?, Array.getElem?_eq_getElem hj] at ej
  cases q : ow[j] with
  | none => rw [Option.getD_some, q] at ej; cases ej
  | some x =>
   rw [Option.getD_some, q] at ej
   cases ej
   rw [Array.getElem?_eq_getElem hj, q]
 have ll : ((List.range (mask + 1)).filterMap fun j => (ow.getD j none).map fun x => (j, x)).length = hs.length := by
  rw [fm_pair, ← o.s, range_get]
  exact o.c
 have fs := fm_fst (fun j => ow.getD j none) (List.range (mask + 1))
 generalize hlive : ((List.range (mask + 1)).filterMap fun j => (ow.getD j none).map fun x => (j, x)) = live at *
 have ris : (live.map Prod.fst).Pairwise (· < ·) := by
  rw [fs]
  exact List.Pairwise.sublist List.filter_sublist List.pairwise_lt_range
 have nd : (live.map Prod.snd).Nodup := by
  rw [List.Nodup, List.pairwise_map]
  have := List.pairwise_map.mp ris
  refine List.Pairwise.imp_of_mem (fun {a b} ha hb w z => ?_) this
  have a1 := hL a ha
  have b1 := hL b hb
  rw [z] at a1
  have := o.i _ _ _ a1 b1
  omega
 have hb : ∀ x ∈ live.map Prod.snd, x < hs.length := fun x hx => by
  obtain ⟨y, hy, rfl⟩ := List.mem_map.mp hx
  exact o.v _ _ (hL y hy)
 have some' : ∀ x ∈ live.map Prod.snd, (hs[x]?).isSome = true := fun x hx => by simp [hb x hx]
 unfold SetTable.relaid SetTable.laid
 rw [hM, e]
 refine ⟨_, _, rfl, rfl, rfl, rfl, ?_, ?_⟩
 ·show (List.map _ _).toArray.toList.Perm _
  rw [hlive, List.toList_toArray]
  exact perm_rng nd (by rw [List.length_map, ll]) hb
 ·have e1 : ∀ (P : Array Nat) (Od : Array Nat), P = (live.map Prod.fst).toArray → Od = (live.map Prod.snd).toArray → Tab { mask := mask, place := P, dummies := #[], finger := t.finger, led := t.led, moves := t.movedTo mask, plain := t.plain } (Od.toList.filterMap (hs[·]?)) := by
   rintro _ _ rfl rfl
   refine ⟨rfl, hm, ris_list ris, ?_, ?_, fun i h j e1 e2 => ?_⟩
   ·show (live.map Prod.fst).toArray.size = _
    rw [List.size_toArray, List.length_map, fm_len some', List.length_map]
   ·rw [fm_len some', List.length_map, ll]
    exact hk
   ·rw [fm_get i some'] at e1
    have e2 : (live.map Prod.fst).toArray[i]? = some j := e2
    rw [List.getElem?_toArray, List.getElem?_map] at e2
    rw [List.getElem?_map] at e1
    cases q : live[i]? with
    | none => rw [q] at e2; cases e2
    | some y =>
     rw [q] at e1 e2
     cases e2
     obtain ⟨n, a1, a2, a3⟩ := o.p _ _ h (hL y (List.mem_of_getElem? q)) (by simpa using e1)
     refine ⟨n, a1, a2, fun r hr => ?_⟩
     obtain ⟨x, hx⟩ := a3 r hr
     show _ ∈ (live.map Prod.fst).toArray.toList
     rw [List.toList_toArray, fs, List.mem_filter]
     have hl := (Array.getElem?_eq_some_iff.mp hx).1
     refine ⟨List.mem_range.mpr (by rw [← o.s]; exact hl), ?_⟩
     show (ow.getD (pth mask h r) none).isSome = true
     rw [Array.getD_eq_getD_getElem?, hx]
     rfl
  exact e1 _ _ (by rw [← hlive]) (by rw [← hlive])
open PySem.Spec PyProof.Rows
theorem ris_inj {xs : Array Nat} (hr : Ris xs) {i j a : Nat} (h1 : xs[i]? = some a) (h2 : xs[j]? = some a) : i = j := by
 rcases Nat.lt_trichotomy i j with w | w | w
 ·exact absurd (hr _ _ _ _ w h1 h2) (Nat.lt_irrefl _)
 ·exact w
 ·exact absurd (hr _ _ _ _ w h2 h1) (Nat.lt_irrefl _)
section
variable {prog : Program} {w : World} {A : Around} {E : Value → Shared → Prop} {s : Shared}
abbrev IK (prog : Program) (w : World) (h : Heap) (k : List Int) (a : Addr) : Prop := IsTupleKey (intKind prog w) h k a
abbrev hK (prog : Program) (w : World) (k : List Int) : Int := tupleKeyHash (intKind prog w) k
theorem items_int {ks : List Int} {vs : List Value} (h : ItemsAre (intKind prog w) ks vs) : ∀ v ∈ vs, ∃ i t, v = .int i t := by
 induction h with
 | nil => intro v hv; exact nomatch hv
 | @cons k v ks vs h1 _ ih =>
  intro x hx
  rcases List.mem_cons.mp hx with z | z
  ·subst z
   cases x with
   | int i t => exact ⟨i, t, rfl⟩
   | _ => simp [intKind, Value.isInt] at h1
  ·exact ih x z
theorem hbv_int {k : List Int} {a : Addr} {Q : Bool → Shared → Prop} (hk : IK prog w s.heap k a) (h : Q true s) : wpAny (model prog w) A (hashByValue 8 (.ref a)) Q E s := by
 have hT := hk.typeIs
 obtain ⟨o, items, n, ho, _, hd, hi⟩ := hk
 have bv := items_int hi
 unfold hashByValue
 refine wpAny_bind (wpAny_specialOf hT F.slot_tuple_hash.lookup ?_)
 dsimp only
 refine wpAny_bind (wpAny_seqItems ho hd ?_)
 refine wpAny_bind (wpAny_forIn_array' _ (fun rest b s' => s' = s ∧ b.1 = none ∧ ∀ v ∈ rest, ∃ i t, v = Value.int i t) _ ?_ ?_ _ _ ⟨rfl, rfl, bv⟩)
 ·rintro x rest b s1 ⟨rfl, _, hx⟩
  obtain ⟨i, t, rfl⟩ := hx x (.head _)
  exact wpAny_bind (wpAny_of_eq (a := true) rfl (wpAny_pure ⟨rfl, rfl, fun v hv => hx v (.tail _ hv)⟩))
 ·rintro ⟨b1, b2⟩ s1 ⟨rfl, hb, _⟩
  cases (show b1 = none from hb)
  exact wpAny_pure h
theorem cls_no {k : List Int} {a : Addr} {Q : Bool → Shared → Prop} (hk : IK prog w s.heap k a) (h : Q false s) : wpAny (model prog w) A (ofAClassStatement 8 (.ref a)) Q E s := by
 have hT := hk.typeIs
 obtain ⟨o, items, n, ho, _, hd, hi⟩ := hk
 have bv := items_int hi
 unfold ofAClassStatement
 refine wpAny_bind (wpAny_typeOf hT ?_)
 dsimp only
 rw [if_pos (by decide)]
 refine wpAny_bind (wpAny_pure ?_)
 simp only [Bool.not_true, Bool.false_eq_true, if_false]
 refine wpAny_bind (wpAny_seqItems ho hd ?_)
 dsimp only
 refine wpAny_bind (wpAny_forIn_array' _ (fun rest b s' => s' = s ∧ b.1 = none ∧ ∀ v ∈ rest, ∃ i t, v = Value.int i t) _ ?_ ?_ _ _ ⟨rfl, rfl, bv⟩)
 ·rintro x rest b s1 ⟨rfl, _, hx⟩
  obtain ⟨i, t, rfl⟩ := hx x (.head _)
  exact wpAny_bind (wpAny_of_eq (a := false) rfl (wpAny_pure ⟨rfl, rfl, fun v hv => hx v (.tail _ hv)⟩))
 ·rintro ⟨b1, b2⟩ s1 ⟨rfl, hb, _⟩
  cases (show b1 = none from hb)
  exact wpAny_pure h
theorem seen_no {k : List Int} {a : Addr} {l : List Value} {Q : Bool → Shared → Prop} (hk : IK prog w s.heap k a) (hl : ∀ v ∈ l, ∃ b k', v = .ref b ∧ IK prog w s.heap k' b) (h : Q false s) : wpAny (model prog w) A (searchCouldBeSeen (.ref a) l) Q E s := by
 unfold searchCouldBeSeen
 refine wpAny_bind (wpAny_forIn_list _ (fun rest b s' => s' = s ∧ b.1 = none ∧ ∀ v ∈ rest, ∃ b k', v = .ref b ∧ IK prog w s.heap k' b) _ ?_ ?_ _ _ ⟨rfl, rfl, hl⟩)
 ·rintro x rest b s1 ⟨rfl, _, hx⟩
  obtain ⟨c, k', rfl, hc⟩ := hx x (.head _)
  have nx : wpAny (model prog w) A (pure (ForInStep.yield (none, ())) : Sem (ForInStep (Option Bool × Unit))) (fun r s' => match r with | .yield b' => s' = s1 ∧ b'.1 = none ∧ ∀ v ∈ rest, ∃ b k', v = .ref b ∧ IK prog w s1.heap k' b | .done b' => wpAny (model prog w) A (match b'.1 with | some r => pure r | none => pure false) Q E s') E s1 := wpAny_pure ⟨rfl, rfl, fun v hv => hx v (.tail _ hv)⟩
  dsimp only
  split
  ·exact nx
  ·refine wpAny_bind (wpAny_eqIsQuiet_tuple hk ?_)
   simp only [Bool.not_true, Bool.false_eq_true, if_false]
   refine wpAny_bind (wpAny_eqIsQuiet_tuple hc ?_)
   simp only [Bool.not_true, Bool.false_eq_true, if_false]
   refine wpAny_bind (cls_no hk ?_)
   simp only [Bool.false_eq_true, if_false]
   refine wpAny_bind (cls_no hc ?_)
   simp only [Bool.false_eq_true, if_false]
   exact nx
 ·rintro ⟨b1, b2⟩ s1 ⟨rfl, hb, _⟩
  cases (show b1 = none from hb)
  exact wpAny_pure h
def Fit (mask n : Nat) : Prop := (mask = 7 ∧ n ≤ 4) ∨ (mask = 31 ∧ n ≤ 18) ∨ (mask = 127 ∧ n ≤ 76)
structure SetR (prog : Program) (w : World) (h : Heap) (S : Addr) (ks : List (List Int)) (o : Obj) (es : Array (Int × Value)) (ep : Nat) (t : SetTable) : Prop where
 g : h.get? S = some o
 x : o.ExactSet
 d : o.data = .set es ep t
 pl : t.plain = true
 ld : t.led = !w.params.followText "set-order"
 tb : Tab t (ks.map (hK prog w))
 nd : ks.Nodup
 sz : es.size = ks.length
 at' : ∀ (i : Nat) k, ks[i]? = some k → ∃ a, es[i]? = some (hK prog w k, .ref a) ∧ IK prog w h k a
theorem SetR.fits {h : Heap} {S : Addr} {ks : List (List Int)} {o : Obj} {es : Array (Int × Value)} {ep : Nat} {t : SetTable} (R : SetR prog w h S ks o es ep t) : t.fits es.size = true := by
 unfold SetTable.fits SetTable.fill
 have a := R.tb.s
 have b := R.tb.z
 rw [List.length_map] at a b
 rw [R.tb.d, a, R.sz]
 simpa using b
theorem seen_join {k : List Int} {a : Addr} {l : List Value} {b : Bool} {m m' : Sem SetFound} {Q : SetFound → Shared → Prop} (hk : IK prog w s.heap k a) (hl : ∀ v ∈ l, ∃ b k', v = .ref b ∧ IK prog w s.heap k' b) (h : wpAny (model prog w) A m Q E s) : wpAny (model prog w) A (if (!b) = true then (searchCouldBeSeen (.ref a) l >>= fun x => if x = true then m' else m) else m) Q E s := by
 split
 ·exact wpAny_bind (seen_no hk hl (by rw [if_neg (by decide)]; exact h))
 ·exact h
theorem search_ok {S a : Addr} {ks : List (List Int)} {o : Obj} {es : Array (Int × Value)} {ep : Nat} {t : SetTable} {k : List Int} (R : SetR prog w s.heap S ks o es ep t) (hu : A.units < cLine) (hk : IK prog w s.heap k a) {Q : SetFound → Shared → Prop}
  (q1 : k ∈ ks → Q (.there none) s) (q2 : k ∉ ks → ∀ n, n ≤ 10 * (13 + t.mask) → pth t.mask (hK prog w k) n ∉ t.place.toList → (∀ q, q < n → pth t.mask (hK prog w k) q ∈ t.place.toList) → Q (.free (pth t.mask (hK prog w k) n) false) s) :
  ∀ (n fuel k0 : Nat) (stand : Option SetTable.Probe), n < fuel → k0 + n ≤ 10 * (13 + t.mask) → stand.getD (t.probeStart (hK prog w k)) = advM t.mask k0 (pst t.mask (hK prog w k)) → (∀ q, q < k0 → ∃ i : Nat, t.place[i]? = some (pth t.mask (hK prog w k) q) ∧ ks[i]? ≠ some k) → (pth t.mask (hK prog w k) (k0 + n) ∉ t.place.toList ∨ ∃ i : Nat, t.place[i]? = some (pth t.mask (hK prog w k) (k0 + n)) ∧ ks[i]? = some k) →
  wpAny (model prog w) A (setSearchFrom S (.ref a) (hK prog w k) true fuel stand) Q E s
 | n, fuel + 1, k0, stand, hn, hB, hst, hN, hD => by
  have hf := R.fits
  have odd : t.gaveWay = false := by
   unfold SetTable.gaveWay
   rcases R.tb.m with z | z | z <;> rw [z] <;> rfl
  have psz : t.place.size = ks.length := by have := R.tb.s; rw [List.length_map] at this; exact this
  have inp : ∀ {i j : Nat}, t.place[i]? = some j → j ∈ t.place.toList := fun e => Array.mem_toList_iff.mpr (Array.mem_of_getElem? e)
  have hash : ∀ (i : Nat) x, ks[i]? = some x → (es[i]?.map (·.1)).getD 0 = hK prog w x := fun i x e => by
   obtain ⟨b, hb, _⟩ := R.at' i x e
   rw [hb]
   rfl
  have gk := go_ok R.tb.d R.tb.r (f := fun i => (es[i]?.map (·.1)).getD 0) (h := hK prog w k) n (10 * SetTable.turns t.mask) k0 (by unfold SetTable.turns; omega) (hD.imp id fun ⟨i, e1, e2⟩ => ⟨i, e1, hash i k e2⟩)
  unfold setSearchFrom
  refine wpAny_bind (wpAny_setState_of R.g R.d hf ?_)
  dsimp only
  rw [odd]
  simp only [Bool.false_eq_true, if_false]
  generalize hg : t.probe _ (hK prog w k) _ = met
  have hg : SetTable.probe.go t (fun i => (es[i]?.map (·.1)).getD 0) (hK prog w k) (10 * SetTable.turns t.mask) (stand.getD (t.probeStart (hK prog w k))) = met := hg
  rw [hst] at hg
  rcases gk with ⟨k', a1, a2, a3, a4, a5⟩ | ⟨k', i, a1, a2, a3, a4, a5, a6⟩
  ·rw [a5] at hg
   subst hg
   dsimp only
   have occ : ∀ q, q < k' → ∃ i : Nat, t.place[i]? = some (pth t.mask (hK prog w k) q) ∧ ks[i]? ≠ some k := fun q hq => by
    rcases Nat.lt_or_ge q k0 with z | z
    ·exact hN q z
    ·obtain ⟨i, e1, e2⟩ := a4 q z hq
     exact ⟨i, e1, fun e => e2 (hash i k e)⟩
   refine wpAny_pure (q2 (fun z => ?_) k' (by omega) a3 fun q hq => inp (occ q hq).choose_spec.1)
   obtain ⟨i0, e0⟩ := List.mem_iff_getElem?.mp z
   have il : i0 < t.place.size := by rw [psz]; exact (List.getElem?_eq_some_iff.mp e0).1
   obtain ⟨m, _, m2, m3⟩ := R.tb.p i0 (hK prog w k) t.place[i0] (by rw [List.getElem?_map, e0]; rfl) (Array.getElem?_eq_getElem il)
   have pm : t.place[i0]? = some (pth t.mask (hK prog w k) m) := by rw [m2]; exact Array.getElem?_eq_getElem il
   rcases Nat.lt_trichotomy m k' with y | y | y
   ·obtain ⟨i, e1, e2⟩ := occ m y
    rw [ris_inj R.tb.r e1 pm] at e2
    exact e2 e0
   ·rw [y] at pm
    exact a3 (inp pm)
   ·exact a3 (m3 k' y)
  ·rw [a6] at hg
   subst hg
   dsimp only
   have il : i < ks.length := by rw [← psz]; exact (Array.getElem?_eq_some_iff.mp a3).1
   obtain ⟨b, hb, kb⟩ := R.at' i ks[i] (List.getElem?_eq_getElem il)
   have sto : ∀ v ∈ (es.filter (·.1 == hK prog w k)).toList.map (·.2), ∃ b k', v = Value.ref b ∧ IK prog w s.heap k' b := fun v hv => by
    obtain ⟨e, he, rfl⟩ := List.mem_map.mp hv
    have he : e ∈ es := (Array.mem_filter.mp (Array.mem_toList_iff.mp he)).1
    obtain ⟨i5, e5⟩ := Array.mem_iff_getElem?.mp he
    have l5 : i5 < ks.length := by rw [← R.sz]; exact (Array.getElem?_eq_some_iff.mp e5).1
    obtain ⟨b5, h5, k5⟩ := R.at' i5 ks[i5] (List.getElem?_eq_getElem l5)
    rw [h5] at e5
    cases e5
    exact ⟨b5, _, rfl, k5⟩
   rw [hb]
   dsimp only
   refine seen_join hk sto ?_
   refine wpAny_bind (wpAny_holding ((tupleKind (intKind prog w)).eqBool hu kb hk ?_))
   refine wpAny_bind (wpAny_setState_of R.g R.d hf ?_)
   dsimp only
   by_cases z : ks[i] = k
   ·rw [decide_eq_true z, if_pos (by decide)]
    exact wpAny_pure (q1 (z ▸ List.getElem_mem il))
   ·rw [decide_eq_false z, if_neg (by decide)]
    have sm : t.sameMemory t.moves t.mask = some true := by
     unfold SetTable.sameMemory
     rw [if_pos (beq_self_eq_true _)]
    rw [sm]
    dsimp only
    obtain ⟨i2, s1, s2⟩ := slot_in R.tb.r (inp a3)
    rw [ris_inj R.tb.r s2 a3] at s1
    rw [if_pos rfl, s1]
    dsimp only
    rw [hb]
    dsimp only
    have self : isSame (.ref b) (.ref b) = pure true := by
     unfold isSame
     simp
    refine wpAny_bind (wpAny_of_eq self (wpAny_bind (wpAny_pure ?_)))
    rw [if_pos rfl]
    dsimp only
    rw [if_neg (by decide)]
    have lt : k' < k0 + n := by
     rcases Nat.lt_or_ge k' (k0 + n) with y | y
     ·exact y
     ·have : k' = k0 + n := by omega
      subst this
      rcases hD with e | ⟨i3, e1, e2⟩
      ·exact absurd (inp a3) e
      ·have := ris_inj R.tb.r a3 e1
       subst this
       rw [List.getElem?_eq_getElem il] at e2
       exact absurd (Option.some.inj e2) z
    obtain ⟨n', hn'⟩ : ∃ n', k' + 1 + n' = k0 + n := ⟨k0 + n - (k' + 1), by omega⟩
    refine search_ok R hu hk q1 q2 n' fuel (k' + 1) _ (by omega) (by omega) rfl (fun q hq => ?_) (by rw [hn']; exact hD)
    rcases Nat.lt_or_ge q k0 with y | y
    ·exact hN q y
    ·rcases Nat.lt_or_ge q k' with x | x
     ·obtain ⟨i4, e1, e2⟩ := a5 q y x
      exact ⟨i4, e1, fun e => e2 (hash i4 k e)⟩
     ·have : q = k' := by omega
      subst this
      exact ⟨i, a3, by rw [List.getElem?_eq_getElem il]; exact fun e => z (Option.some.inj e)⟩
theorem IK.keep {h h' : Heap} {k : List Int} {a : Addr} (hk : IK prog w h k a) (q : ∀ o, h.get? a = some o → h'.get? a = some o) : IK prog w h' k a := by
 obtain ⟨o, items, n, ho, r⟩ := hk
 exact ⟨o, items, n, q o ho, r⟩
theorem SetR.ne {h : Heap} {S a : Addr} {ks : List (List Int)} {o : Obj} {es : Array (Int × Value)} {ep : Nat} {t : SetTable} {k : List Int} (R : SetR prog w h S ks o es ep t) (hk : IK prog w h k a) : a ≠ S := fun z => by
 subst z
 obtain ⟨o', _, _, ho, hc, _⟩ := hk
 have g := R.g
 rw [ho] at g
 cases g
 have := R.x.1
 rw [hc] at this
 exact absurd this (by decide)
theorem store_at {h : Heap} {S : Addr} {o : Obj} {es : Array (Int × Value)} {ep : Nat} {t : SetTable} (ho : h.get? S = some o) (hd : o.data = .set es ep t) (es' : Array (Int × Value)) (t' : SetTable) :
  (h.update S (Obj.putSet es' t')).get? S = some { o with data := .set es' (ep + 1) t' } := by
 have := Heap.get?_update_self (Obj.putSet es' t') ho (by rw [putSet_of es' t' hd]; rfl)
 rw [putSet_of es' t' hd] at this
 exact this
theorem SetR.write {h : Heap} {S : Addr} {ks ks' : List (List Int)} {o : Obj} {es es' : Array (Int × Value)} {ep : Nat} {t t' : SetTable} (R : SetR prog w h S ks o es ep t) (pl : t'.plain = true) (ld : t'.led = t.led) (tb : Tab t' (ks'.map (hK prog w))) (nd : ks'.Nodup) (sz : es'.size = ks'.length)
  (at' : ∀ (i : Nat) k, ks'[i]? = some k → ∃ a, es'[i]? = some (hK prog w k, .ref a) ∧ IK prog w h k a) : SetR prog w (h.update S (Obj.putSet es' t')) S ks' { o with data := .set es' (ep + 1) t' } es' (ep + 1) t' := by
 refine ⟨store_at R.g R.d es' t', R.x, rfl, pl, by rw [ld]; exact R.ld, tb, nd, sz, fun i k e => ?_⟩
 obtain ⟨a, h1, h2⟩ := at' i k e
 refine ⟨a, h1, h2.keep fun o' ho' => ?_⟩
 rw [(Heap.SameBut.update h S (Obj.putSet es' t')).2 a (R.ne h2)]
 exact ho'
theorem rng_fm {α : Type} (l : List α) : (List.range l.length).filterMap (l[·]?) = l := by
 have h : ∀ x ∈ List.range l.length, (l[x]?).isSome = true := fun x hx => by simp [List.mem_range.mp hx]
 apply List.ext_getElem?
 intro i
 rw [fm_get i h]
 by_cases z : i < l.length
 ·rw [List.getElem?_range z]
  rfl
 ·rw [List.getElem?_eq_none (by rw [List.length_range]; omega), List.getElem?_eq_none (by omega)]
  rfl
theorem relay_ok {S : Addr} {ks : List (List Int)} {o : Obj} {es : Array (Int × Value)} {ep : Nat} {t : SetTable} {wanted : Nat} {Q : Unit → Shared → Prop} (R : SetR prog w s.heap S ks o es ep t) (hm : MOk (SetTable.sizeAbove wanted - 1)) (hl : SetTable.sizeAbove wanted ≤ 128) (hn : ks.length ≤ SetTable.sizeAbove wanted - 1)
  (q : ∀ h' ks' o' es' ep' t', Heap.SameBut S s.heap h' → ks'.Perm ks → t'.mask = SetTable.sizeAbove wanted - 1 → (∀ e ∈ es', e ∈ es) → SetR prog w h' S ks' o' es' ep' t' → Q () { s with heap := h' }) : wpAny (model prog w) A (setRelay S wanted) Q E s := by
 have hf := R.fits
 have he : es.map (·.1) = (ks.map (hK prog w)).toArray := by
  apply Array.toList_inj.mp
  rw [Array.toList_map, List.toList_toArray]
  apply List.ext_getElem?
  intro i
  rw [List.getElem?_map, List.getElem?_map, Array.getElem?_toList]
  by_cases z : i < ks.length
  ·obtain ⟨a, h1, _⟩ := R.at' i ks[i] (List.getElem?_eq_getElem z)
   rw [h1, List.getElem?_eq_getElem z]
   rfl
  ·rw [Array.getElem?_eq_none (by rw [R.sz]; omega), List.getElem?_eq_none (by omega)]
   rfl
 obtain ⟨t', order, r1, r2, r3, r4, r5, r6⟩ := relaid_ok (t := t) (hs := ks.map (hK prog w)) (wanted := wanted) hm (by rw [List.length_map]; exact hn)
 rw [List.length_map] at r5
 have hb : ∀ x ∈ order.toList, x < ks.length := fun x hx => List.mem_range.mp (r5.mem_iff.mp hx)
 have k1 : ∀ x ∈ order.toList, (ks[x]?).isSome = true := fun x hx => by simp [hb x hx]
 have k2 : ∀ x ∈ order.toList, (es[x]?).isSome = true := fun x hx => by simp [R.sz, hb x hx]
 have ol : order.toList.length = ks.length := by rw [r5.length_eq, List.length_range]
 have el : (order.filterMap (es[·]?)).size = ks.length := by
  rw [← Array.length_toList, Array.toList_filterMap, fm_len k2, ol]
 have eh : order.toList.filterMap ((ks.map (hK prog w))[·]?) = (order.toList.filterMap (ks[·]?)).map (hK prog w) := by
  rw [List.map_filterMap]
  congr 1
  funext x
  exact List.getElem?_map ..
 rw [eh] at r6
 have pm : (order.toList.filterMap (ks[·]?)).Perm ks := by
  have := r5.filterMap (ks[·]?)
  rw [rng_fm] at this
  exact this
 unfold setRelay
 refine wpAny_bind (wpAny_setState_of R.g R.d hf ?_)
 dsimp only
 rw [if_neg (by rw [sizeLine_eq]; omega), he, r1]
 refine wpAny_bind ?_
 show wpAny (model prog w) A (if ((order.filterMap (es[·]?)).size != es.size) = true then (unsupported "internal:set-table-lost-an-element" >>= fun _ => pure (order.filterMap (es[·]?), t')) else pure (order.filterMap (es[·]?), t')) _ _ _
 rw [if_neg (by rw [el, R.sz]; simp)]
 refine wpAny_pure ?_
 dsimp only
 have nl : ks.length ≤ 128 := by omega
 refine wpAny_storeSet_of R.g R.d ?_ (by rw [el, sizeLine_eq]; omega)
 refine q _ _ _ _ _ _ (Heap.SameBut.update ..) pm r2 (fun e he => by
  obtain ⟨x, _, hx⟩ := Array.mem_filterMap.mp he
  exact Array.mem_of_getElem? hx) (R.write (by rw [r4]; exact R.pl) r3 r6 (pm.nodup_iff.mpr R.nd) (by rw [el, fm_len k1, ol]) fun i k e => ?_)
 rw [fm_get i k1] at e
 cases ei : order.toList[i]? with
 | none => rw [ei] at e; cases e
 | some x =>
  rw [ei] at e
  obtain ⟨a, h1, h2⟩ := R.at' x k e
  refine ⟨a, ?_, h2⟩
  rw [← Array.getElem?_toList, Array.toList_filterMap, fm_get i k2, ei]
  exact h1
def SetK (prog : Program) (w : World) (h : Heap) (S : Addr) (ks : List (List Int)) (L : Addr → Prop) : Prop := ∃ ks' o es ep t, ks'.Perm ks ∧ Fit t.mask ks'.length ∧ (∀ e ∈ es, ∃ a, e.2 = Value.ref a ∧ L a) ∧ SetR prog w h S ks' o es ep t
theorem at_ins {α : Type} (l : List α) (p : Nat) (hp : p ≤ l.length) (x : α) (i : Nat) : (l.take p ++ x :: l.drop p)[i]? = if i < p then l[i]? else if i = p then some x else l[i - 1]? := by
 have lt : (l.take p).length = p := by rw [List.length_take]; omega
 by_cases z : i < p
 ·rw [if_pos z, List.getElem?_append_left (by omega), List.getElem?_take, if_pos z]
 ·rw [if_neg z, List.getElem?_append_right (by omega), lt]
  by_cases y : i = p
  ·rw [if_pos y, y, Nat.sub_self]
   rfl
  ·rw [if_neg y]
   obtain ⟨d, hd⟩ : ∃ d, i - p = d + 1 := ⟨i - p - 1, by omega⟩
   rw [hd, List.getElem?_cons_succ, List.getElem?_drop]
   congr 1
   omega
theorem add_ok {S a : Addr} {L : Addr → Prop} {ks : List (List Int)} {k : List Int} {Q : Bool → Shared → Prop} (K : SetK prog w s.heap S ks L) (hu : A.units < cLine) (hk : IK prog w s.heap k a) (aL : L a) (hz : ks.length < 76)
  (q : ∀ b h', Heap.SameBut S s.heap h' → SetK prog w h' S (if k ∈ ks then ks else k :: ks) L → Q b { s with heap := h' }) : wpAny (model prog w) A (setAddHashed S (.ref a) (hK prog w k)) Q E s := by
 obtain ⟨ks', o, es, ep, t, pm, ft, lo, R⟩ := K
 have ml : ks'.length = ks.length := pm.length_eq
 have hf := R.fits
 have psz : t.place.size = ks'.length := by have := R.tb.s; rw [List.length_map] at this; exact this
 unfold setAddHashed setAddHashedIn
 refine wpAny_holding (wpAny_bind (wpAny_setState_of R.g R.d hf ?_))
 dsimp only
 rw [show byScan (.ref a) es = false from rfl]
 simp only [Bool.false_eq_true, if_false]
 refine wpAny_bind ?_
 unfold setSearch
 have m127 : t.mask ≤ 127 := by rcases R.tb.m with z | z | z <;> omega
 obtain ⟨n, nB, nD⟩ : ∃ n, n ≤ 10 * (13 + t.mask) ∧ (pth t.mask (hK prog w k) (0 + n) ∉ t.place.toList ∨ ∃ i : Nat, t.place[i]? = some (pth t.mask (hK prog w k) (0 + n)) ∧ ks'[i]? = some k) := by
  by_cases z : k ∈ ks'
  ·obtain ⟨i0, e0⟩ := List.mem_iff_getElem?.mp z
   have il : i0 < t.place.size := by rw [psz]; exact (List.getElem?_eq_some_iff.mp e0).1
   obtain ⟨m, m1, m2, _⟩ := R.tb.p i0 (hK prog w k) t.place[i0] (by rw [List.getElem?_map, e0]; rfl) (Array.getElem?_eq_getElem il)
   exact ⟨m, m1, .inr ⟨i0, by rw [Nat.zero_add, m2]; exact Array.getElem?_eq_getElem il, e0⟩⟩
  ·obtain ⟨j, j1, j2⟩ := miss (mask := t.mask) (l := t.place.toList) (by rw [Array.length_toList, psz]; have := R.tb.z; rw [List.length_map] at this; exact this)
   obtain ⟨m, m1, m2⟩ := pth_cover R.tb.m (hK prog w k) j1
   exact ⟨m, m1, .inl (by rw [Nat.zero_add, m2]; exact j2)⟩
 refine search_ok R hu hk (fun z => ?_) (fun z kk hB hn hp => ?_) n 100000 0 none (by omega) (by omega) rfl (fun q hq => absurd hq (Nat.not_lt_zero _)) nD
 ·dsimp only
  refine wpAny_pure ?_
  have := q false s.heap (Heap.SameBut.refl S s.heap) (by rw [if_pos (pm.mem_iff.mp z)]; exact ⟨ks', o, es, ep, t, pm, ft, lo, R⟩)
  exact this
 ·dsimp only
  have nz : k ∉ ks := fun y => z (pm.mem_iff.mpr y)
  rw [if_neg nz] at q
  refine wpAny_bind (wpAny_setState_of R.g R.d hf ?_)
  dsimp only
  have zm : ks'.length + 1 ≤ t.mask := by rcases ft with y | y | y <;> omega
  have tb1 := R.tb.put (h := hK prog w k) hB hn hp (by rw [List.length_map]; exact zm)
  obtain ⟨b1, _, _⟩ := below_ok R.tb.r (pth t.mask (hK prog w k) kk)
  have pe := (put_place t (pth t.mask (hK prog w k) kk)).2
  have pl1 : (t.put (pth t.mask (hK prog w k) kk)).1.plain = true := R.pl
  have ld1 : (t.put (pth t.mask (hK prog w k) kk)).1.led = t.led := rfl
  have mk1 : (t.put (pth t.mask (hK prog w k) kk)).1.mask = t.mask := rfl
  generalize t.put (pth t.mask (hK prog w k) kk) = tp at *
  obtain ⟨t1, p⟩ := tp
  dsimp only at tb1 pe pl1 ld1 mk1 ⊢
  have hp1 : p ≤ ks'.length := by rw [pe]; omega
  rw [← List.map_take, ← List.map_drop, ← List.map_cons, ← List.map_append] at tb1
  have pm1 : (ks'.take p ++ k :: ks'.drop p).Perm (k :: ks) := by
   refine List.perm_middle.trans (List.Perm.cons k ?_)
   rw [List.take_append_drop]
   exact pm
  have il : (SetTable.insertAt es p (hK prog w k, Value.ref a)).toList = es.toList.take p ++ (hK prog w k, Value.ref a) :: es.toList.drop p := ins_toList _ _ _
  have hpe : p ≤ es.toList.length := by rw [Array.length_toList, R.sz]; exact hp1
  have sz1 : (SetTable.insertAt es p (hK prog w k, Value.ref a)).size = (ks'.take p ++ k :: ks'.drop p).length := by
   rw [← Array.length_toList, il, List.length_append, List.length_append, List.length_cons, List.length_cons, List.length_take, List.length_take, List.length_drop, List.length_drop, Array.length_toList, R.sz]
  have ln1 : (ks'.take p ++ k :: ks'.drop p).length = ks'.length + 1 := by rw [pm1.length_eq, List.length_cons, ml]
  rw [pl1, if_pos rfl]
  refine wpAny_bind (hbv_int hk ?_)
  rw [if_pos rfl]
  have nl : ks'.length ≤ 76 := by omega
  refine wpAny_bind (wpAny_storeSet_of R.g R.d ?_ (by rw [sz1, ln1, sizeLine_eq]; omega))
  have R1 := R.write (es' := SetTable.insertAt es p (hK prog w k, Value.ref a)) pl1 ld1 tb1 (pm1.nodup_iff.mpr (List.nodup_cons.mpr ⟨nz, pm.nodup_iff.mp R.nd⟩)) sz1 (fun i x e => by
   rw [at_ins ks' p hp1 k i] at e
   rw [← Array.getElem?_toList, il, at_ins es.toList p hpe _ i]
   by_cases y : i < p
   ·rw [if_pos y] at e ⊢
    obtain ⟨c, h1, h2⟩ := R.at' i x e
    exact ⟨c, by rw [Array.getElem?_toList]; exact h1, h2⟩
   ·rw [if_neg y] at e ⊢
    by_cases y2 : i = p
    ·rw [if_pos y2] at e ⊢
     cases e
     exact ⟨a, rfl, hk⟩
    ·rw [if_neg y2] at e ⊢
     obtain ⟨c, h1, h2⟩ := R.at' _ x e
     exact ⟨c, by rw [Array.getElem?_toList]; exact h1, h2⟩)
  have sb := Heap.SameBut.update s.heap S (Obj.putSet (SetTable.insertAt es p (hK prog w k, Value.ref a)) t1)
  have lo1 : ∀ e ∈ SetTable.insertAt es p (hK prog w k, Value.ref a), ∃ a, e.2 = Value.ref a ∧ L a := fun e he => by
   rw [← Array.mem_toList_iff, il] at he
   rcases List.mem_append.mp he with y | y
   ·exact lo e (Array.mem_toList_iff.mp (List.mem_of_mem_take y))
   ·rcases List.mem_cons.mp y with x | x
    ·rw [x]; exact ⟨a, rfl, aL⟩
    ·exact lo e (Array.mem_toList_iff.mp (List.mem_of_mem_drop x))
  generalize (SetTable.insertAt es p (hK prog w k, Value.ref a)) = es1 at *
  have full : t1.tooFull = decide ((t.mask = 7 ∧ ks'.length = 4) ∨ (t.mask = 31 ∧ ks'.length = 18)) := by
   unfold SetTable.tooFull SetTable.fill
   have a1 := tb1.s
   rw [List.length_map, ln1] at a1
   rw [tb1.d, a1, mk1]
   rcases ft with ⟨y, x⟩ | ⟨y, x⟩ | ⟨y, x⟩ <;> rw [y] <;> simp <;> omega
  rw [full]
  by_cases y : (t.mask = 7 ∧ ks'.length = 4) ∨ (t.mask = 31 ∧ ks'.length = 18)
  ·rw [decide_eq_true y, if_pos (by decide), R.sz]
   have go : ∀ wn, SetTable.grown (ks'.length + 1) = wn → MOk (SetTable.sizeAbove wn - 1) → SetTable.sizeAbove wn ≤ 128 → ks'.length + 1 ≤ SetTable.sizeAbove wn - 1 → Fit (SetTable.sizeAbove wn - 1) (ks'.length + 1) → wpAny (model prog w) A (do
     setRelay S (SetTable.grown (ks'.length + 1))
     pure true) Q E { s with heap := s.heap.update S (Obj.putSet es1 t1) } := fun wn e1 e2 e3 e4 e5 => by
    rw [e1]
    refine wpAny_bind (relay_ok R1 e2 e3 (by rw [ln1]; exact e4) fun h' ks2 o2 es2 ep2 t2 sb2 pm2 mk2 in2 R2 => wpAny_pure (q true h' (sb.trans sb2) ⟨ks2, o2, es2, ep2, t2, pm2.trans pm1, ?_, fun e he => lo1 e (in2 e he), R2⟩))
    rw [mk2, pm2.length_eq, ln1]
    exact e5
   rcases y with ⟨_, y⟩ | ⟨_, y⟩ <;> rw [y] at go ⊢
   ·exact go 20 (by decide) (by unfold MOk; decide) (by decide) (by decide) (by unfold Fit; decide)
   ·exact go 76 (by decide) (by unfold MOk; decide) (by decide) (by decide) (by unfold Fit; decide)
  ·rw [decide_eq_false y, if_neg (by decide)]
   refine wpAny_pure (q true _ sb ⟨_, _, _, _, t1, pm1, ?_, lo1, R1⟩)
   rw [mk1, ln1]
   unfold Fit at ft ⊢
   omega
theorem SetK.at {h h' : Heap} {S : Addr} {L : Addr → Prop} {ks : List (List Int)} (K : SetK prog w h S ks L) (q : ∀ b o, (L b ∨ b = S) → h.get? b = some o → h'.get? b = some o) : SetK prog w h' S ks L := by
 obtain ⟨ks', o, es, ep, t, pm, ft, lo, R⟩ := K
 refine ⟨ks', o, es, ep, t, pm, ft, lo, q _ _ (.inr rfl) R.g, R.x, R.d, R.pl, R.ld, R.tb, R.nd, R.sz, fun i k e => ?_⟩
 obtain ⟨a, h1, h2⟩ := R.at' i k e
 obtain ⟨b, e1, e2⟩ := lo _ (Array.mem_of_getElem? h1)
 cases e1
 exact ⟨a, h1, h2.keep fun o ho => q a o (.inl e2) ho⟩
def nSet (w : World) : Obj := { cls := .type "set", dict := none, data := .set #[] 0 (.fresh 0 0 (!w.params.followText "set-order")) }
theorem SetK.new {h : Heap} {S : Addr} {L : Addr → Prop} (hS : h.get? S = some (nSet w)) : SetK prog w h S [] L := by
 refine ⟨[], nSet w, #[], 0, .fresh 0 0 (!w.params.followText "set-order"), List.Perm.refl _, .inl ⟨rfl, Nat.zero_le _⟩, fun e he => by simp at he, hS, ⟨rfl, rfl, rfl⟩, rfl, rfl, rfl, ⟨rfl, .inl rfl, fun i j a b _ e => by simp [SetTable.fresh] at e, rfl, Nat.zero_le _, fun i h j e => by simp at e⟩, List.Pairwise.nil, rfl, fun i k e => by simp at e⟩
theorem code_newL (x : Value) {Q₁ : Value → Shared → Prop} (h : Q₁ (.ref s.heap.objs.size) { s with heap := s.heap.push (nSet w) }) :
  codeAny (model prog w) A (.call (.builtin "set.__new__") ⟨[.type "set", x], []⟩) (wants Q₁ E) s := by
 refine codeAny_of_tree (show wpAny _ A.in1 (do checkBuiltinCall "set.__new__" ⟨[.type "set", x], []⟩; again (.builtin "set.__new__" ⟨[.type "set", x], []⟩)) _ _ s from ?_)
 refine wpAny_bind (wpAny_of_eq (F.newCall_set_1 x) (wpAny_pure ⟨plainId_quiet F.plain_set_new _, codeAny_builtin F.entry_set_new ?_⟩))
 rw [Around.under_plainId F.plain_set_new _]
 unfold Builtin.«set.__new__» Builtin.Frozenset.newClass
 have hsub := sub_set_self
 obtain ⟨hp, g, d, tk, os⟩ := s
 dsimp only
 wp_walk
 refine wpAny_askSetting (wpAny_pure ?_)
 dsimp only
 simp only [newObj]
 exact wpAny_bind (wpAny_alloc (wpAny_pure (wpAny_pure h)))
def metK (f : Nat → List Int) : Nat → List (List Int)
 | 0 => []
 | n + 1 => if f n ∈ metK f n then metK f n else f n :: metK f n
theorem metK_len (f : Nat → List Int) : ∀ n, (metK f n).length ≤ n
 | 0 => Nat.le_refl _
 | n + 1 => by
  have := metK_len f n
  unfold metK
  split
  ·omega
  ·rw [List.length_cons]; omega
theorem set_loop {I : Addr} {fp wr : List Addr} {G : Array GenState → Array GenState → Prop} {n : Nat} {L : Addr → Prop} {P : Nat → Value → Prop} {St : Nat → Shared → Prop} {R : Result → Shared → Prop} (W : WalksS prog w A.in1 I fp wr G n P St) (hu : A.in1.units < cLine) {S : Addr} (hSf : S ∉ fp) (hwL : ∀ b, L b → b ∉ S :: wr) (ky : Nat → List Int) (hb : n ≤ 76) :
  ∀ (k i : Nat) (s : Shared), n - i = k → i ≤ n → St i s → SetK prog w s.heap S (metK ky i) L → (∀ i v, i < n → P i v → ∃ a, v = .ref a ∧ L a ∧ IK prog w s.heap (ky i) a) →
   (∀ s', Moved (S :: wr) G s s' → SetK prog w s'.heap S (metK ky n) L → R (.ok (.ret .none)) s') →
   codeAny (model prog w) A (.builtin "set.update.loop" ⟨[.ref S, .ref I], []⟩) R s := by
 have hSw : S ∉ wr := fun z => hSf (W.sub _ z)
 have sub : ∀ b ∈ wr, b ∈ S :: wr := fun b z => .tail _ z
 have low : ∀ b, L b ∨ b = S → b ∉ wr := fun b z y => by
  rcases z with z | z
  ·exact hwL b z (.tail _ y)
  ·exact hSw (z ▸ y)
 intro k
 induction k with
 | zero =>
  intro i s hk hi st K _ q
  cases (show i = n by omega)
  refine codeAny_builtin PyProof.Rows.F.entry_set_update_loop ?_
  rw [Around.under_plainId PyProof.Rows.F.plain_set_update_loop _]
  unfold Builtin.«set.update.loop»
  refine wpAny_bind (W.done s _ _ st fun s' mv => ?_)
  exact wpAny_pure (q s' (mv.mono sub) (K.at fun b o hb e => mv.heap b o (low b hb) e))
 | succ k ih =>
  intro i s hk hi st K kt q
  have lt : i < n := by omega
  refine codeAny_builtin PyProof.Rows.F.entry_set_update_loop ?_
  rw [Around.under_plainId PyProof.Rows.F.plain_set_update_loop _]
  unfold Builtin.«set.update.loop»
  refine wpAny_bind (W.item i s _ _ lt st fun v s' hP st' mv => ?_)
  obtain ⟨a, rfl, aL, hka⟩ := kt i v lt hP
  have K' := K.at (h' := s'.heap) fun b o hb e => mv.heap b o (low b hb) e
  have hka' := IK.keep (h' := s'.heap) hka fun o e => mv.heap a o (low a (.inl aL)) e
  dsimp only
  refine wpAny_bind (wpAny_holding ?_)
  unfold setAdd
  refine wpAny_holding (wpAny_bind (wpAny_pyHash_tuple hu hka' ?_))
  refine add_ok (s := { s' with toks := s'.toks + ((ky i).length + 1) }) K' hu hka' aL (by have := metK_len ky i; omega) fun b h' sb K2 => ?_
  have mv2 : Moved (S :: wr) G s { s' with heap := h', toks := s'.toks + ((ky i).length + 1) } := (mv.mono sub).then_heap (Nat.le_add_right _ _) fun b o hb e => by
   rw [sb.2 b (fun z => hb (by rw [z]; exact .head _))]
   exact e
  refine wpAny_pure ⟨plainId_quiet PyProof.Rows.F.plain_set_update_loop _, ih (i + 1) _ (by omega) lt (W.frame _ s' _ _ st' (Nat.le_add_right _ _) fun b hb o e => ?_) K2 (fun j v hj hv => ?_) fun s2 m2 K3 => ?_⟩
  ·rw [sb.2 b (fun z => hSf (by rw [← z]; exact hb))]
   exact e
  ·obtain ⟨c, rfl, cL, hkc⟩ := kt j v hj hv
   exact ⟨c, rfl, cL, IK.keep hkc fun o e => mv2.heap c o (hwL c cL) e⟩
  ·exact q s2 (Moved.trans W.gtrans mv2 m2) K3
theorem call_set1 {x : Value} {Q : Value → Shared → Prop}
  (h : wpAny (model prog w) A.in1.in1 (Builtin.«set.__init__» ⟨[.ref s.heap.objs.size, x], []⟩)
   (fun fin s' => match fin with | .done f => wants (fun r s₂ => r = .none ∧ Q (.ref s.heap.objs.size) s₂) E (.ok f) s' | .again c' => c'.quiet = true ∧ codeAny (model prog w) A.in1 c' (wants (fun r s₂ => r = .none ∧ Q (.ref s.heap.objs.size) s₂) E) s')
   (fun e s' => wants (fun r s₂ => r = .none ∧ Q (.ref s.heap.objs.size) s₂) E (.error e) s') { s with heap := s.heap.push (nSet w) }) :
  wpAny (model prog w) A (call (.type "set") [x]) Q E s := by
 have ft := F.called_set
 obtain ⟨c, tl, hmro⟩ := ft.mro
 have hmade := ft.made
 have hsub := ft.sub
 have h1 := ft.notType
 have h2 := ft.canCreate
 have hct := F.typeCall_set_1 x
 refine wpAny_call (codeAny_of_tree (wpAny_pure ⟨Code.quiet_builtin _ (by decide +kernel), codeAny_builtin F.entry_type_call ?_⟩))
 rw [Around.under_plain (weight_type_call_type "set" [x] []) rfl]
 repeat (any_goals (first | assumption | wp_step))
 refine codeAny_mono (code_newL x (E := E) (Q₁ := fun obj s₁ => obj = .ref s.heap.objs.size ∧ s₁ = { s with heap := s.heap.push (nSet w) }) ⟨rfl, rfl⟩) fun r s₁ hr => ?_
 cases r with
 | error e => exact hr
 | ok fl =>
  cases fl with
  | ret obj =>
   obtain ⟨rfl, rfl⟩ := hr
   have hT : Shared.TypeIs { s with heap := s.heap.push (nSet w) } (.ref s.heap.objs.size) "set" := ⟨_, Heap.get?_push_size _ rfl, rfl⟩
   have hli := ft.init.lookup
   have hbi := ft.init.bind (.ref s.heap.objs.size)
   repeat (any_goals (first | assumption | wp_step))
   refine codeAny_mono (codeAny_call_builtin ft.init.plain F.entry_set_init (check_set_init_1 hT h)) fun r₂ s₂ hr₂ => ?_
   cases r₂ with
   | error e => exact hr₂
   | ok f2 =>
    cases f2 with
    | ret u =>
     obtain ⟨rfl, hq⟩ := hr₂
     repeat (any_goals (first | assumption | wp_step))
    | _ => exact hr₂.elim
  | _ => exact hr.elim
theorem call_set {l : Addr} {items : Array Value} (hh : A.handled = none) (hu : A.units + 10 < cLine) (ky : Nat → List Int) (hl : s.heap.IsList l items) (hz : items.size ≤ 76)
  {L : Addr → Prop} (hL : ∀ a, L a → a < s.heap.objs.size) (hk : ∀ i v, items[i]? = some v → ∃ a, v = .ref a ∧ L a ∧ IK prog w s.heap (ky i) a)
  {Q : Value → Shared → Prop} (q : ∀ h' tk, SetK prog w h' s.heap.objs.size (metK ky items.size) L → (∀ b o, s.heap.get? b = some o → h'.get? b = some o) → s.toks ≤ tk → Q (.ref s.heap.objs.size) { s with heap := h', toks := tk }) :
  wpAny (model prog w) A (call (.type "set") [.ref l]) Q E s := by
 refine call_set1 ?_
 obtain ⟨ol, hol, hcl, nl, hdl⟩ := id hl
 have hS : (s.heap.push (nSet w)).get? s.heap.objs.size = some (nSet w) := Heap.get?_push_size _ rfl
 have hl1 : (s.heap.push (nSet w)).IsList l items := ⟨ol, Heap.get?_push_of_some _ hol, hcl, nl, hdl⟩
 have hls : l < s.heap.objs.size := Heap.lt_size hol
 obtain ⟨ocls, odict, odata, oslots⟩ := ol
 simp only at hcl hdl
 subst hcl hdl
 have hol' : (s.heap.push (nSet w)).get? l = some { cls := .type "list", dict := odict, data := .seq items nl, slots := oslots } := Heap.get?_push_of_some _ hol
 have a1 := F.sub_list_set
 have a2 := F.sub_list_frozenset
 have a3 : (Value.type "list" == Value.type "dict") = false := by decide
 unfold nSet at hS hol' hl1 ⊢
 unfold Builtin.«set.__init__» noKeywords Builtin.Frozenset.updateFrom
 generalize hPI : pyIter = PI
 wp_walk
 subst hPI
 refine wpAny_pyIter_list hl1 (wpAny_bind (wpAny_runValue ?_))
 generalize hO : ({ cls := Value.type "set", data := Data.set #[] 0 (SetTable.fresh 0 0 (!w.params.followText "set-order")) } : Obj) = O at *
 have eO : O = nSet w := by rw [← hO]; rfl
 have sz : (s.heap.push O).objs.size = s.heap.objs.size + 1 := by rw [Heap.size_push]
 have kp : ∀ b o, s.heap.get? b = some o → ((s.heap.push O).push { cls := .type "list_iterator", data := .fields #[.ref l, .int 0 0] }).get? b = some o := fun b o e => Heap.get?_push_of_some _ (Heap.get?_push_of_some _ e)
 have nI : ∀ b, b ≤ s.heap.objs.size → b ≠ (s.heap.push O).objs.size := fun b z y => by rw [sz] at y; omega
 refine set_loop (A := A.in1.in1) (L := L) ((Walks.list (A := A.in1.in1.in1) hh (s.heap.push O).objs.size l (nI l (Nat.le_of_lt hls)) items).toS) (show A.units + 1 + 1 + 1 < cLine by omega) (S := s.heap.objs.size) (fun z => ?_) (fun b hb z => ?_) ky hz items.size 0 _ rfl (Nat.zero_le _) ⟨⟨_, Heap.get?_push_size _ rfl, rfl, rfl⟩, hl1.push _⟩ (SetK.new (by rw [← eO]; exact Heap.get?_push_of_some _ hS)) (fun i v _ hv => ?_) fun s' mv T => ?_
 ·rcases List.mem_cons.mp z with z | z
  ·exact nI _ (Nat.le_refl _) z
  ·rw [List.mem_singleton.mp z] at hls
   exact Nat.lt_irrefl _ hls
 ·have lb := hL b hb
  rcases List.mem_cons.mp z with z | z
  ·rw [z] at lb
   exact Nat.lt_irrefl _ lb
  ·exact nI b (Nat.le_of_lt lb) (List.mem_singleton.mp z)
 ·obtain ⟨a, rfl, la, ka⟩ := hk i v hv
  exact ⟨a, rfl, la, ka.keep fun o e => kp a o e⟩
 ·refine wpAny_pure (wpAny_pure ⟨rfl, ?_⟩)
  obtain ⟨h', g', d', tk', os'⟩ := s'
  cases (show g' = s.gens from mv.gens)
  cases (show d' = s.drawn from mv.drawn)
  cases (show os' = s.os from mv.os)
  refine q h' tk' T (fun b o e => mv.heap b o (fun z => ?_) (kp b o e)) mv.toks
  have lb := Heap.lt_size e
  rcases List.mem_cons.mp z with z | z
  ·rw [z] at lb
   exact Nat.lt_irrefl _ lb
  ·exact nI b (Nat.le_of_lt lb) (List.mem_singleton.mp z)
end
theorem sl_next : Slot "set_iterator" "__next__" "set_iterator.__next__" :=
 .of (owner := "set_iterator") (n := "__next__") (by rw [typeLookup_type, builtinLookup_eq_fast]; kernel_rfl) (by decide +kernel) (by decide +kernel) (by decide +kernel) (by first | exact .inl (by decide +kernel) | exact .inr (by decide +kernel)) (by rw [isSubtype_type]; kernel_rfl)
theorem sl_iter : Slot "set_iterator" "__iter__" "set_iterator.__iter__" :=
 .of (owner := "set_iterator") (n := "__iter__") (by rw [typeLookup_type, builtinLookup_eq_fast]; kernel_rfl) (by decide +kernel) (by decide +kernel) (by decide +kernel) (by first | exact .inl (by decide +kernel) | exact .inr (by decide +kernel)) (by rw [isSubtype_type]; kernel_rfl)
theorem own_si : Manifest.owners.lookup (String.ofList ['r', 'o', 't', 'a', 'r', 'e', 't', 'i', '_', 't', 'e', 's'].reverse) = some Manifest.sig_set_iterator := by kernel_rfl
theorem en_next : entryFor table "set_iterator.__next__" = some Builtin.«set_iterator.__next__» := entryFor_of_tree (by kernel_rfl)
theorem en_iter : entryFor table "set_iterator.__iter__" = some Builtin.«dict_keyiterator.__iter__» := entryFor_alias (id' := "dict_keyiterator.__iter__") (by kernel_rfl) rfl (by decide +kernel) (by kernel_rfl)
theorem en_siter : entryFor table "set.__iter__" = some Builtin.«frozenset.__iter__» := entryFor_alias (id' := "frozenset.__iter__") (by kernel_rfl) rfl (by decide +kernel) (by kernel_rfl)
theorem ar_next (a : Value) : argsOk "set_iterator.__next__" ⟨[a], []⟩ := by
 unfold argsOk
 rw [signature?_of (id := "set_iterator.__next__") (n := ['_', '_', 't', 'x', 'e', 'n', '_', '_']) (o := ['r', 'o', 't', 'a', 'r', 'e', 't', 'i', '_', 't', 'e', 's']) (by kernel_rfl) own_si]
 kernel_rfl
theorem ar_iter (a : Value) : argsOk "set_iterator.__iter__" ⟨[a], []⟩ := by
 unfold argsOk
 rw [signature?_of (id := "set_iterator.__iter__") (n := ['_', '_', 'r', 'e', 't', 'i', '_', '_']) (o := ['r', 'o', 't', 'a', 'r', 'e', 't', 'i', '_', 't', 'e', 's']) (by kernel_rfl) own_si]
 kernel_rfl
theorem pick_go {α : Type} (next : Nat → Nat) : ∀ (fuel k : Nat) (left : List α) (out : Array α), fuel = left.length → (pickOrder.go next fuel k left out).toList.Perm (out.toList ++ left)
 | 0, k, left, out, h => by
  have : left = [] := List.length_eq_zero_iff.mp h.symm
  subst this
  unfold pickOrder.go
  rw [List.append_nil]
 | fuel + 1, k, left, out, h => by
  have hl : next k % left.length < left.length := Nat.mod_lt _ (by omega)
  unfold pickOrder.go
  rw [List.getElem?_eq_getElem hl]
  dsimp only
  refine (pick_go next fuel (k + 1) _ _ (by rw [List.length_eraseIdx_of_lt hl]; omega)).trans ?_
  rw [Array.toList_push, List.append_assoc]
  refine List.Perm.append_left _ ?_
  rw [List.eraseIdx_eq_take_drop_succ]
  show (left[next k % left.length] :: (left.take (next k % left.length) ++ left.drop (next k % left.length + 1))).Perm left
  refine (List.perm_middle (l₁ := left.take (next k % left.length))).symm.trans ?_
  rw [List.getElem_cons_drop, List.take_append_drop]
theorem pick_perm {α : Type} (next : Nat → Nat) (xs : Array α) : (pickOrder next xs).toList.Perm xs.toList := by
 have := pick_go next xs.size 0 xs.toList #[] (Array.length_toList ..).symm
 exact this
def ordK (w : World) (S : Addr) (ep : Nat) (es : Array (Int × Value)) : Array (Int × Value) := if w.params.followText "set-order" = true then pickOrder (w.params.setOrder S ep) es else es
theorem ord_perm (w : World) (S : Addr) (ep : Nat) (es : Array (Int × Value)) : (ordK w S ep es).toList.Perm es.toList := by
 unfold ordK
 split
 ·exact pick_perm _ _
 ·exact List.Perm.refl _
theorem ord_size (w : World) (S : Addr) (ep : Nat) (es : Array (Int × Value)) : (ordK w S ep es).size = es.size := by
 have := (ord_perm w S ep es).length_eq
 rw [Array.length_toList, Array.length_toList] at this
 exact this
def slotAt (w : World) (t : SetTable) (i : Nat) : Nat := if w.params.followText "set-order" = true then 0 else match i with
 | 0 => 0
 | i + 1 => t.place.getD i 0 + 1
def IterAt (w : World) (h : Heap) (I S : Addr) (t : SetTable) (n ep i : Nat) : Prop := ∃ o, h.get? I = some o ∧ o.cls = .type "set_iterator" ∧ ∃ u0 u1 u2 u3, o.data = .fields #[.int (slotAt w t i : Nat) u0, .int (i : Nat) u1, .ref S, .int (n : Nat) u2, .int (ep : Nat) u3]
structure SetW (w : World) (h : Heap) (S : Addr) (hs : List Int) (o : Obj) (es : Array (Int × Value)) (ep : Nat) (t : SetTable) : Prop where
 g : h.get? S = some o
 x : o.ExactSet
 d : o.data = .set es ep t
 pl : t.plain = true
 ld : t.led = !w.params.followText "set-order"
 tb : Tab t hs
 sz : es.size = hs.length
theorem SetR.w {prog : Program} {w : World} {h : Heap} {S : Addr} {ks : List (List Int)} {o : Obj} {es : Array (Int × Value)} {ep : Nat} {t : SetTable} (R : SetR prog w h S ks o es ep t) : SetW w h S (ks.map (hK prog w)) o es ep t := ⟨R.g, R.x, R.d, R.pl, R.ld, R.tb, by rw [List.length_map]; exact R.sz⟩
theorem SetW.fits {w : World} {h : Heap} {S : Addr} {hs : List Int} {o : Obj} {es : Array (Int × Value)} {ep : Nat} {t : SetTable} (R : SetW w h S hs o es ep t) : t.fits es.size = true := by
 unfold SetTable.fits SetTable.fill
 have a := R.tb.s
 have b := R.tb.z
 rw [R.tb.d, a, R.sz]
 simpa using b
section
variable {prog : Program} {w : World} {A : Around} {E : Value → Shared → Prop} {s : Shared} {S I : Addr} {hs : List Int} {o : Obj} {es : Array (Int × Value)} {ep : Nat} {t : SetTable}
theorem IterAt.ty {n i : Nat} (h : IterAt w s.heap I S t n ep i) : s.TypeIs (.ref I) "set_iterator" := by
 obtain ⟨o, h1, h2, _⟩ := h
 exact ⟨o, h1, h2⟩
theorem SetW.ty (R : SetW w s.heap S hs o es ep t) : s.TypeIs (.ref S) "set" := ⟨o, R.g, R.x.1⟩
theorem set_iter {Q : Value → Shared → Prop} (R : SetW w s.heap S hs o es ep t) (q : Q (.ref s.heap.objs.size) { s with heap := s.heap.push { cls := .type "set_iterator", data := .fields #[rawInt 0, rawInt 0, .ref S, rawInt es.size, rawInt ep] } }) : wpAny (model prog w) A (pyIter (.ref S)) Q E s := by
 have hf := R.fits
 refine wpAny_pyIter_slot R.ty F.slot_set_iter (wpAny_call_entry F.slot_set_iter R.ty en_siter ?_ (F.args_set_iter_1 _))
 unfold Builtin.«frozenset.__iter__»
 refine wpAny_bind (m := Builtin.Frozenset.slot0 "__iter__" _) (wpAny_pure ?_)
 unfold Builtin.Frozenset.sizeOf setEntries
 refine wpAny_bind (wpAny_bind (wpAny_bind (wpAny_setState_of R.g R.d hf (wpAny_pure (wpAny_pure ?_)))))
 dsimp only
 unfold setDrawn
 refine wpAny_bind (wpAny_bind (wpAny_setState_of R.g R.d hf ?_))
 dsimp only
 unfold setsByText
 refine wpAny_bind (wpAny_bind (wpAny_askSetting (wpAny_pure (wpAny_pure ?_))))
 generalize hg : (!(model prog w).w.params.followText "set-order" && _) = b
 have hg : (!w.params.followText "set-order" && (!t.plain && decide (es.size > 1))) = b := hg
 have : b = false := by
  rw [← hg, R.pl]
  simp
 subst this
 rw [if_neg (by decide)]
 refine wpAny_bind (wpAny_pure ?_)
 unfold setEpoch
 refine wpAny_bind (wpAny_bind (wpAny_setState_of R.g R.d hf (wpAny_pure ?_)))
 dsimp only
 exact wpAny_bind (wpAny_newObj_type (wpAny_pure ⟨_, rfl, _, _, ⟨_, Heap.get?_push_size _ rfl, rfl⟩, sl_next.lookup, q⟩))
theorem below_at (R : SetW w s.heap S hs o es ep t) (hb : w.params.followText "set-order" = false) {i : Nat} (hi : i ≤ t.place.size) : SetTable.below t.place (slotAt w t i) = i := by
 obtain ⟨b1, b2, b3⟩ := below_ok R.tb.r (slotAt w t i)
 unfold slotAt at b1 b2 b3 ⊢
 rw [if_neg (by rw [hb]; decide)] at b1 b2 b3 ⊢
 cases i with
 | zero =>
  dsimp only at b1 b2 b3 ⊢
  rcases Nat.eq_zero_or_pos (SetTable.below t.place 0) with z | z
  ·exact z
  ·have := b2 0 _ z (Array.getElem?_eq_getElem (by omega))
   omega
 | succ i =>
  dsimp only at b1 b2 b3 ⊢
  have il : i < t.place.size := hi
  have g : t.place.getD i 0 = t.place[i] := by simp [Array.getD, il]
  rw [g] at b1 b2 b3 ⊢
  rcases Nat.lt_trichotomy (SetTable.below t.place (t.place[i] + 1)) (i + 1) with z | z | z
  ·have := b3 i _ (by omega) (Array.getElem?_eq_getElem il)
   omega
  ·exact z
  ·have l1 : i + 1 < t.place.size := by omega
   have a := b2 (i + 1) _ z (Array.getElem?_eq_getElem l1)
   have b := R.tb.r i (i + 1) _ _ (Nat.lt_succ_self _) (Array.getElem?_eq_getElem il) (Array.getElem?_eq_getElem l1)
   omega
theorem next_ok {Q : Option (Value × Nat) → Shared → Prop} (R : SetW w s.heap S hs o es ep t) {i : Nat} (hi : i ≤ es.size) (q : Q (((ordK w S ep es)[i]?).map fun e => (e.2, slotAt w t (i + 1))) s) : wpAny (model prog w) A (setNext S (slotAt w t i) i ep) Q E s := by
 have hf := R.fits
 have psz : t.place.size = es.size := by rw [R.tb.s, R.sz]
 unfold setNext
 refine wpAny_bind (wpAny_setState_of R.g R.d hf ?_)
 dsimp only
 unfold setsByText
 refine wpAny_bind (wpAny_bind (wpAny_askSetting (wpAny_pure ?_)))
 show wpAny (model prog w) A (if w.params.followText "set-order" = true then _ else _) Q E s
 cases hb : w.params.followText "set-order" with
 | true =>
  rw [if_pos rfl, if_neg (by simp)]
  unfold setWalk
  refine wpAny_bind (wpAny_bind (wpAny_setState_of R.g R.d hf ?_))
  dsimp only
  unfold setsByText
  refine wpAny_bind (wpAny_bind (wpAny_askSetting (wpAny_pure ?_)))
  show wpAny (model prog w) A (if w.params.followText "set-order" = true then _ else _) _ _ _
  rw [hb, if_pos rfl]
  refine wpAny_bind (wpAny_askSetting (wpAny_pure (wpAny_pure ?_)))
  have e : ordK w S ep es = pickOrder (w.params.setOrder S ep) es := by unfold ordK; rw [if_pos hb]
  have e0 : ∀ i, slotAt w t i = 0 := fun i => by unfold slotAt; rw [if_pos hb]
  rw [e, e0] at q
  rw [e0]
  exact q
 | false =>
  rw [if_neg (by decide)]
  have e : ordK w S ep es = es := by unfold ordK; rw [if_neg (by rw [hb]; decide)]
  rw [e] at q
  refine wpAny_ite_split (fun h => ?_) (fun _ => ?_)
  ·have h : (!t.plain && decide (es.size > 1)) = true := h
   rw [R.pl] at h
   simp at h
  ·have led : t.led = true := by rw [R.ld, hb]; rfl
   refine wpAny_bind ?_
   show wpAny (model prog w) A (if (!t.led && !es.isEmpty) = true then unsupported "set:maker-not-led" else pure ()) _ E s
   rw [led, if_neg (by simp)]
   refine wpAny_pure (wpAny_pure ?_)
   rw [below_at R hb (by rw [psz]; exact hi)]
   rcases Nat.lt_or_ge i es.size with z | z
   ·have pl : i < t.place.size := by rw [psz]; exact z
    have sa : slotAt w t (i + 1) = t.place[i] + 1 := by
     unfold slotAt
     rw [if_neg (by rw [hb]; decide)]
     simp [Array.getD, pl]
    rw [Array.getElem?_eq_getElem z, sa] at q
    rw [Array.getElem?_eq_getElem z, Array.getElem?_eq_getElem pl]
    exact q
   ·rw [Array.getElem?_eq_none z] at q
    rw [Array.getElem?_eq_none z]
    exact q
theorem it_next {Q : Option Value → Shared → Prop} {i : Nat} (hit : IterAt w s.heap I S t es.size ep i) (R : SetW w s.heap S hs o es ep t) (lt : i < es.size) {x : Int × Value} (hx : (ordK w S ep es)[i]? = some x)
  (q : ∀ h', IterAt w h' I S t es.size ep (i + 1) → Heap.SameBut I s.heap h' → Q (some x.2) { s with heap := h' }) : wpAny (model prog w) A (pyNext (.ref I)) Q E s := by
 have ty := hit.ty
 have hf := R.fits
 obtain ⟨oI, ho, hc, u0, u1, u2, u3, hd⟩ := hit
 unfold pyNext
 refine wpAny_bind (wpAny_attempt (wpAny_callSpecial?_slot (name := Str.ofString "__next__") ty sl_next (wpAny_call_entry sl_next ty en_next ?_ (ar_next _))))
 unfold Builtin.«set_iterator.__next__»
 refine wpAny_bind (m := slotArgs "__next__" 0 _) (wpAny_pure ?_)
 refine wpAny_bind (wpAny_fieldsOf ho hd ?_)
 dsimp only
 unfold setEntries
 refine wpAny_bind (wpAny_bind (wpAny_setState_of R.g R.d hf (wpAny_pure ?_)))
 dsimp only
 rw [if_neg (by simp)]
 refine wpAny_bind ?_
 rw [Int.toNat_natCast, Int.toNat_natCast, Int.toNat_natCast]
 refine next_ok R (Nat.le_of_lt lt) ?_
 rw [hx]
 dsimp only [Option.map]
 have g1 := Heap.get?_update_self (Obj.mapFields (·.setIfInBounds 0 (rawInt (slotAt w t (i + 1) : Nat)))) ho (Obj.isFreed_of_fields (Obj.data_mapFields hd _))
 refine wpAny_bind (wpAny_setField ho hd (by simp) ?_)
 have d1 := Obj.data_mapFields hd (·.setIfInBounds 0 (rawInt (slotAt w t (i + 1) : Nat)))
 refine wpAny_bind (wpAny_setField g1 d1 (by simp) ?_)
 have g2 := Heap.get?_update_self (Obj.mapFields (·.setIfInBounds 1 (rawInt ((i : Int) + 1)))) g1 (Obj.isFreed_of_fields (Obj.data_mapFields d1 _))
 have d2 := Obj.data_mapFields d1 (·.setIfInBounds 1 (rawInt ((i : Int) + 1)))
 refine wpAny_pure ⟨_, rfl, wpAny_pure (q _ ⟨_, g2, (Obj.cls_mapFields ..).trans ((Obj.cls_mapFields ..).trans hc), 0, 0, u2, u3, d2.trans (by simp [rawInt])⟩ ((Heap.SameBut.update ..).trans (Heap.SameBut.update ..)))⟩
theorem it_end {Q : Option Value → Shared → Prop} (hh : A.handled = none) (hit : IterAt w s.heap I S t es.size ep es.size) (R : SetW w s.heap S hs o es ep t) (q : ∀ h', Heap.ExtBut I s.heap h' → Q none { s with heap := h' }) : wpAny (model prog w) A (pyNext (.ref I)) Q E s := by
 have ty := hit.ty
 have hf := R.fits
 obtain ⟨oI, ho, hc, u0, u1, u2, u3, hd⟩ := hit
 unfold pyNext
 refine wpAny_bind (wpAny_attempt (wpAny_callSpecial?_slot (name := Str.ofString "__next__") ty sl_next (wpAny_call_entry sl_next ty en_next ?_ (ar_next _))))
 unfold Builtin.«set_iterator.__next__»
 refine wpAny_bind (m := slotArgs "__next__" 0 _) (wpAny_pure ?_)
 refine wpAny_bind (wpAny_fieldsOf ho hd ?_)
 dsimp only
 unfold setEntries
 refine wpAny_bind (wpAny_bind (wpAny_setState_of R.g R.d hf (wpAny_pure ?_)))
 dsimp only
 rw [if_neg (by simp)]
 refine wpAny_bind ?_
 rw [Int.toNat_natCast, Int.toNat_natCast, Int.toNat_natCast]
 refine next_ok R (Nat.le_refl _) ?_
 rw [Array.getElem?_eq_none (by rw [ord_size]; exact Nat.le_refl _)]
 dsimp only [Option.map]
 refine wpAny_bind (m := setField (.ref I) 2 .none) (wpAny_setField ho hd (by simp) ?_)
 refine wpAny_bind (m := newExc (.type "StopIteration") []) ?_
 simp only [newExc, newTuple]
 refine wpAny_bind (wpAny_newObj_type (wpAny_bind (m := firstArgMember _ _) (wpAny_of_eq (a := Value.none) (by first | rfl | (simp only [firstArgMember]; rfl)) ?_)) (by size_fits))
 refine wpAny_newObj_type ?_ (by size_fits)
 simp only [raiseNew]
 refine wpAny_bind (wpAny_handled ?_)
 rw [show A.in1.handled = none from hh]
 refine wpAny_bind (wpAny_pure (wpAny_throw ?_))
 refine wpAny_bind (wpAny_isInstance (T := "StopIteration") (b := true) ⟨_, Heap.get?_push_size _ rfl, rfl⟩ isSubtype_stop ?_)
 exact wpAny_pure (q _ (((Heap.SameBut.update ..).extBut.push _).push _))
theorem hint_set {r : Addr} {Q : Bool → Shared → Prop} (hT : s.TypeIs (.ref r) "set") (h : Q false s) : wpAny (model prog w) A (Builtin.List.listLengthHint (.ref r)) Q E s := by
 unfold Builtin.List.listLengthHint
 refine wpAny_bind (wpAny_specialOf hT F.slot_set_len.lookup ?_)
 generalize hid : ("set.__len__" : String) = id0
 wp_delta
 rw [show splitId id0 = some ("set", "__len__") from by subst hid; decide +kernel]
 subst hid
 refine wpAny_bind (wpAny_isInstance (T := "set") (b := true) hT sub_set_self ?_)
 refine wpAny_ite_split (fun hab => absurd hab (by decide)) (fun _ => ?_)
 refine wpAny_ite_split (fun _ => ?_) (fun hab => absurd (by decide +kernel) hab)
 exact wpAny_bind (wpAny_typeOf hT (wpAny_pure h))
theorem it_self {Q : Value → Shared → Prop} {n i : Nat} (hit : IterAt w s.heap I S t n ep i) (h : Q (.ref I) s) : wpAny (model prog w) A (pyIter (.ref I)) Q E s := by
 refine wpAny_pyIter_slot hit.ty sl_iter (wpAny_call_entry sl_iter hit.ty en_iter ?_ (ar_iter _))
 show wpAny _ _ (ret (.ref I)) _ _ s
 exact wpAny_pure ⟨_, rfl, "set_iterator", _, hit.ty, sl_next.lookup, h⟩
theorem set_walks (hh : A.handled = none) (hne : S ≠ I) :
  Walks prog w A I [I, S] [I] es.size (fun i v => ∃ e, (ordK w S ep es)[i]? = some e ∧ v = e.2) (fun i h => IterAt w h I S t es.size ep i ∧ ∃ o, SetW w h S hs o es ep t) where
 sub := fun b hb => List.mem_cons.mpr (.inl (List.mem_singleton.mp hb))
 frame := fun i h h' st hk => by
  obtain ⟨⟨oI, h1, h2, h3⟩, o, R⟩ := st
  exact ⟨⟨oI, hk I (by simp) oI h1, h2, h3⟩, o, ⟨hk S (by simp) o R.g, R.x, R.d, R.pl, R.ld, R.tb, R.sz⟩⟩
 item := fun i s Q E hi st hQ => by
  obtain ⟨st1, o, R⟩ := st
  have ol : i < (ordK w S ep es).size := by rw [ord_size]; exact hi
  refine it_next st1 R hi (Array.getElem?_eq_getElem ol) fun h' hit' sb => hQ _ h' s.toks ⟨_, Array.getElem?_eq_getElem ol, rfl⟩ ⟨hit', o, ⟨(sb.2 S hne).trans R.g, R.x, R.d, R.pl, R.ld, R.tb, R.sz⟩⟩ fun b o hb e => (sb.2 b fun z => hb (by simp [z])).trans e
 done := fun s Q E st hQ => by
  obtain ⟨st1, o, R⟩ := st
  exact it_end hh st1 R fun h' he' => hQ h' s.toks fun b o hb e => he' b o (fun z => hb (by simp [z])) e
 self := fun _ _ _ _ st hQ => it_self st.1 hQ
theorem set_src : PySem.W.KdlSrc prog w "set" S S es.size (fun i v => ∃ e, (ordK w S ep es)[i]? = some e ∧ v = e.2) (fun h => ∃ o, SetW w h S hs o es ep t) where
 type := fun s ⟨o, R⟩ => R.ty
 there := fun h ⟨o, R⟩ => ⟨Heap.lt_size R.g, Heap.lt_size R.g⟩
 keep := fun h h' ⟨o, R⟩ hk => ⟨o, ⟨hk S (.inl rfl) o R.g, R.x, R.d, R.pl, R.ld, R.tb, R.sz⟩⟩
 notList := by decide
 notTuple := by decide
 hint := fun A E s Q ⟨o, R⟩ hq => hint_set R.ty hq
 iter := fun A s hh ⟨o, R⟩ => ⟨_, _, (fun E Q hq => set_iter R hq), set_walks (hs := hs) (t := t) hh (Nat.ne_of_lt (Heap.lt_size R.g)), ⟨_, Heap.get?_push_size _ rfl, rfl, 0, 0, 0, 0, by
  have : slotAt w t 0 = 0 := by unfold slotAt; split <;> rfl
  rw [this]
  rfl⟩, o, ⟨Heap.get?_push_of_some _ R.g, R.x, R.d, R.pl, R.ld, R.tb, R.sz⟩⟩
end
end HS

namespace L2
open PySem PySem.Spec PyProof.Rows
theorem perm_lift {α β : Type} (f : α → β) {a b : List β} (h : a.Perm b) : ∀ m : List α, m.map f = b → ∃ l : List α, l.Perm m ∧ l.map f = a := by
 induction h with
 | nil =>
  intro m e
  rw [List.map_eq_nil_iff.mp e]
  exact ⟨[], List.Perm.refl _, rfl⟩
 | cons x _ ih =>
  intro m e
  cases m with
  | nil => cases e
  | cons y m =>
   injection e with e1 e2
   obtain ⟨l, p, q⟩ := ih m e2
   exact ⟨y :: l, p.cons y, by rw [List.map_cons, q, e1]⟩
 | swap x y l =>
  intro m e
  match m, e with
  | p :: q :: m, e =>
   injection e with e1 e2
   injection e2 with e2 e3
   exact ⟨q :: p :: m, List.Perm.swap p q m, by rw [List.map_cons, List.map_cons, e1, e2, e3]⟩
 | trans _ _ ih1 ih2 =>
  intro m e
  obtain ⟨l, p, q⟩ := ih2 m e
  obtain ⟨l2, p2, q2⟩ := ih1 l q
  exact ⟨l2, p2.trans p, q2⟩
theorem perm_nd {α : Type} [DecidableEq α] : ∀ {l m : List α}, l.Nodup → m.Nodup → (∀ x, x ∈ l ↔ x ∈ m) → l.Perm m
 | [], m, _, _, h => by
  cases m with
  | nil => exact List.Perm.refl _
  | cons x m => exact absurd ((h x).mpr (.head _)) (List.not_mem_nil)
 | x :: l, m, h1, h2, h => by
  obtain ⟨n1, n2⟩ := List.nodup_cons.mp h1
  have hx := (h x).mp (.head _)
  have p := List.perm_cons_erase hx
  refine (List.Perm.cons x (perm_nd n2 (List.Pairwise.sublist (List.erase_sublist) h2) fun y => ?_)).trans p.symm
  by_cases e : y = x
  ·subst e
   constructor
   ·exact fun z => absurd z n1
   ·exact fun z => absurd z (by
     have := p.nodup_iff.mp h2
     exact (List.nodup_cons.mp this).1)
  ·rw [List.mem_erase_of_ne e, ← h y, List.mem_cons]
   exact ⟨fun z => .inr z, fun z => z.resolve_left e⟩
theorem met_mem {f : Nat → List Int} {k : List Int} : ∀ {n : Nat}, k ∈ HS.metK f n ↔ ∃ i, i < n ∧ f i = k
 | 0 => ⟨(fun h => nomatch h), fun ⟨i, h, _⟩ => absurd h (Nat.not_lt_zero _)⟩
 | n + 1 => by
  have ih := met_mem (f := f) (k := k) (n := n)
  unfold HS.metK
  constructor
  ·intro h
   split at h
   ·obtain ⟨i, h1, h2⟩ := ih.mp h
    exact ⟨i, Nat.lt_succ_of_lt h1, h2⟩
   ·rcases List.mem_cons.mp h with z | z
    ·exact ⟨n, Nat.lt_succ_self _, z.symm⟩
    ·obtain ⟨i, h1, h2⟩ := ih.mp z
     exact ⟨i, Nat.lt_succ_of_lt h1, h2⟩
  ·rintro ⟨i, h1, h2⟩
   rcases Nat.lt_or_ge i n with z | z
   ·have := ih.mpr ⟨i, z, h2⟩
    split
    ·exact this
    ·exact .tail _ this
   ·have : i = n := by omega
    subst this
    split
    ·rename_i y
     rw [← h2]; exact y
    ·rw [h2]; exact .head _
section
variable {X : Cx}
def vOf (v : Value) : V := match v with
 | .ref b => .ref b
 | _ => .non
theorem bT_setS : bootBuiltins "set" = some (.type "set") := by decide +kernel
theorem bB_sortedS : bootBuiltins "sorted" = some (.builtin "sorted") := by decide +kernel
def tSS (K : PySem.W.Frag) (te : TE) : TE := fun σ H Q => te σ H fun x H1 => ∃ a xs ks, x = .ref a ∧ SqL K H1 a xs ∧ SRT.RefI H1 xs ks ∧ ks.length < 64 ∧
 ∀ ts ks2 D q, ks2.Nodup → (∀ k, k ∈ ks2 ↔ k ∈ ks) → SRT.RefI H1 ts ks2 → H1 D = none → SRT.Pm ts.length q → SRT.Sd (SRT.lexOf ks2) q ts.length → Q (.ref D) (upd H1 D (.lst (q.toList.map fun i => ts.getD i .non)))
theorem vals_atS : ∀ {xs : List V} {us : List Value}, Vals xs us → ∀ (i : Nat) v, us[i]? = some v → ∃ x, xs[i]? = some x ∧ RelV x v
 | _, _, .nil, i, v, h => by simp at h
 | _, _, .cons r t, 0, v, h => by
  simp at h
  exact ⟨_, rfl, h ▸ r⟩
 | _, _, .cons r t, i + 1, v, h => vals_atS t i v h
theorem ik_of {P : Program} {w : World} {H : Hp} {h : Heap} {b : Addr} {k : List Int} (ok : HOk P w H h) (e : H b = some (.tup (k.map V.int))) : HS.IK P w h k b := by
 obtain ⟨_, its, rv, o, ho, hc, n, hd⟩ := (show ObjOk P w H h b (.tup (k.map V.int)) from ok b _ e)
 refine ⟨o, its.toArray, n, ho, hc, hd, ?_⟩
 rw [List.toList_toArray]
 have key : ∀ {ns : List Int} {vs : List Value}, IntsAre vs ns → ItemsAre (intKind P w) ns vs := by
  intro ns vs q
  induction q with
  | nil => exact .nil
  | cons i t _ ih => exact .cons (intKind_is _ _ _ _) ih
 exact key (intsAre_of rv)
theorem set_call {pins : List (Addr × Obj)} {s1 : Shared} {σ : St} {H1 : Hp} {a : Addr} {xs : List V} {ks : List (List Int)} {A : Around} {E : Value → Shared → Prop} {Q : Value → Shared → Prop} (I1 : Inv X pins σ H1 s1) (hh : A.handled = none) (hu : A.units + 10 < cLine) (hq : SqL X.K H1 a xs) (hr : SRT.RefI H1 xs ks) (h64 : ks.length < 64)
  (q : ∀ h' tk, HS.SetK X.prog X.w h' s1.heap.objs.size (HS.metK (fun i => ks.getD i []) ks.length) (fun b => ∃ k : List Int, H1 b = some (.tup (k.map V.int))) → (∀ b o, s1.heap.get? b = some o → h'.get? b = some o) → Q (.ref s1.heap.objs.size) { s1 with heap := h', toks := tk }) :
  wpAny (model X.prog X.w) A (call (.type "set") [.ref a]) Q E s1 := by
 obtain ⟨its, rv, pl, _⟩ := I1.list hq
 have hlen := rv.length
 have sz : its.toArray.size = ks.length := by rw [List.size_toArray, ← hlen, hr.1]
 refine HS.call_set (prog := X.prog) (w := X.w) hh hu (fun i => ks.getD i []) pl.isList (by rw [sz]; omega) (L := fun b => ∃ k : List Int, H1 b = some (.tup (k.map V.int))) (fun b ⟨k, hb⟩ => ?_) (fun i v hv => ?_) fun h' tk T kp ht => ?_
 ·obtain ⟨o, _, _, ho, _⟩ := ik_of I1.hok hb
  exact Heap.lt_size ho
 ·rw [List.getElem?_toArray] at hv
  obtain ⟨x, hx, rx⟩ := vals_atS rv i v hv
  have il : i < ks.length := by rw [← hr.1]; exact (List.getElem?_eq_some_iff.mp hx).1
  obtain ⟨⟨b, eb, hb⟩, _⟩ := hr.2 i x ks[i] hx (List.getElem?_eq_getElem il)
  subst eb
  refine ⟨b, rx, ⟨_, hb⟩, ?_⟩
  have : ks.getD i [] = ks[i] := by simp [List.getD, il]
  rw [this]
  exact ik_of I1.hok hb
 ·rw [sz] at T
  exact q h' tk T kp
theorem pe_sortset {e : Expr} {te : TE} {p1 p2 pos1 pos2 : Pos} (hc : X.calm = true) (hu : X.A.units + 64 < cLine) (hg1 : Gl X "sorted") (hm1 : X.mg "sorted" = none) (hg2 : Gl X "set") (hm2 : X.mg "set" = none) (he : PE X e te)
  (hs1 : starEach [.Call (.Name "set" p2) [e] [] pos2] X.env = (false, eval (.Call (.Name "set" p2) [e] [] pos2) X.env) :: starEach [] X.env := by rfl) (hs2 : starEach [e] X.env = (false, eval e X.env) :: starEach [] X.env := by rfl) :
  PE X (.Call (.Name "sorted" p1) [.Call (.Name "set" p2) [e] [] pos2] [] pos1) (tSS X.K te) := by
 intro pins s σ H Q I h
 refine wpAny_Call_Name_kw (ld_blt I hg1 hm1 bB_sortedS (PyProof.Rows.callWith_builtin1 ?_ hs1 rfl))
 rw [hs1]
 show wpAny _ _ (spliced ((false, eval _ X.env) :: backTo pos1 (starEach [] X.env))) _ _ s
 refine Calls.spliced_cons (wpAny_Call_Name_kw (ld_blt I hg2 hm2 bT_setS (PyProof.Rows.callWith_type1 ?_ hs2 rfl)))
 rw [hs2]
 show wpAny _ _ (spliced ((false, eval _ X.env) :: backTo pos2 (starEach [] X.env))) _ _ s
 refine Calls.spliced_cons (thn (he pins s σ H _ I h) fun u s1 ⟨x, H1, I1, r1, a, xs, ks, ex, hq, hr, h64, q⟩ => Calls.spliced_nil ?_)
 subst ex
 cases (show u = Value.ref a from r1)
 refine set_call I1 (I.ok.hd hc) (by omega) hq hr h64 fun h' tk T kp => Calls.spliced_nil ?_
 obtain ⟨ks', o, es, ep, t, pm, ft, lo, R⟩ := T
 have I2 : Inv X pins σ H1 { s1 with heap := h', toks := tk } := I1.kept (t' := tk) kp
 have mem : ∀ k, k ∈ ks' ↔ k ∈ ks := fun k => by
  rw [pm.mem_iff, met_mem]
  constructor
  ·rintro ⟨i, h1, h2⟩
   rw [← h2]
   have : ks.getD i [] = ks[i] := by simp [List.getD, h1]
   rw [this]
   exact List.getElem_mem h1
  ·intro hk
   obtain ⟨i, hi, e⟩ := List.mem_iff_getElem.mp hk
   exact ⟨i, hi, by rw [← e]; simp [List.getD, hi]⟩
 have pl : ks'.length < 64 := by
  have := HS.metK_len (fun i => ks.getD i []) ks.length
  rw [pm.length_eq]
  omega
 have hes : (es.toList.zip ks').map Prod.fst = es.toList := by
  rw [List.map_fst_zip]
  rw [Array.length_toList, R.sz]
  exact Nat.le_refl _
 obtain ⟨pr, pp, pe⟩ := perm_lift Prod.fst (HS.ord_perm X.w s1.heap.objs.size ep es) (es.toList.zip ks') hes
 have pk : (pr.map Prod.snd).Perm ks' := by
  have := pp.map Prod.snd
  rw [List.map_snd_zip (by have := R.sz; rw [← Array.length_toList] at this; omega)] at this
  exact this
 have each : ∀ p ∈ pr, ∃ b, p.1.2 = Value.ref b ∧ H1 b = some (.tup (p.2.map V.int)) := fun p hp => by
  have hz := pp.mem_iff.mp hp
  obtain ⟨i, hi, e⟩ := List.mem_iff_getElem.mp hz
  rw [List.getElem_zip] at e
  rw [List.length_zip] at hi
  have ik : i < ks'.length := by omega
  obtain ⟨b, h1, h2⟩ := R.at' i ks'[i] (List.getElem?_eq_getElem ik)
  have ie : i < es.size := by rw [R.sz]; exact ik
  rw [Array.getElem?_eq_getElem ie] at h1
  have h1 := Option.some.inj h1
  obtain ⟨c, e1, k2, e2⟩ := lo _ (Array.getElem_mem ie)
  rw [h1] at e1
  cases e1
  have ik2 := ik_of I2.hok e2
  have : k2 = ks'[i] := ik2.inj h2
  rw [← e]
  refine ⟨b, ?_, ?_⟩
  ·show (es.toList[i]).2 = _
   rw [Array.getElem_toList, h1]
  ·show H1 b = some (.tup ((ks'[i]).map V.int))
   rw [← this]
   exact e2
 have rts : SRT.RefI H1 (pr.map fun p => vOf p.1.2) (pr.map Prod.snd) := by
  refine ⟨by rw [List.length_map, List.length_map], fun i t k e1 e2 => ?_⟩
  rw [List.getElem?_map] at e1 e2
  cases ep' : pr[i]? with
  | none => rw [ep'] at e1; cases e1
  | some p =>
   rw [ep'] at e1 e2
   cases e1
   cases e2
   have hp := List.mem_of_getElem? ep'
   obtain ⟨b, h1, h2⟩ := each p hp
   refine ⟨⟨b, by show vOf p.1.2 = _; rw [h1]; rfl, h2⟩, ?_⟩
   have hk : p.2 ∈ ks := (mem _).mp (pk.mem_iff.mp (List.mem_map.mpr ⟨p, hp, rfl⟩))
   obtain ⟨j, hj, ej⟩ := List.mem_iff_getElem.mp hk
   have xl : j < xs.length := by rw [hr.1]; exact hj
   have := (hr.2 j xs[j] ks[j] (List.getElem?_eq_getElem xl) (List.getElem?_eq_getElem hj)).2
   rw [← ej]
   exact this
 have rv : Vals (pr.map fun p => vOf p.1.2) (pr.map fun p => p.1.2) := by
  have : ∀ l : List ((Int × Value) × List Int), (∀ p ∈ l, ∃ b, p.1.2 = Value.ref b ∧ H1 b = some (.tup (p.2.map V.int))) → Vals (l.map fun p => vOf p.1.2) (l.map fun p => p.1.2) := by
   intro l
   induction l with
   | nil => exact fun _ => .nil
   | cons p l ih =>
    intro hl
    obtain ⟨b, h1, _⟩ := hl p (.head _)
    refine .cons ?_ (ih fun x hx => hl x (.tail _ hx))
    show RelV (vOf p.1.2) p.1.2
    rw [h1]
    rfl
  exact this pr each
 have prl : pr.length = ks'.length := by
  have := pk.length_eq
  rw [List.length_map] at this
  exact this
 have ev : (HS.ordK X.w s1.heap.objs.size ep es).toList.map (·.2) = pr.map fun p => p.1.2 := by
  rw [← pe, List.map_map]
  rfl
 refine SRT.sorted_tup (s := { s1 with heap := h', toks := tk }) (Ok := fun vs => vs = pr.map fun p => p.1.2) (fun R0 hR => ?_) (pr.map Prod.snd) (fun vs e => ⟨e ▸ SRT.refI_tups I2.hok rts rv, by rw [e, List.length_map]; omega⟩) fun h2 hf tk2 c vs q' k1 k2 e p1 p2 hc2 => ?_
 ·refine PySem.W.kdu_collect (A := X.A.in1) (s := { s1 with heap := h', toks := tk }) (HS.set_src (prog := X.prog) (w := X.w) (hs := ks'.map (HS.hK X.prog X.w)) (t := t) (es := es) (ep := ep)) (I.ok.hd hc) ⟨o, R.w⟩ (by rw [R.sz, sizeLine_eq]; omega) fun h2 tk2 acc hk hacc => hR h2 tk2 _ hk ?_
  rw [← ev]
  apply List.ext_getElem?
  intro i
  rw [Array.getElem?_toList, List.getElem?_map, Array.getElem?_toList]
  rcases Nat.lt_or_ge i acc.size with z | z
  ·obtain ⟨x, e1, e2⟩ := hacc.2 i acc[i] (Array.getElem?_eq_getElem z)
   rw [Array.getElem?_eq_getElem z, e1, e2]
   rfl
  ·rw [Array.getElem?_eq_none z, Array.getElem?_eq_none (by rw [HS.ord_size, ← hacc.1]; exact z)]
   rfl
 ·have hlen := rv.length
  subst e
  exact SRT.sort_inv I2 rv (by rw [List.length_map]; omega) k1 k2 p1 hc2 fun D hD => q _ _ D q' (pk.nodup_iff.mpr R.nd) (fun k => by rw [pk.mem_iff]; exact mem k) rts hD (hlen ▸ p1) (hlen ▸ p2)
end
end L2
namespace M
open PySem PySem.Spec PyProof.Rows L2
def ddK : List (List Int) → List (List Int)
 | [] => []
 | k :: r => if k ∈ ddK r then ddK r else k :: ddK r
theorem ddK_mem {x : List Int} : ∀ {ks : List (List Int)}, x ∈ ddK ks ↔ x ∈ ks
 | [] => Iff.rfl
 | k :: r => by
  have ih := ddK_mem (x := x) (ks := r)
  unfold ddK
  split
  ·rename_i z
   rw [ih, List.mem_cons]
   constructor
   ·exact .inr
   ·rintro (e | e)
    ·rw [e]; exact ddK_mem.mp z
    ·exact e
  ·rw [List.mem_cons, List.mem_cons, ih]
theorem ddK_nd : ∀ ks : List (List Int), (ddK ks).Nodup
 | [] => List.Pairwise.nil
 | k :: r => by
  unfold ddK
  split
  ·exact ddK_nd r
  ·rename_i z
   exact List.nodup_cons.mpr ⟨z, ddK_nd r⟩
def sortSetE (x : Ev) : Res Ev := match lstOf x with
 | some ds => match keysD ds with
  | some ks => if (ks.all fun k => !k.isEmpty) = true ∧ ks.length < 64 then .ok (.f (.list ((sortK (ddK ks)).map tupD))) else .bad
  | none => .bad
 | none => .bad
theorem ne_all {ks : List (List Int)} (h : (ks.all fun k => !k.isEmpty) = true) : ∀ k ∈ ks, k ≠ [] := fun k hk z => by
 have := List.all_eq_true.mp h k hk
 rw [z] at this
 cases this
theorem dd_perm {ks ks2 : List (List Int)} (nd : ks2.Nodup) (hm : ∀ k, k ∈ ks2 ↔ k ∈ ks) : ks2.Perm (ddK ks) := perm_nd nd (ddK_nd ks) fun x => by rw [hm, ddK_mem]
theorem de_sortset {X : Cx} {E : L2.St → XK} {e : Expr} {fe : En → Res Ev} {p1 p2 pos1 pos2 : Pos} (hc : X.calm = true) (hu : X.A.units + 64 < cLine) (hg1 : Gl X "sorted") (hm1 : X.mg "sorted" = none) (hg2 : Gl X "set") (hm2 : X.mg "set" = none) (he : DE X E e fe)
  (hs1 : starEach [.Call (.Name "set" p2) [e] [] pos2] X.env = (false, eval (.Call (.Name "set" p2) [e] [] pos2) X.env) :: starEach [] X.env := by rfl) (hs2 : starEach [e] X.env = (false, eval e X.env) :: starEach [] X.env := by rfl) :
  DE X E (.Call (.Name "sorted" p1) [.Call (.Name "set" p2) [e] [] pos2] [] pos1) (mUn sortSetE fe) := by
 obtain ⟨t, q, m⟩ := he.out
 refine DE.in ⟨_, pe_sortset hc hu hg1 hm1 hg2 hm2 q hs1 hs2, fun B G0 G W H σ en Q hh hs hw => m B G0 G W H σ en _ hh hs ?_⟩
 have hw : wpR ((fe en).bind _) _ _ := hw
 rw [wpR_bind] at hw
 refine wpR_mono hw (fun r hr G1 H1 v s e => ?_) fun C h => h
 obtain ⟨G2, s2, e2⟩ := e.c s
 unfold sortSetE at hr
 cases el : lstOf r.c with
 | none => rw [el] at hr; exact hr.elim
 | some ds =>
  rw [el] at hr
  dsimp only at hr
  cases ek : keysD ds with
  | none => rw [ek] at hr; exact hr.elim
  | some ks =>
   rw [ek] at hr
   dsimp only at hr
   by_cases hz : (ks.all fun k => !k.isEmpty) = true ∧ ks.length < 64
   ·rw [if_pos hz] at hr
    obtain ⟨a, xs, rfl, h1, h2⟩ := lst_at s2.gh e2 el
    cases (keysD_eq ek)
    refine ⟨a, xs, ks, rfl, .inl h1, reps_refI s2.gh h2 (ne_all hz.1), hz.2, fun ts ks2 D q nd hm rf hD hp hS => ?_⟩
    have hl : ts.length = ks2.length := rf.1
    have pk := picked hl hp hS
    have se : sortK ks2 = sortK (ddK ks) := sorted_uniq ((sortK_perm ks2).trans ((dd_perm nd hm).trans (sortK_perm _).symm)) (sortK_sorted _) (sortK_sorted _)
    have st := (s2.trans (wt_step s2.gh)).trans (Step.lay (o := .lst (q.toList.map fun i => ts.getD i .non)) (wt_in s2.gh) hD)
    refine hr _ _ _ st ⟨D, _, rfl, s2.h.free hD, (wt_in s2.gh).free hD, upd_same, .lst ?_⟩
    rw [← se, ← pk]
    refine pick_reps (fun i hi => ?_) _ (fun i hi => by rw [← hl]; exact pm_lt hp i hi)
    have hi' : i < ts.length := by omega
    obtain ⟨⟨b, eb, hb⟩, _⟩ := rf.2 i ts[i] ks2[i] (List.getElem?_eq_getElem hi') (List.getElem?_eq_getElem hi)
    have e1 : ts.getD i .non = ts[i] := by simp [hi']
    have e2 : ks2.getD i [] = ks2[i] := by simp [hi]
    rw [e1, e2, eb]
    exact tupD_rep (wt_tup s2.gh hb)
   ·rw [if_neg hz] at hr
    exact hr.elim
end M

namespace HS
open PySem PySem.Spec PyProof.Rows
section
open PySem.SeqAt
open PySem.AutoSeq1 (wpAny_loadPart')
open PySem.MeetsSeq PySem.MeetsSeq2 PySem.MeetsSeq3
end
section
variable {prog : Program} {w : World} {A : Around} {E : Value → Shared → Prop} {s : Shared}
end
section
variable {prog : Program} {w : World} {A : Around} {R : Result → Shared → Prop} {I S : Addr} {fp wr : List Addr} {n : Nat} {P : Nat → Value → Prop} {St : Nat → Heap → Prop} {Ok : Heap → Prop} {bt : Nat → Nat → Bool}
end
section
variable {prog : Program} {w : World} {A : Around} {E : Value → Shared → Prop} {s : Shared}
end
section
variable {prog : Program} {w : World} {A : Around} {R : Result → Shared → Prop} {I S : Addr} {fp wr : List Addr} {n : Nat} {P : Nat → Value → Prop} {St : Nat → Heap → Prop} {Ok : Heap → Prop} {bt : Nat → Nat → Bool}
end
section
variable {prog : Program} {w : World} {A : Around} {E : Value → Shared → Prop} {s : Shared}
end
end HS
namespace L2
open PySem PySem.Spec PyProof.Rows
section
variable {X : Cx}
end
end L2
namespace M
open PySem PySem.Spec PyProof.Rows L2
section
variable {K : PySem.W.Frag} {f : List (List Int) → Nat → Nat → Bool}
end
end M

namespace N
open PySem PySem.Spec PyProof.Rows L2 M
def frD (x : Int × Int) : D := .tuple [.int x.1, .int x.2]
abbrev Pl := Int × Int × (Int × Int)
def plD (p : Pl) : D := .tuple [.int p.1, .int p.2.1, frD p.2.2]
def slD (p : Int × Int) : D := .tuple [.int p.1, .int p.2]
theorem at0 {α : Type} (x : α) (r : List α) : atI (x :: r) 0 = some x := atI_nat (j := 0) rfl
theorem at1 {α : Type} (x y : α) (r : List α) : atI (x :: y :: r) 1 = some y := atI_nat (j := 1) rfl
theorem at2 {α : Type} (x y z : α) (r : List α) : atI (x :: y :: z :: r) 2 = some z := atI_nat (j := 2) rfl
theorem eqv_ii (i j : Int) : PyData.eqv (.int i) (.int j) = (i == j) := by simp [PyData.eqv]
theorem sh_int (i : Int) : SeqAt.shaped (.int i) = true := by simp [SeqAt.shaped, PyData.canLay0, PyData.depth]
theorem mapO_map {α : Type} {g : D → Option (Option D)} {enc : α → D} {out : α → D} : ∀ xs : List α, (∀ x ∈ xs, g (enc x) = some (some (out x))) → mapO g (xs.map enc) = some (xs.map out)
 | [], _ => rfl
 | x :: xs, h => by
  show (match g (enc x) with | none => none | some o => match mapO g (xs.map enc) with | none => none | some r => some (match o with | some y => y :: r | none => r)) = _
  rw [h x (.head _), mapO_map xs fun y hy => h y (.tail _ hy)]
  rfl
def hT (i : Int) (x : Int × Int) : Int × Int := FR.mk (i * x.1) (1 * x.2)
def hP (x y : Int × Int) : Int × Int := FR.mk (x.1 * y.2 + y.1 * x.2) (x.2 * y.2)
open Classical in
noncomputable def mOf {α : Type} (enc : α → List L) (P : α → Prop) (g : α → Res L) (ls : List L) : Res L := if h : ∃ a, enc a = ls ∧ P a then g h.choose else .bad
theorem mOf_at {α : Type} {enc : α → List L} {P : α → Prop} {g : α → Res L} (inj : ∀ a b, enc a = enc b → a = b) {a : α} (h : P a) : mOf enc P g (enc a) = g a := by
 have hx : ∃ b, enc b = enc a ∧ P b := ⟨a, rfl, h⟩
 unfold mOf
 rw [dif_pos hx, inj _ _ hx.choose_spec.1]
theorem mOf_eq {α : Type} {enc : α → List L} {P : α → Prop} {g : α → Res L} {n : Nat} {f : MS} (h : ∀ a, P a → runF n f (enc a) = g a) : ∀ ls, mOf enc P g ls = .bad ∨ runF n f ls = mOf enc P g ls := by
 intro ls
 unfold mOf
 by_cases hx : ∃ a, enc a = ls ∧ P a
 ·rw [dif_pos hx]
  exact .inr ((congrArg _ hx.choose_spec.1.symm).trans (h _ hx.choose_spec.2))
 ·exact .inl (dif_neg hx)
theorem ix_t0 (a : D) (r : List D) : ixE (.p (.tuple (a :: r))) (.p (.int 0)) = .ok (.p a) := by simp [ixE, seqOf, at0]
theorem ix_t1 (a b : D) (r : List D) : ixE (.p (.tuple (a :: b :: r))) (.p (.int 1)) = .ok (.p b) := by simp [ixE, seqOf, at1]
theorem ix_t2 (a b d : D) (r : List D) : ixE (.p (.tuple (a :: b :: d :: r))) (.p (.int 2)) = .ok (.p d) := by simp [ixE, seqOf, at2]
theorem ix_pl0 (p : Pl) : ixE (.p (plD p)) (.p (.int 0)) = .ok (.p (.int p.1)) := ix_t0 _ _
theorem ix_pl1 (p : Pl) : ixE (.p (plD p)) (.p (.int 1)) = .ok (.p (.int p.2.1)) := ix_t1 _ _ _
theorem ix_pl2 (p : Pl) : ixE (.p (plD p)) (.p (.int 2)) = .ok (.p (frD p.2.2)) := ix_t2 _ _ _ _
theorem ix_fr0 (p : Int × Int) : ixE (.p (frD p)) (.p (.int 0)) = .ok (.p (.int p.1)) := ix_t0 _ _
theorem ix_fr1 (p : Int × Int) : ixE (.p (frD p)) (.p (.int 1)) = .ok (.p (.int p.2)) := ix_t1 _ _ _
section
variable {κ α : Type} [DecidableEq κ]
variable {ek : κ → D} {ev : α → D} (inj : ∀ a b, ek a = ek b → a = b)
include inj
end
theorem slD_inj (a b : Int × Int) (h : slD a = slD b) : a = b := by
 unfold slD at h
 injection h with h
 injection h with h1 h2
 injection h2 with h2 _
 injection h1 with h1
 injection h2 with h2
 exact Prod.ext h1 h2
theorem cm {i j : Int} {m n : Nat} (h1 : Sz m i) (h2 : Sz n j) (hm : m ≤ 60000) (hn : n ≤ 60000) : CMulW i j := ⟨h1.mono hm, h2.mono hn⟩
theorem fmod_pos {a b : Int} (hb : 0 < b) : 0 ≤ a.fmod b ∧ a.fmod b < b := by
 rw [Int.fmod_eq_emod_of_nonneg a (Int.le_of_lt hb)]
 exact ⟨Int.emod_nonneg a (by omega), Int.emod_lt_of_pos a hb⟩
theorem seq_nx {f g : MS} {en e1 : En} (h : f en = some (.nx e1)) : mSeq f g en = g e1 := by unfold mSeq; rw [h]
theorem seq_rt {f g : MS} {en : En} {l : L} (h : f en = some (.rt l)) : mSeq f g en = some (.rt l) := by unfold mSeq; rw [h]
theorem set_p {i : Nat} {fe : En → Res Ev} {en : En} {d : D} (h : fe en = .ok (.p d)) : mSet i fe en = some (.nx (en.set i (some (.p d)))) := by unfold mSet; rw [h]
theorem set_f {i : Nat} {fe : En → Res Ev} {en : En} {d : D} (h : fe en = .ok (.f d)) : mSet i fe en = some (.nx (en.set i (some (.o d)))) := by unfold mSet; rw [h]
theorem if_t {ft : En → Res Bool} {f g : MS} {en : En} (h : ft en = .ok true) : mIfS ft f g en = f en := by unfold mIfS; rw [h]; rfl
theorem if_f {ft : En → Res Bool} {f g : MS} {en : En} (h : ft en = .ok false) : mIfS ft f g en = g en := by unfold mIfS; rw [h]; rfl
theorem run_rt {n : Nat} {f : MS} {ls : List L} {l : L} (h : f (startE n ls) = some (.rt l)) : runF n f ls = .ok l := by unfold runF; rw [h]
theorem can_all {α : Type} (f : α → D) (h : ∀ a, PyData.canLay0 (f a) = true) : ∀ xs : List α, PyData.canLayAll0 (xs.map f) = true
 | [] => rfl
 | x :: xs => by rw [List.map_cons, PyData.canLayAll0, h x, can_all f h xs]; rfl
theorem dep_all {α : Type} (f : α → D) (n : Nat) (h : ∀ a, PyData.depth (f a) ≤ n) : ∀ xs : List α, PyData.depthAll (xs.map f) ≤ n
 | [] => Nat.zero_le _
 | x :: xs => by
  rw [List.map_cons, PyData.depthAll]
  exact Nat.max_le.mpr ⟨h x, dep_all f n h xs⟩
theorem sh_list {α : Type} (f : α → D) (h1 : ∀ a, PyData.canLay0 (f a) = true) (h2 : ∀ a, PyData.depth (f a) ≤ 9) (xs : List α) : SeqAt.shaped (.list (xs.map f)) = true := by
 have a : PyData.canLay0 (.list (xs.map f)) = true := by rw [PyData.canLay0]; exact can_all f h1 xs
 have b : PyData.depth (.list (xs.map f)) ≤ 64 := by
  rw [PyData.depth]
  have := dep_all f 9 h2 xs
  omega
 unfold SeqAt.shaped
 rw [a, decide_eq_true b]
 rfl
theorem eqE_same {x y : Ev} {d : D} (h1 : dat x = some d) (h2 : dat y = some d) (hs : SeqAt.shaped d = true) (ng : Bool) : eqE ng x y = .ok (.p (.bool (!ng))) := by
 have hc : PyData.canLay0 d = true := by
  unfold SeqAt.shaped at hs
  exact (Bool.and_eq_true_iff.mp hs).1
 unfold eqE
 rw [h1, h2]
 dsimp only
 rw [if_pos ⟨hs, hs⟩, SeqAt.eqv_refl d hc]
 cases ng <;> rfl
theorem for_l {fi : En → Res (List D)} {tg : D → En → Option En} {f : MS} {en : En} {ds : List D} (h : fi en = .ok ds) : mFor fi tg f en = mLoop tg f ds en := by unfold mFor; rw [h]
theorem lfA_map {α : Type} (f : α → D) (h : ∀ a, lfD (f a) = true) : ∀ xs : List α, lfA (xs.map f) = true
 | [] => by simp [lfA]
 | x :: xs => by rw [List.map_cons]; unfold lfA; rw [h x, lfA_map f h xs]; rfl
theorem lf_sl (x : Int × Int) : lfD (slD x) = true := by simp [slD, lfD, lfA]
theorem Sz.addM {m n : Nat} {x y : Int} (hx : Sz m x) (hy : Sz n y) : Sz (max m n + 1) (x + y) := Sz.add (hx.mono (Nat.le_max_left _ _)) (hy.mono (Nat.le_max_right _ _))
theorem Sz.subM {m n : Nat} {x y : Int} (hx : Sz m x) (hy : Sz n y) : Sz (max m n + 1) (x - y) := Sz.sub (hx.mono (Nat.le_max_left _ _)) (hy.mono (Nat.le_max_right _ _))
theorem cd2 {m : Nat} {j : Int} (i : Int) (h0 : j ≠ 0) (h1 : Sz m j) (hm : m ≤ 8000) : CDivW i j := ⟨h0, h1.mono hm⟩
theorem mul_ok {i j : Int} (h : CMulW i j) : mulE (.p (.int i)) (.p (.int j)) = .ok (.p (.int (i * j))) := by simp [mulE, intE, h]
theorem fdiv_ok {i j : Int} (h : CDivW i j) : fdivE (.p (.int i)) (.p (.int j)) = .ok (.p (.int (i.fdiv j))) := by simp [fdivE, intE, h]
theorem mod_ok {i j : Int} (h : j ≠ 0) : modE (.p (.int i)) (.p (.int j)) = .ok (.p (.int (i.fmod j))) := by simp [modE, intE, h]
theorem pow_ok {i j : Int} (h : CPow i j) : powE (.p (.int i)) (.p (.int j)) = .ok (.p (.int (i ^ j.toNat))) := by simp [powE, intE, h]
theorem add_ok (i j : Int) : addE (.p (.int i)) (.p (.int j)) = .ok (.p (.int (i + j))) := by simp [addE]
abbrev Pt := (Int × Int) × (Int × Int)
theorem bind_ok {α β : Type} (a : α) (f : α → Res β) : (Res.ok a).bind f = f a := rfl
theorem ret_f {fe : En → Res Ev} {en : En} {d : D} (h : fe en = .ok (.f d)) : mRet fe en = some (.rt (.o d)) := by unfold mRet; rw [h]; rfl
theorem ret_p {fe : En → Res Ev} {en : En} {d : D} (h : fe en = .ok (.p d)) : mRet fe en = some (.rt (.p d)) := by unfold mRet; rw [h]; rfl
theorem comp_l {n : Nat} {js : List Nat} {fi : En → Res (List D)} {tg : D → En → Option En} {ft : En → Res Bool} {fe : En → Res Ev} {en : En} {ds es : List D} (h1 : fi en = .ok ds) (h2 : ds.length ≤ 100000) (h3 : mapO (compItem n js tg ft fe en) ds = some es) : mComp n js fi tg ft fe en = .ok (.f (.list es)) := by
 unfold mComp
 rw [h1, bind_ok]
 unfold compR
 rw [if_pos h2, h3]
end N

namespace N
open PySem PySem.Spec PyProof.Rows L2 M
abbrev R2 := Int × Int
abbrev R3 := Int × Int × Int
def hM (x y : Int × Int) : Int × Int := FR.mk (x.1 * y.2 - y.1 * x.2) (x.2 * y.2)
def hO (x y : Int × Int) : Int × Int := FR.mk (x.1 * y.2) (x.2 * y.1)
def lowHigh (l h : R3) : R2 := (l.2.1 * h.1 - h.2.1 * l.1, l.2.1 * h.2.2 - h.2.1 * l.2.2)
def elimK (rows : List R3) : List R2 := (rows.filter fun r => decide (r.2.1 = 0)).map fun r => (r.1, r.2.2)
def elimH (rows : List R3) : List R3 := rows.filter fun r => decide (r.2.1 < 0)
def elimS (highs : List R3) (k : List R2) (l : R3) : List R2 := if 0 < l.2.1 then k ++ highs.map (lowHigh l) else k
def elim (rows : List R3) : List R2 := rows.foldl (elimS (elimH rows)) (elimK rows)
end N

namespace N
abbrev Q2 := Int × Int
def turnZ (a b c : Q2) : Int := (b.1 - a.1) * (c.2 - a.2) - (b.2 - a.2) * (c.1 - a.1)
def popS (p : Q2) : List Q2 → List Q2
 | k1 :: k2 :: r => if turnZ k2 k1 p ≤ 0 then popS p (k2 :: r) else k1 :: k2 :: r
 | s => s
def pushS (s : List Q2) (p : Q2) : List Q2 := p :: popS p s
def chainS (ps : List Q2) : List Q2 := ps.foldl pushS []
def edgesS : List Q2 → List (Q2 × Q2)
 | a :: b :: r => (b, a) :: edgesS (b :: r)
 | _ => []
def ConvS : List Q2 → Prop
 | a :: b :: c :: r => 0 < turnZ c b a ∧ ConvS (b :: c :: r)
 | _ => True
def Fall (l : List Q2) : Prop := l.Pairwise fun a b => a.1 < b.1
theorem nonpos_mul {a b : Int} (ha : a ≤ 0) (hb : 0 ≤ b) : a * b ≤ 0 := by
 have := Int.mul_nonneg (show 0 ≤ -a by omega) hb
 rw [Int.neg_mul] at this
 omega
theorem nonneg_of {a b : Int} (ha : a < 0) (h : a * b ≤ 0) : 0 ≤ b := by
 by_cases z : 0 ≤ b
 ·exact z
 ·have := Int.mul_pos_of_neg_of_neg ha (show b < 0 by omega)
  omega
theorem pos_of {a b : Int} (ha : a < 0) (h : a * b < 0) : 0 < b := by
 by_cases z : 0 < b
 ·exact z
 ·have := Int.mul_nonneg_of_nonpos_of_nonpos (Int.le_of_lt ha) (show b ≤ 0 by omega)
  omega
theorem two_left {a b c p : Q2} (h1 : b.1 < a.1) (h2 : c.1 < b.1) (h3 : p.1 < c.1) (t1 : 0 < turnZ a b c) (t2 : 0 < turnZ b c p) : 0 < turnZ a b p := by
 refine pos_of (a := c.1 - b.1) (by omega) ?_
 have e : (c.1 - b.1) * turnZ a b p = (p.1 - b.1) * turnZ a b c + (b.1 - a.1) * turnZ b c p := by unfold turnZ; grind
 rw [e]
 have x := Int.mul_neg_of_neg_of_pos (show p.1 - b.1 < 0 by omega) t1
 have y := Int.mul_neg_of_neg_of_pos (show b.1 - a.1 < 0 by omega) t2
 omega
theorem left_edge {k2 k1 p q : Q2} (h1 : k1.1 < k2.1) (h2 : p.1 < k2.1) (hq : q.1 ≤ k2.1) (l : 0 ≤ turnZ k2 k1 q) (t : turnZ k2 k1 p ≤ 0) : 0 ≤ turnZ k2 p q := by
 refine nonneg_of (a := k1.1 - k2.1) (by omega) ?_
 have e : (k1.1 - k2.1) * turnZ k2 p q = (p.1 - k2.1) * turnZ k2 k1 q + (k2.1 - q.1) * turnZ k2 k1 p := by unfold turnZ; grind
 rw [e]
 have x := nonpos_mul (show p.1 - k2.1 ≤ 0 by omega) l
 have y := Int.mul_nonpos_of_nonneg_of_nonpos (show 0 ≤ k2.1 - q.1 by omega) t
 omega
theorem left_behind {k2 k1 p q : Q2} (h1 : k1.1 < k2.1) (h2 : p.1 < k1.1) (hq : p.1 ≤ q.1) (l : 0 ≤ turnZ k1 p q) (t : turnZ k2 k1 p ≤ 0) : 0 ≤ turnZ k2 p q := by
 have e : (k1.1 - p.1) * turnZ k2 p q = (k2.1 - p.1) * turnZ k1 p q + (q.1 - p.1) * (- turnZ k2 k1 p) := by unfold turnZ; grind
 have x := Int.mul_nonneg (show 0 ≤ k2.1 - p.1 by omega) l
 have y := Int.mul_nonneg (show 0 ≤ q.1 - p.1 by omega) (show 0 ≤ - turnZ k2 k1 p by omega)
 have z : 0 ≤ (k1.1 - p.1) * turnZ k2 p q := by rw [e]; omega
 by_cases w : 0 ≤ turnZ k2 p q
 ·exact w
 ·have := Int.mul_neg_of_pos_of_neg (show 0 < k1.1 - p.1 by omega) (show turnZ k2 p q < 0 by omega)
  omega
theorem left_ahead {k' k p q : Q2} (h1 : k.1 < k'.1) (h2 : p.1 < k.1) (hq : k.1 ≤ q.1) (l : 0 ≤ turnZ k' k q) (t : 0 < turnZ k' k p) : 0 ≤ turnZ k p q := by
 have e : (k'.1 - k.1) * turnZ k p q = (k.1 - p.1) * turnZ k' k q + (q.1 - k.1) * turnZ k' k p := by unfold turnZ; grind
 have x := Int.mul_nonneg (show 0 ≤ k.1 - p.1 by omega) l
 have y := Int.mul_nonneg (show 0 ≤ q.1 - k.1 by omega) (Int.le_of_lt t)
 have z : 0 ≤ (k'.1 - k.1) * turnZ k p q := by rw [e]; omega
 by_cases w : 0 ≤ turnZ k p q
 ·exact w
 ·have := Int.mul_neg_of_pos_of_neg (show 0 < k'.1 - k.1 by omega) (show turnZ k p q < 0 by omega)
  omega
structure ChI (seen s : List Q2) : Prop where
 sub : s.Sublist seen
 hd : s.head? = seen.head?
 ls : s.getLast? = seen.getLast?
 conv : ConvS s
 left : ∀ e ∈ edgesS s, ∀ q ∈ seen, 0 ≤ turnZ e.1 e.2 q
theorem popS_suffix (p : Q2) : ∀ s : List Q2, popS p s <:+ s
 | [] => by unfold popS; exact List.suffix_refl _
 | [a] => by unfold popS; exact List.suffix_refl _
 | k1 :: k2 :: r => by
  unfold popS
  split
  ·exact (popS_suffix p (k2 :: r)).trans (List.suffix_cons _ _)
  ·exact List.suffix_refl _
theorem conv_app : ∀ (u t : List Q2), ConvS (u ++ t) → ConvS t
 | [], _, h => h
 | a :: u, t, h => by
  refine conv_app u t ?_
  rw [List.cons_append] at h
  revert h
  generalize u ++ t = l
  intro h
  cases l with
  | nil => exact trivial
  | cons b l =>
   cases l with
   | nil => exact trivial
   | cons c r => exact h.2
theorem conv_suffix {s t : List Q2} (h : t <:+ s) (hc : ConvS s) : ConvS t := by
 obtain ⟨u, e⟩ := h
 rw [← e] at hc
 exact conv_app u t hc
theorem edges_app (e : Q2 × Q2) : ∀ (u t : List Q2), e ∈ edgesS t → e ∈ edgesS (u ++ t)
 | [], _, h => h
 | a :: u, t, h => by
  have ih := edges_app e u t h
  rw [List.cons_append]
  revert ih
  generalize u ++ t = l
  intro ih
  cases l with
  | nil => exact nomatch ih
  | cons b r => exact .tail _ ih
theorem edges_suffix {s t : List Q2} (h : t <:+ s) (e : Q2 × Q2) (he : e ∈ edgesS t) : e ∈ edgesS s := by
 obtain ⟨u, eu⟩ := h
 rw [← eu]
 exact edges_app e u t he
theorem pop_inv {p : Q2} {seen : List Q2} : ∀ {s : List Q2}, (∀ k ∈ s, p.1 < k.1) → Fall s → (∀ e ∈ edgesS s, ∀ q ∈ seen, 0 ≤ turnZ e.1 e.2 q) → (∀ q ∈ seen, p.1 ≤ q.1) → (∀ k ∈ s.head?, ∀ q ∈ seen, q.1 ≤ k.1 → 0 ≤ turnZ k p q) →
  (∀ k ∈ (popS p s).head?, ∀ q ∈ seen, q.1 ≤ k.1 → 0 ≤ turnZ k p q) ∧ ∀ k1 k2 r, popS p s = k1 :: k2 :: r → 0 < turnZ k2 k1 p
 | [], _, _, _, _, h => ⟨by unfold popS; exact h, fun k1 k2 r e => by unfold popS at e; cases e⟩
 | [a], _, _, _, _, h => ⟨by unfold popS; exact h, fun k1 k2 r e => by unfold popS at e; cases e⟩
 | k1 :: k2 :: r, hp, hf, hl, hq, h => by
  unfold popS
  split
  ·rename_i z
   have f := List.pairwise_cons.mp hf
   have f2 : k1.1 < k2.1 := f.1 k2 (.head _)
   refine pop_inv (fun k hk => hp k (.tail _ hk)) f.2 (fun e he => hl e (.tail _ he)) hq ?_
   intro k hk q hqs hle
   have : k2 = k := by simpa using hk
   subst this
   by_cases c : q.1 ≤ k1.1
   ·exact left_behind f2 (hp k1 (.head _)) (hq q hqs) (h k1 rfl q hqs c) z
   ·exact left_edge f2 (hp k2 (.tail _ (.head _))) hle (hl (k2, k1) (.head _) q hqs) z
  ·rename_i z
   refine ⟨h, fun a b c e => ?_⟩
   injection e with e1 e2
   injection e2 with e2 _
   subst e1 e2
   omega
theorem edges_left {p : Q2} : ∀ {s : List Q2}, (∀ k ∈ s, p.1 < k.1) → Fall s → ConvS s → (∀ k1 k2 r, s = k1 :: k2 :: r → 0 < turnZ k2 k1 p) → ∀ e ∈ edgesS s, 0 < turnZ e.1 e.2 p
 | [], _, _, _, _, e, he => nomatch he
 | [a], _, _, _, _, e, he => nomatch he
 | k1 :: k2 :: r, hp, hf, hc, h, e, he => by
  have f := List.pairwise_cons.mp hf
  rcases List.mem_cons.mp he with z | z
  ·rw [z]; exact h k1 k2 r rfl
  ·refine edges_left (fun k hk => hp k (.tail _ hk)) f.2 ?_ ?_ e z
   ·match r, hc with
    | [], _ => exact trivial
    | c :: r', hc => exact hc.2
   ·intro a b c e2
    injection e2 with e1 e3
    subst e1
    subst e3
    have g := List.pairwise_cons.mp f.2
    exact two_left (g.1 b (.head _)) (f.1 k2 (.head _)) (hp k1 (.head _)) hc.1 (h k1 k2 (b :: c) rfl)
theorem last_max {l : List Q2} (hf : Fall l) {k : Q2} (h : l.getLast? = some k) : ∀ q ∈ l, q.1 ≤ k.1 := by
 induction l with
 | nil => cases h
 | cons a l ih =>
  intro q hq
  have f := List.pairwise_cons.mp hf
  cases l with
  | nil =>
   have : a = k := by simpa using h
   rw [List.mem_singleton.mp hq, this]
   exact Int.le_refl _
  | cons b r =>
   have h' : (b :: r).getLast? = some k := by simpa using h
   have ih := ih f.2 h'
   rcases List.mem_cons.mp hq with z | z
   ·rw [z]
    have := f.1 b (.head _)
    have := ih b (.head _)
    omega
   ·exact ih q z
theorem push_inv {seen s : List Q2} {p : Q2} (h : ChI seen s) (hn : seen ≠ []) (hf : Fall (p :: seen)) : ChI (p :: seen) (pushS s p) := by
 have f := List.pairwise_cons.mp hf
 have fs : Fall s := List.Pairwise.sublist h.sub f.2
 have ps : ∀ k ∈ s, p.1 < k.1 := fun k hk => f.1 k (h.sub.subset hk)
 have s0 : s ≠ [] := fun z => by
  have := h.hd
  rw [z] at this
  cases seen with
  | nil => exact hn rfl
  | cons a r => cases this
 obtain ⟨a1, a2⟩ := pop_inv (p := p) (seen := seen) ps fs h.left (fun q hq => Int.le_of_lt (f.1 q hq)) (fun k hk q hq hle => by
  rw [h.hd] at hk
  cases seen with
  | nil => exact nomatch hk
  | cons b r =>
   have : b = k := by simpa using hk
   subst this
   rcases List.mem_cons.mp hq with z | z
   ·rw [z]; unfold turnZ; simp
   ·have := (List.pairwise_cons.mp f.2).1 q z
    omega)
 have suf := popS_suffix p s
 have fs' : Fall (popS p s) := List.Pairwise.sublist suf.sublist fs
 have ps' : ∀ k ∈ popS p s, p.1 < k.1 := fun k hk => ps k (suf.subset hk)
 have cs' := conv_suffix suf h.conv
 have el := edges_left ps' fs' cs' a2
 have ne : popS p s ≠ [] := by
  intro z
  match s, s0 with
  | [a], _ => unfold popS at z; cases z
  | k1 :: k2 :: r, _ =>
   have : ∀ t : List Q2, t ≠ [] → popS p t ≠ [] := fun t => by
    induction t with
    | nil => intro h; exact absurd rfl h
    | cons x t ih =>
     intro _
     cases t with
     | nil => unfold popS; exact List.cons_ne_nil _ _
     | cons y t =>
      unfold popS
      split
      ·exact ih (List.cons_ne_nil _ _)
      ·exact List.cons_ne_nil _ _
   exact this _ (List.cons_ne_nil _ _) z
 have lst : (popS p s).getLast? = seen.getLast? := by
  obtain ⟨u, e⟩ := suf
  have e2 := congrArg List.getLast? e
  rw [List.getLast?_append] at e2
  rw [← h.ls, ← e2]
  cases hg : (popS p s).getLast? with
  | none => exact absurd (List.getLast?_eq_none_iff.mp hg) ne
  | some x => rfl
 refine ⟨(suf.sublist.trans h.sub).cons₂ p, rfl, ?_, ?_, ?_⟩
 ·unfold pushS
  cases hs : popS p s with
  | nil => exact absurd hs ne
  | cons k r =>
   rw [List.getLast?_cons_cons, ← hs, lst]
   cases seen with
   | nil => exact absurd rfl hn
   | cons b t => rw [List.getLast?_cons_cons]
 ·unfold pushS
  match hs : popS p s, cs', a2 with
  | [], _, _ => exact trivial
  | [k], _, _ => exact trivial
  | k1 :: k2 :: r, c, a2 => exact ⟨a2 k1 k2 r rfl, c⟩
 ·intro e he q hq
  unfold pushS at he
  cases hs : popS p s with
  | nil => exact absurd hs ne
  | cons k r =>
   rw [hs] at he
   rcases List.mem_cons.mp he with z | z
   ·rw [z]
    show 0 ≤ turnZ k p q
    rcases List.mem_cons.mp hq with y | y
    ·rw [y]; unfold turnZ; rw [Int.mul_comm]; omega
    ·by_cases c : q.1 ≤ k.1
     ·exact a1 k (by rw [hs]; rfl) q y c
     ·cases r with
      | nil =>
       have : seen.getLast? = some k := by rw [← lst, hs]; rfl
       exact absurd (last_max f.2 this q y) c
      | cons k' r =>
       have kk := List.pairwise_cons.mp (show Fall (k :: k' :: r) by rw [← hs]; exact fs')
       have em : ((k', k) : Q2 × Q2) ∈ edgesS s := edges_suffix suf _ (by rw [hs]; exact .head _)
       exact left_ahead (kk.1 k' (.head _)) (ps' k (by rw [hs]; exact .head _)) (by omega) (h.left _ em q y) (a2 k k' r hs)
   ·rcases List.mem_cons.mp hq with y | y
    ·rw [y]; exact Int.le_of_lt (el e (by rw [hs]; exact z))
    ·exact h.left e (edges_suffix suf e (by rw [hs]; exact z)) q y
theorem chain_inv : ∀ (ps seen s : List Q2), ChI seen s → seen ≠ [] → Fall (ps.reverse ++ seen) → ChI (ps.reverse ++ seen) (ps.foldl pushS s)
 | [], seen, s, h, _, _ => h
 | p :: ps, seen, s, h, hn, hf => by
  rw [List.reverse_cons, List.append_assoc] at hf ⊢
  have hf2 : Fall (p :: seen) := (List.pairwise_append.mp hf).2.1
  rw [List.foldl_cons]
  exact chain_inv ps (p :: seen) (pushS s p) (push_inv h hn hf2) (List.cons_ne_nil _ _) hf
theorem chain_ok {p : Q2} {ps : List Q2} (hf : Fall (p :: ps).reverse) : ChI (p :: ps).reverse (chainS (p :: ps)) := by
 rw [List.reverse_cons] at hf ⊢
 have h1 : ChI [p] [p] := ⟨List.Sublist.refl _, rfl, rfl, trivial, fun e he => nomatch he⟩
 exact chain_inv ps [p] [p] h1 (List.cons_ne_nil _ _) hf
def ng (x : Int × Int) : Int × Int := hM (0, 1) x
def Pos (ps : List Pl) : Prop := ∀ p ∈ ps, 1 ≤ p.2.2.2
end N

namespace N
def ltQ (a b : Q2) : Prop := a.1 < b.1 ∨ (a.1 = b.1 ∧ a.2 < b.2)
def phi (M e : Int) (p : Q2) : Q2 := (e * ((2 * M + 1) * p.1 + p.2), e * p.2)
theorem turn_phi {M e : Int} (he : e = 1 ∨ e = -1) (a b c : Q2) : turnZ (phi M e a) (phi M e b) (phi M e c) = (2 * M + 1) * turnZ a b c := by
 unfold turnZ phi
 rcases he with z | z <;> subst z <;> grind
theorem phi_lt {M : Int} {a b : Q2} (ha : -M ≤ a.2 ∧ a.2 ≤ M) (hb : -M ≤ b.2 ∧ b.2 ≤ M) (h : ltQ a b) : (2 * M + 1) * a.1 + a.2 < (2 * M + 1) * b.1 + b.2 := by
 rcases h with h | ⟨h1, h2⟩
 ·have e : (2 * M + 1) * b.1 = (2 * M + 1) * a.1 + (2 * M + 1) * (b.1 - a.1) := by grind
  have k := Int.mul_le_mul_of_nonneg_left (show 1 ≤ b.1 - a.1 by omega) (show 0 ≤ 2 * M + 1 by omega)
  omega
 ·rw [h1]
  omega
theorem popS_cc (p a b : Q2) (r : List Q2) : popS p (a :: b :: r) = if turnZ b a p ≤ 0 then popS p (b :: r) else a :: b :: r := by
 conv => lhs; unfold popS
theorem pop_phi {M e : Int} (hM : 0 ≤ M) (he : e = 1 ∨ e = -1) (p : Q2) : ∀ s : List Q2, popS (phi M e p) (s.map (phi M e)) = (popS p s).map (phi M e)
 | [] => rfl
 | [a] => rfl
 | a :: b :: r => by
  have t := turn_phi (M := M) he b a p
  have ih := pop_phi hM he p (b :: r)
  rw [popS_cc p a b r]
  have e : popS (phi M e p) ((a :: b :: r).map (phi M e)) = _ := popS_cc (phi M e p) (phi M e a) (phi M e b) (r.map (phi M e))
  rw [e, t]
  by_cases z : turnZ b a p ≤ 0
  ·rw [if_pos z, if_pos (Int.mul_nonpos_of_nonneg_of_nonpos (by omega) z)]
   exact ih
  ·have := Int.mul_pos (show 0 < 2 * M + 1 by omega) (show 0 < turnZ b a p by omega)
   rw [if_neg z, if_neg (by omega)]
   rfl
theorem chain_phi {M e : Int} (hM : 0 ≤ M) (he : e = 1 ∨ e = -1) : ∀ (ps s : List Q2), (ps.map (phi M e)).foldl pushS (s.map (phi M e)) = (ps.foldl pushS s).map (phi M e)
 | [], s => rfl
 | p :: ps, s => by
  rw [List.map_cons, List.foldl_cons, List.foldl_cons]
  have : pushS (s.map (phi M e)) (phi M e p) = (pushS s p).map (phi M e) := by
   unfold pushS
   rw [pop_phi hM he]
   rfl
  rw [this]
  exact chain_phi hM he ps _
theorem chain_sub : ∀ (ps s seen : List Q2), s.Sublist seen → (ps.foldl pushS s).Sublist (ps.reverse ++ seen)
 | [], s, seen, h => h
 | p :: ps, s, seen, h => by
  rw [List.foldl_cons, List.reverse_cons, List.append_assoc]
  exact chain_sub ps _ (p :: seen) (((popS_suffix p s).sublist.trans h).cons₂ p)
theorem edge_at : ∀ (s : List Q2) (i : Nat) (h : i + 1 < s.length), (s[i + 1], s[i]) ∈ edgesS s
 | a :: b :: r, 0, _ => .head _
 | a :: b :: r, i + 1, h => .tail _ (edge_at (b :: r) i (by simpa using h))
theorem conv_at : ∀ (s : List Q2), ConvS s → ∀ (i : Nat) (h : i + 2 < s.length), 0 < turnZ s[i + 2] s[i + 1] s[i]
 | a :: b :: c :: r, hc, 0, _ => hc.1
 | a :: b :: c :: r, hc, i + 1, h => conv_at (b :: c :: r) hc.2 i (by simpa using h)
theorem edge_map (f : Q2 → Q2) : ∀ (s : List Q2) (a b : Q2), (a, b) ∈ edgesS s → (f a, f b) ∈ edgesS (s.map f)
 | x :: y :: r, a, b, h => by
  rcases List.mem_cons.mp h with z | z
  ·injection z with z1 z2
   rw [z1, z2]
   exact .head _
  ·exact .tail _ (edge_map f (y :: r) a b z)
theorem conv_phi {M e : Int} (hM : 0 ≤ M) (he : e = 1 ∨ e = -1) : ∀ s : List Q2, ConvS (s.map (phi M e)) → ConvS s
 | [], _ => trivial
 | [_], _ => trivial
 | [_, _], _ => trivial
 | a :: b :: c :: r, h => by
  have t := turn_phi (M := M) he c b a
  have h1 : 0 < turnZ (phi M e c) (phi M e b) (phi M e a) := h.1
  rw [t] at h1
  refine ⟨?_, conv_phi hM he (b :: c :: r) h.2⟩
  by_cases z : 0 < turnZ c b a
  ·exact z
  ·have := Int.mul_nonpos_of_nonneg_of_nonpos (show 0 ≤ 2 * M + 1 by omega) (show turnZ c b a ≤ 0 by omega)
   omega
structure Way (P T : List Q2) (lt : Q2 → Q2 → Prop) (x y : Q2) : Prop where
 sub : T.Sublist P
 h0 : T.head? = some x
 h1 : T.getLast? = some y
 left : ∀ (i : Nat) (h : i + 1 < T.length), ∀ q ∈ P, 0 ≤ turnZ T[i] T[i + 1] q
 conv : ∀ (i : Nat) (h : i + 2 < T.length), 0 < turnZ T[i] T[i + 1] T[i + 2]
theorem ex_M : ∀ ps : List Q2, ∃ M : Int, 0 ≤ M ∧ ∀ p ∈ ps, -M ≤ p.2 ∧ p.2 ≤ M
 | [] => ⟨0, Int.le_refl _, fun _ h => nomatch h⟩
 | p :: ps => by
  obtain ⟨M, m1, m2⟩ := ex_M ps
  refine ⟨M + p.2.natAbs, by omega, fun q hq => ?_⟩
  rcases List.mem_cons.mp hq with z | z
  ·rw [z]; omega
  ·have := m2 q z; omega
theorem way_of {e : Int} (he : e = 1 ∨ e = -1) {ps : List Q2} {x y : Q2} (hx : ps.head? = some x) (hy : ps.getLast? = some y) (hs : ps.Pairwise fun a b => if e = 1 then ltQ b a else ltQ a b) : Way ps (chainS ps).reverse ltQ x y := by
 obtain ⟨M, hM, hb⟩ := ex_M ps
 cases ps with
 | nil => cases hx
 | cons p ps =>
 have hx : p = x := by simpa using hx
 subst hx
 have cp := chain_phi hM he (p :: ps) []
 have cp : chainS ((p :: ps).map (phi M e)) = (chainS (p :: ps)).map (phi M e) := cp
 have fl : Fall ((p :: ps).map (phi M e)).reverse := by
  unfold Fall
  rw [List.pairwise_reverse, List.pairwise_map]
  refine List.Pairwise.imp_of_mem (fun {a b} ha hb' w => ?_) hs
  have na := hb a ha
  have nb := hb b hb'
  unfold phi
  dsimp only
  rcases he with z | z
  ·rw [if_pos z] at w
   have := phi_lt nb na w
   rw [z]
   omega
  ·rw [if_neg (by omega)] at w
   have := phi_lt na nb w
   rw [z]
   omega
 have ch := chain_ok (p := phi M e p) (ps := ps.map (phi M e)) fl
 have ch : ChI (((p :: ps).map (phi M e)).reverse) (chainS ((p :: ps).map (phi M e))) := ch
 rw [cp] at ch
 have sb := chain_sub (p :: ps) [] [] (List.Sublist.refl _)
 rw [List.append_nil] at sb
 have sb : (chainS (p :: ps)).Sublist (p :: ps).reverse := sb
 have lenT : (chainS (p :: ps)).reverse.length = (chainS (p :: ps)).length := List.length_reverse
 refine ⟨?_, ?_, ?_, fun i h q hq => ?_, fun i h => ?_⟩
 ·have := List.reverse_sublist.mpr sb
  rw [List.reverse_reverse] at this
  exact this
 ·have := ch.ls
  rw [List.getLast?_map, List.getLast?_reverse, List.map_cons, List.head?_cons] at this
  rw [List.head?_reverse]
  cases q : (chainS (p :: ps)).getLast? with
  | none => rw [q] at this; cases this
  | some z =>
   rw [q] at this
   have e1 : phi M e z = phi M e p := Option.some.inj this
   unfold phi at e1
   injection e1 with e2 e3
   have e3 : z.2 = p.2 := by rcases he with w | w <;> rw [w] at e3 <;> omega
   have e4 : (2 * M + 1) * z.1 = (2 * M + 1) * p.1 := by rcases he with w | w <;> rw [w] at e2 <;> omega
   have := Int.eq_of_mul_eq_mul_left (show 2 * M + 1 ≠ 0 by omega) e4
   rw [Prod.ext this e3]
 ·rw [List.getLast?_reverse, ← hy]
  have := ch.hd
  rw [List.head?_map, List.head?_reverse, List.getLast?_map, hy] at this
  cases q : (chainS (p :: ps)).head? with
  | none => rw [q] at this; cases this
  | some z =>
   rw [q] at this
   have e1 : phi M e z = phi M e y := Option.some.inj this
   unfold phi at e1
   injection e1 with e2 e3
   have e3 : z.2 = y.2 := by rcases he with w | w <;> rw [w] at e3 <;> omega
   have e4 : (2 * M + 1) * z.1 = (2 * M + 1) * y.1 := by rcases he with w | w <;> rw [w] at e2 <;> omega
   have := Int.eq_of_mul_eq_mul_left (show 2 * M + 1 ≠ 0 by omega) e4
   rw [Prod.ext this e3, hy]
 ·rw [List.length_reverse] at h
  rw [List.getElem_reverse, List.getElem_reverse]
  have em := edge_at (chainS (p :: ps)) ((chainS (p :: ps)).length - 1 - (i + 1)) (by omega)
  have ee := edge_map (phi M e) _ _ _ em
  have := ch.left _ ee (phi M e q) (List.mem_reverse.mpr (List.mem_map.mpr ⟨q, hq, rfl⟩))
  dsimp only at this
  rw [turn_phi he] at this
  have i1 : (chainS (p :: ps)).length - 1 - (i + 1) + 1 = (chainS (p :: ps)).length - 1 - i := by omega
  simp only [i1] at this
  by_cases z : 0 ≤ turnZ (chainS (p :: ps))[(chainS (p :: ps)).length - 1 - i] (chainS (p :: ps))[(chainS (p :: ps)).length - 1 - (i + 1)] q
  ·exact z
  ·have := Int.mul_neg_of_pos_of_neg (show 0 < 2 * M + 1 by omega) (Int.not_le.mp z)
   omega
 ·rw [List.length_reverse] at h
  rw [List.getElem_reverse, List.getElem_reverse, List.getElem_reverse]
  have cv := conv_at _ (conv_phi hM he _ ch.conv) ((chainS (p :: ps)).length - 1 - (i + 2)) (by omega)
  have i1 : (chainS (p :: ps)).length - 1 - (i + 2) + 1 = (chainS (p :: ps)).length - 1 - (i + 1) := by omega
  have i2 : (chainS (p :: ps)).length - 1 - (i + 2) + 2 = (chainS (p :: ps)).length - 1 - i := by omega
  simp only [i1, i2] at cv
  exact cv
def LP (a1 a2 : Int) : Prop := 0 < a1 ∨ (a1 = 0 ∧ 0 < a2)
theorem lp_comb {a1 a2 b1 b2 s t : Int} (ha : LP a1 a2) (hb : LP b1 b2) (hs : s ≤ 0) (ht : 0 ≤ t) (e1 : t * a1 = s * b1) (e2 : t * a2 = s * b2) : s = 0 := by
 by_cases z : s = 0
 ·exact z
 have hs : s < 0 := by omega
 have h0 : t = 0 ∨ 0 < t := by omega
 rcases h0 with h | h
 ·subst h
  rw [Int.zero_mul] at e1 e2
  rcases hb with b | ⟨b, b'⟩
  ·have := Int.mul_neg_of_neg_of_pos hs b
   omega
  ·have := Int.mul_neg_of_neg_of_pos hs b'
   omega
 ·rcases ha with a | ⟨a, a'⟩
  ·have p := Int.mul_pos h a
   have : s * b1 ≤ 0 := Int.mul_nonpos_of_nonpos_of_nonneg (Int.le_of_lt hs) (by rcases hb with b | ⟨b, _⟩ <;> omega)
   omega
  ·have p := Int.mul_pos h a'
   subst a
   rw [Int.mul_zero] at e1
   have b0 : b1 = 0 := by
    rcases Int.mul_eq_zero.mp e1.symm with w | w
    ·omega
    ·exact w
   rcases hb with b | ⟨b, b'⟩
   ·omega
   ·have := Int.mul_neg_of_neg_of_pos hs b'
    omega
theorem lp_three {a1 a2 c1 c2 f1 f2 p q r : Int} (ha : LP a1 a2) (hc : LP c1 c2) (hf : LP f1 f2) (hp : 0 ≤ p) (hq : 0 < q) (hr : 0 ≤ r) (e1 : p * c1 + q * f1 + r * a1 = 0) (e2 : p * c2 + q * f2 + r * a2 = 0) : False := by
 have ge : ∀ {x y s : Int}, LP x y → 0 ≤ s → 0 ≤ s * x ∧ (s * x = 0 → 0 ≤ s * y) := fun {x y s} h hs => by
  rcases h with h | ⟨h, h'⟩
  ·refine ⟨Int.mul_nonneg hs (Int.le_of_lt h), fun e => ?_⟩
   rcases Int.mul_eq_zero.mp e with w | w
   ·rw [w, Int.zero_mul]; exact Int.le_refl _
   ·omega
  ·rw [h, Int.mul_zero]
   exact ⟨Int.le_refl _, fun _ => Int.mul_nonneg hs (Int.le_of_lt h')⟩
 have g1 := ge hc hp
 have g2 := ge hf (Int.le_of_lt hq)
 have g3 := ge ha hr
 have z1 := g1.2 (by omega)
 have z3 := g3.2 (by omega)
 have z2 : q * f1 = 0 := by omega
 have f0 : f1 = 0 := by
  rcases Int.mul_eq_zero.mp z2 with w | w
  ·omega
  ·exact w
 rcases hf with b | ⟨b, b'⟩
 ·omega
 ·have := Int.mul_pos hq b'
  omega
theorem lt_lp {a b : Q2} (h : ltQ a b) : LP (b.1 - a.1) (b.2 - a.2) := by
 rcases h with h | ⟨h, h'⟩
 ·exact .inl (by omega)
 ·exact .inr (by omega)
theorem corner {e : Int} (he : e = 1 ∨ e = -1) {u y v q x : Q2} (hu : LP (e * (y.1 - u.1)) (e * (y.2 - u.2))) (hv : LP (e * (y.1 - v.1)) (e * (y.2 - v.2))) (h0 : turnZ u y v = 0) (q1 : 0 ≤ turnZ u y q) (q2 : 0 ≤ turnZ y v q) (x1 : 0 ≤ turnZ u y x) (x2 : 0 ≤ turnZ y v x) : turnZ x y q = 0 := by
 have key : ∀ w : Q2, 0 ≤ turnZ u y w → 0 ≤ turnZ y v w → turnZ u y w = 0 := fun w w1 w2 => by
  have := lp_comb hu hv (s := - turnZ u y w) (t := turnZ y v w) (by omega) w2 (by unfold turnZ at h0 ⊢; grind) (by unfold turnZ at h0 ⊢; grind)
  omega
 have kq := key q q1 q2
 have kx := key x x1 x2
 have e1 : turnZ x y q * (y.1 - u.1) = 0 := by unfold turnZ at kq kx ⊢; grind
 have e2 : turnZ x y q * (y.2 - u.2) = 0 := by unfold turnZ at kq kx ⊢; grind
 rcases Int.mul_eq_zero.mp e1 with w | w
 ·exact w
 rcases Int.mul_eq_zero.mp e2 with w' | w'
 ·exact w'
 rw [w, w', Int.mul_zero] at hu
 rcases hu with h | ⟨_, h⟩ <;> omega
theorem flat_turn {x y p q : Q2} (hxy : x ≠ y) (hp : turnZ x y p = 0) (hq : turnZ x y q = 0) : turnZ x p q = 0 ∧ turnZ y p q = 0 := by
 have d : y.1 - x.1 = 0 → y.2 - x.2 = 0 → False := fun h1 h2 => hxy (Prod.ext (by omega) (by omega))
 have e1 : turnZ x p q * (y.1 - x.1) = 0 := by unfold turnZ at hp hq ⊢; grind
 have e2 : turnZ x p q * (y.2 - x.2) = 0 := by unfold turnZ at hp hq ⊢; grind
 have e3 : turnZ y p q * (y.1 - x.1) = 0 := by unfold turnZ at hp hq ⊢; grind
 have e4 : turnZ y p q * (y.2 - x.2) = 0 := by unfold turnZ at hp hq ⊢; grind
 refine ⟨?_, ?_⟩
 ·rcases Int.mul_eq_zero.mp e1 with w | w
  ·exact w
  rcases Int.mul_eq_zero.mp e2 with w' | w'
  ·exact w'
  exact (d w w').elim
 ·rcases Int.mul_eq_zero.mp e3 with w | w
  ·exact w
  rcases Int.mul_eq_zero.mp e4 with w' | w'
  ·exact w'
  exact (d w w').elim
theorem apart {p a c f : Q2} (ha : ltQ a p) (hc : ltQ p c) (hf : ltQ p f) (h1 : 0 < turnZ a p c) (h2 : 0 ≤ turnZ f p a) (h3 : 0 ≤ turnZ f p c) : False := by
 refine lp_three (p := turnZ f p a) (q := turnZ a p c) (r := turnZ f p c) (lt_lp ha) (lt_lp hc) (lt_lp hf) h2 h1 h3 ?_ ?_ <;> unfold turnZ <;> grind
theorem turn_swap (x y q : Q2) : turnZ y x q = - turnZ x y q := by unfold turnZ; grind
theorem turn_self (x q : Q2) : turnZ x x q = 0 := by unfold turnZ; grind
def pr (R : List Q2) (k d : Nat) : Q2 := R.getD (if k < d then R.length + k - d else k - d) (0, 0)
structure RingOk (R ps : List Q2) (x : Q2) : Prop where
 len : 3 ≤ R.length
 h0 : R.getD 0 (0, 0) = x
 nd : R.Nodup
 sub : ∀ p ∈ R, p ∈ ps
 conv : ∀ k, k < R.length → 0 < turnZ (pr R k 2) (pr R k 1) (R.getD k (0, 0))
 left : ∀ k, k < R.length → ∀ q ∈ ps, 0 ≤ turnZ (pr R k 1) (R.getD k (0, 0)) q
theorem ltQ_irr {a b : Q2} (h : ltQ a b) : a ≠ b := fun e => by
 subst e
 rcases h with h | ⟨_, h⟩ <;> omega
theorem getD_get {T : List Q2} {i : Nat} (h : i < T.length) : T.getD i (0, 0) = T[i] := by
 rw [List.getD_eq_getElem?_getD, List.getElem?_eq_getElem h]
 rfl
theorem pw_get {lt : Q2 → Q2 → Prop} {T : List Q2} (h : T.Pairwise lt) {i j : Nat} (hij : i < j) (hj : j < T.length) : lt (T.getD i (0, 0)) (T.getD j (0, 0)) := by
 rw [getD_get (Nat.lt_trans hij hj), getD_get hj]
 exact List.pairwise_iff_getElem.mp h i j (Nat.lt_trans hij hj) hj hij
theorem way_len {P T : List Q2} {lt : Q2 → Q2 → Prop} {x y : Q2} (w : Way P T lt x y) (hxy : x ≠ y) : 2 ≤ T.length ∧ T.getD 0 (0, 0) = x ∧ T.getD (T.length - 1) (0, 0) = y := by
 have h0 := w.h0
 have h1 := w.h1
 match T, h0, h1 with
 | [a], h0, h1 => exact absurd ((Option.some.inj h0).symm.trans (Option.some.inj h1)) hxy
 | a :: b :: r, h0, h1 =>
  refine ⟨by simp, Option.some.inj h0, ?_⟩
  rw [List.getLast?_eq_getElem?] at h1
  rw [List.getD_eq_getElem?_getD, h1]
  rfl
theorem ring_ok {ps T B : List Q2} {x y : Q2} (hs : ps.Pairwise ltQ) (wt : Way ps T ltQ x y) (wb : Way ps.reverse B ltQ y x) (hxy : x ≠ y) (hf : ∃ q ∈ ps, turnZ x y q ≠ 0) : RingOk (T.dropLast ++ B.dropLast) ps x := by
 obtain ⟨m2, t0, t1⟩ := way_len wt hxy
 obtain ⟨n2, b0, b1⟩ := way_len wb (fun e => hxy e.symm)
 have pt : T.Pairwise ltQ := hs.sublist wt.sub
 have pb : B.Pairwise fun a b => ltQ b a := (List.pairwise_reverse.mpr hs).sublist wb.sub
 have mT : ∀ {i}, i < T.length → T.getD i (0, 0) ∈ ps := fun {i} h => wt.sub.subset (by rw [getD_get h]; exact List.getElem_mem h)
 have mB : ∀ {i}, i < B.length → B.getD i (0, 0) ∈ ps := fun {i} h => List.mem_reverse.mp (wb.sub.subset (by rw [getD_get h]; exact List.getElem_mem h))
 have eT : ∀ {i}, i + 1 < T.length → ∀ q ∈ ps, 0 ≤ turnZ (T.getD i (0, 0)) (T.getD (i + 1) (0, 0)) q := fun {i} h q hq => by
  rw [getD_get h, getD_get (Nat.lt_of_succ_lt h)]
  exact wt.left i h q hq
 have eB : ∀ {i}, i + 1 < B.length → ∀ q ∈ ps, 0 ≤ turnZ (B.getD i (0, 0)) (B.getD (i + 1) (0, 0)) q := fun {i} h q hq => by
  rw [getD_get h, getD_get (Nat.lt_of_succ_lt h)]
  exact wb.left i h q (List.mem_reverse.mpr hq)
 have cT : ∀ {i}, i + 2 < T.length → 0 < turnZ (T.getD i (0, 0)) (T.getD (i + 1) (0, 0)) (T.getD (i + 2) (0, 0)) := fun {i} h => by
  rw [getD_get h, getD_get (show i + 1 < T.length by omega), getD_get (show i < T.length by omega)]
  exact wt.conv i h
 have cB : ∀ {i}, i + 2 < B.length → 0 < turnZ (B.getD i (0, 0)) (B.getD (i + 1) (0, 0)) (B.getD (i + 2) (0, 0)) := fun {i} h => by
  rw [getD_get h, getD_get (show i + 1 < B.length by omega), getD_get (show i < B.length by omega)]
  exact wb.conv i h
 have mx : x ∈ ps := t0 ▸ mT (by omega)
 have my : y ∈ ps := b0 ▸ mB (by omega)
 obtain ⟨q, hq, hne⟩ := hf
 have len : 3 ≤ T.length - 1 + (B.length - 1) := by
  by_cases z : 3 ≤ T.length - 1 + (B.length - 1)
  ·exact z
  have e1 : T.length = 2 := by omega
  have e2 : B.length = 2 := by omega
  have a := eT (i := 0) (by omega) q hq
  have b := eB (i := 0) (by omega) q hq
  rw [e1] at t1
  rw [e2] at b1
  have t1 : T.getD (0 + 1) (0, 0) = y := t1
  have b1 : B.getD (0 + 1) (0, 0) = x := b1
  rw [t0, t1] at a
  rw [b0, b1] at b
  rw [turn_swap] at b
  omega
 have cy : 0 < turnZ (T.getD (T.length - 2) (0, 0)) y (B.getD 1 (0, 0)) := by
  have l1 := eT (i := T.length - 2) (by omega)
  have l2 := eB (i := 0) (by omega)
  rw [show T.length - 2 + 1 = T.length - 1 by omega, t1] at l1
  rw [b0] at l2
  have l0 := l1 _ (mB (i := 1) (by omega))
  by_cases z : turnZ (T.getD (T.length - 2) (0, 0)) y (B.getD 1 (0, 0)) = 0
  ·have u := pw_get pt (show T.length - 2 < T.length - 1 by omega) (by omega)
   have v := pw_get pb (show 0 < 1 by omega) (show 1 < B.length by omega)
   rw [t1] at u
   rw [b0] at v
   exact absurd (corner (e := 1) (.inl rfl) (by simpa using lt_lp u) (by simpa using lt_lp v) z (l1 q hq) (l2 q hq) (l1 x mx) (l2 x mx)) hne
  ·omega
 have cx : 0 < turnZ (B.getD (B.length - 2) (0, 0)) x (T.getD 1 (0, 0)) := by
  have l1 := eB (i := B.length - 2) (by omega)
  have l2 := eT (i := 0) (by omega)
  rw [show B.length - 2 + 1 = B.length - 1 by omega, b1] at l1
  rw [t0] at l2
  have l0 := l1 _ (mT (i := 1) (by omega))
  by_cases z : turnZ (B.getD (B.length - 2) (0, 0)) x (T.getD 1 (0, 0)) = 0
  ·have u := pw_get pb (show B.length - 2 < B.length - 1 by omega) (by omega)
   have v := pw_get pt (show 0 < 1 by omega) (show 1 < T.length by omega)
   rw [b1] at u
   rw [t0] at v
   have u := lt_lp u
   have v := lt_lp v
   have n : ∀ a b : Int, -1 * (a - b) = b - a := fun a b => by omega
   have := corner (e := -1) (.inr rfl) (by rw [n, n]; exact u) (by rw [n, n]; exact v) z (l1 q hq) (l2 q hq) (l1 y my) (l2 y my)
   rw [turn_swap] at this
   omega
  ·omega
 have hR : (T.dropLast ++ B.dropLast).length = T.length - 1 + (B.length - 1) := by simp
 have gt : ∀ i, i < T.length → (T.dropLast ++ B.dropLast).getD i (0, 0) = T.getD i (0, 0) := fun i h => by
  by_cases z : i < T.length - 1
  ·rw [List.getD_eq_getElem?_getD, List.getElem?_append_left (by simpa using z), List.getElem?_dropLast, if_pos z]
   rfl
  ·have e : i = T.length - 1 := by omega
   rw [e, t1, List.getD_eq_getElem?_getD, List.getElem?_append_right (by simp), List.length_dropLast, Nat.sub_self, List.getElem?_dropLast, if_pos (by omega), ← b0]
   rfl
 have gb : ∀ j, j < B.length - 1 → (T.dropLast ++ B.dropLast).getD (T.length - 1 + j) (0, 0) = B.getD j (0, 0) := fun j h => by
  rw [List.getD_eq_getElem?_getD, List.getElem?_append_right (by simp), List.length_dropLast, Nat.add_sub_cancel_left, List.getElem?_dropLast, if_pos h]
  rfl
 let g : Nat → Q2 := fun i => if i < T.length then T.getD i (0, 0) else B.getD (i - (T.length - 1)) (0, 0)
 have g1 : ∀ i, i < T.length → g i = T.getD i (0, 0) := fun i h => if_pos h
 have g2 : ∀ j, g (T.length - 1 + j) = B.getD j (0, 0) := fun j => by
  show (if _ then _ else _) = _
  by_cases z : j = 0
  ·rw [z, if_pos (by omega), Nat.add_zero, t1, b0]
  ·rw [if_neg (by omega), Nat.add_sub_cancel_left]
 have gR : ∀ i, i < T.length - 1 + (B.length - 1) → (T.dropLast ++ B.dropLast).getD i (0, 0) = g i := fun i h => by
  by_cases z : i < T.length
  ·rw [gt i z, g1 i z]
  ·rw [show i = T.length - 1 + (i - (T.length - 1)) by omega, gb _ (by omega), g2]
 have gl : g (T.length - 1 + (B.length - 1)) = x := by rw [g2, b1]
 have g0 : g 0 = x := by rw [g1 0 (by omega), t0]
 have A : ∀ i, i + 2 ≤ T.length - 1 + (B.length - 1) → 0 < turnZ (g i) (g (i + 1)) (g (i + 2)) := fun i h => by
  by_cases z : i + 2 < T.length
  ·rw [g1 _ z, g1 _ (by omega), g1 _ (by omega)]
   exact cT z
  ·by_cases z' : i + 2 = T.length
   ·have q1 := g1 i (by omega)
    have q2 := g1 (i + 1) (by omega)
    have q3 := g2 1
    rw [show T.length - 1 + 1 = i + 2 by omega] at q3
    rw [q1, q2, q3, show i = T.length - 2 by omega, show T.length - 2 + 1 = T.length - 1 by omega, t1]
    exact cy
   ·obtain ⟨j, rfl⟩ : ∃ j, i = T.length - 1 + j := ⟨i - (T.length - 1), by omega⟩
    rw [Nat.add_assoc, Nat.add_assoc, g2, g2, g2]
    exact cB (by omega)
 have E : ∀ i, i + 1 ≤ T.length - 1 + (B.length - 1) → ∀ q ∈ ps, 0 ≤ turnZ (g i) (g (i + 1)) q := fun i h q hq => by
  by_cases z : i + 1 < T.length
  ·rw [g1 _ z, g1 _ (by omega)]
   exact eT z q hq
  ·obtain ⟨j, rfl⟩ : ∃ j, i = T.length - 1 + j := ⟨i - (T.length - 1), by omega⟩
   rw [Nat.add_assoc, g2, g2]
   exact eB (by omega) q hq
 refine ⟨by omega, by rw [gR 0 (by omega), g0], ?_, ?_, fun k hk => ?_, fun k hk q hq => ?_⟩
 ·have ndT : T.Nodup := pt.imp ltQ_irr
  have ndB : B.Nodup := pb.imp fun h => (ltQ_irr h).symm
  refine List.nodup_append.mpr ⟨ndT.sublist (List.dropLast_sublist _), ndB.sublist (List.dropLast_sublist _), fun a ha b hb e => ?_⟩
  subst e
  obtain ⟨i, hi, ei⟩ := List.getElem_of_mem ha
  obtain ⟨j, hj, ej⟩ := List.getElem_of_mem hb
  rw [List.length_dropLast] at hi hj
  rw [List.getElem_dropLast] at ei ej
  have ei : T.getD i (0, 0) = a := (getD_get (by omega)).trans ei
  have ej : B.getD j (0, 0) = a := (getD_get (by omega)).trans ej
  have i0 : 0 < i := Nat.pos_of_ne_zero fun z => by
   subst z
   have := ltQ_irr (pw_get pb (show j < B.length - 1 by omega) (by omega))
   rw [b1, ej] at this
   exact this (t0.symm.trans ei)
  have j0 : 0 < j := Nat.pos_of_ne_zero fun z => by
   subst z
   have := ltQ_irr (pw_get pt (show i < T.length - 1 by omega) (by omega))
   rw [t1, ei] at this
   exact this (ej.symm.trans b0)
  have c1 := cT (i := i - 1) (by omega)
  have o1 := pw_get pt (show i - 1 < i by omega) (by omega)
  have o2 := pw_get pt (show i < i + 1 by omega) (by omega)
  have o3 := pw_get pb (show j - 1 < j by omega) (by omega)
  have l1 := eB (i := j - 1) (by omega) _ (mT (i := i - 1) (by omega))
  have l2 := eB (i := j - 1) (by omega) _ (mT (i := i + 1) (by omega))
  rw [show i - 1 + 1 = i by omega, show i - 1 + 2 = i + 1 by omega, ei] at c1
  rw [show j - 1 + 1 = j by omega, ej] at l1 l2
  rw [ei] at o1 o2
  rw [ej] at o3
  exact apart o1 o2 o3 c1 l1 l2
 ·intro p hp
  rcases List.mem_append.mp hp with z | z
  ·exact wt.sub.subset ((List.dropLast_sublist _).subset z)
  ·exact List.mem_reverse.mp (wb.sub.subset ((List.dropLast_sublist _).subset z))
 ·rw [hR] at hk
  unfold pr
  rw [hR, gR k hk]
  by_cases k0 : k = 0
  ·subst k0
   rw [if_pos (by omega), if_pos (by omega), gR _ (by omega), gR _ (by omega), g0, ← gl]
   have := A (T.length - 1 + (B.length - 1) - 2) (by omega)
   rw [show T.length - 1 + (B.length - 1) - 2 + 1 = T.length - 1 + (B.length - 1) + 0 - 1 by omega, show T.length - 1 + (B.length - 1) - 2 + 2 = T.length - 1 + (B.length - 1) by omega] at this
   exact this
  ·by_cases k1 : k = 1
   ·subst k1
    rw [if_pos (by omega), if_neg (by omega), gR _ (by omega), gR _ (by omega), g0, show T.length - 1 + (B.length - 1) + 1 - 2 = T.length - 1 + (B.length - 2) by omega, g2, g1 1 (by omega)]
    exact cx
   ·rw [if_neg (by omega), if_neg (by omega), gR _ (by omega), gR _ (by omega)]
    have := A (k - 2) (by omega)
    rw [show k - 2 + 1 = k - 1 by omega, show k - 2 + 2 = k by omega] at this
    exact this
 ·rw [hR] at hk
  unfold pr
  rw [hR, gR k hk]
  by_cases k0 : k = 0
  ·subst k0
   rw [if_pos (by omega), gR _ (by omega), g0, ← gl]
   have := E (T.length - 1 + (B.length - 1) - 1) (by omega) q hq
   rw [show T.length - 1 + (B.length - 1) - 1 + 1 = T.length - 1 + (B.length - 1) by omega] at this
   exact this
  ·rw [if_neg (by omega), gR _ (by omega)]
   have := E (k - 1) (by omega) q hq
   rw [show k - 1 + 1 = k by omega] at this
   exact this
theorem way_flat {P T : List Q2} {lt : Q2 → Q2 → Prop} {x y : Q2} (w : Way P T lt x y) (hxy : x ≠ y) (hf : ∀ q ∈ P, turnZ x y q = 0) : T = [x, y] := by
 obtain ⟨m2, t0, t1⟩ := way_len w hxy
 match T, w, m2, t0, t1 with
 | [a, b], _, _, t0, t1 =>
  have t0 : a = x := t0
  have t1 : b = y := t1
  rw [t0, t1]
 | a :: b :: c :: r, w, _, t0, _ =>
  have t0 : a = x := t0
  have := w.conv 0 (by simp)
  have this : 0 < turnZ a b c := this
  rw [t0, (flat_turn hxy (hf b (w.sub.subset (.tail _ (.head _)))) (hf c (w.sub.subset (.tail _ (.tail _ (.head _)))))).1] at this
  omega
def hullR (ps : List Q2) : List Q2 := if ps.length = 1 then ps else (chainS ps).reverse.dropLast ++ (chainS ps.reverse).reverse.dropLast
theorem hull_ring {ps : List Q2} {x y : Q2} (hs : ps.Pairwise ltQ) (hx : ps.head? = some x) (hy : ps.getLast? = some y) : if ∀ q ∈ ps, turnZ x y q = 0 then hullR ps = if x = y then [x] else [x, y] else RingOk (hullR ps) ps x := by
 match ps, hs, hx, hy with
 | [p], _, hx, hy =>
  have hx : p = x := Option.some.inj hx
  have hy : p = y := Option.some.inj hy
  subst hx
  subst hy
  rw [if_pos (fun q hq => by exact turn_self _ _), if_pos rfl]
  rfl
 | p :: p' :: r, hs, hx, hy =>
  have hxy : x ≠ y := by
   have hx : p = x := Option.some.inj hx
   subst hx
   have hm : y ∈ p' :: r := by
    rw [List.getLast?_cons_cons] at hy
    exact List.mem_of_getLast? hy
   exact ltQ_irr (List.rel_of_pairwise_cons hs hm)
  have wt := way_of (e := -1) (.inr rfl) hx hy (by simpa using hs)
  have wb := way_of (e := 1) (.inl rfl) (ps := (p :: p' :: r).reverse) (x := y) (y := x) (by rw [List.head?_reverse]; exact hy) (by rw [List.getLast?_reverse]; exact hx) (by rw [List.pairwise_reverse]; exact hs.imp fun h => by rw [if_pos rfl]; exact h)
  have eh : hullR (p :: p' :: r) = (chainS (p :: p' :: r)).reverse.dropLast ++ (chainS (p :: p' :: r).reverse).reverse.dropLast := if_neg (by simp)
  by_cases z : ∀ q ∈ p :: p' :: r, turnZ x y q = 0
  ·rw [if_pos z, if_neg hxy, eh, way_flat wt hxy z, way_flat wb (fun e => hxy e.symm) (fun q hq => by
    have := z q (List.mem_reverse.mp hq)
    rw [turn_swap]
    omega)]
   rfl
  ·rw [if_neg z, eh]
   refine ring_ok hs wt wb hxy ?_
   by_cases w : ∃ q ∈ p :: p' :: r, turnZ x y q ≠ 0
   ·exact w
   ·exact absurd (fun q hq => Decidable.byContradiction fun h => w ⟨q, hq, h⟩) z
end N

namespace N
def edg (R : List Q2) : List (Q2 × Q2) := (List.range R.length).map fun k => (pr R k 1, R.getD k (0, 0))
def crs (e : Q2 × Q2) : Int := turnZ (0, 0) e.1 e.2
def areaR (R : List Q2) : Int := ((edg R).map crs).sum
def Flt (ps : List Q2) : Prop := ∀ a ∈ ps, ∀ b ∈ ps, ∀ c ∈ ps, turnZ a b c = 0
theorem pr_1 {R : List Q2} {k : Nat} (hk : k < R.length) : pr R k 1 = R.getD (if k = 0 then R.length - 1 else k - 1) (0, 0) := by
 unfold pr
 by_cases z : k = 0
 ·rw [if_pos z, if_pos (by omega), z, Nat.add_zero]
 ·rw [if_neg z, if_neg (by omega)]
theorem pr_2 {R : List Q2} {k : Nat} (hk : k < R.length) (h2 : 2 ≤ R.length) : pr R k 2 = pr R (if k = 0 then R.length - 1 else k - 1) 1 := by
 unfold pr
 by_cases z : k = 0
 ·rw [if_pos z, if_pos (by omega), if_neg (by omega), z]
  congr 1
 ·rw [if_neg z]
  by_cases w : k = 1
  ·rw [w, if_pos (by omega), if_pos (by omega)]
   congr 1
  ·rw [if_neg (by omega), if_neg (by omega)]
   congr 1
theorem pr_nx {R : List Q2} {i : Nat} (hi : i < R.length) : ∃ k, k < R.length ∧ pr R k 1 = R.getD i (0, 0) ∧ (2 ≤ R.length → pr R k 2 = pr R i 1) := by
 refine ⟨if i + 1 = R.length then 0 else i + 1, by split <;> omega, ?_, fun h2 => ?_⟩
 ·rw [pr_1 (by split <;> omega)]
  congr 1
  split <;> split <;> omega
 ·rw [pr_2 (by split <;> omega) h2]
  congr 1
  split <;> split <;> omega
theorem mem_pr {R : List Q2} {r : Q2} (h : r ∈ R) : ∃ k, k < R.length ∧ pr R k 1 = r := by
 obtain ⟨i, hi, e⟩ := List.mem_iff_getElem.mp h
 obtain ⟨k, hk, e1, _⟩ := pr_nx hi
 exact ⟨k, hk, by rw [e1, getD_get hi, e]⟩
theorem pr_mem {R : List Q2} {k d : Nat} (hk : k < R.length) (hd : d ≤ R.length) : pr R k d ∈ R := by
 unfold pr
 have : (if k < d then R.length + k - d else k - d) < R.length ∨ d = 0 := by split <;> omega
 rcases this with h | h
 ·rw [getD_get h]; exact List.getElem_mem h
 ·subst h
  rw [if_neg (by omega), Nat.sub_zero, getD_get hk]; exact List.getElem_mem hk
theorem get_mem {R : List Q2} {k : Nat} (hk : k < R.length) : R.getD k (0, 0) ∈ R := by rw [getD_get hk]; exact List.getElem_mem hk
section
variable {R P : List Q2} {x : Q2}
theorem RingOk.left2 (ok : RingOk R P x) {k : Nat} (hk : k < R.length) : ∀ q ∈ P, 0 ≤ turnZ (pr R k 2) (pr R k 1) q := fun q hq => by
 have h3 := ok.len
 rw [pr_2 hk (by omega), pr_1 hk]
 exact ok.left _ (by split <;> omega) q hq
def Edg (P : List Q2) (u v : Q2) : Prop := u ∈ P ∧ v ∈ P ∧ u ≠ v ∧ ∀ q ∈ P, 0 ≤ turnZ u v q ∧ (turnZ u v q = 0 → ∀ w ∈ P, 0 ≤ turnZ q v w ∧ 0 ≤ turnZ u q w)
theorem pos_of_mul {a b c : Int} (hb : 0 < b) (h : a * b = c) (hc : 0 ≤ c) : 0 ≤ a := by
 by_cases z : 0 ≤ a
 ·exact z
 ·have := Int.mul_neg_of_neg_of_pos (Int.not_le.mp z) hb
  omega
theorem ring_edge (ok : RingOk R P x) {u v : Q2} (h : (u, v) ∈ edg R) : Edg P u v := by
 unfold edg at h
 obtain ⟨k, hk, e⟩ := List.mem_map.mp h
 have hk := List.mem_range.mp hk
 have h3 := ok.len
 injection e with e1 e2
 obtain ⟨j, hj, j1, j2⟩ := pr_nx hk
 have j2 := j2 (by omega)
 have c1 := ok.conv k hk
 have c2 := ok.conv j hj
 have l1 := ok.left2 hk
 have l2 := ok.left k hk
 have l3 := ok.left j hj
 rw [e1, e2] at c1
 rw [j1, j2, e1, e2] at c2
 rw [e1] at l1
 rw [e1, e2] at l2
 rw [j1, e2] at l3
 generalize pr R k 2 = s at c1 l1
 generalize R.getD j (0, 0) = t at c2 l3
 refine ⟨e1 ▸ ok.sub _ (pr_mem hk (by omega)), e2 ▸ ok.sub _ (get_mem hk), fun z => ?_, fun q hq => ⟨l2 q hq, fun h0 w hw => ⟨?_, ?_⟩⟩⟩
 ·subst z
  have : turnZ s u u = 0 := by unfold turnZ; grind
  omega
 ·have w1 := l2 w hw
  have q1 := l3 q hq
  refine pos_of_mul (b := turnZ u v t) (c := turnZ v t q * turnZ u v w) c2 ?_ (Int.mul_nonneg q1 w1)
  unfold turnZ at h0 ⊢
  grind
 ·have w1 := l2 w hw
  have q1 := l1 q hq
  refine pos_of_mul (b := turnZ s u v) (c := turnZ s u q * turnZ u v w) c1 ?_ (Int.mul_nonneg q1 w1)
  unfold turnZ at h0 ⊢
  grind
theorem ex_min {α : Type} (f : α → Int) : ∀ {l : List α}, l ≠ [] → ∃ a ∈ l, ∀ b ∈ l, f a ≤ f b
 | [a], _ => ⟨a, .head _, fun b hb => by rw [List.mem_singleton.mp hb]; exact Int.le_refl _⟩
 | a :: b :: r, _ => by
  obtain ⟨m, hm, h⟩ := ex_min f (List.cons_ne_nil b r)
  by_cases z : f a ≤ f m
  ·refine ⟨a, .head _, fun c hc => ?_⟩
   rcases List.mem_cons.mp hc with e | e
   ·rw [e]; exact Int.le_refl _
   ·exact Int.le_trans z (h c e)
  ·refine ⟨m, .tail _ hm, fun c hc => ?_⟩
   rcases List.mem_cons.mp hc with e | e
   ·rw [e]; omega
   ·exact h c e
theorem ring_min (ok : RingOk R P x) (c1 c2 : Int) : ∃ r ∈ R, ∀ q ∈ P, c1 * r.1 + c2 * r.2 ≤ c1 * q.1 + c2 * q.2 := by
 have h3 := ok.len
 obtain ⟨r, hr, hm⟩ := ex_min (fun r : Q2 => c1 * r.1 + c2 * r.2) (l := R) (fun z => by rw [z] at h3; simp at h3)
 refine ⟨r, hr, fun q hq => ?_⟩
 obtain ⟨k, hk, e⟩ := mem_pr hr
 have cv := ok.conv k hk
 have l1 := ok.left2 hk q hq
 have l2 := ok.left k hk q hq
 have ms := hm _ (pr_mem (d := 2) hk (by omega))
 have mp := hm _ (get_mem hk)
 rw [e] at cv l1 l2
 generalize pr R k 2 = s at cv l1 ms
 generalize R.getD k (0, 0) = p at cv l2 mp
 have := pos_of_mul (a := c1 * q.1 + c2 * q.2 - (c1 * r.1 + c2 * r.2)) (b := turnZ s r p) (c := turnZ s r q * (c1 * p.1 + c2 * p.2 - (c1 * r.1 + c2 * r.2)) + turnZ r p q * (c1 * s.1 + c2 * s.2 - (c1 * r.1 + c2 * r.2))) cv (by unfold turnZ; grind) (Int.add_nonneg (Int.mul_nonneg l1 (by omega)) (Int.mul_nonneg l2 (by omega)))
 omega
theorem ex_big (f : Q2 → Int) : ∀ ps : List Q2, ∃ A : Int, 0 ≤ A ∧ ∀ p ∈ ps, -A ≤ f p ∧ f p ≤ A
 | [] => ⟨0, Int.le_refl _, fun _ h => nomatch h⟩
 | p :: ps => by
  obtain ⟨M, m1, m2⟩ := ex_big f ps
  refine ⟨M + (f p).natAbs, by omega, fun q hq => ?_⟩
  rcases List.mem_cons.mp hq with z | z
  ·rw [z]; omega
  ·have := m2 q z; omega
theorem ring_far (ok : RingOk R P x) {u v : Q2} (hne : u ≠ v) : ∃ z ∈ P, turnZ u v z ≠ 0 := by
 by_cases h : ∃ z ∈ P, turnZ u v z ≠ 0
 ·exact h
 have h : ∀ z ∈ P, turnZ u v z = 0 := fun z hz => Decidable.byContradiction fun w => h ⟨z, hz, w⟩
 have h3 := ok.len
 have cv := ok.conv 0 (by omega)
 have m0 := h _ (ok.sub _ (pr_mem (d := 2) (k := 0) (by omega) (by omega)))
 have m1 := h _ (ok.sub _ (pr_mem (d := 1) (k := 0) (by omega) (by omega)))
 have m2 := h _ (ok.sub _ (get_mem (k := 0) (by omega)))
 generalize pr R 0 2 = a at cv m0
 generalize pr R 0 1 = b at cv m1
 generalize R.getD 0 (0, 0) = d at cv m2
 have e1 : turnZ a b d * (v.1 - u.1) = 0 := by unfold turnZ at m0 m1 m2 ⊢; grind
 have e2 : turnZ a b d * (v.2 - u.2) = 0 := by unfold turnZ at m0 m1 m2 ⊢; grind
 rcases Int.mul_eq_zero.mp e1 with w | w
 ·omega
 rcases Int.mul_eq_zero.mp e2 with w' | w'
 ·omega
 exact absurd (Prod.ext (by omega) (by omega)) hne
theorem edge_in (ok : RingOk R P x) {u v : Q2} (h : Edg P u v) : u ∈ R := by
 obtain ⟨hu, hv, hne, hq⟩ := h
 obtain ⟨z, hz, hz0⟩ := ring_far ok hne
 have hz1 := (hq z hz).1
 obtain ⟨A, A0, hA⟩ := ex_big (fun w => turnZ u w z) P
 obtain ⟨r, hr, hm⟩ := ring_min ok ((A + 1) * -(v.2 - u.2) + (z.2 - u.2)) ((A + 1) * (v.1 - u.1) - (z.1 - u.1))
 have rP := ok.sub r hr
 have g := hm u hu
 have f : (A + 1) * turnZ u v r + turnZ u r z ≤ 0 := by
  have e : (A + 1) * turnZ u v r + turnZ u r z = (((A + 1) * -(v.2 - u.2) + (z.2 - u.2)) * r.1 + ((A + 1) * (v.1 - u.1) - (z.1 - u.1)) * r.2) - (((A + 1) * -(v.2 - u.2) + (z.2 - u.2)) * u.1 + ((A + 1) * (v.1 - u.1) - (z.1 - u.1)) * u.2) := by unfold turnZ; grind
  omega
 obtain ⟨r0, r1⟩ := hq r rP
 have ra := hA r rP
 have t0 : turnZ u v r = 0 := by
  by_cases w : turnZ u v r = 0
  ·exact w
  ·have := Int.mul_le_mul_of_nonneg_left (show 1 ≤ turnZ u v r by omega) (show 0 ≤ A + 1 by omega)
   omega
 have b := (r1 t0 z hz).2
 rw [t0, Int.mul_zero] at f
 have b0 : turnZ u r z = 0 := by omega
 have e1 : turnZ u v z * (r.1 - u.1) = 0 := by unfold turnZ at t0 b0 ⊢; grind
 have e2 : turnZ u v z * (r.2 - u.2) = 0 := by unfold turnZ at t0 b0 ⊢; grind
 have w1 : r.1 - u.1 = 0 := (Int.mul_eq_zero.mp e1).resolve_left hz0
 have w2 : r.2 - u.2 = 0 := (Int.mul_eq_zero.mp e2).resolve_left hz0
 have e : r = u := Prod.ext (by omega) (by omega)
 rw [← e]
 exact hr
theorem edge_ring (ok : RingOk R P x) {u v : Q2} (h : Edg P u v) : (u, v) ∈ edg R := by
 have hu := edge_in ok h
 obtain ⟨k, hk, e⟩ := mem_pr hu
 have me : (u, R.getD k (0, 0)) ∈ edg R := List.mem_map.mpr ⟨k, List.mem_range.mpr hk, by rw [e]⟩
 obtain ⟨pu, pp, np, hp⟩ := ring_edge ok me
 generalize R.getD k (0, 0) = p at me pp np hp
 obtain ⟨_, pv, nv, hv⟩ := h
 by_cases z : p = v
 ·rw [← z]; exact me
 exfalso
 have a1 := (hv p pp).1
 have a2 := (hp v pv).1
 have s : turnZ u p v = - turnZ u v p := by unfold turnZ; grind
 have z1 : turnZ u v p = 0 := by omega
 have z2 : turnZ u p v = 0 := by omega
 obtain ⟨w, hw, hw0⟩ := ring_far ok z
 have b1 := ((hv p pp).2 z1 w hw).1
 have b2 := ((hp v pv).2 z2 w hw).1
 have s2 : turnZ v p w = - turnZ p v w := by unfold turnZ; grind
 omega
theorem edg_iff (ok : RingOk R P x) {e : Q2 × Q2} : e ∈ edg R ↔ Edg P e.1 e.2 := ⟨fun h => ring_edge ok (u := e.1) (v := e.2) h, fun h => edge_ring ok h⟩
theorem edg_nd (ok : RingOk R P x) : (edg R).Nodup := by
 unfold edg
 refine List.pairwise_map.mpr (List.Pairwise.imp_of_mem (fun {i j} hi hj hij e => ?_) (List.nodup_range (n := R.length)))
 injection e with _ e
 have hi := List.mem_range.mp hi
 have hj := List.mem_range.mp hj
 rw [getD_get hi, getD_get hj] at e
 rcases Nat.lt_or_gt_of_ne hij with z | z
 ·exact List.pairwise_iff_getElem.mp ok.nd i j hi hj z e
 ·exact List.pairwise_iff_getElem.mp ok.nd j i hj hi z e.symm
end
end N

namespace N
theorem sum_perm {l m : List Int} (h : l.Perm m) : l.sum = m.sum := by
 induction h with
 | nil => rfl
 | cons x _ ih => rw [List.sum_cons, List.sum_cons, ih]
 | swap x y l => simp only [List.sum_cons]; omega
 | trans _ _ i1 i2 => exact i1.trans i2
theorem sum_nn : ∀ {l : List Int}, (∀ x ∈ l, 0 ≤ x) → 0 ≤ l.sum
 | [], _ => Int.le_refl _
 | x :: l, h => by
  have := sum_nn (l := l) fun y hy => h y (.tail _ hy)
  have := h x (.head _)
  rw [List.sum_cons]
  omega
theorem sum_mul {α : Type} (D : Int) {f g : α → Int} : ∀ {l : List α}, (∀ e ∈ l, f e = D * g e) → (l.map f).sum = D * (l.map g).sum
 | [], _ => by simp
 | x :: l, h => by
  rw [List.map_cons, List.map_cons, List.sum_cons, List.sum_cons, sum_mul D (l := l) fun y hy => h y (.tail _ hy), h x (.head _), Int.mul_add]
theorem sum_tri {α : Type} {f g h1 h2 : α → Int} : ∀ {l : List α}, (∀ e, f e = g e - h1 e + h2 e) → (l.map f).sum = (l.map g).sum - (l.map h1).sum + (l.map h2).sum
 | [], _ => rfl
 | x :: l, h => by
  simp only [List.map_cons, List.sum_cons]
  rw [sum_tri (l := l) h, h x]
  omega
theorem range_get {β : Type} (h : Q2 → β) : ∀ L : List Q2, (List.range L.length).map (fun i => h (L.getD i (0, 0))) = L.map h := fun L => by
 refine List.ext_getElem (by simp) fun i h1 h2 => ?_
 rw [List.length_map, List.length_range] at h1
 rw [List.getElem_map, List.getElem_map, List.getElem_range, getD_get h1]
theorem tele (h : Q2 → Int) (R : List Q2) : ((edg R).map fun e => h e.1).sum = ((edg R).map fun e => h e.2).sum := by
 have e2 : ((edg R).map fun e => h e.2) = R.map h := by
  unfold edg
  rw [List.map_map]
  exact range_get h R
 rw [e2]
 rcases List.eq_nil_or_concat R with z | ⟨Q, l, z⟩
 ·rw [z]; rfl
 ·have z : R = Q ++ [l] := by rw [z, List.concat_eq_append]
  have hl : R.length = Q.length + 1 := by rw [z, List.length_append]; rfl
  have e1 : ((edg R).map fun e => h e.1) = h l :: Q.map h := by
   unfold edg
   rw [List.map_map, hl, List.range_succ_eq_map, List.map_cons, List.map_map]
   congr 1
   ·show h (pr R 0 1) = h l
    rw [pr_1 (by omega), if_pos rfl, hl, z]
    simp
   ·rw [← range_get h Q]
    refine List.map_congr_left fun i hi => ?_
    have hi := List.mem_range.mp hi
    show h (pr R (i + 1) 1) = h (Q.getD i (0, 0))
    rw [pr_1 (by omega), if_neg (by omega), Nat.add_sub_cancel, z, List.getD_eq_getElem?_getD, List.getElem?_append_left hi, List.getD_eq_getElem?_getD]
  rw [e1, z, List.map_append, List.sum_append, List.sum_cons]
  simp
  omega
theorem area_at (o : Q2) (R : List Q2) : ((edg R).map fun e => turnZ o e.1 e.2).sum = areaR R := by
 have t := sum_tri (f := fun e : Q2 × Q2 => turnZ o e.1 e.2) (g := crs) (h1 := fun e => e.1.1 * o.2 - e.1.2 * o.1) (h2 := fun e => e.2.1 * o.2 - e.2.2 * o.1) (l := edg R) fun e => by unfold crs turnZ; grind
 rw [t, tele (fun p => p.1 * o.2 - p.2 * o.1) R]
 unfold areaR
 omega
theorem line3 {u v a b d : Q2} (hne : u ≠ v) (m0 : turnZ u v a = 0) (m1 : turnZ u v b = 0) (m2 : turnZ u v d = 0) : turnZ a b d = 0 := by
 have e1 : turnZ a b d * (v.1 - u.1) = 0 := by unfold turnZ at m0 m1 m2 ⊢; grind
 have e2 : turnZ a b d * (v.2 - u.2) = 0 := by unfold turnZ at m0 m1 m2 ⊢; grind
 rcases Int.mul_eq_zero.mp e1 with w | w
 ·exact w
 rcases Int.mul_eq_zero.mp e2 with w' | w'
 ·exact w'
 exact absurd (Prod.ext (by omega) (by omega)) hne
def Hl (ps R : List Q2) : Prop := (Flt ps ∧ areaR R = 0) ∨ (¬ Flt ps ∧ ∃ x, RingOk R ps x)
theorem area_one (x : Q2) : areaR [x] = 0 := by
 show crs (x, x) + 0 = 0
 unfold crs turnZ
 grind
theorem area_two (x y : Q2) : areaR [x, y] = 0 := by
 show crs (y, x) + (crs (x, y) + 0) = 0
 unfold crs turnZ
 grind
theorem hull_hl {rs ps : List Q2} (hs : rs.Pairwise ltQ) (hm : ∀ p, p ∈ rs ↔ p ∈ ps) (h0 : rs ≠ []) : Hl ps (hullR rs) := by
 obtain ⟨x, hx⟩ : ∃ x, rs.head? = some x := by
  cases rs with
  | nil => exact absurd rfl h0
  | cons a r => exact ⟨a, rfl⟩
 obtain ⟨y, hy⟩ : ∃ y, rs.getLast? = some y := by
  cases e : rs.getLast? with
  | none => exact absurd (List.getLast?_eq_none_iff.mp e) h0
  | some a => exact ⟨a, rfl⟩
 have hr := hull_ring hs hx hy
 have xm := (hm x).mp (List.mem_of_head? hx)
 have ym := (hm y).mp (List.mem_of_getLast? hy)
 by_cases z : ∀ q ∈ rs, turnZ x y q = 0
 ·rw [if_pos z] at hr
  refine .inl ⟨?_, ?_⟩
  ·by_cases w : x = y
   ·have all : ∀ q ∈ rs, q = x := fun q hq => by
     cases rs with
     | nil => cases hq
     | cons a r =>
      have e : a = x := Option.some.inj hx
      rcases List.mem_cons.mp hq with k | k
      ·rw [k, e]
      ·have hr' : r ≠ [] := fun z => by rw [z] at k; cases k
       have hl : y ∈ r := by
        have : (a :: r).getLast? = r.getLast? := by
         cases r with
         | nil => exact absurd rfl hr'
         | cons b s => exact List.getLast?_cons_cons
        rw [this] at hy
        exact List.mem_of_getLast? hy
       exact absurd (e.trans w) (ltQ_irr (List.rel_of_pairwise_cons hs hl))
    intro a ha b hb c hc
    rw [all a ((hm a).mpr ha), all b ((hm b).mpr hb)]
    exact turn_self _ _
   ·intro a ha b hb c hc
    exact line3 w (z a ((hm a).mpr ha)) (z b ((hm b).mpr hb)) (z c ((hm c).mpr hc))
  ·rw [hr]
   split
   ·exact area_one x
   ·exact area_two x y
 ·rw [if_neg z] at hr
  refine .inr ⟨fun f => z fun q hq => f x xm y ym q ((hm q).mp hq), x, ?_⟩
  exact ⟨hr.len, hr.h0, hr.nd, fun p hp => (hm p).mp (hr.sub p hp), hr.conv, fun k hk q hq => hr.left k hk q ((hm q).mpr hq)⟩
theorem Hl.nn {ps R : List Q2} (h : Hl ps R) : 0 ≤ areaR R := by
 rcases h with ⟨_, h⟩ | ⟨_, x, ok⟩
 ·rw [h]; exact Int.le_refl _
 ·have h3 := ok.len
  have m := ok.sub _ (get_mem (R := R) (k := 0) (by omega))
  rw [← area_at (R.getD 0 (0, 0)) R]
  refine sum_nn fun t ht => ?_
  obtain ⟨e, he, rfl⟩ := List.mem_map.mp ht
  have := ((edg_iff ok).mp he).2.2.2 _ m
  have s : turnZ (R.getD 0 (0, 0)) e.1 e.2 = turnZ e.1 e.2 (R.getD 0 (0, 0)) := by unfold turnZ; grind
  rw [s]
  exact this.1
theorem Hl.zero {ps R : List Q2} (h : Hl ps R) (f : Flt ps) : areaR R = 0 := by
 rcases h with ⟨_, h⟩ | ⟨g, _⟩
 ·exact h
 ·exact absurd f g
theorem area_psi {P P' R R' : List Q2} {x x' o o' : Q2} {D : Int} (ψ : Q2 × Q2 → Q2 × Q2) (inj : ∀ a b, ψ a = ψ b → a = b) (ok : RingOk R P x) (ok' : RingOk R' P' x') (h : ∀ e', Edg P' e'.1 e'.2 ↔ ∃ e : Q2 × Q2, e' = ψ e ∧ Edg P e.1 e.2) (s : ∀ e, turnZ o' (ψ e).1 (ψ e).2 = D * turnZ o e.1 e.2) : areaR R' = D * areaR R := by
 have pm : (edg R').Perm ((edg R).map ψ) := L2.perm_nd (edg_nd ok') (List.Pairwise.map ψ (fun a b hab e => hab (inj a b e)) (edg_nd ok)) fun e' => by
  rw [edg_iff ok', h e', List.mem_map]
  constructor
  ·rintro ⟨e, rfl, he⟩; exact ⟨e, (edg_iff ok).mpr he, rfl⟩
  ·rintro ⟨e, he, rfl⟩; exact ⟨e, rfl, (edg_iff ok).mp he⟩
 rw [← area_at o' R', ← area_at o R, sum_perm (pm.map _), List.map_map]
 exact sum_mul D fun e _ => s e
theorem Hl.map {ps R R' : List Q2} {φ : Q2 → Q2} {D : Int} (h : Hl ps R) (h' : Hl (ps.map φ) R') (hD : 0 < D) (ht : ∀ a b c, turnZ (φ a) (φ b) (φ c) = D * turnZ a b c) (inj : ∀ a b, φ a = φ b → a = b) : areaR R' = D * areaR R := by
 have fl : Flt (ps.map φ) ↔ Flt ps := by
  constructor
  ·intro f a ha b hb c hc
   have := f _ (List.mem_map.mpr ⟨a, ha, rfl⟩) _ (List.mem_map.mpr ⟨b, hb, rfl⟩) _ (List.mem_map.mpr ⟨c, hc, rfl⟩)
   rw [ht] at this
   exact (Int.mul_eq_zero.mp this).resolve_left (by omega)
  ·intro f a' ha b' hb c' hc
   obtain ⟨a, ma, rfl⟩ := List.mem_map.mp ha
   obtain ⟨b, mb, rfl⟩ := List.mem_map.mp hb
   obtain ⟨c, mc, rfl⟩ := List.mem_map.mp hc
   rw [ht, f a ma b mb c mc, Int.mul_zero]
 rcases h with ⟨f, e⟩ | ⟨g, x, ok⟩
 ·rw [h'.zero (fl.mpr f), e, Int.mul_zero]
 ·rcases h' with ⟨f', _⟩ | ⟨_, x', ok'⟩
  ·exact absurd (fl.mp f') g
  ·have nn : ∀ t : Int, 0 ≤ D * t ↔ 0 ≤ t := fun t => ⟨fun h => by
    by_cases z : 0 ≤ t
    ·exact z
    ·have := Int.mul_neg_of_pos_of_neg hD (Int.not_le.mp z); omega, fun h => Int.mul_nonneg (Int.le_of_lt hD) h⟩
   have n0 : ∀ t : Int, D * t = 0 ↔ t = 0 := fun t => ⟨fun h => (Int.mul_eq_zero.mp h).resolve_left (by omega), fun h => by rw [h, Int.mul_zero]⟩
   have ed : ∀ u v, Edg (ps.map φ) (φ u) (φ v) ↔ Edg ps u v := fun u v => by
    have mm : ∀ p, φ p ∈ ps.map φ ↔ p ∈ ps := fun p => ⟨fun h => by
     obtain ⟨q, hq, e⟩ := List.mem_map.mp h
     rw [← inj q p e]; exact hq, fun h => List.mem_map.mpr ⟨p, h, rfl⟩⟩
    unfold Edg
    rw [mm, mm]
    constructor
    ·rintro ⟨a, b, c, d⟩
     refine ⟨a, b, fun e => c (by rw [e]), fun q hq => ?_⟩
     obtain ⟨d1, d2⟩ := d (φ q) ((mm q).mpr hq)
     rw [ht, nn] at d1
     rw [ht, n0] at d2
     refine ⟨d1, fun z w hw => ?_⟩
     have := d2 z (φ w) ((mm w).mpr hw)
     rw [ht, ht, nn, nn] at this
     exact this
    ·rintro ⟨a, b, c, d⟩
     refine ⟨a, b, fun e => c (inj _ _ e), fun q' hq => ?_⟩
     obtain ⟨q, mq, rfl⟩ := List.mem_map.mp hq
     obtain ⟨d1, d2⟩ := d q mq
     rw [ht, nn, n0]
     refine ⟨d1, fun z w' hw => ?_⟩
     obtain ⟨w, mw, rfl⟩ := List.mem_map.mp hw
     rw [ht, ht, nn, nn]
     exact d2 z w mw
   refine area_psi (o := (0, 0)) (o' := φ (0, 0)) (fun e => (φ e.1, φ e.2)) (fun a b e => ?_) ok ok' (fun e' => ?_) fun e => ht _ _ _
   ·injection e with e1 e2
    exact Prod.ext (inj _ _ e1) (inj _ _ e2)
   ·constructor
    ·intro he
     obtain ⟨u, hu, eu⟩ := List.mem_map.mp he.1
     obtain ⟨v, hv, ev⟩ := List.mem_map.mp he.2.1
     refine ⟨(u, v), Prod.ext eu.symm ev.symm, (ed u v).mp ?_⟩
     rw [eu, ev]
     exact he
    ·rintro ⟨e, rfl, he⟩
     exact (ed _ _).mpr he
def swp (p : Q2) : Q2 := (p.2, p.1)
theorem swp_swp (p : Q2) : swp (swp p) = p := rfl
theorem turn_swp (a b c : Q2) : turnZ (swp a) (swp b) (swp c) = turnZ b a c := by unfold swp turnZ; grind
theorem Hl.swap {ps R R' : List Q2} (h : Hl ps R) (h' : Hl (ps.map swp) R') : areaR R' = areaR R := by
 have mm : ∀ p, p ∈ ps.map swp ↔ swp p ∈ ps := fun p => ⟨fun h => by
  obtain ⟨q, hq, e⟩ := List.mem_map.mp h
  rw [← e]; exact hq, fun h => List.mem_map.mpr ⟨swp p, h, rfl⟩⟩
 have fl : Flt (ps.map swp) ↔ Flt ps := by
  constructor
  ·intro f a ha b hb c hc
   have := f (swp a) ((mm _).mpr ha) (swp b) ((mm _).mpr hb) (swp c) ((mm _).mpr hc)
   rw [turn_swp, turn_swap] at this
   omega
  ·intro f a ha b hb c hc
   have := f _ ((mm a).mp ha) _ ((mm b).mp hb) _ ((mm c).mp hc)
   rw [turn_swp, turn_swap] at this
   omega
 rcases h with ⟨f, e⟩ | ⟨g, x, ok⟩
 ·rw [h'.zero (fl.mpr f), e]
 ·rcases h' with ⟨f', _⟩ | ⟨_, x', ok'⟩
  ·exact absurd (fl.mp f') g
  ·have tn : ∀ a b c, turnZ a b c = turnZ (swp b) (swp a) (swp c) := fun a b c => (turn_swp b a c).symm
   have ed : ∀ u v, Edg (ps.map swp) u v ↔ Edg ps (swp v) (swp u) := fun u v => by
    unfold Edg
    rw [mm, mm]
    constructor
    ·rintro ⟨a, b, c, d⟩
     refine ⟨b, a, fun e => c (by have := congrArg swp e; rwa [swp_swp, swp_swp, eq_comm] at this), fun q hq => ?_⟩
     obtain ⟨d1, d2⟩ := d (swp q) ((mm _).mpr hq)
     rw [tn] at d1 d2
     refine ⟨d1, fun z w hw => ?_⟩
     have := d2 z (swp w) ((mm _).mpr hw)
     rw [tn (swp q), tn u] at this
     exact ⟨this.2, this.1⟩
    ·rintro ⟨a, b, c, d⟩
     refine ⟨b, a, fun e => c (by rw [e]), fun q hq => ?_⟩
     obtain ⟨d1, d2⟩ := d _ ((mm _).mp hq)
     rw [tn u v q]
     refine ⟨d1, fun z w hw => ?_⟩
     have := d2 z _ ((mm _).mp hw)
     rw [tn q v w, tn u q w]
     exact ⟨this.2, this.1⟩
   have := area_psi (D := 1) (o := (0, 0)) (o' := (0, 0)) (fun e => (swp e.2, swp e.1)) (fun a b e => ?_) ok ok' (fun e' => ?_) fun e => ?_
   ·rw [this, Int.one_mul]
   ·injection e with e1 e2
    exact Prod.ext (congrArg swp e2) (congrArg swp e1)
   ·rw [ed]
    constructor
    ·intro he; exact ⟨(swp e'.2, swp e'.1), rfl, he⟩
    ·rintro ⟨e, rfl, he⟩; exact he
   ·rw [Int.one_mul]
    unfold swp turnZ
    grind
theorem nd_len {α : Type} [DecidableEq α] : ∀ {l m : List α}, l.Nodup → (∀ x ∈ l, x ∈ m) → l.length ≤ m.length
 | [], m, _, _ => Nat.zero_le _
 | a :: l, m, h, hs => by
  obtain ⟨h1, h2⟩ := List.nodup_cons.mp h
  have am := hs a (.head _)
  have := nd_len (l := l) (m := m.erase a) h2 fun x hx => (List.mem_erase_of_ne fun e => h1 (by rw [← e]; exact hx)).mpr (hs x (.tail _ hx))
  rw [List.length_erase_of_mem am] at this
  have := List.length_pos_of_mem am
  rw [List.length_cons]
  omega
theorem Hl.three {a b c : Q2} {R : List Q2} (h : Hl [a, b, c] R) : areaR R = if turnZ a b c < 0 then - turnZ a b c else turnZ a b c := by
 rcases h with ⟨f, e⟩ | ⟨_, x, ok⟩
 ·rw [e, f a (.head _) b (.tail _ (.head _)) c (.tail _ (.tail _ (.head _)))]
  rfl
 ·have l3 : R.length ≤ 3 := nd_len ok.nd ok.sub
  have g3 := ok.len
  match R, l3, g3, ok with
  | [p, q, r], _, _, ok =>
   have cv : 0 < turnZ p q r := ok.conv 2 (by simp)
   have ar : areaR [p, q, r] = turnZ p q r := by
    show crs (r, p) + (crs (p, q) + (crs (q, r) + 0)) = _
    unfold crs turnZ
    grind
   have mp := ok.sub p (.head _)
   have mq := ok.sub q (.tail _ (.head _))
   have mr := ok.sub r (.tail _ (.tail _ (.head _)))
   have k : turnZ p q r = turnZ a b c ∨ turnZ p q r = - turnZ a b c ∨ turnZ p q r = 0 := by
    simp only [List.mem_cons, List.not_mem_nil, or_false] at mp mq mr
    clear ok cv ar
    rcases mp with rfl | rfl | rfl <;> rcases mq with rfl | rfl | rfl <;> rcases mr with rfl | rfl | rfl <;> unfold turnZ <;> first | (right; right; grind) | (left; grind) | (right; left; grind)
   rw [ar]
   split <;> omega
end N

namespace My
open PySem PySem.Spec PyProof.Rows L2 M N
def top (i : Nat) : Stmt := PySem.Challenge.pw_creasecurve_k26_areas.main.body.getD i (.Pass ⟨0, 0, 0, 0⟩)
abbrev s_turn : Stmt := top 1
abbrev s_chain : Stmt := top 2
abbrev s_hull : Stmt := top 3
abbrev s_area : Stmt := top 4
abbrev s__law_cell_at : Stmt := top 6
abbrev s__law_stir : Stmt := top 7
abbrev s__law_whole : Stmt := top 8
abbrev s__law_turn : Stmt := top 9
abbrev s__law_places_by : Stmt := top 10
abbrev s_law : Stmt := top 11
theorem bB_abs : bootBuiltins "abs" = some (.builtin "abs") := by decide +kernel
theorem bT_bool : bootBuiltins "bool" = some (.type "bool") := by decide +kernel
theorem bT_int : bootBuiltins "int" = some (.type "int") := by decide +kernel
theorem bT_list : bootBuiltins "list" = some (.type "list") := by decide +kernel
theorem bB_max : bootBuiltins "max" = some (.builtin "max") := by decide +kernel
theorem bB_sum : bootBuiltins "sum" = some (.builtin "sum") := by decide +kernel
structure Blt (mg : Str → Option Value) : Prop where
 abs_ : mg "abs" = none
 bool_ : mg "bool" = none
 int_ : mg "int" = none
 isinstance_ : mg "isinstance" = none
 len_ : mg "len" = none
 list_ : mg "list" = none
 max_ : mg "max" = none
 range_ : mg "range" = none
 reversed_ : mg "reversed" = none
 set_ : mg "set" = none
 sorted_ : mg "sorted" = none
 sum_ : mg "sum" = none
structure Cls where
structure ClsM (mg : Str → Option Value) (c : Cls) : Prop where
structure ClsO (mg : Str → Option Value) (base : Heap) (c : Cls) : Prop where
def eT3 (a : Q2 × Q2 × Q2) : List L := [.p (slD a.1), .p (slD a.2.1), .p (slD a.2.2)]
theorem eT3_inj (a b : Q2 × Q2 × Q2) (h : eT3 a = eT3 b) : a = b := by
 unfold eT3 at h
 injection h with h1 h2
 injection h2 with h2 h3
 injection h3 with h3 _
 injection h1 with h1
 injection h2 with h2
 injection h3 with h3
 exact Prod.ext (slD_inj _ _ h1) (Prod.ext (slD_inj _ _ h2) (slD_inj _ _ h3))
def GQ (q : Q2) : Prop := Sz 5000 q.1 ∧ Sz 5000 q.2
noncomputable def m_turn (K : PySem.W.Frag) (c : Cls) : List L → Res L := mOf eT3 (fun a => GQ a.1 ∧ GQ a.2.1 ∧ GQ a.2.2) fun a => .ok (.p (.int (turnZ a.1 a.2.1 a.2.2)))
noncomputable def f_turn (K : PySem.W.Frag) (c : Cls) : MS := (mSeq (mSet 3 (mBin mulE (mBin subE (mBin ixE (mVar 1) (mC (.int 0))) (mBin ixE (mVar 0) (mC (.int 0)))) (mBin subE (mBin ixE (mVar 2) (mC (.int 1))) (mBin ixE (mVar 0) (mC (.int 1)))))) (mSeq (mSet 4 (mBin mulE (mBin subE (mBin ixE (mVar 1) (mC (.int 1))) (mBin ixE (mVar 0) (mC (.int 1)))) (mBin subE (mBin ixE (mVar 2) (mC (.int 0))) (mBin ixE (mVar 0) (mC (.int 0)))))) (mRet (mBin subE (mVar 3) (mVar 4)))))
theorem eq_turn (K : PySem.W.Frag) (c : Cls) : ∀ ls, m_turn K c ls = .bad ∨ runF 5 (f_turn K c) ls = m_turn K c ls := mOf_eq fun a h => by
 obtain ⟨a, b, d⟩ := a
 obtain ⟨⟨a1, a2⟩, ⟨b1, b2⟩, d1, d2⟩ := h
 dsimp only at a1 a2 b1 b2 d1 d2 ⊢
 have z : ∀ {x y : Int}, Sz 5000 x → Sz 5000 y → Sz 60000 (x - y) := fun h1 h2 => (N.Sz.subM h1 h2).mono (by decide)
 have q1 : CMulW (b.1 - a.1) (d.2 - a.2) := ⟨z b1 a1, z d2 a2⟩
 have q2 : CMulW (b.2 - a.2) (d.1 - a.1) := ⟨z b2 a2, z d1 a1⟩
 have x0 : ∀ y : Int × Int, ixE (.p (slD y)) (.p (.int 0)) = .ok (.p (.int y.1)) := fun y => ix_t0 _ _
 have x1 : ∀ y : Int × Int, ixE (.p (slD y)) (.p (.int 1)) = .ok (.p (.int y.2)) := fun y => ix_t1 _ _ _
 refine run_rt ?_
 rw [show startE 5 (eT3 (a, b, d)) = [some (.p (slD a)), some (.p (slD b)), some (.p (slD d)), none, none] from rfl]
 unfold f_turn
 refine (seq_nx (set_p (d := .int ((b.1 - a.1) * (d.2 - a.2))) ?_)).trans ((seq_nx (set_p (d := .int ((b.2 - a.2) * (d.1 - a.1))) ?_)).trans (ret_p ?_))
 ·simp (disch := assumption) only [mSeq, mSet, mRet, mIfS, mVar, mC, mBin, mUn, mCons, mNil, mCall, callR, argsL, argL, argB, Res.bind, Ev.c, retL, retE, mCallB, tupR', lstR', pureL, mTru, truthR, mAnd, mOr, mNot, mAndV, mOrV, mNotV, mRaise, mNext, addE, intE0, negE, lstOf, dat, lenE, eqE, sh_int, eqv_ii, ix_pl2, ix_pl0, ix_pl1, ix_fr0, ix_fr1, ix_t0, ix_t1, ix_t2, mul_ok, fdiv_ok, mod_ok, pow_ok, List.getElem?_cons_zero, List.getElem?_cons_succ, List.set_cons_zero, List.set_cons_succ, List.length_cons, List.length_nil, List.length_map, List.length_append, if_true, if_false, ite_true, ite_false, decide_true, decide_false, Bool.false_eq_true, Nat.zero_add, Nat.reduceAdd, Nat.reduceEqDiff, Nat.reduceLeDiff, reduceIte, List.map_append, List.map_cons, List.map_nil, x0, x1]
 ·simp (disch := assumption) only [mSeq, mSet, mRet, mIfS, mVar, mC, mBin, mUn, mCons, mNil, mCall, callR, argsL, argL, argB, Res.bind, Ev.c, retL, retE, mCallB, tupR', lstR', pureL, mTru, truthR, mAnd, mOr, mNot, mAndV, mOrV, mNotV, mRaise, mNext, addE, intE0, negE, lstOf, dat, lenE, eqE, sh_int, eqv_ii, ix_pl2, ix_pl0, ix_pl1, ix_fr0, ix_fr1, ix_t0, ix_t1, ix_t2, mul_ok, fdiv_ok, mod_ok, pow_ok, List.getElem?_cons_zero, List.getElem?_cons_succ, List.set_cons_zero, List.set_cons_succ, List.length_cons, List.length_nil, List.length_map, List.length_append, if_true, if_false, ite_true, ite_false, decide_true, decide_false, Bool.false_eq_true, Nat.zero_add, Nat.reduceAdd, Nat.reduceEqDiff, Nat.reduceLeDiff, reduceIte, List.map_append, List.map_cons, List.map_nil, x0, x1]
 ·simp only [mSeq, mSet, mRet, mIfS, mVar, mC, mBin, mUn, mCons, mNil, mCall, callR, argsL, argL, argB, Res.bind, Ev.c, retL, retE, mCallB, tupR', lstR', pureL, mTru, truthR, mAnd, mOr, mNot, mAndV, mOrV, mNotV, mRaise, mNext, addE, intE0, negE, lstOf, dat, lenE, eqE, sh_int, eqv_ii, ix_pl2, ix_pl0, ix_pl1, ix_fr0, ix_fr1, ix_t0, ix_t1, ix_t2, List.getElem?_cons_zero, List.getElem?_cons_succ, List.set_cons_zero, List.set_cons_succ, List.length_cons, List.length_nil, List.length_map, List.length_append, if_true, if_false, ite_true, ite_false, decide_true, decide_false, Bool.false_eq_true, Nat.zero_add, Nat.reduceAdd, Nat.reduceEqDiff, Nat.reduceLeDiff, reduceIte, List.map_append, List.map_cons, List.map_nil]
  rfl
theorem turn_good (K : PySem.W.Frag) (c : Cls) {a b d : Q2} (ha : GQ a) (hb : GQ b) (hd : GQ d) : m_turn K c [.p (slD a), .p (slD b), .p (slD d)] = .ok (.p (.int (turnZ a b d))) := mOf_at (a := (a, b, d)) eT3_inj ⟨ha, hb, hd⟩
def eQs (ps : List Q2) : List L := [.p (.list (ps.map slD))]
theorem eQs_inj (a b : List Q2) (h : eQs a = eQs b) : a = b := by
 unfold eQs at h
 injection h with h _
 injection h with h
 injection h with h
 exact List.map_inj_right (fun _ _ e => slD_inj _ _ e) |>.mp h
noncomputable def m_chain (K : PySem.W.Frag) (c : Cls) : List L → Res L := mOf eQs (fun ps => ps.length ≤ 1000 ∧ ∀ p ∈ ps, GQ p) fun ps => .ok (.o (.list ((chainS ps).reverse.map slD)))
noncomputable def f_chain_c1 (K : PySem.W.Frag) (c : Cls) : En → Res Bool := (mAnd (mTru (mBin gtE (mCallB lenE (mCons (mVar 1) mNil)) (mC (.int 1)))) (mTru (mBin leE (mCall 3 (m_turn K c) (mCons (mBin ixE (mVar 1) (mUn negE (mC (.int 2)))) (mCons (mBin ixE (mVar 1) (mUn negE (mC (.int 1)))) (mCons (mVar 2) mNil)))) (mC (.int 0)))))
noncomputable def f_chain_b2 (K : PySem.W.Frag) (c : Cls) : MS := (mPop 1)
noncomputable def f_chain_b3 (K : PySem.W.Frag) (c : Cls) : MS := (mSeq (mWhile (f_chain_c1 K c) (f_chain_b2 K c)) (mAppend 1 (mVar 2)))
noncomputable def f_chain (K : PySem.W.Frag) (c : Cls) : MS := (mSeq (mSet 1 (mCallB lstR' mNil)) (mSeq (mFor (mItL (mVar 0)) (mgName 2) (f_chain_b3 K c)) (mRet (mVar 1))))
theorem at_m2 (xs : List D) (a b : D) : atI (xs ++ [a, b]) (-2) = some a := by
 have hl : (xs ++ [a, b]).length = xs.length + 2 := by simp
 have e : ixN (xs ++ [a, b]).length (-2) = some xs.length := by
  unfold ixN
  rw [hl, if_neg (by decide), if_pos (by omega)]
  congr 1
  omega
 unfold atI
 rw [e]
 simp
theorem at_m1 (xs : List D) (a b : D) : atI (xs ++ [a, b]) (-1) = some b := by
 have := atI_last (xs ++ [a]) b
 rw [List.append_assoc] at this
 exact this
theorem popS_sub (p : Q2) (s : List Q2) : ∀ k ∈ popS p s, k ∈ s := fun k hk => (popS_suffix p s).sublist.subset hk
theorem wh_chain (K : PySem.W.Frag) (c : Cls) (Z : Option L) {p : Q2} (gp : GQ p) : ∀ (n : Nat) (s : List Q2), s.length ≤ n → (∀ k ∈ s, GQ k) → mWh (f_chain_c1 K c) (f_chain_b2 K c) (n + 1) [Z, some (.o (.list (s.reverse.map slD))), some (.p (slD p))] = some (.nx [Z, some (.o (.list ((popS p s).reverse.map slD))), some (.p (slD p))]) := by
 have hlen : ∀ s : List Q2, lenE [.b (.list (s.reverse.map slD))] = .ok (.p (.int (s.length : Nat))) := fun s => by simp [lenE, seqOf]
 have neg2 : negE (.p (.int 2)) = .ok (.p (.int (-2))) := rfl
 have neg1 : negE (.p (.int 1)) = .ok (.p (.int (-1))) := rfl
 have t1 : ∀ s : List Q2, mTru (mBin gtE (mCallB lenE (mCons (mVar 1) mNil)) (mC (.int 1))) [Z, some (.o (.list (s.reverse.map slD))), some (.p (slD p))] = .ok (decide ((1 : Int) < (s.length : Nat))) := fun s => by
  simp only [mTru, mBin, mCallB, mCons, mNil, mVar, mC, List.getElem?_cons_zero, List.getElem?_cons_succ, List.set_cons_zero, List.set_cons_succ, List.length_cons, List.length_nil, List.length_map, List.length_append, if_true, if_false, ite_true, ite_false, decide_true, decide_false, Bool.false_eq_true, Nat.zero_add, Nat.reduceAdd, Nat.reduceEqDiff, Nat.reduceLeDiff, reduceIte, List.map_append, List.map_cons, List.map_nil, Res.bind, Ev.c, hlen, intE0, truthR]
 have short : ∀ (n : Nat) (s : List Q2), s.length ≤ 1 → mWh (f_chain_c1 K c) (f_chain_b2 K c) (n + 1) [Z, some (.o (.list (s.reverse.map slD))), some (.p (slD p))] = some (.nx [Z, some (.o (.list (s.reverse.map slD))), some (.p (slD p))]) := fun n s hs => by
  have t : f_chain_c1 K c [Z, some (.o (.list (s.reverse.map slD))), some (.p (slD p))] = .ok false := by
   unfold f_chain_c1 mAnd
   rw [t1 s, decide_eq_false (by omega)]
   rfl
  unfold mWh
  rw [t]
 intro n
 induction n with
 | zero =>
  intro s hs _
  have e : s = [] := List.length_eq_zero_iff.mp (by omega)
  subst e
  rw [show popS p [] = [] from by unfold popS; rfl]
  exact short 0 [] (by decide)
 | succ n ih =>
  intro s hs hg
  match s, hs, hg with
  | [], _, _ =>
   rw [show popS p [] = [] from by unfold popS; rfl]
   exact short _ [] (by decide)
  | [a], _, _ =>
   rw [show popS p [a] = [a] from by unfold popS; rfl]
   exact short _ [a] (Nat.le_refl _)
  | k1 :: k2 :: r, hs, hg =>
   have er : (k1 :: k2 :: r).reverse.map slD = (r.reverse.map slD) ++ [slD k2, slD k1] := by simp
   have i2 : ixE (.b (.list ((r.reverse.map slD) ++ [slD k2, slD k1]))) (.p (.int (-2))) = .ok (.p (slD k2)) := by simp only [ixE, seqOf, at_m2]
   have i1 : ixE (.b (.list ((r.reverse.map slD) ++ [slD k2, slD k1]))) (.p (.int (-1))) = .ok (.p (slD k1)) := by simp only [ixE, seqOf, at_m1]
   have tg := turn_good K c (hg k2 (.tail _ (.head _))) (hg k1 (.head _)) gp
   have t2 : mTru (mBin leE (mCall 3 (m_turn K c) (mCons (mBin ixE (mVar 1) (mUn negE (mC (.int 2)))) (mCons (mBin ixE (mVar 1) (mUn negE (mC (.int 1)))) (mCons (mVar 2) mNil)))) (mC (.int 0))) [Z, some (.o (.list ((k1 :: k2 :: r).reverse.map slD))), some (.p (slD p))] = .ok (decide (turnZ k2 k1 p ≤ 0)) := by
    rw [er]
    simp only [mTru, mBin, mCall, mCons, mNil, mVar, mUn, mC, List.getElem?_cons_zero, List.getElem?_cons_succ, List.set_cons_zero, List.set_cons_succ, List.length_cons, List.length_nil, List.length_map, List.length_append, if_true, if_false, ite_true, ite_false, decide_true, decide_false, Bool.false_eq_true, Nat.zero_add, Nat.reduceAdd, Nat.reduceEqDiff, Nat.reduceLeDiff, reduceIte, List.map_append, List.map_cons, List.map_nil, Res.bind, Ev.c, neg2, neg1, i2, i1, callR, argsL, argL, tg, retE, intE0, truthR]
   have t : f_chain_c1 K c [Z, some (.o (.list ((k1 :: k2 :: r).reverse.map slD))), some (.p (slD p))] = .ok (decide (turnZ k2 k1 p ≤ 0)) := by
    unfold f_chain_c1 mAnd
    rw [t1, decide_eq_true (by simp only [List.length_cons]; omega), bind_ok]
    exact t2
   by_cases h : turnZ k2 k1 p ≤ 0
   ·rw [decide_eq_true h] at t
    have hp : f_chain_b2 K c [Z, some (.o (.list ((k1 :: k2 :: r).reverse.map slD))), some (.p (slD p))] = some (.nx [Z, some (.o (.list ((k2 :: r).reverse.map slD))), some (.p (slD p))]) := by
     have ne : (k1 :: k2 :: r).reverse.map slD ≠ [] := by simp
     have dl : ((k1 :: k2 :: r).reverse.map slD).dropLast = (k2 :: r).reverse.map slD := by
      rw [List.reverse_cons, List.map_append]
      exact List.dropLast_concat
     unfold f_chain_b2 mPop mMeth
     simp only [List.getElem?_cons_succ, List.getElem?_cons_zero]
     rw [if_neg ne, dl]
     rfl
    have e : popS p (k1 :: k2 :: r) = popS p (k2 :: r) := by
     show (if turnZ k2 k1 p ≤ 0 then popS p (k2 :: r) else k1 :: k2 :: r) = _
     rw [if_pos h]
    rw [e]
    unfold mWh
    rw [t]
    dsimp only
    rw [hp]
    exact ih (k2 :: r) (by simp only [List.length_cons] at hs ⊢; omega) fun k hk => hg k (.tail _ hk)
   ·rw [decide_eq_false h] at t
    have e : popS p (k1 :: k2 :: r) = k1 :: k2 :: r := by
     show (if turnZ k2 k1 p ≤ 0 then popS p (k2 :: r) else k1 :: k2 :: r) = _
     rw [if_neg h]
    rw [e]
    unfold mWh
    rw [t]
theorem chain_loop (K : PySem.W.Frag) (c : Cls) (Z : Option L) : ∀ (ps s : List Q2) (r : Option L), s.length + ps.length ≤ 2000 → (∀ k ∈ s, GQ k) → (∀ p ∈ ps, GQ p) → ∃ r', mLoop (mgName 2) (f_chain_b3 K c) (ps.map slD) [Z, some (.o (.list (s.reverse.map slD))), r] = some (.nx [Z, some (.o (.list ((ps.foldl pushS s).reverse.map slD))), r'])
 | [], s, r, _, _, _ => ⟨r, rfl⟩
 | p :: ps, s, r, hl, hs, hp => by
  rw [List.length_cons] at hl
  have gp := hp p (.head _)
  have w := wh_chain K c Z gp (List.length s) s (Nat.le_refl _) hs
  have w := mWhile_of w
  have ll : (popS p s).length ≤ s.length := (popS_suffix p s).sublist.length_le
  have hb : f_chain_b3 K c [Z, some (.o (.list (s.reverse.map slD))), some (.p (slD p))] = some (.nx [Z, some (.o (.list ((pushS s p).reverse.map slD))), some (.p (slD p))]) := by
   unfold f_chain_b3
   refine (seq_nx w).trans ?_
   unfold mAppend
   simp only [List.set_cons_succ, List.set_cons_zero, List.getElem?_cons_succ, List.getElem?_cons_zero, mVar, Ev.c]
   rw [if_pos (by rw [List.length_map, List.length_reverse]; omega)]
   show some (Out.nx [Z, some (.o (.list ((popS p s).reverse.map slD ++ [slD p]))), some (.p (slD p))]) = _
   unfold pushS
   rw [List.reverse_cons, List.map_append]
   rfl
  obtain ⟨r', ih⟩ := chain_loop K c Z ps (pushS s p) (some (.p (slD p))) (by show (popS p s).length + 1 + ps.length ≤ 2000; omega) (fun k hk => by
   rcases List.mem_cons.mp hk with z | z
   ·rw [z]; exact gp
   ·exact hs k (popS_sub p s k z)) fun q hq => hp q (.tail _ hq)
  refine ⟨r', ?_⟩
  rw [List.map_cons]
  unfold mLoop
  simp only [mgName, List.set_cons_succ, List.set_cons_zero]
  rw [hb]
  exact ih
theorem eq_chain (K : PySem.W.Frag) (c : Cls) : ∀ ls, m_chain K c ls = .bad ∨ runF 3 (f_chain K c) ls = m_chain K c ls := mOf_eq fun ps h => by
 obtain ⟨hl, hg⟩ := h
 obtain ⟨r', hlp⟩ := chain_loop K c (some (.p (.list (ps.map slD)))) ps [] none (by rw [List.length_nil]; omega) (fun _ h => nomatch h) hg
 refine run_rt ?_
 rw [show startE 3 (eQs ps) = [some (.p (.list (ps.map slD))), none, none] from rfl]
 unfold f_chain
 refine (seq_nx (set_f (d := .list []) rfl)).trans ((seq_nx ((for_l (ds := ps.map slD) rfl).trans hlp)).trans ?_)
 rfl
theorem chain_good (K : PySem.W.Frag) (c : Cls) {ps : List Q2} (hl : ps.length ≤ 1000) (hg : ∀ p ∈ ps, GQ p) : m_chain K c [.p (.list (ps.map slD))] = .ok (.o (.list ((chainS ps).reverse.map slD))) := mOf_at (a := ps) eQs_inj ⟨hl, hg⟩
def toL (p : Q2) : List Int := [p.1, p.2]
def unL (k : List Int) : Q2 := (k.getD 0 0, k.getD 1 0)
theorem un_to (p : Q2) : unL (toL p) = p := rfl
theorem toLs (ps : List Q2) : (ps.map toL).map tupD = ps.map slD := by rw [List.map_map]; rfl
theorem lex_to (p q : Q2) : HT.lexLt (toL p) (toL q) = true ↔ ltQ p q := by
 unfold toL ltQ
 rw [HT.lexLt_cons, HT.lexLt_cons, HT.lexLt_nil_nil]
 by_cases h : p.1 = q.1
 ·rw [if_pos h]
  by_cases h2 : p.2 = q.2
  ·rw [if_pos h2]
   constructor
   ·intro z; cases z
   ·rintro (z | z) <;> omega
  ·rw [if_neg h2, decide_eq_true_iff]
   constructor
   ·exact fun z => .inr ⟨h, z⟩
   ·rintro (z | z)
    ·omega
    ·exact z.2
 ·rw [if_neg h, decide_eq_true_iff]
  constructor
  ·exact .inl
  ·rintro (z | z)
   ·exact z
   ·exact absurd z.1 h
theorem ltQ_tri {p q : Q2} (h1 : ¬ ltQ q p) (h2 : p ≠ q) : ltQ p q := by
 unfold ltQ at h1 ⊢
 by_cases z : p.1 = q.1
 ·have : p.2 ≠ q.2 := fun e => h2 (Prod.ext z e)
  omega
 ·omega
def rowsP (ps : List Q2) : List Q2 := (sortK (ddK (ps.map toL))).map unL
theorem rows_in {ps : List Q2} {k : List Int} (h : k ∈ sortK (ddK (ps.map toL))) : ∃ p ∈ ps, k = toL p := by
 have := ddK_mem.mp ((sortK_perm _).subset h)
 obtain ⟨p, hp, e⟩ := List.mem_map.mp this
 exact ⟨p, hp, e.symm⟩
theorem rows_D (ps : List Q2) : (sortK (ddK (ps.map toL))).map tupD = (rowsP ps).map slD := by
 unfold rowsP
 rw [List.map_map]
 refine List.map_congr_left fun k hk => ?_
 obtain ⟨p, _, rfl⟩ := rows_in hk
 rfl
theorem rows_mem {ps : List Q2} {p : Q2} : p ∈ rowsP ps ↔ p ∈ ps := by
 unfold rowsP
 rw [List.mem_map]
 constructor
 ·rintro ⟨k, hk, e⟩
  obtain ⟨q, hq, rfl⟩ := rows_in hk
  rw [← e, un_to]
  exact hq
 ·intro h
  exact ⟨toL p, (sortK_perm _).symm.subset (ddK_mem.mpr (List.mem_map.mpr ⟨p, h, rfl⟩)), un_to p⟩
theorem rows_lt (ps : List Q2) : (rowsP ps).Pairwise ltQ := by
 unfold rowsP
 rw [List.pairwise_map]
 have nd : (sortK (ddK (ps.map toL))).Pairwise (· ≠ ·) := (sortK_perm _).nodup_iff.mpr (ddK_nd _)
 refine List.Pairwise.imp_of_mem (fun {a b} ha hb h => ?_) (List.pairwise_and_iff.mpr ⟨sortK_sorted _, nd⟩)
 obtain ⟨p, _, rfl⟩ := rows_in ha
 obtain ⟨q, _, rfl⟩ := rows_in hb
 rw [un_to, un_to]
 refine ltQ_tri (fun z => ?_) fun e => h.2 (by rw [e])
 have h1 : HT.lexLt (toL q) (toL p) = false := h.1
 rw [(lex_to q p).mpr z] at h1
 cases h1
theorem dd_len : ∀ ks : List (List Int), (ddK ks).length ≤ ks.length
 | [] => Nat.le_refl _
 | k :: r => by
  unfold ddK
  have := dd_len r
  split
  ·rw [List.length_cons]; omega
  ·rw [List.length_cons, List.length_cons]; omega
theorem rows_len (ps : List Q2) : (rowsP ps).length ≤ ps.length := by
 unfold rowsP
 have := dd_len (ps.map toL)
 rw [List.length_map] at this
 rw [List.length_map, (sortK_perm _).length_eq]
 exact this
theorem rows_ne {ps : List Q2} (h : ps ≠ []) : rowsP ps ≠ [] := fun z => by
 cases ps with
 | nil => exact h rfl
 | cons p r =>
  have : p ∈ rowsP (p :: r) := rows_mem.mpr (.head _)
  rw [z] at this
  cases this
theorem ks_ne (ps : List Q2) : ((ps.map toL).all fun k => !k.isEmpty) = true := by
 rw [List.all_eq_true]
 intro k hk
 obtain ⟨p, _, rfl⟩ := List.mem_map.mp hk
 rfl
theorem sset_ok {ps : List Q2} (h : ps.length < 64) : sortSetE (.p (.list (ps.map slD))) = .ok (.f (.list ((rowsP ps).map slD))) := by
 unfold sortSetE
 simp only [lstOf]
 rw [← toLs, keysD_map]
 dsimp only
 rw [if_pos ⟨ks_ne ps, by rw [List.length_map]; exact h⟩, rows_D]
noncomputable def m_hull (K : PySem.W.Frag) (c : Cls) : List L → Res L := mOf eQs (fun ps => ps.length < 64 ∧ ps ≠ [] ∧ ∀ p ∈ ps, GQ p) fun ps => .ok (.o (.list ((hullR (rowsP ps)).map slD)))
noncomputable def f_hull (K : PySem.W.Frag) (c : Cls) : MS := (mSeq (mSet 1 (mUn sortSetE (mVar 0))) (mSeq (mIfS (mTru (mBin (eqE false) (mCallB lenE (mCons (mVar 1) mNil)) (mC (.int 1)))) (mRet (mVar 1)) mNext) (mSeq (mSet 2 (mCall 1 (m_chain K c) (mCons (mVar 1) mNil))) (mSeq (mSet 3 (mCall 1 (m_chain K c) (mCons (mUn revE (mVar 1)) mNil))) (mRet (mBin addE (mSl (mVar 2) mNoP (mPt (mUn negE (mC (.int 1))))) (mSl (mVar 3) mNoP (mPt (mUn negE (mC (.int 1)))))))))))
theorem cut_d1 (xs : List D) : M.cutD xs none (some (-1)) = xs.dropLast := by
 unfold M.cutD
 have e : HT.sIx xs.length xs.length (some (-1)) = xs.length - 1 := by
  show (if (-1 : Int) < 0 then ((-1 : Int) + (xs.length : Int)).toNat else min (-1 : Int).toNat xs.length) = xs.length - 1
  rw [if_pos (by decide)]
  omega
 rw [e, HT.sIx_none, List.drop_zero, Nat.sub_zero, List.dropLast_eq_take]
theorem fl_sls (xs : List Q2) : flatL (.o (.list (xs.map slD))) = true := by unfold flatL; exact lfA_map slD lf_sl _
theorem chain_len : ∀ (ps s : List Q2), (ps.foldl pushS s).length ≤ s.length + ps.length
 | [], s => Nat.le_refl _
 | p :: ps, s => by
  rw [List.foldl_cons, List.length_cons]
  have := chain_len ps (pushS s p)
  have h : (pushS s p).length ≤ s.length + 1 := by
   unfold pushS
   rw [List.length_cons]
   have := (popS_suffix p s).sublist.length_le
   omega
  omega
theorem eq_hull (K : PySem.W.Frag) (c : Cls) : ∀ ls, m_hull K c ls = .bad ∨ runF 4 (f_hull K c) ls = m_hull K c ls := mOf_eq fun ps h => by
 obtain ⟨hl, h0, hg⟩ := h
 have hs := sset_ok hl
 have rl := rows_len ps
 have rg : ∀ p ∈ rowsP ps, GQ p := fun p hp => hg p (rows_mem.mp hp)
 generalize rowsP ps = rs at hs rl rg ⊢
 have hln : lenE [.b (.list (rs.map slD))] = .ok (.p (.int (rs.length : Nat))) := by simp [lenE, seqOf]
 refine run_rt ?_
 rw [show startE 4 (eQs ps) = [some (.p (.list (ps.map slD))), none, none, none] from rfl]
 unfold f_hull
 have e1 : (mUn sortSetE (mVar 0)) [some (.p (.list (ps.map slD))), none, none, none] = .ok (.f (.list (rs.map slD))) := by
  simp only [mUn, mVar, List.getElem?_cons_zero, List.getElem?_cons_succ, List.set_cons_zero, List.set_cons_succ, List.length_cons, List.length_nil, List.length_map, List.length_append, if_true, if_false, ite_true, ite_false, decide_true, decide_false, Bool.false_eq_true, Nat.zero_add, Nat.reduceAdd, Nat.reduceEqDiff, Nat.reduceLeDiff, reduceIte, List.map_append, List.map_cons, List.map_nil, Res.bind, Ev.c, hs]
 refine (seq_nx (set_f e1)).trans ?_
 simp only [List.set_cons_succ, List.set_cons_zero]
 have t1 : mTru (mBin (eqE false) (mCallB lenE (mCons (mVar 1) mNil)) (mC (.int 1))) [some (.p (.list (ps.map slD))), some (.o (.list (rs.map slD))), none, none] = .ok (decide (rs.length = 1)) := by
  have : ((rs.length : Int) == 1) = decide (rs.length = 1) := by
   rw [Bool.eq_iff_iff, beq_iff_eq, decide_eq_true_iff]; omega
  simp only [mTru, mBin, mCallB, mCons, mNil, mVar, mC, List.getElem?_cons_zero, List.getElem?_cons_succ, List.set_cons_zero, List.set_cons_succ, List.length_cons, List.length_nil, List.length_map, List.length_append, if_true, if_false, ite_true, ite_false, decide_true, decide_false, Bool.false_eq_true, Nat.zero_add, Nat.reduceAdd, Nat.reduceEqDiff, Nat.reduceLeDiff, reduceIte, List.map_append, List.map_cons, List.map_nil, Res.bind, Ev.c, hln, eqE, dat, sh_int, eqv_ii, truthR, and_self, this]
 by_cases z : rs.length = 1
 ·rw [decide_eq_true z] at t1
  have e : hullR rs = rs := by unfold hullR; rw [if_pos z]
  rw [e]
  refine seq_rt ((if_t t1).trans ?_)
  rfl
 ·rw [decide_eq_false z] at t1
  have e : hullR rs = (chainS rs).reverse.dropLast ++ (chainS rs.reverse).reverse.dropLast := if_neg z
  rw [e]
  refine (seq_nx (if_f t1)).trans ?_
  have c1 := chain_good K c (ps := rs) (by omega) rg
  have c2 := chain_good K c (ps := rs.reverse) (by rw [List.length_reverse]; omega) (fun p hp => rg p (List.mem_reverse.mp hp))
  have l1 := chain_len rs []
  have l2 := chain_len rs.reverse []
  rw [List.length_reverse] at l2
  have l1 : (chainS rs).length ≤ _ := l1
  have l2 : (chainS rs.reverse).length ≤ _ := l2
  rw [List.length_nil] at l1 l2
  have s2 : (mCall 1 (m_chain K c) (mCons (mVar 1) mNil)) [some (.p (.list (ps.map slD))), some (.o (.list (rs.map slD))), none, none] = .ok (.f (.list ((chainS rs).reverse.map slD))) := by
   simp only [mCall, mCons, mNil, mVar, List.getElem?_cons_zero, List.getElem?_cons_succ, List.set_cons_zero, List.set_cons_succ, List.length_cons, List.length_nil, List.length_map, List.length_append, if_true, if_false, ite_true, ite_false, decide_true, decide_false, Bool.false_eq_true, Nat.zero_add, Nat.reduceAdd, Nat.reduceEqDiff, Nat.reduceLeDiff, reduceIte, List.map_append, List.map_cons, List.map_nil, Res.bind, Ev.c, callR, argsL, argL, argB, c1, fl_sls, retE]
  refine (seq_nx (set_f s2)).trans ?_
  simp only [List.set_cons_succ, List.set_cons_zero]
  have rv : revE (.b (.list (rs.map slD))) = .ok (.f (.list (rs.reverse.map slD))) := by
   unfold revE
   simp only [lstOf]
   rw [List.map_reverse]
  have s3 : (mCall 1 (m_chain K c) (mCons (mUn revE (mVar 1)) mNil)) [some (.p (.list (ps.map slD))), some (.o (.list (rs.map slD))), some (.o (.list ((chainS rs).reverse.map slD))), none] = .ok (.f (.list ((chainS rs.reverse).reverse.map slD))) := by
   simp only [mCall, mCons, mNil, mUn, mVar, List.getElem?_cons_zero, List.getElem?_cons_succ, List.set_cons_zero, List.set_cons_succ, List.length_cons, List.length_nil, List.length_map, List.length_append, if_true, if_false, ite_true, ite_false, decide_true, decide_false, Bool.false_eq_true, Nat.zero_add, Nat.reduceAdd, Nat.reduceEqDiff, Nat.reduceLeDiff, reduceIte, List.map_append, List.map_cons, List.map_nil, Res.bind, Ev.c, rv, callR, argsL, argL, c2, retE]
  refine (seq_nx (set_f s3)).trans ?_
  simp only [List.set_cons_succ, List.set_cons_zero]
  refine ret_f ?_
  have ng : negE (.p (.int 1)) = .ok (.p (.int (-1))) := rfl
  have e : (((chainS rs).reverse.dropLast ++ (chainS rs.reverse).reverse.dropLast).map slD) = ((chainS rs).reverse.map slD).dropLast ++ ((chainS rs.reverse).reverse.map slD).dropLast := by rw [List.map_append, List.map_dropLast, List.map_dropLast]
  have ad : addE (.p (.list ((chainS rs).reverse.map slD).dropLast)) (.p (.list ((chainS rs.reverse).reverse.map slD).dropLast)) = .ok (.f (.list (((chainS rs).reverse.map slD).dropLast ++ ((chainS rs.reverse).reverse.map slD).dropLast))) := by
   simp only [addE, lstOf]
   refine if_pos ?_
   simp only [List.length_dropLast, List.length_map, List.length_reverse]
   omega
  rw [e]
  simp only [mBin, mSl, mNoP, mPt, mUn, mVar, mC, List.getElem?_cons_zero, List.getElem?_cons_succ, List.set_cons_zero, List.set_cons_succ, List.length_cons, List.length_nil, List.length_map, List.length_append, if_true, if_false, ite_true, ite_false, decide_true, decide_false, Bool.false_eq_true, Nat.zero_add, Nat.reduceAdd, Nat.reduceEqDiff, Nat.reduceLeDiff, reduceIte, List.map_append, List.map_cons, List.map_nil, Res.bind, Ev.c, ng, lstOf, cut_d1, ad]
theorem hull_good (K : PySem.W.Frag) (c : Cls) {ps : List Q2} (hl : ps.length < 64) (h0 : ps ≠ []) (hg : ∀ p ∈ ps, GQ p) : m_hull K c [.p (.list (ps.map slD))] = .ok (.o (.list ((hullR (rowsP ps)).map slD))) := mOf_at (a := ps) eQs_inj ⟨hl, h0, hg⟩
structure KitF (K : PySem.W.Frag) (c : Cls) : Prop where
 ii : PySem.W.kitOne K (.type "int") (.type "int") = some true
 ib : PySem.W.kitOne K (.type "int") (.type "bool") = some false
 tt : PySem.W.kitOne K (.type "tuple") (.type "tuple") = some true
 ll : PySem.W.kitOne K (.type "list") (.type "list") = some true
noncomputable def f__law_cell_at (K : PySem.W.Frag) (c : Cls) : MS := (mSeq (mIfS (mTru (mBin ltE (mVar 1) (mCallB lenE (mCons (mVar 0) mNil)))) (mRet (mBin ixE (mVar 0) (mVar 1))) mNext) (mRet (mC (.int 0))))
noncomputable def m__law_cell_at (K : PySem.W.Frag) (c : Cls) (ls : List L) : Res L := runF 2 (f__law_cell_at K c) ls
theorem eq__law_cell_at (K : PySem.W.Frag) (c : Cls) : ∀ ls, m__law_cell_at K c ls = .bad ∨ runF 2 (f__law_cell_at K c) ls = m__law_cell_at K c ls := fun _ => .inr rfl
theorem at_nat {ns : List Int} {k : Nat} (h : k < ns.length) : atI (ns.map PyData.int) (k : Int) = some (.int (ns.getD k 0)) := by
 have : ns.getD k 0 = ns[k] := by simp [List.getD, h]
 rw [this]
 exact atI_nat (by rw [List.getElem?_map, List.getElem?_eq_getElem h]; rfl)
theorem cell_ok (K : PySem.W.Frag) (c : Cls) (ns : List Int) (k : Nat) : m__law_cell_at K c [.p (.list (ns.map .int)), .p (.int (k : Int))] = .ok (.p (.int (ns.getD k 0))) := by
 have hlen : lenE [.p (.list (ns.map .int))] = .ok (.p (.int (ns.length : Nat))) := by simp [lenE, seqOf]
 unfold m__law_cell_at
 refine run_rt ?_
 rw [show startE 2 [.p (.list (ns.map .int)), .p (.int (k : Int))] = [some (.p (.list (ns.map .int))), some (.p (.int (k : Int)))] from rfl]
 have ht : mTru (mBin ltE (mVar 1) (mCallB lenE (mCons (mVar 0) mNil))) [some (.p (.list (ns.map .int))), some (.p (.int (k : Int)))] = .ok (decide (k < ns.length)) := by
  simp [mTru, mBin, mVar, mCallB, mCons, mNil, Res.bind, Ev.c, hlen, intE0, truthR]
 by_cases hk : k < ns.length
 ·rw [decide_eq_true hk] at ht
  refine (seq_rt ((if_t ht).trans ?_))
  simp [mRet, mBin, mVar, Res.bind, Ev.c, ixE, seqOf, at_nat hk, retL]
 ·rw [decide_eq_false hk] at ht
  refine (seq_nx (if_f ht)).trans ?_
  have : ns.getD k 0 = 0 := by simp [List.getD, Nat.le_of_not_lt hk]
  rw [this]
  rfl
noncomputable def m__law_whole (K : PySem.W.Frag) (c : Cls) : List L → Res L := mOf (fun i : Int => [.p (.int i)]) (fun _ => True) fun _ => .ok (.p (.bool true))
noncomputable def f__law_whole (K : PySem.W.Frag) (c : Cls) : MS := (mRet (mAndV (mUn (isiE K (.type "int")) (mVar 0)) (mNotV (mUn (isiE K (.type "bool")) (mVar 0)))))
theorem eq__law_whole (K : PySem.W.Frag) (c : Cls) (hk : KitF K c) : ∀ ls, m__law_whole K c ls = .bad ∨ runF 1 (f__law_whole K c) ls = m__law_whole K c ls := mOf_eq fun i _ => by
 unfold runF
 rw [show startE 1 [.p (.int i)] = [some (.p (.int i))] from rfl]
 simp [f__law_whole, mSeq, mSet, mRet, mIfS, mVar, mC, mBin, mUn, mCons, mNil, mCall, callR, argsL, argL, argB, Res.bind, Ev.c, retL, retE, mCallB, tupR', lstR', pureL, mTru, truthR, mAnd, mOr, mNot, mAndV, mOrV, mNotV, mRaise, mNext, addE, intE0, negE, lstOf, dat, lenE, eqE, sh_int, eqv_ii, ix_pl2, ix_pl0, ix_pl1, ix_fr0, ix_fr1, ix_t0, ix_t1, ix_t2, isiE, tyD, hk.ii, hk.ib]
theorem whole_ok (K : PySem.W.Frag) (c : Cls) (i : Int) : m__law_whole K c [.p (.int i)] = .ok (.p (.bool true)) := mOf_at (a := i) (fun a b h => by injection h with h _; injection h with h; injection h) trivial
theorem rng1_lit (n : Nat) (h : n ≤ 100000) : rng1R [.p (.int (n : Int))] = .ok (rngL 0 n) := by
 unfold rng1R
 exact if_pos ⟨by omega, by omega⟩
theorem ita1 {r : List Ev → Res (List D)} {f : En → Res Ev} {en : En} {a : D} {o : Res (List D)} (h1 : f en = .ok (.p a)) (h : r [.p a] = o) : mItA r (mCons f mNil) en = o := by
 simp only [mItA, mCons, mNil, h1, Res.bind, Ev.c, h]
theorem lp_nx {tg : D → En → Option En} {f : MS} {d : D} {ds : List D} {en e e' : En} (h1 : tg d en = some e) (h2 : f e = some (.nx e')) : mLoop tg f (d :: ds) en = mLoop tg f ds e' := by
 rw [mLoop, h1]
 dsimp only
 rw [h2]
def cols (n : Nat) : List Int := (List.range n).map fun k : Nat => (k : Int)
theorem rng_cols (n : Nat) : rngL 0 n = (cols n).map .int := by
 unfold rngL cols
 rw [List.map_map]
 refine List.map_congr_left fun k _ => ?_
 show PyData.int (0 + (k : Int)) = .int (k : Int)
 rw [Int.zero_add]
noncomputable def f__law_stir (K : PySem.W.Frag) (c : Cls) : MS := (mSeq (mSet 2 (mBin addE (mBin addE (mBin addE (mBin modE (mVar 0) (mBin powE (mC (.int 10)) (mC (.int 40)))) (mC (.int 1))) (mBin mulXE (mC (.int 13)) (mVar 1))) (mBin mulXE (mBin mulXE (mC (.int 7)) (mVar 1)) (mVar 1)))) (mSeq (mSet 3 (mBin modE (mBin mulXE (mBin modE (mBin mulXE (mVar 2) (mC (.int 48271))) (mC (.int 2147483647))) (mC (.int 69621))) (mC (.int 1000000007)))) (mRet (mBin addE (mVar 3) (mBin mulXE (mC (.int 1000000007)) (mBin modE (mBin mulXE (mBin mulXE (mVar 2) (mVar 3)) (mC (.int 2862933555777941757))) (mBin addE (mBin powE (mC (.int 10)) (mC (.int 30))) (mC (.int 57)))))))))
noncomputable def m__law_stir (K : PySem.W.Frag) (c : Cls) (ls : List L) : Res L := runF 4 (f__law_stir K c) ls
theorem eq__law_stir (K : PySem.W.Frag) (c : Cls) : ∀ ls, m__law_stir K c ls = .bad ∨ runF 4 (f__law_stir K c) ls = m__law_stir K c ls := fun _ => .inr rfl
theorem stir_ok (K : PySem.W.Frag) (c : Cls) (cell : Int) {k : Int} (k0 : 0 ≤ k) (k1 : k ≤ 100) : ∃ v : Int, m__law_stir K c [.p (.int cell), .p (.int k)] = .ok (.p (.int v)) := by
 have p40 : CPow 10 40 := ⟨by decide, by decide, by decide⟩
 have p30 : CPow 10 30 := ⟨by decide, by decide, by decide⟩
 have n40 : (10 : Int) ^ Int.toNat 40 ≠ 0 := by decide
 have n30 : (10 : Int) ^ Int.toNat 30 + 57 ≠ 0 := by decide
 have n1 : (2147483647 : Int) ≠ 0 := by decide
 have n2 : (1000000007 : Int) ≠ 0 := by decide
 have q1 : CMulX 13 k := .inr (.inl ⟨by decide, by decide⟩)
 have q2 : CMulX 7 k := .inr (.inl ⟨by decide, by decide⟩)
 have q3 : CMulX (7 * k) k := .inr (.inr ⟨by omega, by omega⟩)
 generalize hC : cell.fmod (10 ^ Int.toNat 40) + 1 + 13 * k + 7 * k * k = C
 have q4 : CMulX C 48271 := .inr (.inr ⟨by decide, by decide⟩)
 have q5 : CMulX ((C * 48271).fmod 2147483647) 69621 := .inr (.inr ⟨by decide, by decide⟩)
 have hw := fmod_pos (a := (C * 48271).fmod 2147483647 * 69621) (b := 1000000007) (by decide)
 have s2 : (mBin modE (mBin mulXE (mBin modE (mBin mulXE (mVar 2) (mC (.int 48271))) (mC (.int 2147483647))) (mC (.int 69621))) (mC (.int 1000000007))) [some (.p (.int cell)), some (.p (.int k)), some (.p (.int C)), none] = .ok (.p (.int (((C * 48271).fmod 2147483647 * 69621).fmod 1000000007))) := by
  simp (disch := assumption) only [mSeq, mSet, mRet, mIfS, mVar, mC, mBin, mUn, mCons, mNil, mCall, callR, argsL, argL, argB, Res.bind, Ev.c, retL, retE, mCallB, tupR', lstR', pureL, mTru, truthR, mAnd, mOr, mNot, mAndV, mOrV, mNotV, mRaise, mNext, addE, intE0, negE, lstOf, dat, lenE, eqE, sh_int, eqv_ii, ix_pl2, ix_pl0, ix_pl1, ix_fr0, ix_fr1, ix_t0, ix_t1, ix_t2, mul_ok, fdiv_ok, mod_ok, pow_ok, List.getElem?_cons_zero, List.getElem?_cons_succ, List.set_cons_zero, List.set_cons_succ, List.length_cons, List.length_nil, List.length_map, List.length_append, if_true, if_false, ite_true, ite_false, decide_true, decide_false, Bool.false_eq_true, Nat.zero_add, Nat.reduceAdd, Nat.reduceEqDiff, Nat.reduceLeDiff, reduceIte, List.map_append, List.map_cons, List.map_nil, mulX_ok]
 generalize ((C * 48271).fmod 2147483647 * 69621).fmod 1000000007 = V at hw s2
 have q6 : CMulX C V := .inr (.inr ⟨by omega, by omega⟩)
 have q7 : CMulX (C * V) 2862933555777941757 := .inr (.inr ⟨by decide, by decide⟩)
 have q8 : CMulX 1000000007 ((C * V * 2862933555777941757).fmod (10 ^ Int.toNat 30 + 57)) := .inr (.inl ⟨by decide, by decide⟩)
 refine ⟨V + 1000000007 * ((C * V * 2862933555777941757).fmod (10 ^ Int.toNat 30 + 57)), ?_⟩
 unfold m__law_stir
 refine run_rt ?_
 rw [show startE 4 [.p (.int cell), .p (.int k)] = [some (.p (.int cell)), some (.p (.int k)), none, none] from rfl]
 unfold f__law_stir
 refine (seq_nx (set_p (d := .int C) ?_)).trans ((seq_nx (set_p s2)).trans (ret_p ?_))
 ·rw [← hC]
  simp (disch := assumption) only [mSeq, mSet, mRet, mIfS, mVar, mC, mBin, mUn, mCons, mNil, mCall, callR, argsL, argL, argB, Res.bind, Ev.c, retL, retE, mCallB, tupR', lstR', pureL, mTru, truthR, mAnd, mOr, mNot, mAndV, mOrV, mNotV, mRaise, mNext, addE, intE0, negE, lstOf, dat, lenE, eqE, sh_int, eqv_ii, ix_pl2, ix_pl0, ix_pl1, ix_fr0, ix_fr1, ix_t0, ix_t1, ix_t2, mul_ok, fdiv_ok, mod_ok, pow_ok, List.getElem?_cons_zero, List.getElem?_cons_succ, List.set_cons_zero, List.set_cons_succ, List.length_cons, List.length_nil, List.length_map, List.length_append, if_true, if_false, ite_true, ite_false, decide_true, decide_false, Bool.false_eq_true, Nat.zero_add, Nat.reduceAdd, Nat.reduceEqDiff, Nat.reduceLeDiff, reduceIte, List.map_append, List.map_cons, List.map_nil, mulX_ok]
 ·simp (disch := assumption) only [mSeq, mSet, mRet, mIfS, mVar, mC, mBin, mUn, mCons, mNil, mCall, callR, argsL, argL, argB, Res.bind, Ev.c, retL, retE, mCallB, tupR', lstR', pureL, mTru, truthR, mAnd, mOr, mNot, mAndV, mOrV, mNotV, mRaise, mNext, addE, intE0, negE, lstOf, dat, lenE, eqE, sh_int, eqv_ii, ix_pl2, ix_pl0, ix_pl1, ix_fr0, ix_fr1, ix_t0, ix_t1, ix_t2, mul_ok, fdiv_ok, mod_ok, pow_ok, List.getElem?_cons_zero, List.getElem?_cons_succ, List.set_cons_zero, List.set_cons_succ, List.length_cons, List.length_nil, List.length_map, List.length_append, if_true, if_false, ite_true, ite_false, decide_true, decide_false, Bool.false_eq_true, Nat.zero_add, Nat.reduceAdd, Nat.reduceEqDiff, Nat.reduceLeDiff, reduceIte, List.map_append, List.map_cons, List.map_nil, mulX_ok]
theorem app_p {i : Nat} {fe : En → Res Ev} {en : En} {ds : List D} {d : D} (h1 : en[i]? = some (some (.o (.list ds)))) (h2 : fe en = .ok (.p d)) (h3 : ds.length ≤ 100000) : mAppend i fe en = some (.nx (en.set i (some (.o (.list (ds ++ [d])))))) := by
 unfold mAppend
 rw [h1]
 dsimp only
 rw [h2]
 exact if_pos h3
noncomputable def f__law_places_by_b1 (K : PySem.W.Frag) (c : Cls) : MS := (mSeq (mSet 5 (mCall 2 (m__law_stir K c) (mCons (mCall 2 (m__law_cell_at K c) (mCons (mVar 0) (mCons (mVar 4) mNil))) (mCons (mVar 4) mNil)))) (mIfS (mTru (mBin (eqE false) (mBin modE (mVar 1) (mC (.int 4))) (mC (.int 1)))) (mSeq (mSet 6 (mBin subE (mBin modE (mVar 5) (mBin addE (mBin mulE (mC (.int 2)) (mBin powE (mC (.int 10)) (mC (.int 20)))) (mC (.int 1)))) (mBin powE (mC (.int 10)) (mC (.int 20))))) (mAppend 3 (mCallB tupR' (mCons (mVar 6) (mCons (mBin subE (mBin modE (mBin fdivE (mVar 5) (mBin powE (mC (.int 10)) (mC (.int 19)))) (mBin addE (mBin mulE (mC (.int 2)) (mBin powE (mC (.int 10)) (mC (.int 20)))) (mC (.int 1)))) (mBin powE (mC (.int 10)) (mC (.int 20)))) mNil))))) (mIfS (mTru (mBin (eqE false) (mBin modE (mVar 1) (mC (.int 4))) (mC (.int 2)))) (mAppend 3 (mCallB tupR' (mCons (mBin subE (mBin mulE (mC (.int 2)) (mBin modE (mVar 5) (mC (.int 9)))) (mC (.int 5))) (mCons (mBin subE (mC (.int 7)) (mBin mulE (mC (.int 3)) (mBin modE (mVar 5) (mC (.int 9))))) mNil)))) (mAppend 3 (mCallB tupR' (mCons (mBin subE (mBin modE (mVar 5) (mC (.int 7))) (mC (.int 3))) (mCons (mBin subE (mBin modE (mBin fdivE (mVar 5) (mC (.int 7))) (mC (.int 7))) (mC (.int 3))) mNil)))))))
noncomputable def f__law_places_by (K : PySem.W.Frag) (c : Cls) : MS := (mSeq (mSet 3 (mCallB lstR' mNil)) (mSeq (mFor (mItA rng1R (mCons (mVar 2) mNil)) (mgName 4) (f__law_places_by_b1 K c)) (mRet (mVar 3))))
noncomputable def m__law_places_by (K : PySem.W.Frag) (c : Cls) (ls : List L) : Res L := runF 7 (f__law_places_by K c) ls
theorem eq__law_places_by (K : PySem.W.Frag) (c : Cls) : ∀ ls, m__law_places_by K c ls = .bad ∨ runF 7 (f__law_places_by K c) ls = m__law_places_by K c ls := fun _ => .inr rfl
def G9 (q : Q2) : Prop := Sz 90 q.1 ∧ Sz 90 q.2
theorem G9.gq {q : Q2} (h : G9 q) : GQ q := ⟨h.1.mono (by decide), h.2.mono (by decide)⟩
theorem gq_of {x y : Int} (hx : Sz 90 x) (hy : Sz 90 y) : G9 (x, y) := ⟨hx, hy⟩
theorem pl_step (K : PySem.W.Frag) (c : Cls) (cs : List Int) (kind cnt : Int) (ps : List Q2) (hp : ps.length ≤ 1000) {k : Nat} (hk : k < 100) (r5 r6 : Option L) : ∃ (p : Q2) (q5 q6 : Option L), G9 p ∧ f__law_places_by_b1 K c [some (.p (.list (cs.map .int))), some (.p (.int kind)), some (.p (.int cnt)), some (.o (.list (ps.map slD))), some (.p (.int (k : Int))), r5, r6] = some (.nx [some (.p (.list (cs.map .int))), some (.p (.int kind)), some (.p (.int cnt)), some (.o (.list ((ps ++ [p]).map slD))), some (.p (.int (k : Int))), q5, q6]) := by
 have hc := cell_ok K c cs k
 obtain ⟨v, hv⟩ := stir_ok K c (cs.getD k 0) (k := (k : Int)) (by omega) (by omega)
 have hl : (ps.map slD).length ≤ 100000 := by rw [List.length_map]; omega
 have em : ∀ p : Q2, (ps ++ [p]).map slD = ps.map slD ++ [slD p] := fun p => by rw [List.map_append]; rfl
 have e0 : (mCall 2 (m__law_stir K c) (mCons (mCall 2 (m__law_cell_at K c) (mCons (mVar 0) (mCons (mVar 4) mNil))) (mCons (mVar 4) mNil))) [some (.p (.list (cs.map .int))), some (.p (.int kind)), some (.p (.int cnt)), some (.o (.list (ps.map slD))), some (.p (.int (k : Int))), r5, r6] = .ok (.p (.int v)) := by
  simp only [mCall, mCons, mNil, mVar, List.getElem?_cons_zero, List.getElem?_cons_succ, List.set_cons_zero, List.set_cons_succ, List.length_cons, List.length_nil, List.length_map, List.length_append, if_true, if_false, ite_true, ite_false, decide_true, decide_false, Bool.false_eq_true, Nat.zero_add, Nat.reduceAdd, Nat.reduceEqDiff, Nat.reduceLeDiff, reduceIte, List.map_append, List.map_cons, List.map_nil, Res.bind, Ev.c, callR, argsL, argL, hc, hv, retE]
 have p20 : CPow 10 20 := ⟨by decide, by decide, by decide⟩
 have p19 : CPow 10 19 := ⟨by decide, by decide, by decide⟩
 have w20 : (10 : Int) ^ Int.toNat 20 = 100000000000000000000 := by decide
 have w19 : (10 : Int) ^ Int.toNat 19 = 10000000000000000000 := by decide
 have sl : ∀ {x : Int}, Sz 90 x → Sz 60000 x := fun h => h.mono (by decide)
 have tt : ∀ (z : Option L) (n : Int), mTru (mBin (eqE false) (mBin modE (mVar 1) (mC (.int 4))) (mC (.int n))) [some (.p (.list (cs.map .int))), some (.p (.int kind)), some (.p (.int cnt)), some (.o (.list (ps.map slD))), some (.p (.int (k : Int))), some (.p (.int v)), z] = .ok (kind.fmod 4 == n) := fun z n => by
  have n4 : (4 : Int) ≠ 0 := by decide
  simp (disch := assumption) only [mTru, mBin, mVar, mC, List.getElem?_cons_zero, List.getElem?_cons_succ, List.set_cons_zero, List.set_cons_succ, List.length_cons, List.length_nil, List.length_map, List.length_append, if_true, if_false, ite_true, ite_false, decide_true, decide_false, Bool.false_eq_true, Nat.zero_add, Nat.reduceAdd, Nat.reduceEqDiff, Nat.reduceLeDiff, reduceIte, List.map_append, List.map_cons, List.map_nil, Res.bind, Ev.c, mod_ok, eqE, dat, sh_int, eqv_ii, truthR]
  rfl
 have t1 := tt r6 1
 have t2 := tt r6 2
 generalize (kind.fmod 4 == 1) = b1 at t1
 generalize (kind.fmod 4 == 2) = b2 at t2
 unfold f__law_places_by_b1
 cases b1 with
 | true =>
  have m1 := fmod_pos (a := v) (b := 2 * 100000000000000000000 + 1) (by decide)
  have m2 := fmod_pos (a := v.fdiv 10000000000000000000) (b := 2 * 100000000000000000000 + 1) (by decide)
  refine ⟨(v.fmod (2 * 100000000000000000000 + 1) - 100000000000000000000, (v.fdiv 10000000000000000000).fmod (2 * 100000000000000000000 + 1) - 100000000000000000000), some (.p (.int v)), some (.p (.int (v.fmod (2 * 100000000000000000000 + 1) - 100000000000000000000))), gq_of (by unfold Sz; omega) (by unfold Sz; omega), ?_⟩
  have c1 : CMulW 2 100000000000000000000 := ⟨sl (by unfold Sz; decide), sl (by unfold Sz; decide)⟩
  have c2 : CDivW v 10000000000000000000 := ⟨by decide, (show Sz 90 (10000000000000000000 : Int) by unfold Sz; decide).mono (by decide)⟩
  have n1 : (2 * 100000000000000000000 + 1 : Int) ≠ 0 := by decide
  have e1 : (mBin subE (mBin modE (mVar 5) (mBin addE (mBin mulE (mC (.int 2)) (mBin powE (mC (.int 10)) (mC (.int 20)))) (mC (.int 1)))) (mBin powE (mC (.int 10)) (mC (.int 20)))) [some (.p (.list (cs.map .int))), some (.p (.int kind)), some (.p (.int cnt)), some (.o (.list (ps.map slD))), some (.p (.int (k : Int))), some (.p (.int v)), r6] = .ok (.p (.int (v.fmod (2 * 100000000000000000000 + 1) - 100000000000000000000))) := by
   simp (disch := assumption) only [mSeq, mSet, mRet, mIfS, mVar, mC, mBin, mUn, mCons, mNil, mCall, callR, argsL, argL, argB, Res.bind, Ev.c, retL, retE, mCallB, tupR', lstR', pureL, mTru, truthR, mAnd, mOr, mNot, mAndV, mOrV, mNotV, mRaise, mNext, addE, intE0, negE, lstOf, dat, lenE, eqE, sh_int, eqv_ii, ix_pl2, ix_pl0, ix_pl1, ix_fr0, ix_fr1, ix_t0, ix_t1, ix_t2, mul_ok, fdiv_ok, mod_ok, pow_ok, List.getElem?_cons_zero, List.getElem?_cons_succ, List.set_cons_zero, List.set_cons_succ, List.length_cons, List.length_nil, List.length_map, List.length_append, if_true, if_false, ite_true, ite_false, decide_true, decide_false, Bool.false_eq_true, Nat.zero_add, Nat.reduceAdd, Nat.reduceEqDiff, Nat.reduceLeDiff, reduceIte, List.map_append, List.map_cons, List.map_nil, w20]
  refine (seq_nx (set_p e0)).trans ((if_t t1).trans ((seq_nx (set_p e1)).trans ?_))
  rw [em]
  refine app_p rfl ?_ hl
  simp (disch := assumption) only [mSeq, mSet, mRet, mIfS, mVar, mC, mBin, mUn, mCons, mNil, mCall, callR, argsL, argL, argB, Res.bind, Ev.c, retL, retE, mCallB, tupR', lstR', pureL, mTru, truthR, mAnd, mOr, mNot, mAndV, mOrV, mNotV, mRaise, mNext, addE, intE0, negE, lstOf, dat, lenE, eqE, sh_int, eqv_ii, ix_pl2, ix_pl0, ix_pl1, ix_fr0, ix_fr1, ix_t0, ix_t1, ix_t2, mul_ok, fdiv_ok, mod_ok, pow_ok, List.getElem?_cons_zero, List.getElem?_cons_succ, List.set_cons_zero, List.set_cons_succ, List.length_cons, List.length_nil, List.length_map, List.length_append, if_true, if_false, ite_true, ite_false, decide_true, decide_false, Bool.false_eq_true, Nat.zero_add, Nat.reduceAdd, Nat.reduceEqDiff, Nat.reduceLeDiff, reduceIte, List.map_append, List.map_cons, List.map_nil, w20, w19]
  rfl
 | false =>
  cases b2 with
  | true =>
   have m1 := fmod_pos (a := v) (b := 9) (by decide)
   refine ⟨(2 * v.fmod 9 - 5, 7 - 3 * v.fmod 9), some (.p (.int v)), r6, gq_of (by unfold Sz; omega) (by unfold Sz; omega), (seq_nx (set_p e0)).trans ((if_f t1).trans ((if_t t2).trans ?_))⟩
   have z9 : Sz 60000 (v.fmod 9) := sl (by unfold Sz; omega)
   have c1 : CMulW 2 (v.fmod 9) := ⟨sl (by unfold Sz; decide), z9⟩
   have c2 : CMulW 3 (v.fmod 9) := ⟨sl (by unfold Sz; decide), z9⟩
   have n1 : (9 : Int) ≠ 0 := by decide
   rw [em]
   refine app_p rfl ?_ hl
   simp (disch := assumption) only [mSeq, mSet, mRet, mIfS, mVar, mC, mBin, mUn, mCons, mNil, mCall, callR, argsL, argL, argB, Res.bind, Ev.c, retL, retE, mCallB, tupR', lstR', pureL, mTru, truthR, mAnd, mOr, mNot, mAndV, mOrV, mNotV, mRaise, mNext, addE, intE0, negE, lstOf, dat, lenE, eqE, sh_int, eqv_ii, ix_pl2, ix_pl0, ix_pl1, ix_fr0, ix_fr1, ix_t0, ix_t1, ix_t2, mul_ok, fdiv_ok, mod_ok, pow_ok, List.getElem?_cons_zero, List.getElem?_cons_succ, List.set_cons_zero, List.set_cons_succ, List.length_cons, List.length_nil, List.length_map, List.length_append, if_true, if_false, ite_true, ite_false, decide_true, decide_false, Bool.false_eq_true, Nat.zero_add, Nat.reduceAdd, Nat.reduceEqDiff, Nat.reduceLeDiff, reduceIte, List.map_append, List.map_cons, List.map_nil]
   rfl
  | false =>
   have m1 := fmod_pos (a := v) (b := 7) (by decide)
   have m2 := fmod_pos (a := v.fdiv 7) (b := 7) (by decide)
   refine ⟨(v.fmod 7 - 3, (v.fdiv 7).fmod 7 - 3), some (.p (.int v)), r6, gq_of (by unfold Sz; omega) (by unfold Sz; omega), (seq_nx (set_p e0)).trans ((if_f t1).trans ((if_f t2).trans ?_))⟩
   have n1 : (7 : Int) ≠ 0 := by decide
   have c2 : CDivW v 7 := ⟨n1, (show Sz 90 (7 : Int) by unfold Sz; decide).mono (by decide)⟩
   rw [em]
   refine app_p rfl ?_ hl
   simp (disch := assumption) only [mSeq, mSet, mRet, mIfS, mVar, mC, mBin, mUn, mCons, mNil, mCall, callR, argsL, argL, argB, Res.bind, Ev.c, retL, retE, mCallB, tupR', lstR', pureL, mTru, truthR, mAnd, mOr, mNot, mAndV, mOrV, mNotV, mRaise, mNext, addE, intE0, negE, lstOf, dat, lenE, eqE, sh_int, eqv_ii, ix_pl2, ix_pl0, ix_pl1, ix_fr0, ix_fr1, ix_t0, ix_t1, ix_t2, mul_ok, fdiv_ok, mod_ok, pow_ok, List.getElem?_cons_zero, List.getElem?_cons_succ, List.set_cons_zero, List.set_cons_succ, List.length_cons, List.length_nil, List.length_map, List.length_append, if_true, if_false, ite_true, ite_false, decide_true, decide_false, Bool.false_eq_true, Nat.zero_add, Nat.reduceAdd, Nat.reduceEqDiff, Nat.reduceLeDiff, reduceIte, List.map_append, List.map_cons, List.map_nil]
   rfl
theorem places_ok (K : PySem.W.Frag) (c : Cls) (cs : List Int) (kind : Int) {n : Nat} (hn : n ≤ 60) : ∃ ps : List Q2, ps.length = n ∧ (∀ p ∈ ps, G9 p) ∧ m__law_places_by K c [.p (.list (cs.map .int)), .p (.int kind), .p (.int (n : Int))] = .ok (.o (.list (ps.map slD))) := by
 have step : ∀ (ks : List Nat) (ps : List Q2) (r4 r5 r6 : Option L), (∀ k ∈ ks, k < 100) → ps.length + ks.length ≤ 1000 → (∀ p ∈ ps, G9 p) → ∃ (qs : List Q2) (q4 q5 q6 : Option L), qs.length = ps.length + ks.length ∧ (∀ p ∈ qs, G9 p) ∧ mLoop (mgName 4) (f__law_places_by_b1 K c) (ks.map fun k : Nat => PyData.int (k : Int)) [some (.p (.list (cs.map .int))), some (.p (.int kind)), some (.p (.int (n : Int))), some (.o (.list (ps.map slD))), r4, r5, r6] = some (.nx [some (.p (.list (cs.map .int))), some (.p (.int kind)), some (.p (.int (n : Int))), some (.o (.list (qs.map slD))), q4, q5, q6]) := by
  intro ks
  induction ks with
  | nil => exact fun ps r4 r5 r6 _ _ hg => ⟨ps, r4, r5, r6, rfl, hg, rfl⟩
  | cons k ks ih =>
   intro ps r4 r5 r6 hk hl hg
   rw [List.length_cons] at hl
   obtain ⟨p, q5, q6, gp, hb⟩ := pl_step K c cs kind (n : Int) ps (by omega) (hk k (.head _)) r5 r6
   obtain ⟨qs, s4, s5, s6, h1, h2, h3⟩ := ih (ps ++ [p]) (some (.p (.int (k : Int)))) q5 q6 (fun j hj => hk j (.tail _ hj)) (by rw [List.length_append]; simp; omega) (fun q hq => by
    rcases List.mem_append.mp hq with z | z
    ·exact hg q z
    ·rw [List.mem_singleton.mp z]; exact gp)
   refine ⟨qs, s4, s5, s6, by rw [h1, List.length_append, List.length_cons]; simp; omega, h2, ?_⟩
   rw [List.map_cons, lp_nx rfl hb]
   exact h3
 obtain ⟨qs, q4, q5, q6, h1, h2, h3⟩ := step (List.range n) [] none none none (fun k hk => by have := List.mem_range.mp hk; omega) (by simp; omega) (fun _ h => nomatch h)
 refine ⟨qs, by rw [h1]; simp, h2, ?_⟩
 unfold m__law_places_by
 refine run_rt ?_
 rw [show startE 7 [.p (.list (cs.map .int)), .p (.int kind), .p (.int (n : Int))] = [some (.p (.list (cs.map .int))), some (.p (.int kind)), some (.p (.int (n : Int))), none, none, none, none] from rfl]
 unfold f__law_places_by
 refine (seq_nx (set_f (d := .list []) rfl)).trans ?_
 have hit : mItA rng1R (mCons (mVar 2) mNil) [some (.p (.list (cs.map .int))), some (.p (.int kind)), some (.p (.int (n : Int))), some (.o (.list [])), none, none, none] = .ok ((List.range n).map fun k : Nat => PyData.int (k : Int)) := by
  have e : ((List.range n).map fun k : Nat => PyData.int (k : Int)) = rngL 0 n := by rw [rng_cols]; unfold cols; rw [List.map_map]; rfl
  rw [e]
  exact ita1 (a := .int (n : Int)) rfl (rng1_lit n (by omega))
 refine (seq_nx ((for_l hit).trans h3)).trans ?_
 rfl
noncomputable def f__law_turn (K : PySem.W.Frag) (c : Cls) : MS := (mSeq (mSet 3 (mBin mulE (mBin subE (mBin ixE (mVar 1) (mC (.int 0))) (mBin ixE (mVar 0) (mC (.int 0)))) (mBin subE (mBin ixE (mVar 2) (mC (.int 1))) (mBin ixE (mVar 0) (mC (.int 1)))))) (mRet (mBin subE (mVar 3) (mBin mulE (mBin subE (mBin ixE (mVar 1) (mC (.int 1))) (mBin ixE (mVar 0) (mC (.int 1)))) (mBin subE (mBin ixE (mVar 2) (mC (.int 0))) (mBin ixE (mVar 0) (mC (.int 0))))))))
noncomputable def m__law_turn (K : PySem.W.Frag) (c : Cls) (ls : List L) : Res L := runF 4 (f__law_turn K c) ls
theorem eq__law_turn (K : PySem.W.Frag) (c : Cls) : ∀ ls, m__law_turn K c ls = .bad ∨ runF 4 (f__law_turn K c) ls = m__law_turn K c ls := fun _ => .inr rfl
theorem lturn_ok (K : PySem.W.Frag) (c : Cls) {a b d : Q2} (ha : GQ a) (hb : GQ b) (hd : GQ d) : m__law_turn K c [.p (slD a), .p (slD b), .p (slD d)] = .ok (.p (.int (turnZ a b d))) := by
 obtain ⟨a1, a2⟩ := ha
 obtain ⟨b1, b2⟩ := hb
 obtain ⟨d1, d2⟩ := hd
 have z : ∀ {x y : Int}, Sz 5000 x → Sz 5000 y → Sz 60000 (x - y) := fun h1 h2 => (N.Sz.subM h1 h2).mono (by decide)
 have q1 : CMulW (b.1 - a.1) (d.2 - a.2) := ⟨z b1 a1, z d2 a2⟩
 have q2 : CMulW (b.2 - a.2) (d.1 - a.1) := ⟨z b2 a2, z d1 a1⟩
 have x0 : ∀ y : Int × Int, ixE (.p (slD y)) (.p (.int 0)) = .ok (.p (.int y.1)) := fun y => ix_t0 _ _
 have x1 : ∀ y : Int × Int, ixE (.p (slD y)) (.p (.int 1)) = .ok (.p (.int y.2)) := fun y => ix_t1 _ _ _
 unfold m__law_turn
 refine run_rt ?_
 rw [show startE 4 [.p (slD a), .p (slD b), .p (slD d)] = [some (.p (slD a)), some (.p (slD b)), some (.p (slD d)), none] from rfl]
 unfold f__law_turn
 refine (seq_nx (set_p (d := .int ((b.1 - a.1) * (d.2 - a.2))) ?_)).trans (ret_p ?_)
 ·simp (disch := assumption) only [mSeq, mSet, mRet, mIfS, mVar, mC, mBin, mUn, mCons, mNil, mCall, callR, argsL, argL, argB, Res.bind, Ev.c, retL, retE, mCallB, tupR', lstR', pureL, mTru, truthR, mAnd, mOr, mNot, mAndV, mOrV, mNotV, mRaise, mNext, addE, intE0, negE, lstOf, dat, lenE, eqE, sh_int, eqv_ii, ix_pl2, ix_pl0, ix_pl1, ix_fr0, ix_fr1, ix_t0, ix_t1, ix_t2, mul_ok, fdiv_ok, mod_ok, pow_ok, List.getElem?_cons_zero, List.getElem?_cons_succ, List.set_cons_zero, List.set_cons_succ, List.length_cons, List.length_nil, List.length_map, List.length_append, if_true, if_false, ite_true, ite_false, decide_true, decide_false, Bool.false_eq_true, Nat.zero_add, Nat.reduceAdd, Nat.reduceEqDiff, Nat.reduceLeDiff, reduceIte, List.map_append, List.map_cons, List.map_nil, x0, x1]
 ·simp (disch := assumption) only [mSeq, mSet, mRet, mIfS, mVar, mC, mBin, mUn, mCons, mNil, mCall, callR, argsL, argL, argB, Res.bind, Ev.c, retL, retE, mCallB, tupR', lstR', pureL, mTru, truthR, mAnd, mOr, mNot, mAndV, mOrV, mNotV, mRaise, mNext, addE, intE0, negE, lstOf, dat, lenE, eqE, sh_int, eqv_ii, ix_pl2, ix_pl0, ix_pl1, ix_fr0, ix_fr1, ix_t0, ix_t1, ix_t2, mul_ok, fdiv_ok, mod_ok, pow_ok, List.getElem?_cons_zero, List.getElem?_cons_succ, List.set_cons_zero, List.set_cons_succ, List.length_cons, List.length_nil, List.length_map, List.length_append, if_true, if_false, ite_true, ite_false, decide_true, decide_false, Bool.false_eq_true, Nat.zero_add, Nat.reduceAdd, Nat.reduceEqDiff, Nat.reduceLeDiff, reduceIte, List.map_append, List.map_cons, List.map_nil, x0, x1]
  rfl
theorem can_sl (p : Q2) : PyData.canLay0 (slD p) = true := by simp [slD, PyData.canLay0, PyData.canLayAll0]
theorem dep_sl (p : Q2) : PyData.depth (slD p) ≤ 9 := by simp [slD, PyData.depth, PyData.depthAll]
theorem sh_sls (xs : List Q2) : SeqAt.shaped (.list (xs.map slD)) = true := sh_list slD can_sl dep_sl xs
theorem at_pr {R : List Q2} {k d : Nat} (hk : k < R.length) (hd : d ≤ R.length) : ixE (.p (.list (R.map slD))) (.p (.int ((k : Int) - (d : Int)))) = .ok (.p (slD (pr R k d))) := by
 have go : ∀ j, j < R.length → (R.map slD)[j]? = some (slD (R.getD j (0, 0))) := fun j hj => by
  rw [List.getElem?_map, List.getElem?_eq_getElem hj, List.getD_eq_getElem?_getD, List.getElem?_eq_getElem hj]
  rfl
 have e : atI (R.map slD) ((k : Int) - (d : Int)) = some (slD (pr R k d)) := by
  unfold pr
  by_cases z : k < d
  ·have e1 : ixN (R.map slD).length ((k : Int) - (d : Int)) = some (R.length + k - d) := by
    unfold ixN
    rw [List.length_map, if_neg (by omega), if_pos (by omega)]
    congr 1
    omega
   unfold atI
   rw [e1, if_pos z]
   exact go _ (by omega)
  ·have e1 : ixN (R.map slD).length ((k : Int) - (d : Int)) = some (k - d) := by
    unfold ixN
    rw [List.length_map, if_pos (by omega), if_pos (by omega)]
    congr 1
    omega
   unfold atI
   rw [e1, if_neg z]
   exact go _ (by omega)
 simp only [ixE, seqOf, e]
theorem at_k {R : List Q2} {k : Nat} (hk : k < R.length) : ixE (.p (.list (R.map slD))) (.p (.int (k : Int))) = .ok (.p (slD (R.getD k (0, 0)))) := by
 have := at_pr (d := 0) hk (Nat.zero_le _)
 unfold pr at this
 rw [if_neg (by omega)] at this
 simpa using this
theorem call3p {m : List L → Res L} {f g h : En → Res Ev} {en : En} {a b d r : D} (h1 : f en = .ok (.p a)) (h2 : g en = .ok (.p b)) (h3 : h en = .ok (.p d)) (hm : m [.p a, .p b, .p d] = .ok (.p r)) : mCall 3 m (mCons f (mCons g (mCons h mNil))) en = .ok (.p r) := by
 simp only [mCall, mCons, mNil, h1, h2, h3, List.getElem?_cons_zero, List.getElem?_cons_succ, List.set_cons_zero, List.set_cons_succ, List.length_cons, List.length_nil, List.length_map, List.length_append, if_true, if_false, ite_true, ite_false, decide_true, decide_false, Bool.false_eq_true, Nat.zero_add, Nat.reduceAdd, Nat.reduceEqDiff, Nat.reduceLeDiff, reduceIte, List.map_append, List.map_cons, List.map_nil, Res.bind, Ev.c, callR, argsL, argL, hm, retE]
theorem call1o {m : List L → Res L} {f : En → Res Ev} {en : En} {a r : D} (h1 : f en = .ok (.p a)) (hm : m [.p a] = .ok (.o r)) : mCall 1 m (mCons f mNil) en = .ok (.f r) := by
 simp only [mCall, mCons, mNil, h1, List.getElem?_cons_zero, List.getElem?_cons_succ, List.set_cons_zero, List.set_cons_succ, List.length_cons, List.length_nil, List.length_map, List.length_append, if_true, if_false, ite_true, ite_false, decide_true, decide_false, Bool.false_eq_true, Nat.zero_add, Nat.reduceAdd, Nat.reduceEqDiff, Nat.reduceLeDiff, reduceIte, List.map_append, List.map_cons, List.map_nil, Res.bind, Ev.c, callR, argsL, argL, hm, retE]
theorem callB1 {r : List Ev → Res Ev} {f : En → Res Ev} {en : En} {a : D} {o : Res Ev} (h1 : f en = .ok (.f a)) (h : r [.p a] = o) : mCallB r (mCons f mNil) en = o := by
 simp only [mCallB, mCons, mNil, h1, Res.bind, Ev.c, h]
theorem hull_sub {rs : List Q2} {p : Q2} (h : p ∈ hullR rs) : p ∈ rs := by
 have sub : ∀ (qs : List Q2), p ∈ (chainS qs).reverse.dropLast → p ∈ qs := fun qs hp => by
  have s := chain_sub qs [] [] (List.Sublist.refl _)
  rw [List.append_nil] at s
  exact List.mem_reverse.mp (s.subset (List.mem_reverse.mp ((List.dropLast_sublist _).subset hp)))
 unfold hullR at h
 split at h
 ·exact h
 ·rcases List.mem_append.mp h with z | z
  ·exact sub _ z
  ·exact List.mem_reverse.mp (sub _ z)
theorem hull_len (rs : List Q2) : (hullR rs).length ≤ 2 * rs.length := by
 unfold hullR
 split
 ·omega
 ·have l1 : (chainS rs).length ≤ _ := chain_len rs []
  have l2 : (chainS rs.reverse).length ≤ _ := chain_len rs.reverse []
  rw [List.length_reverse] at l2
  rw [List.length_nil] at l1 l2
  simp only [List.length_append, List.length_dropLast, List.length_reverse]
  omega
def areaP (ps : List Q2) : Int := areaR (hullR (rowsP ps))
theorem hl_of {ps : List Q2} (h0 : ps ≠ []) : Hl ps (hullR (rowsP ps)) := hull_hl (rows_lt ps) (fun _ => rows_mem) (rows_ne h0)
theorem rng_map (n : Nat) : rngL 0 n = (List.range n).map fun k : Nat => PyData.int (k : Int) := by rw [rng_cols]; unfold cols; rw [List.map_map]; rfl
noncomputable def m_area (K : PySem.W.Frag) (c : Cls) : List L → Res L := mOf eQs (fun ps => ps.length < 64 ∧ ps ≠ [] ∧ ∀ p ∈ ps, GQ p) fun ps => .ok (.p (.int (areaP ps)))
noncomputable def f_area_e1 (K : PySem.W.Frag) (c : Cls) : En → Res Ev := (mCall 3 (m_turn K c) (mCons (mCallB tupR' (mCons (mC (.int 0)) (mCons (mC (.int 0)) mNil))) (mCons (mBin ixE (mVar 1) (mBin subE (mVar 0) (mC (.int 1)))) (mCons (mBin ixE (mVar 1) (mVar 0)) mNil))))
noncomputable def f_area (K : PySem.W.Frag) (c : Cls) : MS := (mSeq (mSet 1 (mCall 1 (m_hull K c) (mCons (mVar 0) mNil))) (fun en => (mRet (mCallB sumE (mCons (mComp 1 [1] (mItA rng1R (mCons (mCallB lenE (mCons (mVar 1) mNil)) mNil)) (mgName 0) mYes (f_area_e1 K c)) mNil))) (frz 1 en)))
theorem sum_at {f : Nat → Int} {n : Nat} : sumE [.p (.list ((List.range n).map fun k => PyData.int (f k)))] = .ok (.p (.int ((List.range n).map f).sum)) := by
 have e : ((List.range n).map fun k => PyData.int (f k)) = ((List.range n).map f).map .int := by rw [List.map_map]; rfl
 rw [e]
 simp only [sumE, lstOf, intsOf_map]
theorem area_sum (R : List Q2) : ((List.range R.length).map fun k => turnZ (0, 0) (pr R k 1) (R.getD k (0, 0))).sum = areaR R := by
 unfold areaR edg
 rw [List.map_map]
 rfl
theorem eq_area (K : PySem.W.Frag) (c : Cls) : ∀ ls, m_area K c ls = .bad ∨ runF 2 (f_area K c) ls = m_area K c ls := mOf_eq fun ps h => by
 obtain ⟨hl, h0, hg⟩ := h
 have hh := hull_good K c hl h0 hg
 have rg : ∀ p ∈ hullR (rowsP ps), GQ p := fun p hp => hg p (rows_mem.mp (hull_sub hp))
 have rl : (hullR (rowsP ps)).length ≤ 1000 := by
  have := hull_len (rowsP ps)
  have := rows_len ps
  omega
 show runF 2 (f_area K c) (eQs ps) = .ok (.p (.int (areaR (hullR (rowsP ps)))))
 generalize hullR (rowsP ps) = R at hh rg rl
 refine run_rt ?_
 rw [show startE 2 (eQs ps) = [some (.p (.list (ps.map slD))), none] from rfl]
 unfold f_area
 have e1 : (mCall 1 (m_hull K c) (mCons (mVar 0) mNil)) [some (.p (.list (ps.map slD))), none] = .ok (.f (.list (R.map slD))) := call1o rfl hh
 refine (seq_nx (set_f e1)).trans ?_
 simp only [List.set_cons_succ, List.set_cons_zero, frz, List.getElem?_cons_succ, List.getElem?_cons_zero]
 have ln : lenE [.p (.list (R.map slD))] = .ok (.p (.int (R.length : Nat))) := by simp [lenE, seqOf]
 have hit : mItA rng1R (mCons (mCallB lenE (mCons (mVar 1) mNil)) mNil) [some (.p (.list (ps.map slD))), some (.p (.list (R.map slD)))] = .ok ((List.range R.length).map fun k : Nat => PyData.int (k : Int)) := by
  rw [← rng_map]
  exact ita1 (a := .int (R.length : Nat)) (by simp only [mCallB, mCons, mNil, mVar, List.getElem?_cons_zero, List.getElem?_cons_succ, List.set_cons_zero, List.set_cons_succ, List.length_cons, List.length_nil, List.length_map, List.length_append, if_true, if_false, ite_true, ite_false, decide_true, decide_false, Bool.false_eq_true, Nat.zero_add, Nat.reduceAdd, Nat.reduceEqDiff, Nat.reduceLeDiff, reduceIte, List.map_append, List.map_cons, List.map_nil, Res.bind, Ev.c, ln]) (rng1_lit _ (by omega))
 have hm : mapO (compItem 1 [1] (mgName 0) mYes (f_area_e1 K c) [some (.p (.list (ps.map slD))), some (.p (.list (R.map slD)))]) ((List.range R.length).map fun k : Nat => PyData.int (k : Int)) = some ((List.range R.length).map fun k => PyData.int (turnZ (0, 0) (pr R k 1) (R.getD k (0, 0)))) := by
  refine mapO_map _ fun k hk => ?_
  have hk := List.mem_range.mp hk
  have i1 : ixE (.p (.list (R.map slD))) (.p (.int ((k : Int) - 1))) = .ok (.p (slD (pr R k 1))) := at_pr (d := 1) hk (by omega)
  have i0 := at_k hk
  have g0 : GQ (0, 0) := ⟨(show Sz 90 (0 : Int) by unfold Sz; decide).mono (by decide), (show Sz 90 (0 : Int) by unfold Sz; decide).mono (by decide)⟩
  have t : m_turn K c [.p (.tuple [.int 0, .int 0]), .p (slD (pr R k 1)), .p (slD (R.getD k (0, 0)))] = .ok (.p (.int (turnZ (0, 0) (pr R k 1) (R.getD k (0, 0))))) := turn_good K c (a := (0, 0)) g0 (rg _ (pr_mem hk (by omega))) (rg _ (get_mem hk))
  have he : f_area_e1 K c [some (.p (.int (k : Int))), some (.p (.list (R.map slD)))] = .ok (.p (.int (turnZ (0, 0) (pr R k 1) (R.getD k (0, 0))))) := by
   exact call3p rfl (by simp only [mBin, mVar, mC, List.getElem?_cons_zero, List.getElem?_cons_succ, List.set_cons_zero, List.set_cons_succ, List.length_cons, List.length_nil, List.length_map, List.length_append, if_true, if_false, ite_true, ite_false, decide_true, decide_false, Bool.false_eq_true, Nat.zero_add, Nat.reduceAdd, Nat.reduceEqDiff, Nat.reduceLeDiff, reduceIte, List.map_append, List.map_cons, List.map_nil, Res.bind, Ev.c, intE0, i1]) (by simp only [mBin, mVar, List.getElem?_cons_zero, List.getElem?_cons_succ, List.set_cons_zero, List.set_cons_succ, List.length_cons, List.length_nil, List.length_map, List.length_append, if_true, if_false, ite_true, ite_false, decide_true, decide_false, Bool.false_eq_true, Nat.zero_add, Nat.reduceAdd, Nat.reduceEqDiff, Nat.reduceLeDiff, reduceIte, List.map_append, List.map_cons, List.map_nil, Res.bind, Ev.c, i0]) t
  unfold compItem
  simp only [mgName, capE, capO, mYes, List.getElem?_cons_zero, List.getElem?_cons_succ, List.set_cons_zero, List.set_cons_succ, List.length_cons, List.length_nil, List.length_map, List.length_append, if_true, if_false, ite_true, ite_false, decide_true, decide_false, Bool.false_eq_true, Nat.zero_add, Nat.reduceAdd, Nat.reduceEqDiff, Nat.reduceLeDiff, reduceIte, List.map_append, List.map_cons, List.map_nil, List.replicate, List.cons_append, List.nil_append, he, Ev.c]
 have hc := comp_l (n := 1) (js := [1]) hit (by rw [List.length_map, List.length_range]; omega) hm
 refine ret_p ?_
 exact callB1 hc (by rw [sum_at, area_sum])
theorem area_good (K : PySem.W.Frag) (c : Cls) {ps : List Q2} (hl : ps.length < 64) (h0 : ps ≠ []) (hg : ∀ p ∈ ps, GQ p) : m_area K c [.p (.list (ps.map slD))] = .ok (.p (.int (areaP ps))) := mOf_at (a := ps) eQs_inj ⟨hl, h0, hg⟩
theorem sz_sum {m : Nat} : ∀ {l : List Int}, (∀ x ∈ l, Sz m x) → Sz (m + l.length) l.sum
 | [], _ => by
  show (0 : Int).natAbs < 2 ^ (m + 0)
  exact Nat.two_pow_pos _
 | x :: l, h => by
  have a := N.Sz.addM (h x (.head _)) (sz_sum (l := l) fun y hy => h y (.tail _ hy))
  rw [List.sum_cons, List.length_cons]
  exact a.mono (by omega)
theorem area_sz {ps : List Q2} (hl : ps.length < 64) (hg : ∀ p ∈ ps, GQ p) : Sz 60000 (areaP ps) := by
 have rg : ∀ p ∈ hullR (rowsP ps), GQ p := fun p hp => hg p (rows_mem.mp (hull_sub hp))
 have rl : (hullR (rowsP ps)).length ≤ 1000 := by
  have := hull_len (rowsP ps)
  have := rows_len ps
  omega
 unfold areaP
 generalize hullR (rowsP ps) = R at rg rl
 have := sz_sum (m := 20000) (l := (edg R).map crs) fun v hv => by
  obtain ⟨e, he, rfl⟩ := List.mem_map.mp hv
  unfold edg at he
  obtain ⟨k, hk, rfl⟩ := List.mem_map.mp he
  have hk := List.mem_range.mp hk
  obtain ⟨a1, a2⟩ := rg _ (pr_mem (d := 1) hk (by omega))
  obtain ⟨b1, b2⟩ := rg _ (get_mem hk)
  have e : crs (pr R k 1, R.getD k (0, 0)) = (pr R k 1).1 * (R.getD k (0, 0)).2 - (pr R k 1).2 * (R.getD k (0, 0)).1 := by unfold crs turnZ; grind
  rw [e]
  exact (N.Sz.subM (Sz.mul a1 b2) (Sz.mul a2 b1)).mono (by decide)
 have ll : ((edg R).map crs).length = R.length := by unfold edg; simp
 rw [ll] at this
 exact this.mono (by omega)
theorem callR1 {m : List L → Res L} {f : En → Res Ev} {en : En} {a : D} {r : L} (h1 : f en = .ok (.b a)) (hm : m [.p a] = .ok r) (hf : flatL r = true) : mCall 1 m (mCons f mNil) en = .ok (retE r) := by
 simp only [mCall, mCons, mNil, h1, List.getElem?_cons_zero, List.getElem?_cons_succ, List.set_cons_zero, List.set_cons_succ, List.length_cons, List.length_nil, List.length_map, List.length_append, if_true, if_false, ite_true, ite_false, decide_true, decide_false, Bool.false_eq_true, Nat.zero_add, Nat.reduceAdd, Nat.reduceEqDiff, Nat.reduceLeDiff, reduceIte, List.map_append, List.map_cons, List.map_nil, Res.bind, Ev.c, callR, argsL, argL, argB, hm, hf]
theorem callF1 {m : List L → Res L} {f : En → Res Ev} {en : En} {a : D} {r : L} (h1 : f en = .ok (.f a)) (hm : m [.p a] = .ok r) : mCall 1 m (mCons f mNil) en = .ok (retE r) := by
 simp only [mCall, mCons, mNil, h1, List.getElem?_cons_zero, List.getElem?_cons_succ, List.set_cons_zero, List.set_cons_succ, List.length_cons, List.length_nil, List.length_map, List.length_append, if_true, if_false, ite_true, ite_false, decide_true, decide_false, Bool.false_eq_true, Nat.zero_add, Nat.reduceAdd, Nat.reduceEqDiff, Nat.reduceLeDiff, reduceIte, List.map_append, List.map_cons, List.map_nil, Res.bind, Ev.c, callR, argsL, argL, hm]
theorem callP1 {m : List L → Res L} {f : En → Res Ev} {en : En} {a : D} {r : L} (h1 : f en = .ok (.p a)) (hm : m [.p a] = .ok r) : mCall 1 m (mCons f mNil) en = .ok (retE r) := by
 simp only [mCall, mCons, mNil, h1, List.getElem?_cons_zero, List.getElem?_cons_succ, List.set_cons_zero, List.set_cons_succ, List.length_cons, List.length_nil, List.length_map, List.length_append, if_true, if_false, ite_true, ite_false, decide_true, decide_false, Bool.false_eq_true, Nat.zero_add, Nat.reduceAdd, Nat.reduceEqDiff, Nat.reduceLeDiff, reduceIte, List.map_append, List.map_cons, List.map_nil, Res.bind, Ev.c, callR, argsL, argL, hm]
theorem call2p {m : List L → Res L} {f g : En → Res Ev} {en : En} {a b r : D} (h1 : f en = .ok (.p a)) (h2 : g en = .ok (.p b)) (hm : m [.p a, .p b] = .ok (.p r)) : mCall 2 m (mCons f (mCons g mNil)) en = .ok (.p r) := by
 simp only [mCall, mCons, mNil, h1, h2, List.getElem?_cons_zero, List.getElem?_cons_succ, List.set_cons_zero, List.set_cons_succ, List.length_cons, List.length_nil, List.length_map, List.length_append, if_true, if_false, ite_true, ite_false, decide_true, decide_false, Bool.false_eq_true, Nat.zero_add, Nat.reduceAdd, Nat.reduceEqDiff, Nat.reduceLeDiff, reduceIte, List.map_append, List.map_cons, List.map_nil, Res.bind, Ev.c, callR, argsL, argL, hm, retE]
theorem callB1p {r : List Ev → Res Ev} {f : En → Res Ev} {en : En} {a : D} {o : Res Ev} (h1 : f en = .ok (.p a)) (h : r [.p a] = o) : mCallB r (mCons f mNil) en = o := by
 simp only [mCallB, mCons, mNil, h1, Res.bind, Ev.c, h]
theorem call3 {m : List L → Res L} {f g h : En → Res Ev} {en : En} {a b d r : D} (h1 : f en = .ok (.b a)) (h2 : g en = .ok (.p b)) (h3 : h en = .ok (.p d)) (hm : m [.p a, .p b, .p d] = .ok (.o r)) (hf : flatL (.o r) = true) : mCall 3 m (mCons f (mCons g (mCons h mNil))) en = .ok (.f r) := by
 simp only [mCall, mCons, mNil, h1, h2, h3, List.getElem?_cons_zero, List.getElem?_cons_succ, List.set_cons_zero, List.set_cons_succ, List.length_cons, List.length_nil, List.length_map, List.length_append, if_true, if_false, ite_true, ite_false, decide_true, decide_false, Bool.false_eq_true, Nat.zero_add, Nat.reduceAdd, Nat.reduceEqDiff, Nat.reduceLeDiff, reduceIte, List.map_append, List.map_cons, List.map_nil, Res.bind, Ev.c, callR, argsL, argL, argB, hm, hf, retE]
theorem bin_o {op : Ev → Ev → Res Ev} {f g : En → Res Ev} {en : En} {x y : Ev} {o : Res Ev} (h1 : f en = .ok x) (h2 : g en = .ok y) (h : op x.c y.c = o) : mBin op f g en = o := by
 simp only [mBin, h1, h2, Res.bind, h]
theorem tru_o {f : En → Res Ev} {en : En} {b : Bool} (h : f en = .ok (.p (.bool b))) : mTru f en = .ok b := by
 simp only [mTru, h, Res.bind, truthR]
theorem not_o {f : En → Res Bool} {en : En} {b : Bool} (h : f en = .ok b) : mNot f en = .ok (!b) := by
 simp only [mNot, h, Res.bind]
theorem or_o {f g : En → Res Bool} {en : En} (h1 : f en = .ok false) (h2 : g en = .ok false) : mOr f g en = .ok false := by
 simp only [mOr, h1, h2, Res.bind]
 rfl
theorem eq_int (ng : Bool) {i j : Int} (h : i = j) : eqE ng (.p (.int i)) (.p (.int j)) = .ok (.p (.bool (!ng))) := by rw [h]; exact eqE_same rfl rfl (sh_int _) ng
theorem eq_is {i j : Int} : eqE false (.p (.int i)) (.p (.int j)) = .ok (.p (.bool (i == j))) := by
 simp only [eqE, dat, sh_int, eqv_ii]
 rfl
def shr (b x y : Int) (p : Q2) : Q2 := (p.1 + b * p.2 + x, p.2 + y)
def scl (f : Int) (p : Q2) : Q2 := (f * p.1, f * p.2)
theorem shr_turn (b x y : Int) (p q r : Q2) : turnZ (shr b x y p) (shr b x y q) (shr b x y r) = 1 * turnZ p q r := by unfold shr turnZ; grind
theorem shr_inj (b x y : Int) (p q : Q2) (h : shr b x y p = shr b x y q) : p = q := by
 unfold shr at h
 injection h with h1 h2
 have e : p.2 = q.2 := by omega
 rw [e] at h1
 exact Prod.ext (by omega) e
theorem scl_turn (f : Int) (p q r : Q2) : turnZ (scl f p) (scl f q) (scl f r) = f * f * turnZ p q r := by unfold scl turnZ; grind
theorem scl_inj {f : Int} (hf : f ≠ 0) (p q : Q2) (h : scl f p = scl f q) : p = q := by
 unfold scl at h
 injection h with h1 h2
 exact Prod.ext (Int.eq_of_mul_eq_mul_left hf h1) (Int.eq_of_mul_eq_mul_left hf h2)
theorem area_shr {ps : List Q2} (h0 : ps ≠ []) (b x y : Int) : areaP (ps.map (shr b x y)) = areaP ps := by
 have := (hl_of h0).map (hl_of (ps := ps.map (shr b x y)) (by simpa using h0)) (D := 1) (by decide) (shr_turn b x y) (shr_inj b x y)
 rw [Int.one_mul] at this
 exact this
theorem area_swp {ps : List Q2} (h0 : ps ≠ []) : areaP (ps.map swp) = areaP ps := (hl_of h0).swap (hl_of (ps := ps.map swp) (by simpa using h0))
theorem area_scl {ps : List Q2} (h0 : ps ≠ []) {f : Int} (hf : 0 ≤ f) : areaP (ps.map (scl f)) = f * f * areaP ps := by
 have h' := hl_of (ps := ps.map (scl f)) (by simpa using h0)
 by_cases z : f = 0
 ·have e := h'.zero fun a ha b hb c hc => by
   obtain ⟨p, _, rfl⟩ := List.mem_map.mp ha
   obtain ⟨q, _, rfl⟩ := List.mem_map.mp hb
   obtain ⟨r, _, rfl⟩ := List.mem_map.mp hc
   rw [scl_turn, z]
   simp
  rw [z, Int.zero_mul, Int.zero_mul]
  rw [z] at e
  exact e
 ·exact (hl_of h0).map h' (D := f * f) (Int.mul_pos (by omega) (by omega)) (scl_turn f) (scl_inj z)
noncomputable def f_law_e1 (K : PySem.W.Frag) (c : Cls) : En → Res Ev := (mCallB tupR' (mCons (mBin mulE (mVar 1) (mBin ixE (mVar 0) (mC (.int 0)))) (mCons (mBin mulE (mVar 1) (mBin ixE (mVar 0) (mC (.int 1)))) mNil)))
noncomputable def f_law_e2 (K : PySem.W.Frag) (c : Cls) : En → Res Ev := (mCallB tupR' (mCons (mBin ixE (mVar 0) (mC (.int 1))) (mCons (mBin ixE (mVar 0) (mC (.int 0))) mNil)))
noncomputable def f_law_e3 (K : PySem.W.Frag) (c : Cls) : En → Res Ev := (mCallB tupR' (mCons (mBin addE (mBin addE (mBin ixE (mVar 0) (mC (.int 0))) (mBin mulE (mVar 1) (mBin ixE (mVar 0) (mC (.int 1))))) (mVar 2)) (mCons (mBin addE (mBin ixE (mVar 0) (mC (.int 1))) (mVar 3)) mNil)))
noncomputable def f_law_e4 (K : PySem.W.Frag) (c : Cls) : En → Res Ev := (mBin ixE (mVar 1) (mBin modE (mVar 0) (mCallB lenE (mCons (mVar 1) mNil))))
noncomputable def f_law_e5 (K : PySem.W.Frag) (c : Cls) : En → Res Ev := (mCall 3 (m__law_turn K c) (mCons (mBin ixE (mVar 1) (mC (.int 0))) (mCons (mBin ixE (mVar 1) (mBin subE (mVar 0) (mC (.int 1)))) (mCons (mBin ixE (mVar 1) (mVar 0)) mNil))))
noncomputable def f_law (K : PySem.W.Frag) (c : Cls) : MS := (mSeq (mSet 1 (mCall 2 (m__law_stir K c) (mCons (mCall 2 (m__law_cell_at K c) (mCons (mVar 0) (mCons (mC (.int 0)) mNil))) (mCons (mC (.int 1)) mNil)))) (mSeq (mSet 2 (mSl (mVar 0) (mPt (mC (.int 4))) (mPt (mC (.int 44))))) (mSeq (mSet 3 (mCall 3 (m__law_places_by K c) (mCons (mVar 2) (mCons (mVar 1) (mCons (mCallB (mm2E fun i j => if j > i then j else i) (mCons (mCallB lenE (mCons (mVar 2) mNil)) (mCons (mBin addE (mC (.int 1)) (mBin modE (mBin fdivE (mVar 1) (mC (.int 8))) (mC (.int 20)))) mNil))) mNil))))) (mSeq (mSet 4 (mCallB listE (mCons (mVar 3) mNil))) (mSeq (mSet 5 (mCall 1 (m_area K c) (mCons (mVar 4) mNil))) (mSeq (mSet 6 (mCall 1 (m_hull K c) (mCons (mVar 3) mNil))) (fun en => (fun en => (mSeq (mSet 7 (mCallB sumE (mCons (mComp 1 [6] (mItA rng1R (mCons (mCallB lenE (mCons (mVar 6) mNil)) mNil)) (mgName 0) mYes (f_law_e5 K c)) mNil))) (mSeq (mIfS (mOr (mNot (mTru (mCall 1 (m__law_whole K c) (mCons (mVar 5) mNil)))) (mOr (mTru (mBin ltE (mVar 5) (mC (.int 0)))) (mOr (mTru (mBin (eqE true) (mVar 5) (mVar 7))) (mTru (mBin (eqE true) (mVar 4) (mVar 3)))))) (mRet (mC (.bool false))) mNext) (mSeq (mSet 8 (mComp 1 [3] (mItA rng1R (mCons (mC (.int 3)) mNil)) (mgName 0) mYes (f_law_e4 K c))) (mSeq (mIfS (mTru (mBin (eqE true) (mCall 1 (m_area K c) (mCons (mVar 8) mNil)) (mCallB absE (mCons (mCall 3 (m__law_turn K c) (mCons (mBin ixE (mVar 8) (mC (.int 0))) (mCons (mBin ixE (mVar 8) (mC (.int 1))) (mCons (mBin ixE (mVar 8) (mC (.int 2))) mNil)))) mNil)))) (mRet (mC (.bool false))) mNext) (mSeq (mSet 9 (mBin addE (mBin mulE (mC (.int 2)) (mBin powE (mC (.int 10)) (mC (.int 20)))) (mC (.int 1)))) (mSeq (mSet 10 (mBin subE (mBin modE (mCall 2 (m__law_stir K c) (mCons (mCall 2 (m__law_cell_at K c) (mCons (mVar 0) (mCons (mC (.int 1)) mNil))) (mCons (mC (.int 2)) mNil))) (mVar 9)) (mBin powE (mC (.int 10)) (mC (.int 20))))) (mSeq (mIfS (mTru (mBin (eqE false) (mBin modE (mBin fdivE (mVar 1) (mC (.int 160))) (mC (.int 2))) (mC (.int 1)))) (mSet 10 (mBin subE (mBin modE (mCall 2 (m__law_cell_at K c) (mCons (mVar 0) (mCons (mC (.int 1)) mNil))) (mC (.int 7))) (mC (.int 3)))) mNext) (mSeq (mSet 11 (mBin subE (mBin modE (mCall 2 (m__law_stir K c) (mCons (mCall 2 (m__law_cell_at K c) (mCons (mVar 0) (mCons (mC (.int 2)) mNil))) (mCons (mC (.int 3)) mNil))) (mVar 9)) (mBin powE (mC (.int 10)) (mC (.int 20))))) (mSeq (mSet 12 (mBin subE (mBin modE (mCall 2 (m__law_stir K c) (mCons (mCall 2 (m__law_cell_at K c) (mCons (mVar 0) (mCons (mC (.int 2)) mNil))) (mCons (mC (.int 4)) mNil))) (mVar 9)) (mBin powE (mC (.int 10)) (mC (.int 20))))) (mSeq (mSet 13 (mBin modE (mCall 2 (m__law_stir K c) (mCons (mCall 2 (m__law_cell_at K c) (mCons (mVar 0) (mCons (mC (.int 3)) mNil))) (mCons (mC (.int 5)) mNil))) (mC (.int 1000)))) (mSeq (mSet 14 (mComp 1 [10, 11, 12] (mItL (mVar 3)) (mgName 0) mYes (f_law_e3 K c))) (mSeq (mIfS (mOr (mTru (mBin (eqE true) (mCall 1 (m_area K c) (mCons (mVar 14) mNil)) (mVar 5))) (mTru (mBin (eqE true) (mCall 1 (m_area K c) (mCons (mComp 1 [] (mItL (mVar 3)) (mgName 0) mYes (f_law_e2 K c)) mNil)) (mVar 5)))) (mRet (mC (.bool false))) mNext) (mRet (mBin (eqE false) (mCall 1 (m_area K c) (mCons (mComp 1 [13] (mItL (mVar 3)) (mgName 0) mYes (f_law_e1 K c)) mNil)) (mBin mulE (mBin mulE (mVar 13) (mVar 13)) (mVar 5)))))))))))))))) (frz 3 en)) (frz 6 en))))))))
noncomputable def m_law (K : PySem.W.Frag) (c : Cls) (ls : List L) : Res L := runF 15 (f_law K c) ls
theorem eq_law (K : PySem.W.Frag) (c : Cls) : ∀ ls, m_law K c ls = .bad ∨ runF 15 (f_law K c) ls = m_law K c ls := fun _ => .inr rfl
theorem cut_40 (vs : List Int) : ∃ cs : List Int, M.cutD (vs.map .int) (some 4) (some 44) = cs.map .int ∧ cs.length ≤ 40 := by
 refine ⟨(vs.drop (HT.sIx vs.length 0 (some ((4 : Nat) : Int)))).take (HT.sIx vs.length vs.length (some ((44 : Nat) : Int)) - HT.sIx vs.length 0 (some ((4 : Nat) : Int))), ?_, ?_⟩
 ·unfold M.cutD
  rw [List.length_map, List.map_take, List.map_drop]
  rfl
 ·rw [List.length_take, List.length_drop, HT.sIx_nat, HT.sIx_nat]
  omega
theorem due_ok (K : PySem.W.Frag) (c : Cls) {R : List Q2} (rl : R.length ≤ 1000) (rg : ∀ p ∈ R, GQ p) {en : En} (h6 : en[6]? = some (some (.p (.list (R.map slD))))) : ((mCallB sumE (mCons (mComp 1 [6] (mItA rng1R (mCons (mCallB lenE (mCons (mVar 6) mNil)) mNil)) (mgName 0) mYes (f_law_e5 K c)) mNil))) en = .ok (.p (.int (areaR R))) := by
 have ln : lenE [.p (.list (R.map slD))] = .ok (.p (.int (R.length : Nat))) := by simp [lenE, seqOf]
 have v6 : mVar 6 en = .ok (.p (.list (R.map slD))) := by unfold mVar; rw [h6]
 have hit : mItA rng1R (mCons (mCallB lenE (mCons (mVar 6) mNil)) mNil) en = .ok ((List.range R.length).map fun k : Nat => PyData.int (k : Int)) := by
  rw [← rng_map]
  exact ita1 (a := .int (R.length : Nat)) (callB1p v6 ln) (rng1_lit _ (by omega))
 have cap : capE [6] en = [some (.p (.list (R.map slD)))] := by
  unfold capE
  simp only [List.map_cons, List.map_nil, h6, capO]
 have hm : mapO (compItem 1 [6] (mgName 0) mYes (f_law_e5 K c) en) ((List.range R.length).map fun k : Nat => PyData.int (k : Int)) = some ((List.range R.length).map fun k => PyData.int (turnZ (R.getD 0 (0, 0)) (pr R k 1) (R.getD k (0, 0)))) := by
  refine mapO_map _ fun k hk => ?_
  have hk := List.mem_range.mp hk
  have i1 : ixE (.p (.list (R.map slD))) (.p (.int ((k : Int) - 1))) = .ok (.p (slD (pr R k 1))) := at_pr (d := 1) hk (by omega)
  have i0 := at_k hk
  have iz : ixE (.p (.list (R.map slD))) (.p (.int 0)) = .ok (.p (slD (R.getD 0 (0, 0)))) := at_k (k := 0) (by omega)
  have t := lturn_ok K c (rg _ (get_mem (k := 0) (by omega))) (rg _ (pr_mem (d := 1) hk (by omega))) (rg _ (get_mem hk))
  have he : f_law_e5 K c [some (.p (.int (k : Int))), some (.p (.list (R.map slD)))] = .ok (.p (.int (turnZ (R.getD 0 (0, 0)) (pr R k 1) (R.getD k (0, 0))))) := call3p (bin_o rfl rfl iz) (bin_o rfl rfl i1) (bin_o rfl rfl i0) t
  unfold compItem
  rw [cap]
  simp only [mgName, mYes, List.getElem?_cons_zero, List.getElem?_cons_succ, List.set_cons_zero, List.set_cons_succ, List.length_cons, List.length_nil, List.length_map, List.length_append, if_true, if_false, ite_true, ite_false, decide_true, decide_false, Bool.false_eq_true, Nat.zero_add, Nat.reduceAdd, Nat.reduceEqDiff, Nat.reduceLeDiff, reduceIte, List.map_append, List.map_cons, List.map_nil, List.replicate, List.cons_append, List.nil_append, he, Ev.c]
 have hc := comp_l (n := 1) (js := [6]) hit (by rw [List.length_map, List.length_range]; omega) hm
 refine callB1 hc ?_
 rw [sum_at]
 have := area_at (R.getD 0 (0, 0)) R
 unfold edg at this
 rw [List.map_map] at this
 rw [← this]
 rfl
theorem some_ok (K : PySem.W.Frag) (c : Cls) {ps : List Q2} (h0 : ps ≠ []) {en : En} (h3 : en[3]? = some (some (.p (.list (ps.map slD))))) : ∃ a ∈ ps, ∃ b ∈ ps, ∃ d ∈ ps, ((mComp 1 [3] (mItA rng1R (mCons (mC (.int 3)) mNil)) (mgName 0) mYes (f_law_e4 K c))) en = .ok (.f (.list ([a, b, d].map slD))) := by
 have n0 : 0 < ps.length := List.length_pos_iff.mpr h0
 have mk : ∀ k : Nat, ps.getD (k % ps.length) (0, 0) ∈ ps := fun k => get_mem (Nat.mod_lt _ n0)
 refine ⟨_, mk 0, _, mk 1, _, mk 2, ?_⟩
 have ln : lenE [.p (.list (ps.map slD))] = .ok (.p (.int (ps.length : Nat))) := by simp [lenE, seqOf]
 have hit : mItA rng1R (mCons (mC (.int 3)) mNil) en = .ok ((List.range 3).map fun k : Nat => PyData.int (k : Int)) := by
  rw [← rng_map]
  exact ita1 (a := .int 3) rfl (rng1_lit 3 (by omega))
 have cap : capE [3] en = [some (.p (.list (ps.map slD)))] := by
  unfold capE
  simp only [List.map_cons, List.map_nil, h3, capO]
 have hm : mapO (compItem 1 [3] (mgName 0) mYes (f_law_e4 K c) en) ((List.range 3).map fun k : Nat => PyData.int (k : Int)) = some ((List.range 3).map fun k => slD (ps.getD (k % ps.length) (0, 0))) := by
  refine mapO_map _ fun k hk => ?_
  have i0 := at_k (R := ps) (k := k % ps.length) (Nat.mod_lt _ n0)
  have e : ((k : Int)).fmod (ps.length : Int) = ((k % ps.length : Nat) : Int) := by
   rw [Int.fmod_eq_emod_of_nonneg _ (by omega)]
   rfl
  have md : modE (.p (.int (k : Int))) (.p (.int (ps.length : Nat))) = .ok (.p (.int ((k % ps.length : Nat) : Int))) := by rw [mod_ok (by omega), e]
  have he : f_law_e4 K c [some (.p (.int (k : Int))), some (.p (.list (ps.map slD)))] = .ok (.p (slD (ps.getD (k % ps.length) (0, 0)))) := bin_o rfl (bin_o rfl (callB1p rfl ln) md) i0
  unfold compItem
  rw [cap]
  simp only [mgName, mYes, List.getElem?_cons_zero, List.getElem?_cons_succ, List.set_cons_zero, List.set_cons_succ, List.length_cons, List.length_nil, List.length_map, List.length_append, if_true, if_false, ite_true, ite_false, decide_true, decide_false, Bool.false_eq_true, Nat.zero_add, Nat.reduceAdd, Nat.reduceEqDiff, Nat.reduceLeDiff, reduceIte, List.map_append, List.map_cons, List.map_nil, List.replicate, List.cons_append, List.nil_append, he, Ev.c]
 exact comp_l (n := 1) (js := [3]) hit (by simp) hm
theorem map_ok {js : List Nat} {fe : En → Res Ev} {en : En} {ps : List Q2} {φ : Q2 → Q2} {cs : En} (hl : ps.length < 64) (h3 : en[3]? = some (some (.p (.list (ps.map slD))))) (hc : capE js en = cs) (he : ∀ p ∈ ps, fe (some (.p (slD p)) :: cs) = .ok (.p (slD (φ p)))) : mComp 1 js (mItL (mVar 3)) (mgName 0) mYes fe en = .ok (.f (.list ((ps.map φ).map slD))) := by
 have hit : mItL (mVar 3) en = .ok (ps.map slD) := by
  have v : mVar 3 en = .ok (.p (.list (ps.map slD))) := by unfold mVar; rw [h3]
  unfold mItL
  rw [v]
  rfl
 have hm : mapO (compItem 1 js (mgName 0) mYes fe en) (ps.map slD) = some (ps.map fun p => slD (φ p)) := by
  refine mapO_map _ fun p hp => ?_
  unfold compItem
  rw [hc]
  simp only [mgName, mYes, List.getElem?_cons_zero, List.getElem?_cons_succ, List.set_cons_zero, List.set_cons_succ, List.length_cons, List.length_nil, List.length_map, List.length_append, if_true, if_false, ite_true, ite_false, decide_true, decide_false, Bool.false_eq_true, Nat.zero_add, Nat.reduceAdd, Nat.reduceEqDiff, Nat.reduceLeDiff, reduceIte, List.map_append, List.map_cons, List.map_nil, List.replicate, List.cons_append, List.nil_append, he p hp, Ev.c]
 have := comp_l (n := 1) (js := js) hit (by rw [List.length_map]; omega) hm
 rw [List.map_map]
 exact this
theorem stc (K : PySem.W.Frag) (c : Cls) (ns : List Int) (i : Nat) {k : Int} (k0 : 0 ≤ k) (k1 : k ≤ 100) : ∃ v : Int, ∀ en : En, en[0]? = some (some (.p (.list (ns.map .int)))) → mCall 2 (m__law_stir K c) (mCons (mCall 2 (m__law_cell_at K c) (mCons (mVar 0) (mCons (mC (.int (i : Int))) mNil))) (mCons (mC (.int k)) mNil)) en = .ok (.p (.int v)) := by
 obtain ⟨v, hv⟩ := stir_ok K c (ns.getD i 0) k0 k1
 refine ⟨v, fun en h0 => ?_⟩
 have v0 : mVar 0 en = .ok (.p (.list (ns.map .int))) := by unfold mVar; rw [h0]
 exact call2p (call2p v0 rfl (cell_ok K c ns i)) rfl hv
theorem law_ok (K : PySem.W.Frag) (c : Cls) (hk : KitF K c) (ns : List Int) (hn : ns.length ≤ 63) : m_law K c [.p (.list (ns.map .int))] = .ok (.p (.bool true)) := by
 obtain ⟨kind, hkd⟩ := stc K c ns 0 (k := 1) (by decide) (by decide)
 obtain ⟨v1, hv1⟩ := stc K c ns 1 (k := 2) (by decide) (by decide)
 obtain ⟨v2, hv2⟩ := stc K c ns 2 (k := 3) (by decide) (by decide)
 obtain ⟨v3, hv3⟩ := stc K c ns 2 (k := 4) (by decide) (by decide)
 obtain ⟨v4, hv4⟩ := stc K c ns 3 (k := 5) (by decide) (by decide)
 have c1 : m__law_cell_at K c [.p (.list (ns.map .int)), .p (.int 1)] = .ok (.p (.int (ns.getD 1 0))) := cell_ok K c ns 1
 generalize ns.getD 1 0 = w1 at c1
 obtain ⟨cs, hcs', cl⟩ := cut_40 ns
 have m20 := fmod_pos (a := kind.fdiv 8) (b := 20) (by decide)
 obtain ⟨n, n1, n40, hnn⟩ : ∃ n : Nat, 1 ≤ n ∧ n ≤ 40 ∧ (n : Int) = if 1 + (kind.fdiv 8).fmod 20 > (cs.length : Int) then 1 + (kind.fdiv 8).fmod 20 else (cs.length : Int) := by
  refine ⟨(if 1 + (kind.fdiv 8).fmod 20 > (cs.length : Int) then 1 + (kind.fdiv 8).fmod 20 else (cs.length : Int)).toNat, ?_, ?_, ?_⟩ <;> split <;> omega
 obtain ⟨ps, pl, pg9, hps⟩ := places_ok K c cs kind (show n ≤ 60 by omega)
 have pg : ∀ p ∈ ps, GQ p := fun p hp => (pg9 p hp).gq
 have p0 : ps ≠ [] := fun z => by rw [z] at pl; simp at pl; omega
 have l64 : ps.length < 64 := by omega
 have ag := area_good K c l64 p0 pg
 have hh := hull_good K c l64 p0 pg
 have rg : ∀ p ∈ hullR (rowsP ps), GQ p := fun p hp => pg p (rows_mem.mp (hull_sub hp))
 have rl : (hullR (rowsP ps)).length ≤ 1000 := by
  have := hull_len (rowsP ps)
  have := rows_len ps
  omega
 have du := fun {en : En} => due_ok K c (R := hullR (rowsP ps)) rl rg (en := en)
 have anz := (hl_of p0).nn
 have az := area_sz l64 pg
 have du : ∀ {en : En}, en[6]? = some (some (.p (.list ((hullR (rowsP ps)).map slD)))) → ((mCallB sumE (mCons (mComp 1 [6] (mItA rng1R (mCons (mCallB lenE (mCons (mVar 6) mNil)) mNil)) (mgName 0) mYes (f_law_e5 K c)) mNil))) en = .ok (.p (.int (areaP ps))) := du
 have anz : 0 ≤ areaP ps := anz
 have fli : ∀ i : Int, flatL (.p (.int i)) = true := fun i => by simp [flatL, lfD]
 generalize hR : hullR (rowsP ps) = R at hh du
 unfold m_law
 refine run_rt ?_
 rw [show startE 15 [.p (.list (ns.map .int))] = [some (.p (.list (ns.map .int))), none, none, none, none, none, none, none, none, none, none, none, none, none, none] from rfl]
 unfold f_law
 refine (seq_nx (set_p (hkd _ rfl))).trans ?_
 simp only [List.set_cons_succ, List.set_cons_zero]
 have e2 : ((mSl (mVar 0) (mPt (mC (.int 4))) (mPt (mC (.int 44))))) [some (.p (.list (ns.map .int))), some (.p (.int kind)), none, none, none, none, none, none, none, none, none, none, none, none, none] = .ok (.f (.list (cs.map .int))) := by
  simp only [mSl, mPt, mVar, mC, List.getElem?_cons_zero, List.getElem?_cons_succ, List.set_cons_zero, List.set_cons_succ, List.length_cons, List.length_nil, List.length_map, List.length_append, if_true, if_false, ite_true, ite_false, decide_true, decide_false, Bool.false_eq_true, Nat.zero_add, Nat.reduceAdd, Nat.reduceEqDiff, Nat.reduceLeDiff, reduceIte, List.map_append, List.map_cons, List.map_nil, Res.bind, Ev.c, lstOf, hcs']
 refine (seq_nx (set_f e2)).trans ?_
 simp only [List.set_cons_succ, List.set_cons_zero]
 have ln : lenE [.b (.list (cs.map .int))] = .ok (.p (.int (cs.length : Nat))) := by simp [lenE, seqOf]
 have n20 : (20 : Int) ≠ 0 := by decide
 have d8 : CDivW kind 8 := ⟨by decide, (show Sz 90 (8 : Int) by unfold Sz; decide).mono (by decide)⟩
 have em : (mCallB (mm2E fun i j => if j > i then j else i) (mCons (mCallB lenE (mCons (mVar 2) mNil)) (mCons (mBin addE (mC (.int 1)) (mBin modE (mBin fdivE (mVar 1) (mC (.int 8))) (mC (.int 20)))) mNil))) [some (.p (.list (ns.map .int))), some (.p (.int kind)), some (.o (.list (cs.map .int))), none, none, none, none, none, none, none, none, none, none, none, none] = .ok (.p (.int (n : Int))) := by
  rw [hnn]
  simp (disch := assumption) only [mCallB, mCons, mNil, mBin, mVar, mC, List.getElem?_cons_zero, List.getElem?_cons_succ, List.set_cons_zero, List.set_cons_succ, List.length_cons, List.length_nil, List.length_map, List.length_append, if_true, if_false, ite_true, ite_false, decide_true, decide_false, Bool.false_eq_true, Nat.zero_add, Nat.reduceAdd, Nat.reduceEqDiff, Nat.reduceLeDiff, reduceIte, List.map_append, List.map_cons, List.map_nil, Res.bind, Ev.c, ln, fdiv_ok, mod_ok, addE, mm2E]
 refine (seq_nx (set_f (call3 rfl rfl em hps (fl_sls _)))).trans ?_
 simp only [List.set_cons_succ, List.set_cons_zero]
 have e4 : (mCallB listE (mCons (mVar 3) mNil)) [some (.p (.list (ns.map .int))), some (.p (.int kind)), some (.o (.list (cs.map .int))), some (.o (.list (ps.map slD))), none, none, none, none, none, none, none, none, none, none, none] = .ok (.f (.list (ps.map slD))) := rfl
 refine (seq_nx (set_f e4)).trans ?_
 simp only [List.set_cons_succ, List.set_cons_zero]
 refine (seq_nx (set_p (callR1 rfl ag (fli _)))).trans ?_
 simp only [List.set_cons_succ, List.set_cons_zero]
 refine (seq_nx (set_f (callR1 rfl hh (fl_sls _)))).trans ?_
 simp only [List.set_cons_succ, List.set_cons_zero, frz, List.getElem?_cons_succ, List.getElem?_cons_zero]
 refine (seq_nx (set_p (du rfl))).trans ?_
 simp only [List.set_cons_succ, List.set_cons_zero]
 have el : eqE true (.b (.list (ps.map slD))) (.p (.list (ps.map slD))) = .ok (.p (.bool false)) := eqE_same rfl rfl (sh_sls _) true
 have ng : ltE (.p (.int (areaP ps))) (.p (.int 0)) = .ok (.p (.bool false)) := by
  have : decide (areaP ps < 0) = false := decide_eq_false (by omega)
  simp only [intE0, this]
 have t8 : ((mOr (mNot (mTru (mCall 1 (m__law_whole K c) (mCons (mVar 5) mNil)))) (mOr (mTru (mBin ltE (mVar 5) (mC (.int 0)))) (mOr (mTru (mBin (eqE true) (mVar 5) (mVar 7))) (mTru (mBin (eqE true) (mVar 4) (mVar 3))))))) [some (.p (.list (ns.map .int))), some (.p (.int kind)), some (.o (.list (cs.map .int))), some (.p (.list (ps.map slD))), some (.o (.list (ps.map slD))), some (.p (.int (areaP ps))), some (.p (.list (R.map slD))), some (.p (.int (areaP ps))), none, none, none, none, none, none, none] = .ok false := or_o (not_o (tru_o (callP1 rfl (whole_ok K c _)))) (or_o (tru_o (bin_o rfl rfl ng)) (or_o (tru_o (bin_o rfl rfl (eq_int true rfl))) (tru_o (bin_o rfl rfl el))))
 refine (seq_nx (if_f t8)).trans ?_
 obtain ⟨a, ma, b, mb, d, md, hso⟩ := some_ok K c p0 (en := [some (.p (.list (ns.map .int))), some (.p (.int kind)), some (.o (.list (cs.map .int))), some (.p (.list (ps.map slD))), some (.o (.list (ps.map slD))), some (.p (.int (areaP ps))), some (.p (.list (R.map slD))), some (.p (.int (areaP ps))), none, none, none, none, none, none, none]) rfl
 refine (seq_nx (set_f hso)).trans ?_
 simp only [List.set_cons_succ, List.set_cons_zero]
 have gt : ∀ p ∈ [a, b, d], GQ p := fun p hp => by
  simp only [List.mem_cons, List.not_mem_nil, or_false] at hp
  rcases hp with rfl | rfl | rfl
  ·exact pg _ ma
  ·exact pg _ mb
  ·exact pg _ md
 have at3 := area_good K c (ps := [a, b, d]) (by simp) (by simp) gt
 have th := (hl_of (ps := [a, b, d]) (by simp)).three
 have th : areaP [a, b, d] = _ := th
 have lt3 := lturn_ok K c (pg _ ma) (pg _ mb) (pg _ md)
 have ab : absE [.p (.int (turnZ a b d))] = .ok (.p (.int (areaP [a, b, d]))) := by rw [th]; rfl
 have j0 : ixE (.b (.list ([a, b, d].map slD))) (.p (.int 0)) = .ok (.p (slD a)) := rfl
 have j1 : ixE (.b (.list ([a, b, d].map slD))) (.p (.int 1)) = .ok (.p (slD b)) := rfl
 have j2 : ixE (.b (.list ([a, b, d].map slD))) (.p (.int 2)) = .ok (.p (slD d)) := rfl
 have t10 : ((mTru (mBin (eqE true) (mCall 1 (m_area K c) (mCons (mVar 8) mNil)) (mCallB absE (mCons (mCall 3 (m__law_turn K c) (mCons (mBin ixE (mVar 8) (mC (.int 0))) (mCons (mBin ixE (mVar 8) (mC (.int 1))) (mCons (mBin ixE (mVar 8) (mC (.int 2))) mNil)))) mNil))))) [some (.p (.list (ns.map .int))), some (.p (.int kind)), some (.o (.list (cs.map .int))), some (.p (.list (ps.map slD))), some (.o (.list (ps.map slD))), some (.p (.int (areaP ps))), some (.p (.list (R.map slD))), some (.p (.int (areaP ps))), some (.o (.list ([a, b, d].map slD))), none, none, none, none, none, none] = .ok false := tru_o (bin_o (callR1 rfl at3 (fli _)) (callB1p (call3p (bin_o rfl rfl j0) (bin_o rfl rfl j1) (bin_o rfl rfl j2) lt3) ab) (eq_int true rfl))
 refine (seq_nx (if_f t10)).trans ?_
 have p20 : CPow 10 20 := ⟨by decide, by decide, by decide⟩
 have w20 : (10 : Int) ^ Int.toNat 20 = 100000000000000000000 := by decide
 have sl : ∀ {x : Int}, Sz 90 x → Sz 60000 x := fun h => h.mono (by decide)
 have cm : CMulW 2 100000000000000000000 := ⟨sl (by unfold Sz; decide), sl (by unfold Sz; decide)⟩
 have pw : ∀ en : En, mBin powE (mC (.int 10)) (mC (.int 20)) en = .ok (.p (.int 100000000000000000000)) := fun en => bin_o (x := .p (.int 10)) (y := .p (.int 20)) rfl rfl (by show powE (.p (.int 10)) (.p (.int 20)) = _; rw [pow_ok p20, w20])
 have e11 : ((mBin addE (mBin mulE (mC (.int 2)) (mBin powE (mC (.int 10)) (mC (.int 20)))) (mC (.int 1)))) [some (.p (.list (ns.map .int))), some (.p (.int kind)), some (.o (.list (cs.map .int))), some (.p (.list (ps.map slD))), some (.o (.list (ps.map slD))), some (.p (.int (areaP ps))), some (.p (.list (R.map slD))), some (.p (.int (areaP ps))), some (.o (.list ([a, b, d].map slD))), none, none, none, none, none, none] = .ok (.p (.int (2 * 100000000000000000000 + 1))) := bin_o (bin_o rfl (pw _) (mul_ok cm)) rfl rfl
 refine (seq_nx (set_p e11)).trans ?_
 simp only [List.set_cons_succ, List.set_cons_zero]
 have zn : ((2 * 100000000000000000000 + 1) : Int) ≠ 0 := by decide
 have cut : ∀ (v : Int) {f : En → Res Ev} {en : En}, f en = .ok (.p (.int v)) → en[9]? = some (some (.p (.int (2 * 100000000000000000000 + 1)))) → mBin subE (mBin modE f (mVar 9)) (mBin powE (mC (.int 10)) (mC (.int 20))) en = .ok (.p (.int (v.fmod (2 * 100000000000000000000 + 1) - 100000000000000000000))) := fun v {f en} h1 h2 => bin_o (x := .p (.int (v.fmod (2 * 100000000000000000000 + 1)))) (bin_o (y := .p (.int (2 * 100000000000000000000 + 1))) h1 (by unfold mVar; rw [h2]) (mod_ok zn)) (pw _) rfl
 have csz : ∀ v : Int, Sz 90 (v.fmod (2 * 100000000000000000000 + 1) - 100000000000000000000) := fun v => by
  have := fmod_pos (a := v) (b := (2 * 100000000000000000000 + 1)) (by decide)
  unfold Sz
  omega
 refine (seq_nx (set_p (cut v1 (hv1 _ rfl) rfl))).trans ?_
 simp only [List.set_cons_succ, List.set_cons_zero]
 have z1 := csz v1
 generalize v1.fmod (2 * 100000000000000000000 + 1) - 100000000000000000000 = by0 at z1
 obtain ⟨by1, zb, hby⟩ : ∃ by1 : Int, Sz 90 by1 ∧ ((mIfS (mTru (mBin (eqE false) (mBin modE (mBin fdivE (mVar 1) (mC (.int 160))) (mC (.int 2))) (mC (.int 1)))) (mSet 10 (mBin subE (mBin modE (mCall 2 (m__law_cell_at K c) (mCons (mVar 0) (mCons (mC (.int 1)) mNil))) (mC (.int 7))) (mC (.int 3)))) mNext)) [some (.p (.list (ns.map .int))), some (.p (.int kind)), some (.o (.list (cs.map .int))), some (.p (.list (ps.map slD))), some (.o (.list (ps.map slD))), some (.p (.int (areaP ps))), some (.p (.list (R.map slD))), some (.p (.int (areaP ps))), some (.o (.list ([a, b, d].map slD))), some (.p (.int (2 * 100000000000000000000 + 1))), some (.p (.int by0)), none, none, none, none] = some (.nx [some (.p (.list (ns.map .int))), some (.p (.int kind)), some (.o (.list (cs.map .int))), some (.p (.list (ps.map slD))), some (.o (.list (ps.map slD))), some (.p (.int (areaP ps))), some (.p (.list (R.map slD))), some (.p (.int (areaP ps))), some (.o (.list ([a, b, d].map slD))), some (.p (.int (2 * 100000000000000000000 + 1))), some (.p (.int by1)), none, none, none, none]) := by
  have n2 : (2 : Int) ≠ 0 := by decide
  have n7 : (7 : Int) ≠ 0 := by decide
  have d160 : CDivW kind 160 := ⟨by decide, (show Sz 90 (160 : Int) by unfold Sz; decide).mono (by decide)⟩
  have tt : ((mTru (mBin (eqE false) (mBin modE (mBin fdivE (mVar 1) (mC (.int 160))) (mC (.int 2))) (mC (.int 1))))) [some (.p (.list (ns.map .int))), some (.p (.int kind)), some (.o (.list (cs.map .int))), some (.p (.list (ps.map slD))), some (.o (.list (ps.map slD))), some (.p (.int (areaP ps))), some (.p (.list (R.map slD))), some (.p (.int (areaP ps))), some (.o (.list ([a, b, d].map slD))), some (.p (.int (2 * 100000000000000000000 + 1))), some (.p (.int by0)), none, none, none, none] = .ok ((kind.fdiv 160).fmod 2 == 1) := tru_o (bin_o (bin_o (bin_o rfl rfl (fdiv_ok d160)) rfl (mod_ok n2)) rfl eq_is)
  generalize ((kind.fdiv 160).fmod 2 == 1) = bb at tt
  cases bb with
  | true =>
   refine ⟨w1.fmod 7 - 3, ?_, (if_t tt).trans (set_p (bin_o (bin_o (call2p rfl rfl c1) rfl (mod_ok n7)) rfl rfl))⟩
   have := fmod_pos (a := w1) (b := 7) (by decide)
   unfold Sz
   omega
  | false => exact ⟨by0, z1, if_f tt⟩
 refine (seq_nx hby).trans ?_
 refine (seq_nx (set_p (cut v2 (hv2 _ rfl) rfl))).trans ?_
 simp only [List.set_cons_succ, List.set_cons_zero]
 have zx := csz v2
 generalize v2.fmod (2 * 100000000000000000000 + 1) - 100000000000000000000 = x at zx
 refine (seq_nx (set_p (cut v3 (hv3 _ rfl) rfl))).trans ?_
 simp only [List.set_cons_succ, List.set_cons_zero]
 have zy := csz v3
 generalize v3.fmod (2 * 100000000000000000000 + 1) - 100000000000000000000 = y at zy
 have k1000 : (1000 : Int) ≠ 0 := by decide
 refine (seq_nx (set_p (bin_o (hv4 _ rfl) rfl (mod_ok k1000)))).trans ?_
 simp only [List.set_cons_succ, List.set_cons_zero]
 have fz := fmod_pos (a := v4) (b := 1000) (by decide)
 generalize v4.fmod 1000 = fa at fz
 have x0 : ∀ p : Q2, ixE (.p (slD p)) (.p (.int 0)) = .ok (.p (.int p.1)) := fun p => ix_t0 _ _
 have x1 : ∀ p : Q2, ixE (.p (slD p)) (.p (.int 1)) = .ok (.p (.int p.2)) := fun p => ix_t1 _ _ _
 have s17 : ((mComp 1 [10, 11, 12] (mItL (mVar 3)) (mgName 0) mYes (f_law_e3 K c))) [some (.p (.list (ns.map .int))), some (.p (.int kind)), some (.o (.list (cs.map .int))), some (.p (.list (ps.map slD))), some (.o (.list (ps.map slD))), some (.p (.int (areaP ps))), some (.p (.list (R.map slD))), some (.p (.int (areaP ps))), some (.o (.list ([a, b, d].map slD))), some (.p (.int (2 * 100000000000000000000 + 1))), some (.p (.int by1)), some (.p (.int x)), some (.p (.int y)), some (.p (.int fa)), none] = .ok (.f (.list ((ps.map (shr by1 x y)).map slD))) := map_ok (cs := [some (.p (.int by1)), some (.p (.int x)), some (.p (.int y))]) l64 rfl rfl fun p hp => by
  have q1 : CMulW by1 p.2 := ⟨sl zb, sl (pg9 p hp).2⟩
  simp (disch := assumption) only [f_law_e3, mSeq, mSet, mRet, mIfS, mVar, mC, mBin, mUn, mCons, mNil, mCall, callR, argsL, argL, argB, Res.bind, Ev.c, retL, retE, mCallB, tupR', lstR', pureL, mTru, truthR, mAnd, mOr, mNot, mAndV, mOrV, mNotV, mRaise, mNext, addE, intE0, negE, lstOf, dat, lenE, eqE, sh_int, eqv_ii, ix_pl2, ix_pl0, ix_pl1, ix_fr0, ix_fr1, ix_t0, ix_t1, ix_t2, mul_ok, fdiv_ok, mod_ok, pow_ok, List.getElem?_cons_zero, List.getElem?_cons_succ, List.set_cons_zero, List.set_cons_succ, List.length_cons, List.length_nil, List.length_map, List.length_append, if_true, if_false, ite_true, ite_false, decide_true, decide_false, Bool.false_eq_true, Nat.zero_add, Nat.reduceAdd, Nat.reduceEqDiff, Nat.reduceLeDiff, reduceIte, List.map_append, List.map_cons, List.map_nil, x0, x1]
  rfl
 refine (seq_nx (set_f s17)).trans ?_
 simp only [List.set_cons_succ, List.set_cons_zero]
 have gsh : ∀ p ∈ ps.map (shr by1 x y), GQ p := fun p hp => by
  obtain ⟨q, hq, rfl⟩ := List.mem_map.mp hp
  obtain ⟨q1, q2⟩ := pg9 q hq
  exact ⟨(N.Sz.addM (N.Sz.addM q1 (Sz.mul zb q2)) zx).mono (by decide), (N.Sz.addM q2 zy).mono (by decide)⟩
 have gsw : ∀ p ∈ ps.map swp, GQ p := fun p hp => by
  obtain ⟨q, hq, rfl⟩ := List.mem_map.mp hp
  exact ⟨(pg q hq).2, (pg q hq).1⟩
 have zf : Sz 90 fa := by unfold Sz; omega
 have gsc : ∀ p ∈ ps.map (scl fa), GQ p := fun p hp => by
  obtain ⟨q, hq, rfl⟩ := List.mem_map.mp hp
  exact ⟨(Sz.mul zf (pg9 q hq).1).mono (by decide), (Sz.mul zf (pg9 q hq).2).mono (by decide)⟩
 have nm : ∀ φ : Q2 → Q2, ps.map φ ≠ [] := fun φ => by simpa using p0
 have lm : ∀ φ : Q2 → Q2, (ps.map φ).length < 64 := fun φ => by rw [List.length_map]; exact l64
 have a1 := area_good K c (lm _) (nm _) gsh
 have a2 := area_good K c (lm _) (nm _) gsw
 have a3 := area_good K c (lm _) (nm _) gsc
 have sw : ((mComp 1 [] (mItL (mVar 3)) (mgName 0) mYes (f_law_e2 K c))) [some (.p (.list (ns.map .int))), some (.p (.int kind)), some (.o (.list (cs.map .int))), some (.p (.list (ps.map slD))), some (.o (.list (ps.map slD))), some (.p (.int (areaP ps))), some (.p (.list (R.map slD))), some (.p (.int (areaP ps))), some (.o (.list ([a, b, d].map slD))), some (.p (.int (2 * 100000000000000000000 + 1))), some (.p (.int by1)), some (.p (.int x)), some (.p (.int y)), some (.p (.int fa)), some (.o (.list ((ps.map (shr by1 x y)).map slD)))] = .ok (.f (.list ((ps.map swp).map slD))) := map_ok (cs := []) l64 rfl rfl fun p hp => by
  simp only [f_law_e2, mSeq, mSet, mRet, mIfS, mVar, mC, mBin, mUn, mCons, mNil, mCall, callR, argsL, argL, argB, Res.bind, Ev.c, retL, retE, mCallB, tupR', lstR', pureL, mTru, truthR, mAnd, mOr, mNot, mAndV, mOrV, mNotV, mRaise, mNext, addE, intE0, negE, lstOf, dat, lenE, eqE, sh_int, eqv_ii, ix_pl2, ix_pl0, ix_pl1, ix_fr0, ix_fr1, ix_t0, ix_t1, ix_t2, List.getElem?_cons_zero, List.getElem?_cons_succ, List.set_cons_zero, List.set_cons_succ, List.length_cons, List.length_nil, List.length_map, List.length_append, if_true, if_false, ite_true, ite_false, decide_true, decide_false, Bool.false_eq_true, Nat.zero_add, Nat.reduceAdd, Nat.reduceEqDiff, Nat.reduceLeDiff, reduceIte, List.map_append, List.map_cons, List.map_nil, x0, x1]
  rfl
 have t18 : ((mOr (mTru (mBin (eqE true) (mCall 1 (m_area K c) (mCons (mVar 14) mNil)) (mVar 5))) (mTru (mBin (eqE true) (mCall 1 (m_area K c) (mCons (mComp 1 [] (mItL (mVar 3)) (mgName 0) mYes (f_law_e2 K c)) mNil)) (mVar 5))))) [some (.p (.list (ns.map .int))), some (.p (.int kind)), some (.o (.list (cs.map .int))), some (.p (.list (ps.map slD))), some (.o (.list (ps.map slD))), some (.p (.int (areaP ps))), some (.p (.list (R.map slD))), some (.p (.int (areaP ps))), some (.o (.list ([a, b, d].map slD))), some (.p (.int (2 * 100000000000000000000 + 1))), some (.p (.int by1)), some (.p (.int x)), some (.p (.int y)), some (.p (.int fa)), some (.o (.list ((ps.map (shr by1 x y)).map slD)))] = .ok false := or_o (tru_o (bin_o (callR1 rfl a1 (fli _)) rfl (eq_int true (area_shr p0 by1 x y)))) (tru_o (bin_o (callF1 sw a2) rfl (eq_int true (area_swp p0))))
 refine (seq_nx (if_f t18)).trans (ret_p ?_)
 have sc : ((mComp 1 [13] (mItL (mVar 3)) (mgName 0) mYes (f_law_e1 K c))) [some (.p (.list (ns.map .int))), some (.p (.int kind)), some (.o (.list (cs.map .int))), some (.p (.list (ps.map slD))), some (.o (.list (ps.map slD))), some (.p (.int (areaP ps))), some (.p (.list (R.map slD))), some (.p (.int (areaP ps))), some (.o (.list ([a, b, d].map slD))), some (.p (.int (2 * 100000000000000000000 + 1))), some (.p (.int by1)), some (.p (.int x)), some (.p (.int y)), some (.p (.int fa)), some (.o (.list ((ps.map (shr by1 x y)).map slD)))] = .ok (.f (.list ((ps.map (scl fa)).map slD))) := map_ok (cs := [some (.p (.int fa))]) l64 rfl rfl fun p hp => by
  have q1 : CMulW fa p.1 := ⟨sl zf, sl (pg9 p hp).1⟩
  have q2 : CMulW fa p.2 := ⟨sl zf, sl (pg9 p hp).2⟩
  simp (disch := assumption) only [f_law_e1, mSeq, mSet, mRet, mIfS, mVar, mC, mBin, mUn, mCons, mNil, mCall, callR, argsL, argL, argB, Res.bind, Ev.c, retL, retE, mCallB, tupR', lstR', pureL, mTru, truthR, mAnd, mOr, mNot, mAndV, mOrV, mNotV, mRaise, mNext, addE, intE0, negE, lstOf, dat, lenE, eqE, sh_int, eqv_ii, ix_pl2, ix_pl0, ix_pl1, ix_fr0, ix_fr1, ix_t0, ix_t1, ix_t2, mul_ok, fdiv_ok, mod_ok, pow_ok, List.getElem?_cons_zero, List.getElem?_cons_succ, List.set_cons_zero, List.set_cons_succ, List.length_cons, List.length_nil, List.length_map, List.length_append, if_true, if_false, ite_true, ite_false, decide_true, decide_false, Bool.false_eq_true, Nat.zero_add, Nat.reduceAdd, Nat.reduceEqDiff, Nat.reduceLeDiff, reduceIte, List.map_append, List.map_cons, List.map_nil, x0, x1]
  rfl
 have q1 : CMulW fa fa := ⟨sl zf, sl zf⟩
 have q2 : CMulW (fa * fa) (areaP ps) := ⟨(Sz.mul zf zf).mono (by decide), az⟩
 exact bin_o (callF1 sc a3) (bin_o (bin_o rfl rfl (mul_ok q1)) rfl (mul_ok q2)) (eq_int false (area_scl p0 fz.1))
section
variable {P : Program} {w : World} {K : PySem.W.Frag} {mg : Str → Option Value} {base : Heap}
theorem sc_law : FnScope ["_law_script", "_law_kind", "_law_cells", "_law_places", "_law_handed", "_law_found", "_law_ring", "_law_due", "_law_some", "_law_size", "_law_by", "_law_x", "_law_y", "_law_factor", "_law_sheared"] ["_law_script"] (defScope s_law) := ⟨rfl, rfl, rfl, by decide +kernel, rfl, by decide +kernel, by decide +kernel⟩
theorem ok_law {c : Cls} {f : Addr} {fd : FuncData} (F : Fun K "law" "law" s_law f fd) (B : Blt mg) (C : ClsM mg c) (O : ClsO mg base c) (hk : KitF K c) (c_area : Cal P w K mg base 4 "area" 1 (m_area K c)) (c__law_stir : Cal P w K mg base 1 "_law_stir" 2 (m__law_stir K c)) (c__law_cell_at : Cal P w K mg base 1 "_law_cell_at" 2 (m__law_cell_at K c)) (c__law_turn : Cal P w K mg base 1 "_law_turn" 3 (m__law_turn K c)) (c__law_whole : Cal P w K mg base 1 "_law_whole" 1 (m__law_whole K c)) (c_hull : Cal P w K mg base 3 "hull" 1 (m_hull K c)) (c__law_places_by : Cal P w K mg base 2 "_law_places_by" 3 (m__law_places_by K c)) : FnOk P w K mg base (CXr P w) 5 f fd ["_law_script"] (spM K 1 (m_law K c)) := by
 refine fnM (k := 4) F sc_law rfl (fun cdv A outer s H E hr => ⟨f_law K c, ?_, eq_law K c⟩)
 exact (dss_cons (ds_set (i := 1) sc_law.nd rfl (Or.inl rfl) (de_callC c__law_stir hr passS (da_cons (de_callC c__law_cell_at hr passS (da_cons (dv 0) (da_cons de_int da_nil))) (da_cons de_int da_nil)))) (dss_cons (ds_set (i := 2) sc_law.nd rfl (Or.inl rfl) (de_sl (dv 0) (dp_some de_int) (dp_some de_int))) (dss_cons (ds_set (i := 3) sc_law.nd rfl (Or.inr rfl) (de_callC c__law_places_by hr passS (da_cons (dv 2) (da_cons (dv 1) (da_cons (de_callB (call_max2 rfl) cm_mm2 noX_mm2 rfl B.max_ bB_max (da_cons (de_callB call_len_seq cm_len noX_len rfl B.len_ PySem.boot_len (da_cons (dv 2) da_nil)) (da_cons (de_op op_addA om_add noX_add de_int (de_op op_modN om_mod noX_intE (de_op op_fdivW om_fdiv noX_intE (dv 1) de_int) de_int)) da_nil))) da_nil))))) (dss_cons (ds_set (i := 4) sc_law.nd rfl (Or.inl rfl) (de_callTy call_list_of cm_list noX_list rfl B.list_ bT_list (da_cons (dv 3) da_nil))) (dss_cons (ds_set (i := 5) sc_law.nd rfl (Or.inl rfl) (de_callC c_area hr passS (da_cons (dv 4) da_nil))) (dss_cons (ds_set (i := 6) sc_law.nd rfl (Or.inr rfl) (de_callC c_hull hr passS (da_cons (dv 3) da_nil))) (dss_frz (f := (fun en => (mSeq (mSet 7 (mCallB sumE (mCons (mComp 1 [6] (mItA rng1R (mCons (mCallB lenE (mCons (mVar 6) mNil)) mNil)) (mgName 0) mYes (f_law_e5 K c)) mNil))) (mSeq (mIfS (mOr (mNot (mTru (mCall 1 (m__law_whole K c) (mCons (mVar 5) mNil)))) (mOr (mTru (mBin ltE (mVar 5) (mC (.int 0)))) (mOr (mTru (mBin (eqE true) (mVar 5) (mVar 7))) (mTru (mBin (eqE true) (mVar 4) (mVar 3)))))) (mRet (mC (.bool false))) mNext) (mSeq (mSet 8 (mComp 1 [3] (mItA rng1R (mCons (mC (.int 3)) mNil)) (mgName 0) mYes (f_law_e4 K c))) (mSeq (mIfS (mTru (mBin (eqE true) (mCall 1 (m_area K c) (mCons (mVar 8) mNil)) (mCallB absE (mCons (mCall 3 (m__law_turn K c) (mCons (mBin ixE (mVar 8) (mC (.int 0))) (mCons (mBin ixE (mVar 8) (mC (.int 1))) (mCons (mBin ixE (mVar 8) (mC (.int 2))) mNil)))) mNil)))) (mRet (mC (.bool false))) mNext) (mSeq (mSet 9 (mBin addE (mBin mulE (mC (.int 2)) (mBin powE (mC (.int 10)) (mC (.int 20)))) (mC (.int 1)))) (mSeq (mSet 10 (mBin subE (mBin modE (mCall 2 (m__law_stir K c) (mCons (mCall 2 (m__law_cell_at K c) (mCons (mVar 0) (mCons (mC (.int 1)) mNil))) (mCons (mC (.int 2)) mNil))) (mVar 9)) (mBin powE (mC (.int 10)) (mC (.int 20))))) (mSeq (mIfS (mTru (mBin (eqE false) (mBin modE (mBin fdivE (mVar 1) (mC (.int 160))) (mC (.int 2))) (mC (.int 1)))) (mSet 10 (mBin subE (mBin modE (mCall 2 (m__law_cell_at K c) (mCons (mVar 0) (mCons (mC (.int 1)) mNil))) (mC (.int 7))) (mC (.int 3)))) mNext) (mSeq (mSet 11 (mBin subE (mBin modE (mCall 2 (m__law_stir K c) (mCons (mCall 2 (m__law_cell_at K c) (mCons (mVar 0) (mCons (mC (.int 2)) mNil))) (mCons (mC (.int 3)) mNil))) (mVar 9)) (mBin powE (mC (.int 10)) (mC (.int 20))))) (mSeq (mSet 12 (mBin subE (mBin modE (mCall 2 (m__law_stir K c) (mCons (mCall 2 (m__law_cell_at K c) (mCons (mVar 0) (mCons (mC (.int 2)) mNil))) (mCons (mC (.int 4)) mNil))) (mVar 9)) (mBin powE (mC (.int 10)) (mC (.int 20))))) (mSeq (mSet 13 (mBin modE (mCall 2 (m__law_stir K c) (mCons (mCall 2 (m__law_cell_at K c) (mCons (mVar 0) (mCons (mC (.int 3)) mNil))) (mCons (mC (.int 5)) mNil))) (mC (.int 1000)))) (mSeq (mSet 14 (mComp 1 [10, 11, 12] (mItL (mVar 3)) (mgName 0) mYes (f_law_e3 K c))) (mSeq (mIfS (mOr (mTru (mBin (eqE true) (mCall 1 (m_area K c) (mCons (mVar 14) mNil)) (mVar 5))) (mTru (mBin (eqE true) (mCall 1 (m_area K c) (mCons (mComp 1 [] (mItL (mVar 3)) (mgName 0) mYes (f_law_e2 K c)) mNil)) (mVar 5)))) (mRet (mC (.bool false))) mNext) (mRet (mBin (eqE false) (mCall 1 (m_area K c) (mCons (mComp 1 [13] (mItL (mVar 3)) (mgName 0) mYes (f_law_e1 K c)) mNil)) (mBin mulE (mBin mulE (mVar 13) (mVar 13)) (mVar 5)))))))))))))))) (frz 3 en))) 6 (dss_frz (f := (mSeq (mSet 7 (mCallB sumE (mCons (mComp 1 [6] (mItA rng1R (mCons (mCallB lenE (mCons (mVar 6) mNil)) mNil)) (mgName 0) mYes (f_law_e5 K c)) mNil))) (mSeq (mIfS (mOr (mNot (mTru (mCall 1 (m__law_whole K c) (mCons (mVar 5) mNil)))) (mOr (mTru (mBin ltE (mVar 5) (mC (.int 0)))) (mOr (mTru (mBin (eqE true) (mVar 5) (mVar 7))) (mTru (mBin (eqE true) (mVar 4) (mVar 3)))))) (mRet (mC (.bool false))) mNext) (mSeq (mSet 8 (mComp 1 [3] (mItA rng1R (mCons (mC (.int 3)) mNil)) (mgName 0) mYes (f_law_e4 K c))) (mSeq (mIfS (mTru (mBin (eqE true) (mCall 1 (m_area K c) (mCons (mVar 8) mNil)) (mCallB absE (mCons (mCall 3 (m__law_turn K c) (mCons (mBin ixE (mVar 8) (mC (.int 0))) (mCons (mBin ixE (mVar 8) (mC (.int 1))) (mCons (mBin ixE (mVar 8) (mC (.int 2))) mNil)))) mNil)))) (mRet (mC (.bool false))) mNext) (mSeq (mSet 9 (mBin addE (mBin mulE (mC (.int 2)) (mBin powE (mC (.int 10)) (mC (.int 20)))) (mC (.int 1)))) (mSeq (mSet 10 (mBin subE (mBin modE (mCall 2 (m__law_stir K c) (mCons (mCall 2 (m__law_cell_at K c) (mCons (mVar 0) (mCons (mC (.int 1)) mNil))) (mCons (mC (.int 2)) mNil))) (mVar 9)) (mBin powE (mC (.int 10)) (mC (.int 20))))) (mSeq (mIfS (mTru (mBin (eqE false) (mBin modE (mBin fdivE (mVar 1) (mC (.int 160))) (mC (.int 2))) (mC (.int 1)))) (mSet 10 (mBin subE (mBin modE (mCall 2 (m__law_cell_at K c) (mCons (mVar 0) (mCons (mC (.int 1)) mNil))) (mC (.int 7))) (mC (.int 3)))) mNext) (mSeq (mSet 11 (mBin subE (mBin modE (mCall 2 (m__law_stir K c) (mCons (mCall 2 (m__law_cell_at K c) (mCons (mVar 0) (mCons (mC (.int 2)) mNil))) (mCons (mC (.int 3)) mNil))) (mVar 9)) (mBin powE (mC (.int 10)) (mC (.int 20))))) (mSeq (mSet 12 (mBin subE (mBin modE (mCall 2 (m__law_stir K c) (mCons (mCall 2 (m__law_cell_at K c) (mCons (mVar 0) (mCons (mC (.int 2)) mNil))) (mCons (mC (.int 4)) mNil))) (mVar 9)) (mBin powE (mC (.int 10)) (mC (.int 20))))) (mSeq (mSet 13 (mBin modE (mCall 2 (m__law_stir K c) (mCons (mCall 2 (m__law_cell_at K c) (mCons (mVar 0) (mCons (mC (.int 3)) mNil))) (mCons (mC (.int 5)) mNil))) (mC (.int 1000)))) (mSeq (mSet 14 (mComp 1 [10, 11, 12] (mItL (mVar 3)) (mgName 0) mYes (f_law_e3 K c))) (mSeq (mIfS (mOr (mTru (mBin (eqE true) (mCall 1 (m_area K c) (mCons (mVar 14) mNil)) (mVar 5))) (mTru (mBin (eqE true) (mCall 1 (m_area K c) (mCons (mComp 1 [] (mItL (mVar 3)) (mgName 0) mYes (f_law_e2 K c)) mNil)) (mVar 5)))) (mRet (mC (.bool false))) mNext) (mRet (mBin (eqE false) (mCall 1 (m_area K c) (mCons (mComp 1 [13] (mItL (mVar 3)) (mgName 0) mYes (f_law_e1 K c)) mNil)) (mBin mulE (mBin mulE (mVar 13) (mVar 13)) (mVar 5))))))))))))))))) 3 (dss_cons (ds_set (i := 7) sc_law.nd rfl (Or.inl rfl) (de_callB (call_sumL rfl rfl) cm_sum noX_sum rfl B.sum_ bB_sum (da_cons (de_comp (xs := ["_law_k"]) (ys := ["_law_ring"]) (js := [6]) (cl := [("_law_ring", s.heap.objs.size + 1 + 1)]) rfl (di_range1 rfl B.range_ (da_cons (de_callB call_len_seq cm_len noX_len rfl B.len_ PySem.boot_len (da_cons (dv 6) da_nil)) da_nil)) (cl_ok (ys := ["_law_ring"]) (js := [6]) rfl (List.forall_mem_cons.mpr ⟨rfl, (fun _ h => nomatch h)⟩) (cap_cons ⟨rfl, .inl rfl, .inl rfl, rfl, rfl⟩ cap_nil) (by decide +kernel) (by decide +kernel)) (cap_cons ⟨rfl, .inl rfl, .inl rfl, rfl, rfl⟩ cap_nil) (by decide +kernel) rfl (by decide +kernel) rfl (by decide) (fun C s₀ H₀ ex pn => (dg_name (i := 0) (show (["_law_k", "_law_ring"] : List Str).Nodup by decide +kernel) rfl (Or.inl rfl))) (fun C s₀ H₀ ex pn => dts_nil) (fun C s₀ H₀ ex pn => (de_callC c__law_turn hr passF (da_cons (de_ix (dv 1) de_int (fun _ _ => rfl)) (da_cons (de_ix (dv 1) (de_op op_sub om_sub noX_intE0 (dv 0) de_int) (fun _ _ => rfl)) (da_cons (de_ix (dv 1) (dv 0) (fun _ _ => rfl)) da_nil)))))) da_nil))) (dss_cons (ds_if (DW.t (dw_or (dt_not (dt_val (de_callC c__law_whole hr passS (da_cons (dv 5) da_nil)))) (dw_or (dt_cmp op_lt om_cmp noX_intE0 (dv 5) de_int (nomark _)) (dw_or (dt_cmp (op_neP (u64 hr)) om_eq noX_eq (dv 5) (dv 7) (nomark _)) (dw_or1 (dt_cmp (op_neP (u64 hr)) om_eq noX_eq (dv 4) (dv 3) (nomark _))))))) (dss_one (ds_ret de_bl)) dss_nil) (dss_cons (ds_setC (i := 8) sc_law.nd rfl (Or.inl rfl) (xs := ["_law_k"]) (ys := ["_law_places"]) (js := [3]) (cl := [("_law_places", s.heap.objs.size + 1)]) rfl (di_range1 rfl B.range_ (da_cons de_int da_nil)) (cl_ok (ys := ["_law_places"]) (js := [3]) rfl (List.forall_mem_cons.mpr ⟨rfl, (fun _ h => nomatch h)⟩) (cap_cons ⟨rfl, .inl rfl, .inl rfl, rfl, rfl⟩ cap_nil) (by decide +kernel) (by decide +kernel)) (cap_cons ⟨rfl, .inl rfl, .inl rfl, rfl, rfl⟩ cap_nil) (by decide +kernel) rfl (by decide +kernel) rfl (by decide) (fun C s₀ H₀ ex pn => (dg_name (i := 0) (show (["_law_k", "_law_places"] : List Str).Nodup by decide +kernel) rfl (Or.inl rfl))) (fun C s₀ H₀ ex pn => dts_nil) (fun C s₀ H₀ ex pn => (de_ix (dv 1) (de_op op_modN om_mod noX_intE (dv 0) (de_callB call_len_seq cm_len noX_len rfl B.len_ PySem.boot_len (da_cons (dv 1) da_nil))) (fun _ _ => rfl)))) (dss_cons (ds_if (dt_cmp (op_neP (u64 hr)) om_eq noX_eq (de_callC c_area hr passS (da_cons (dv 8) da_nil)) (de_callB call_abs cm_abs noX_abs rfl B.abs_ bB_abs (da_cons (de_callC c__law_turn hr passS (da_cons (de_ix (dv 8) de_int (fun _ _ => rfl)) (da_cons (de_ix (dv 8) de_int (fun _ _ => rfl)) (da_cons (de_ix (dv 8) de_int (fun _ _ => rfl)) da_nil)))) da_nil)) (nomark _)) (dss_one (ds_ret de_bl)) dss_nil) (dss_cons (ds_set (i := 9) sc_law.nd rfl (Or.inl rfl) (de_op op_addA om_add noX_add (de_op op_mulW om_mul noX_intE de_int (de_op op_pow om_pow noX_intE de_int de_int)) de_int)) (dss_cons (ds_set (i := 10) sc_law.nd rfl (Or.inr rfl) (de_op op_sub om_sub noX_intE0 (de_op op_modN om_mod noX_intE (de_callC c__law_stir hr passS (da_cons (de_callC c__law_cell_at hr passS (da_cons (dv 0) (da_cons de_int da_nil))) (da_cons de_int da_nil))) (dv 9)) (de_op op_pow om_pow noX_intE de_int de_int))) (dss_cons (ds_if (dt_cmp (op_eqP (u64 hr)) om_eq noX_eq (de_op op_modN om_mod noX_intE (de_op op_fdivW om_fdiv noX_intE (dv 1) de_int) de_int) de_int (nomark _)) (dss_one (ds_set (i := 10) sc_law.nd rfl (Or.inr rfl) (de_op op_sub om_sub noX_intE0 (de_op op_modN om_mod noX_intE (de_callC c__law_cell_at hr passS (da_cons (dv 0) (da_cons de_int da_nil))) de_int) de_int))) dss_nil) (dss_cons (ds_set (i := 11) sc_law.nd rfl (Or.inr rfl) (de_op op_sub om_sub noX_intE0 (de_op op_modN om_mod noX_intE (de_callC c__law_stir hr passS (da_cons (de_callC c__law_cell_at hr passS (da_cons (dv 0) (da_cons de_int da_nil))) (da_cons de_int da_nil))) (dv 9)) (de_op op_pow om_pow noX_intE de_int de_int))) (dss_cons (ds_set (i := 12) sc_law.nd rfl (Or.inr rfl) (de_op op_sub om_sub noX_intE0 (de_op op_modN om_mod noX_intE (de_callC c__law_stir hr passS (da_cons (de_callC c__law_cell_at hr passS (da_cons (dv 0) (da_cons de_int da_nil))) (da_cons de_int da_nil))) (dv 9)) (de_op op_pow om_pow noX_intE de_int de_int))) (dss_cons (ds_set (i := 13) sc_law.nd rfl (Or.inr rfl) (de_op op_modN om_mod noX_intE (de_callC c__law_stir hr passS (da_cons (de_callC c__law_cell_at hr passS (da_cons (dv 0) (da_cons de_int da_nil))) (da_cons de_int da_nil))) de_int)) (dss_cons (ds_setC (i := 14) sc_law.nd rfl (Or.inl rfl) (xs := ["_law_place"]) (ys := ["_law_by", "_law_x", "_law_y"]) (js := [10, 11, 12]) (cl := [("_law_y", s.heap.objs.size + 1 + 1 + 1 + 1 + 1), ("_law_x", s.heap.objs.size + 1 + 1 + 1 + 1), ("_law_by", s.heap.objs.size + 1 + 1 + 1)]) rfl (di_list (dv 3)) (cl_ok (ys := ["_law_by", "_law_x", "_law_y"]) (js := [10, 11, 12]) rfl (List.forall_mem_cons.mpr ⟨rfl, (List.forall_mem_cons.mpr ⟨rfl, (List.forall_mem_cons.mpr ⟨rfl, (fun _ h => nomatch h)⟩)⟩)⟩) (cap_cons ⟨rfl, .inl rfl, .inl rfl, rfl, rfl⟩ (cap_cons ⟨rfl, .inl rfl, .inl rfl, rfl, rfl⟩ (cap_cons ⟨rfl, .inl rfl, .inl rfl, rfl, rfl⟩ cap_nil))) (by decide +kernel) (by decide +kernel)) (cap_cons ⟨rfl, .inl rfl, .inl rfl, rfl, rfl⟩ (cap_cons ⟨rfl, .inl rfl, .inl rfl, rfl, rfl⟩ (cap_cons ⟨rfl, .inl rfl, .inl rfl, rfl, rfl⟩ cap_nil))) (by decide +kernel) rfl (by decide +kernel) rfl (by decide) (fun C s₀ H₀ ex pn => (dg_name (i := 0) (show (["_law_place", "_law_by", "_law_x", "_law_y"] : List Str).Nodup by decide +kernel) rfl (Or.inl rfl))) (fun C s₀ H₀ ex pn => dts_nil) (fun C s₀ H₀ ex pn => (de_tup (da_cons (de_op op_addA om_add noX_add (de_op op_addA om_add noX_add (de_ix (dv 0) de_int (fun _ _ => rfl)) (de_op op_mulW om_mul noX_intE (dv 1) (de_ix (dv 0) de_int (fun _ _ => rfl)))) (dv 2)) (da_cons (de_op op_addA om_add noX_add (de_ix (dv 0) de_int (fun _ _ => rfl)) (dv 3)) da_nil))))) (dss_cons (ds_if (DW.t (dw_or (dt_cmp (op_neP (u64 hr)) om_eq noX_eq (de_callC c_area hr passS (da_cons (dv 14) da_nil)) (dv 5) (nomark _)) (dw_or1 (dt_cmp (op_neP (u64 hr)) om_eq noX_eq (de_callC c_area hr passS (da_cons (de_comp (xs := ["_law_place"]) (ys := []) (js := []) (cl := []) rfl (di_list (dv 3)) (cl_ok (ys := []) (js := []) rfl (fun _ h => nomatch h) cap_nil (by decide +kernel) (by decide +kernel)) cap_nil (by decide +kernel) rfl (by decide +kernel) rfl (by decide) (fun C s₀ H₀ ex pn => (dg_name (i := 0) (show (["_law_place"] : List Str).Nodup by decide +kernel) rfl (Or.inl rfl))) (fun C s₀ H₀ ex pn => dts_nil) (fun C s₀ H₀ ex pn => (de_tup (da_cons (de_ix (dv 0) de_int (fun _ _ => rfl)) (da_cons (de_ix (dv 0) de_int (fun _ _ => rfl)) da_nil))))) da_nil)) (dv 5) (nomark _))))) (dss_one (ds_ret de_bl)) dss_nil) (dss_one (ds_ret (de_cmp (op_eqP (u64 hr)) om_eq noX_eq (de_callC c_area hr passS (da_cons (de_comp (xs := ["_law_place"]) (ys := ["_law_factor"]) (js := [13]) (cl := [("_law_factor", s.heap.objs.size + 1 + 1 + 1 + 1 + 1 + 1)]) rfl (di_list (dv 3)) (cl_ok (ys := ["_law_factor"]) (js := [13]) rfl (List.forall_mem_cons.mpr ⟨rfl, (fun _ h => nomatch h)⟩) (cap_cons ⟨rfl, .inl rfl, .inl rfl, rfl, rfl⟩ cap_nil) (by decide +kernel) (by decide +kernel)) (cap_cons ⟨rfl, .inl rfl, .inl rfl, rfl, rfl⟩ cap_nil) (by decide +kernel) rfl (by decide +kernel) rfl (by decide) (fun C s₀ H₀ ex pn => (dg_name (i := 0) (show (["_law_place", "_law_factor"] : List Str).Nodup by decide +kernel) rfl (Or.inl rfl))) (fun C s₀ H₀ ex pn => dts_nil) (fun C s₀ H₀ ex pn => (de_tup (da_cons (de_op op_mulW om_mul noX_intE (dv 1) (de_ix (dv 0) de_int (fun _ _ => rfl))) (da_cons (de_op op_mulW om_mul noX_intE (dv 1) (de_ix (dv 0) de_int (fun _ _ => rfl))) da_nil))))) da_nil)) (de_op op_mulW om_mul noX_intE (de_op op_mulW om_mul noX_intE (dv 13) (dv 13)) (dv 5)) (nomark _))))))))))))))))))))))))
end
section
variable {P : Program} {w : World} {K : PySem.W.Frag} {mg : Str → Option Value} {base : Heap}
theorem sc__law_places_by : FnScope ["_law_cells", "_law_kind", "_law_count", "_law_found", "_law_k", "_law_c", "_law_x"] ["_law_cells", "_law_kind", "_law_count"] (defScope s__law_places_by) := ⟨rfl, rfl, rfl, by decide +kernel, rfl, by decide +kernel, by decide +kernel⟩
theorem ok__law_places_by {c : Cls} (Df : Def K mg "_law_places_by" ["_law_cells", "_law_kind", "_law_count"] s__law_places_by) (B : Blt mg) (C : ClsM mg c) (O : ClsO mg base c) (hk : KitF K c) (c__law_stir : Cal P w K mg base 1 "_law_stir" 2 (m__law_stir K c)) (c__law_cell_at : Cal P w K mg base 1 "_law_cell_at" 2 (m__law_cell_at K c)) : Cal P w K mg base 2 "_law_places_by" 3 (m__law_places_by K c) := by
 refine calM (k := 1) Df sc__law_places_by rfl (fun f cdv A outer s H E hr => ⟨f__law_places_by K c, ?_, eq__law_places_by K c⟩)
 exact (dss_cons (ds_set (i := 3) sc__law_places_by.nd rfl (Or.inl rfl) (de_lst da_nil)) (dss_cons (ds_for PassesOwn.leaving rfl (di_range1 rfl B.range_ (da_cons (dv 2) da_nil)) (dg_name (i := 4) sc__law_places_by.nd rfl (Or.inl rfl)) (dss_cons (ds_set (i := 5) sc__law_places_by.nd rfl (Or.inl rfl) (de_callC c__law_stir hr passS (da_cons (de_callC c__law_cell_at hr passS (da_cons (dv 0) (da_cons (dv 4) da_nil))) (da_cons (dv 4) da_nil)))) (dss_one (ds_if (dt_cmp (op_eqP (u64 hr)) om_eq noX_eq (de_op op_modN om_mod noX_intE (dv 1) de_int) de_int (nomark _)) (dss_cons (ds_set (i := 6) sc__law_places_by.nd rfl (Or.inl rfl) (de_op op_sub om_sub noX_intE0 (de_op op_modN om_mod noX_intE (dv 5) (de_op op_addA om_add noX_add (de_op op_mulW om_mul noX_intE de_int (de_op op_pow om_pow noX_intE de_int de_int)) de_int)) (de_op op_pow om_pow noX_intE de_int de_int))) (dss_one (ds_append (i := 3) (de_tup (da_cons (dv 6) (da_cons (de_op op_sub om_sub noX_intE0 (de_op op_modN om_mod noX_intE (de_op op_fdivW om_fdiv noX_intE (dv 5) (de_op op_pow om_pow noX_intE de_int de_int)) (de_op op_addA om_add noX_add (de_op op_mulW om_mul noX_intE de_int (de_op op_pow om_pow noX_intE de_int de_int)) de_int)) (de_op op_pow om_pow noX_intE de_int de_int)) da_nil))) (fun t q => ps_expr (pe_bm PySem.F.plainAttrs_list PySem.F.slot_list_append PySem.F.type_list_append mt_append (pv 3) (pa_cons q pa_nil)))))) (dss_one (ds_if (dt_cmp (op_eqP (u64 hr)) om_eq noX_eq (de_op op_modN om_mod noX_intE (dv 1) de_int) de_int (nomark _)) (dss_one (ds_append (i := 3) (de_tup (da_cons (de_op op_sub om_sub noX_intE0 (de_op op_mulW om_mul noX_intE de_int (de_op op_modN om_mod noX_intE (dv 5) de_int)) de_int) (da_cons (de_op op_sub om_sub noX_intE0 de_int (de_op op_mulW om_mul noX_intE de_int (de_op op_modN om_mod noX_intE (dv 5) de_int))) da_nil))) (fun t q => ps_expr (pe_bm PySem.F.plainAttrs_list PySem.F.slot_list_append PySem.F.type_list_append mt_append (pv 3) (pa_cons q pa_nil))))) (dss_one (ds_append (i := 3) (de_tup (da_cons (de_op op_sub om_sub noX_intE0 (de_op op_modN om_mod noX_intE (dv 5) de_int) de_int) (da_cons (de_op op_sub om_sub noX_intE0 (de_op op_modN om_mod noX_intE (de_op op_fdivW om_fdiv noX_intE (dv 5) de_int) de_int) de_int) da_nil))) (fun t q => ps_expr (pe_bm PySem.F.plainAttrs_list PySem.F.slot_list_append PySem.F.type_list_append mt_append (pv 3) (pa_cons q pa_nil))))))))))) (dss_one (ds_ret (dv 3)))))
end
section
variable {P : Program} {w : World} {K : PySem.W.Frag} {mg : Str → Option Value} {base : Heap}
theorem sc_area : FnScope ["slopes", "around"] ["slopes"] (defScope s_area) := ⟨rfl, rfl, rfl, by decide +kernel, rfl, by decide +kernel, by decide +kernel⟩
theorem ok_area {c : Cls} (Df : Def K mg "area" ["slopes"] s_area) (B : Blt mg) (C : ClsM mg c) (O : ClsO mg base c) (hk : KitF K c) (c_turn : Cal P w K mg base 1 "turn" 3 (m_turn K c)) (c_hull : Cal P w K mg base 3 "hull" 1 (m_hull K c)) : Cal P w K mg base 4 "area" 1 (m_area K c) := by
 refine calM (k := 3) Df sc_area rfl (fun f cdv A outer s H E hr => ⟨f_area K c, ?_, eq_area K c⟩)
 exact (dss_cons (ds_set (i := 1) sc_area.nd rfl (Or.inr rfl) (de_callC c_hull hr passS (da_cons (dv 0) da_nil))) (dss_frz 1 (dss_one (ds_ret (de_callB (call_sumL rfl rfl) cm_sum noX_sum rfl B.sum_ bB_sum (da_cons (de_comp (xs := ["k"]) (ys := ["around"]) (js := [1]) (cl := [("around", s.heap.objs.size + 1)]) rfl (di_range1 rfl B.range_ (da_cons (de_callB call_len_seq cm_len noX_len rfl B.len_ PySem.boot_len (da_cons (dv 1) da_nil)) da_nil)) (cl_ok (ys := ["around"]) (js := [1]) rfl (List.forall_mem_cons.mpr ⟨rfl, (fun _ h => nomatch h)⟩) (cap_cons ⟨rfl, .inl rfl, .inl rfl, rfl, rfl⟩ cap_nil) (by decide +kernel) (by decide +kernel)) (cap_cons ⟨rfl, .inl rfl, .inl rfl, rfl, rfl⟩ cap_nil) (by decide +kernel) rfl (by decide +kernel) rfl (by decide) (fun C s₀ H₀ ex pn => (dg_name (i := 0) (show (["k", "around"] : List Str).Nodup by decide +kernel) rfl (Or.inl rfl))) (fun C s₀ H₀ ex pn => dts_nil) (fun C s₀ H₀ ex pn => (de_callC c_turn hr passF (da_cons (de_tup (da_cons de_int (da_cons de_int da_nil))) (da_cons (de_ix (dv 1) (de_op op_sub om_sub noX_intE0 (dv 0) de_int) (fun _ _ => rfl)) (da_cons (de_ix (dv 1) (dv 0) (fun _ _ => rfl)) da_nil)))))) da_nil))))))
end
section
variable {P : Program} {w : World} {K : PySem.W.Frag} {mg : Str → Option Value} {base : Heap}
theorem sc__law_stir : FnScope ["_law_cell", "_law_k", "_law_c", "_law_low"] ["_law_cell", "_law_k"] (defScope s__law_stir) := ⟨rfl, rfl, rfl, by decide +kernel, rfl, by decide +kernel, by decide +kernel⟩
theorem ok__law_stir {c : Cls} (Df : Def K mg "_law_stir" ["_law_cell", "_law_k"] s__law_stir) (B : Blt mg) (C : ClsM mg c) (O : ClsO mg base c) (hk : KitF K c) : Cal P w K mg base 1 "_law_stir" 2 (m__law_stir K c) := by
 refine calM (k := 0) Df sc__law_stir rfl (fun f cdv A outer s H E hr => ⟨f__law_stir K c, ?_, eq__law_stir K c⟩)
 exact (dss_cons (ds_set (i := 2) sc__law_stir.nd rfl (Or.inl rfl) (de_op op_addA om_add noX_add (de_op op_addA om_add noX_add (de_op op_addA om_add noX_add (de_op op_modN om_mod noX_intE (dv 0) (de_op op_pow om_pow noX_intE de_int de_int)) de_int) (de_op op_mulX om_mulX noX_intE de_int (dv 1))) (de_op op_mulX om_mulX noX_intE (de_op op_mulX om_mulX noX_intE de_int (dv 1)) (dv 1)))) (dss_cons (ds_set (i := 3) sc__law_stir.nd rfl (Or.inl rfl) (de_op op_modN om_mod noX_intE (de_op op_mulX om_mulX noX_intE (de_op op_modN om_mod noX_intE (de_op op_mulX om_mulX noX_intE (dv 2) de_int) de_int) de_int) de_int)) (dss_one (ds_ret (de_op op_addA om_add noX_add (dv 3) (de_op op_mulX om_mulX noX_intE de_int (de_op op_modN om_mod noX_intE (de_op op_mulX om_mulX noX_intE (de_op op_mulX om_mulX noX_intE (dv 2) (dv 3)) de_int) (de_op op_addA om_add noX_add (de_op op_pow om_pow noX_intE de_int de_int) de_int))))))))
end
section
variable {P : Program} {w : World} {K : PySem.W.Frag} {mg : Str → Option Value} {base : Heap}
theorem sc_chain : FnScope ["points", "kept", "point"] ["points"] (defScope s_chain) := ⟨rfl, rfl, rfl, by decide +kernel, rfl, by decide +kernel, by decide +kernel⟩
theorem ok_chain {c : Cls} (Df : Def K mg "chain" ["points"] s_chain) (B : Blt mg) (C : ClsM mg c) (O : ClsO mg base c) (hk : KitF K c) (c_turn : Cal P w K mg base 1 "turn" 3 (m_turn K c)) : Cal P w K mg base 2 "chain" 1 (m_chain K c) := by
 refine calM (k := 1) Df sc_chain rfl (fun f cdv A outer s H E hr => ⟨f_chain K c, ?_, eq_chain K c⟩)
 exact (dss_cons (ds_set (i := 1) sc_chain.nd rfl (Or.inl rfl) (de_lst da_nil)) (dss_cons (ds_for PassesOwn.leaving rfl (di_list (dv 0)) (dg_name (i := 2) sc_chain.nd rfl (Or.inl rfl)) (dss_cons (ds_while PassesOwn.leaving (DW.t (dw_and (dt_cmp op_gt om_cmp noX_intE0 (de_callB call_len_seq cm_len noX_len rfl B.len_ PySem.boot_len (da_cons (dv 1) da_nil)) de_int (nomark _)) (dw_and1 (dt_cmp op_le om_cmp noX_intE0 (de_callC c_turn hr passS (da_cons (de_ix (dv 1) (de_neg de_int) (fun _ _ => rfl)) (da_cons (de_ix (dv 1) (de_neg de_int) (fun _ _ => rfl)) (da_cons (dv 2) da_nil)))) de_int (nomark _))))) (dss_one (ds_pop (i := 1) (ps_expr (pe_bm0 PySem.F.plainAttrs_list PySem.F.slot_list_pop PySem.F.type_list_pop mt_pop (pv 1)))))) (dss_one (ds_append (i := 1) (dv 2) (fun t q => ps_expr (pe_bm PySem.F.plainAttrs_list PySem.F.slot_list_append PySem.F.type_list_append mt_append (pv 1) (pa_cons q pa_nil))))))) (dss_one (ds_ret (dv 1)))))
theorem sc__law_whole : FnScope ["_law_found"] ["_law_found"] (defScope s__law_whole) := ⟨rfl, rfl, rfl, by decide +kernel, rfl, by decide +kernel, by decide +kernel⟩
theorem ok__law_whole {c : Cls} (Df : Def K mg "_law_whole" ["_law_found"] s__law_whole) (B : Blt mg) (C : ClsM mg c) (O : ClsO mg base c) (hk : KitF K c) : Cal P w K mg base 1 "_law_whole" 1 (m__law_whole K c) := by
 refine calM (k := 0) Df sc__law_whole rfl (fun f cdv A outer s H E hr => ⟨f__law_whole K c, ?_, eq__law_whole K c hk⟩)
 exact (dss_one (ds_ret (de_and (de_isi (cv := .type "int") rfl B.isinstance_ (.inl ⟨_, rfl⟩) rfl (dv 0) (pe_bltn (v := .ty "int") rfl B.int_ bT_int rfl)) (de_one (de_not (de_isi (cv := .type "bool") rfl B.isinstance_ (.inl ⟨_, rfl⟩) rfl (dv 0) (pe_bltn (v := .ty "bool") rfl B.bool_ bT_bool rfl)))))))
end
section
variable {P : Program} {w : World} {K : PySem.W.Frag} {mg : Str → Option Value} {base : Heap}
theorem sc_hull : FnScope ["slopes", "rows", "there", "back"] ["slopes"] (defScope s_hull) := ⟨rfl, rfl, rfl, by decide +kernel, rfl, by decide +kernel, by decide +kernel⟩
theorem ok_hull {c : Cls} (Df : Def K mg "hull" ["slopes"] s_hull) (B : Blt mg) (C : ClsM mg c) (O : ClsO mg base c) (hk : KitF K c) (c_chain : Cal P w K mg base 2 "chain" 1 (m_chain K c)) : Cal P w K mg base 3 "hull" 1 (m_hull K c) := by
 refine calM (k := 2) Df sc_hull rfl (fun f cdv A outer s H E hr => ⟨f_hull K c, ?_, eq_hull K c⟩)
 exact (dss_cons (ds_set (i := 1) sc_hull.nd rfl (Or.inl rfl) (de_sortset rfl (u64 hr) rfl B.sorted_ rfl B.set_ (dv 0))) (dss_cons (ds_if (dt_cmp (op_eqP (u64 hr)) om_eq noX_eq (de_callB call_len_seq cm_len noX_len rfl B.len_ PySem.boot_len (da_cons (dv 1) da_nil)) de_int (nomark _)) (dss_one (ds_ret (dv 1))) dss_nil) (dss_cons (ds_set (i := 2) sc_hull.nd rfl (Or.inl rfl) (de_callC c_chain hr passS (da_cons (dv 1) da_nil))) (dss_cons (ds_set (i := 3) sc_hull.nd rfl (Or.inl rfl) (de_callC c_chain hr passS (da_cons (de_listrev rfl rfl B.list_ rfl B.reversed_ (dv 1)) da_nil))) (dss_one (ds_ret (de_op op_addA om_add noX_add (de_sl (dv 2) dp_none (dp_some (de_neg de_int))) (de_sl (dv 3) dp_none (dp_some (de_neg de_int))))))))))
theorem sc__law_cell_at : FnScope ["_law_script", "_law_k"] ["_law_script", "_law_k"] (defScope s__law_cell_at) := ⟨rfl, rfl, rfl, by decide +kernel, rfl, by decide +kernel, by decide +kernel⟩
theorem ok__law_cell_at {c : Cls} (Df : Def K mg "_law_cell_at" ["_law_script", "_law_k"] s__law_cell_at) (B : Blt mg) (C : ClsM mg c) (O : ClsO mg base c) (hk : KitF K c) : Cal P w K mg base 1 "_law_cell_at" 2 (m__law_cell_at K c) := by
 refine calM (k := 0) Df sc__law_cell_at rfl (fun f cdv A outer s H E hr => ⟨f__law_cell_at K c, ?_, eq__law_cell_at K c⟩)
 exact (dss_cons (ds_if (dt_cmp op_lt om_cmp noX_intE0 (dv 1) (de_callB call_len_seq cm_len noX_len rfl B.len_ PySem.boot_len (da_cons (dv 0) da_nil)) (nomark _)) (dss_one (ds_ret (de_ix (dv 0) (dv 1) (fun _ _ => rfl)))) dss_nil) (dss_one (ds_ret de_int)))
end
section
variable {P : Program} {w : World} {K : PySem.W.Frag} {mg : Str → Option Value} {base : Heap}
theorem sc_turn : FnScope ["start", "middle", "end", "along", "across"] ["start", "middle", "end"] (defScope s_turn) := ⟨rfl, rfl, rfl, by decide +kernel, rfl, by decide +kernel, by decide +kernel⟩
theorem ok_turn {c : Cls} (Df : Def K mg "turn" ["start", "middle", "end"] s_turn) (B : Blt mg) (C : ClsM mg c) (O : ClsO mg base c) (hk : KitF K c) : Cal P w K mg base 1 "turn" 3 (m_turn K c) := by
 refine calM (k := 0) Df sc_turn rfl (fun f cdv A outer s H E hr => ⟨f_turn K c, ?_, eq_turn K c⟩)
 exact (dss_cons (ds_set (i := 3) sc_turn.nd rfl (Or.inl rfl) (de_op op_mulW om_mul noX_intE (de_op op_sub om_sub noX_intE0 (de_ix (dv 1) de_int (fun _ _ => rfl)) (de_ix (dv 0) de_int (fun _ _ => rfl))) (de_op op_sub om_sub noX_intE0 (de_ix (dv 2) de_int (fun _ _ => rfl)) (de_ix (dv 0) de_int (fun _ _ => rfl))))) (dss_cons (ds_set (i := 4) sc_turn.nd rfl (Or.inl rfl) (de_op op_mulW om_mul noX_intE (de_op op_sub om_sub noX_intE0 (de_ix (dv 1) de_int (fun _ _ => rfl)) (de_ix (dv 0) de_int (fun _ _ => rfl))) (de_op op_sub om_sub noX_intE0 (de_ix (dv 2) de_int (fun _ _ => rfl)) (de_ix (dv 0) de_int (fun _ _ => rfl))))) (dss_one (ds_ret (de_op op_sub om_sub noX_intE0 (dv 3) (dv 4))))))
theorem sc__law_turn : FnScope ["_law_one", "_law_far", "_law_place", "_law_here"] ["_law_one", "_law_far", "_law_place"] (defScope s__law_turn) := ⟨rfl, rfl, rfl, by decide +kernel, rfl, by decide +kernel, by decide +kernel⟩
theorem ok__law_turn {c : Cls} (Df : Def K mg "_law_turn" ["_law_one", "_law_far", "_law_place"] s__law_turn) (B : Blt mg) (C : ClsM mg c) (O : ClsO mg base c) (hk : KitF K c) : Cal P w K mg base 1 "_law_turn" 3 (m__law_turn K c) := by
 refine calM (k := 0) Df sc__law_turn rfl (fun f cdv A outer s H E hr => ⟨f__law_turn K c, ?_, eq__law_turn K c⟩)
 exact (dss_cons (ds_set (i := 3) sc__law_turn.nd rfl (Or.inl rfl) (de_op op_mulW om_mul noX_intE (de_op op_sub om_sub noX_intE0 (de_ix (dv 1) de_int (fun _ _ => rfl)) (de_ix (dv 0) de_int (fun _ _ => rfl))) (de_op op_sub om_sub noX_intE0 (de_ix (dv 2) de_int (fun _ _ => rfl)) (de_ix (dv 0) de_int (fun _ _ => rfl))))) (dss_one (ds_ret (de_op op_sub om_sub noX_intE0 (dv 3) (de_op op_mulW om_mul noX_intE (de_op op_sub om_sub noX_intE0 (de_ix (dv 1) de_int (fun _ _ => rfl)) (de_ix (dv 0) de_int (fun _ _ => rfl))) (de_op op_sub om_sub noX_intE0 (de_ix (dv 2) de_int (fun _ _ => rfl)) (de_ix (dv 0) de_int (fun _ _ => rfl))))))))
end
theorem len_1 {α : Type} {us : List α} (h : us.length = 1) : ∃ a, us = [a] := List.length_eq_one_iff.mp h
theorem len_2 {α : Type} {us : List α} (h : us.length = 2) : ∃ a b, us = [a, b] := by
 cases us with
 | nil => cases h
 | cons a r => obtain ⟨b, rfl⟩ := len_1 (Nat.succ.inj h); exact ⟨a, b, rfl⟩
theorem len_3 {α : Type} {us : List α} (h : us.length = 3) : ∃ a b c, us = [a, b, c] := by
 cases us with
 | nil => cases h
 | cons a r => obtain ⟨b, c, rfl⟩ := len_2 (Nat.succ.inj h); exact ⟨a, b, c, rfl⟩
def noLists (K : PySem.W.Frag) : Bool := K.all fun p => match p.2.cls with
 | .type n => !(n == "list")
 | _ => true
theorem lookup_mem {a : Addr} {o : Obj} : ∀ {l : List (Addr × Obj)}, l.lookup a = some o → (a, o) ∈ l
 | (k, v) :: r, h => by
  unfold List.lookup at h
  split at h
  ·rename_i z
   have e : a = k := by simpa using z
   cases h
   rw [e]
   exact .head _
  ·exact .tail _ (lookup_mem h)
theorem noLists_no {K : PySem.W.Frag} (h : noLists K = true) {a : Addr} {o : Obj} (e : K.lookup a = some o) (hc : o.cls = .type "list") : False := by
 have := List.all_eq_true.mp h (a, o) (lookup_mem e)
 dsimp only at this
 rw [hc] at this
 cases this
def spLaw : Sp := fun vs H Q _ => ∃ (a : Addr) (ns : List Int), vs = [.ref a] ∧ Rd H a (.lst (ns.map V.int)) ∧ ns.length ≤ 63 ∧ ∀ H', Q (.bl true) H'
theorem reps_ints {K : PySem.W.Frag} {G : Hp} : ∀ ns : List Int, Reps K G (ns.map V.int) (ns.map PyData.int)
 | [] => .nil
 | i :: r => .cons (.int i) (reps_ints r)
theorem law_sp {P : Program} {w : World} {K : PySem.W.Frag} {mg : Str → Option Value} {base : Heap} {f : Addr} {fd : FuncData} {c : Cls} (hk : KitF K c) (F : FnOk P w K mg base (CXr P w) 5 f fd ["_law_script"] (spM K 1 (m_law K c))) : FnOk P w K mg base (CXr P w) 5 f fd ["_law_script"] spLaw :=
 F.imp fun vs H Q E h => by
  obtain ⟨a, ns, rfl, rd, hl, hq⟩ := h
  refine ⟨rfl, H, [.p (.list (ns.map .int))], Same.refl _, ⟨.lst rd (reps_ints ns), trivial⟩, ?_⟩
  rw [law_ok K c hk ns hl]
  intro G' H' v st r
  cases r
  exact hq H'
theorem all_mk {l : PySem.W.OpenLaw} {w : World} {K : PySem.W.Frag} {h : Heap} {mg : Str → Option Value} {fa : Addr} {f1 f2 f3 f4 f5 f6 f7 f8 f9 f10  : Addr} (X : K.In h) (G : h.Ns mainGlobals mg) (hfa : mg "law" = some (.ref fa))
  {od1 an1 od2 an2 od3 an3 od4 an4 od5 an5 od6 an6 od7 an7 od8 an8 od9 an9 od10 an10 : Option Addr} {sl1 sl2 sl3 sl4 sl5 sl6 sl7 sl8 sl9 sl10 : Array (Option Value)} {oc1 kV1 dc1 pm1 cd1 ct1 oc2 kV2 dc2 pm2 cd2 ct2 oc3 kV3 dc3 pm3 cd3 ct3 oc4 kV4 dc4 pm4 cd4 ct4 oc5 kV5 dc5 pm5 cd5 ct5 oc6 kV6 dc6 pm6 cd6 ct6 oc7 kV7 dc7 pm7 cd7 ct7 oc8 kV8 dc8 pm8 cd8 ct8 oc9 kV9 dc9 pm9 cd9 ct9 oc10 kV10 dc10 pm10 cd10 ct10 : Value}
  (a1 : PySem.W.nsIn K mainGlobals "turn" = some (some (.ref f1)))
  (l1 : K.lookup f1 = some ⟨oc1, od1, .func (PySem.W.fnOf "turn" "turn" (defArgs s_turn) (defBody s_turn) (defScope s_turn) .none kV1 dc1 pm1 an1 cd1 ct1), sl1⟩)
  (c1 : PySem.W.codeIn K cd1 "turn" = true)
  (k1 : PySem.W.keepIn K (.ref f1) = true)
  (a2 : PySem.W.nsIn K mainGlobals "chain" = some (some (.ref f2)))
  (l2 : K.lookup f2 = some ⟨oc2, od2, .func (PySem.W.fnOf "chain" "chain" (defArgs s_chain) (defBody s_chain) (defScope s_chain) .none kV2 dc2 pm2 an2 cd2 ct2), sl2⟩)
  (c2 : PySem.W.codeIn K cd2 "chain" = true)
  (k2 : PySem.W.keepIn K (.ref f2) = true)
  (a3 : PySem.W.nsIn K mainGlobals "hull" = some (some (.ref f3)))
  (l3 : K.lookup f3 = some ⟨oc3, od3, .func (PySem.W.fnOf "hull" "hull" (defArgs s_hull) (defBody s_hull) (defScope s_hull) .none kV3 dc3 pm3 an3 cd3 ct3), sl3⟩)
  (c3 : PySem.W.codeIn K cd3 "hull" = true)
  (k3 : PySem.W.keepIn K (.ref f3) = true)
  (a4 : PySem.W.nsIn K mainGlobals "area" = some (some (.ref f4)))
  (l4 : K.lookup f4 = some ⟨oc4, od4, .func (PySem.W.fnOf "area" "area" (defArgs s_area) (defBody s_area) (defScope s_area) .none kV4 dc4 pm4 an4 cd4 ct4), sl4⟩)
  (c4 : PySem.W.codeIn K cd4 "area" = true)
  (k4 : PySem.W.keepIn K (.ref f4) = true)
  (a5 : PySem.W.nsIn K mainGlobals "_law_cell_at" = some (some (.ref f5)))
  (l5 : K.lookup f5 = some ⟨oc5, od5, .func (PySem.W.fnOf "_law_cell_at" "_law_cell_at" (defArgs s__law_cell_at) (defBody s__law_cell_at) (defScope s__law_cell_at) .none kV5 dc5 pm5 an5 cd5 ct5), sl5⟩)
  (c5 : PySem.W.codeIn K cd5 "_law_cell_at" = true)
  (k5 : PySem.W.keepIn K (.ref f5) = true)
  (a6 : PySem.W.nsIn K mainGlobals "_law_stir" = some (some (.ref f6)))
  (l6 : K.lookup f6 = some ⟨oc6, od6, .func (PySem.W.fnOf "_law_stir" "_law_stir" (defArgs s__law_stir) (defBody s__law_stir) (defScope s__law_stir) .none kV6 dc6 pm6 an6 cd6 ct6), sl6⟩)
  (c6 : PySem.W.codeIn K cd6 "_law_stir" = true)
  (k6 : PySem.W.keepIn K (.ref f6) = true)
  (a7 : PySem.W.nsIn K mainGlobals "_law_whole" = some (some (.ref f7)))
  (l7 : K.lookup f7 = some ⟨oc7, od7, .func (PySem.W.fnOf "_law_whole" "_law_whole" (defArgs s__law_whole) (defBody s__law_whole) (defScope s__law_whole) .none kV7 dc7 pm7 an7 cd7 ct7), sl7⟩)
  (c7 : PySem.W.codeIn K cd7 "_law_whole" = true)
  (k7 : PySem.W.keepIn K (.ref f7) = true)
  (a8 : PySem.W.nsIn K mainGlobals "_law_turn" = some (some (.ref f8)))
  (l8 : K.lookup f8 = some ⟨oc8, od8, .func (PySem.W.fnOf "_law_turn" "_law_turn" (defArgs s__law_turn) (defBody s__law_turn) (defScope s__law_turn) .none kV8 dc8 pm8 an8 cd8 ct8), sl8⟩)
  (c8 : PySem.W.codeIn K cd8 "_law_turn" = true)
  (k8 : PySem.W.keepIn K (.ref f8) = true)
  (a9 : PySem.W.nsIn K mainGlobals "_law_places_by" = some (some (.ref f9)))
  (l9 : K.lookup f9 = some ⟨oc9, od9, .func (PySem.W.fnOf "_law_places_by" "_law_places_by" (defArgs s__law_places_by) (defBody s__law_places_by) (defScope s__law_places_by) .none kV9 dc9 pm9 an9 cd9 ct9), sl9⟩)
  (c9 : PySem.W.codeIn K cd9 "_law_places_by" = true)
  (k9 : PySem.W.keepIn K (.ref f9) = true)
  (a10 : PySem.W.nsIn K mainGlobals "law" = some (some (.ref f10)))
  (l10 : K.lookup f10 = some ⟨oc10, od10, .func (PySem.W.fnOf "law" "law" (defArgs s_law) (defBody s_law) (defScope s_law) .none kV10 dc10 pm10 an10 cd10 ct10), sl10⟩)
  (c10 : PySem.W.codeIn K cd10 "law" = true)
  (k10 : PySem.W.keepIn K (.ref f10) = true)
  (z0 : PySem.W.nsIn K mainGlobals "abs" = some none)
  (z1 : PySem.W.nsIn K mainGlobals "bool" = some none)
  (z2 : PySem.W.nsIn K mainGlobals "int" = some none)
  (z3 : PySem.W.nsIn K mainGlobals "isinstance" = some none)
  (z4 : PySem.W.nsIn K mainGlobals "len" = some none)
  (z5 : PySem.W.nsIn K mainGlobals "list" = some none)
  (z6 : PySem.W.nsIn K mainGlobals "max" = some none)
  (z7 : PySem.W.nsIn K mainGlobals "range" = some none)
  (z8 : PySem.W.nsIn K mainGlobals "reversed" = some none)
  (z9 : PySem.W.nsIn K mainGlobals "set" = some none)
  (z10 : PySem.W.nsIn K mainGlobals "sorted" = some none)
  (z11 : PySem.W.nsIn K mainGlobals "sum" = some none)
  (xii : PySem.W.kitOne K (.type "int") (.type "int") = some true)
  (xib : PySem.W.kitOne K (.type "int") (.type "bool") = some false)
  (xtt : PySem.W.kitOne K (.type "tuple") (.type "tuple") = some true)
  (xll : PySem.W.kitOne K (.type "list") (.type "list") = some true)
  : ∃ fd : FuncData, (∀ (s : Shared) (v : Value), BindsTo s fd ⟨[v], []⟩ [("_law_script", v)]) ∧ ∀ base : Heap, K.In base → base.Ns mainGlobals mg → FnOk l.prog w K mg base (CXr l.prog w) 5 fa fd ["_law_script"] spLaw := by
 have e := hfa.symm.trans (PySem.W.mg_of X G a10)
 cases e
 have F1 := fun_mk (st := s_turn) l1 c1 k1
 have D1 : Def K mg "turn" ["start", "middle", "end"] s_turn := ⟨_, _, F1, F1.binds (ps := ["start", "middle", "end"]) (fun _ _ _ _ _ _ us hl => by obtain ⟨_, _, _, rfl⟩ := len_3 hl; rfl), k1, PySem.W.mg_of X G a1⟩
 have F2 := fun_mk (st := s_chain) l2 c2 k2
 have D2 : Def K mg "chain" ["points"] s_chain := ⟨_, _, F2, F2.binds (ps := ["points"]) (fun _ _ _ _ _ _ us hl => by obtain ⟨_, rfl⟩ := len_1 hl; rfl), k2, PySem.W.mg_of X G a2⟩
 have F3 := fun_mk (st := s_hull) l3 c3 k3
 have D3 : Def K mg "hull" ["slopes"] s_hull := ⟨_, _, F3, F3.binds (ps := ["slopes"]) (fun _ _ _ _ _ _ us hl => by obtain ⟨_, rfl⟩ := len_1 hl; rfl), k3, PySem.W.mg_of X G a3⟩
 have F4 := fun_mk (st := s_area) l4 c4 k4
 have D4 : Def K mg "area" ["slopes"] s_area := ⟨_, _, F4, F4.binds (ps := ["slopes"]) (fun _ _ _ _ _ _ us hl => by obtain ⟨_, rfl⟩ := len_1 hl; rfl), k4, PySem.W.mg_of X G a4⟩
 have F5 := fun_mk (st := s__law_cell_at) l5 c5 k5
 have D5 : Def K mg "_law_cell_at" ["_law_script", "_law_k"] s__law_cell_at := ⟨_, _, F5, F5.binds (ps := ["_law_script", "_law_k"]) (fun _ _ _ _ _ _ us hl => by obtain ⟨_, _, rfl⟩ := len_2 hl; rfl), k5, PySem.W.mg_of X G a5⟩
 have F6 := fun_mk (st := s__law_stir) l6 c6 k6
 have D6 : Def K mg "_law_stir" ["_law_cell", "_law_k"] s__law_stir := ⟨_, _, F6, F6.binds (ps := ["_law_cell", "_law_k"]) (fun _ _ _ _ _ _ us hl => by obtain ⟨_, _, rfl⟩ := len_2 hl; rfl), k6, PySem.W.mg_of X G a6⟩
 have F7 := fun_mk (st := s__law_whole) l7 c7 k7
 have D7 : Def K mg "_law_whole" ["_law_found"] s__law_whole := ⟨_, _, F7, F7.binds (ps := ["_law_found"]) (fun _ _ _ _ _ _ us hl => by obtain ⟨_, rfl⟩ := len_1 hl; rfl), k7, PySem.W.mg_of X G a7⟩
 have F8 := fun_mk (st := s__law_turn) l8 c8 k8
 have D8 : Def K mg "_law_turn" ["_law_one", "_law_far", "_law_place"] s__law_turn := ⟨_, _, F8, F8.binds (ps := ["_law_one", "_law_far", "_law_place"]) (fun _ _ _ _ _ _ us hl => by obtain ⟨_, _, _, rfl⟩ := len_3 hl; rfl), k8, PySem.W.mg_of X G a8⟩
 have F9 := fun_mk (st := s__law_places_by) l9 c9 k9
 have D9 : Def K mg "_law_places_by" ["_law_cells", "_law_kind", "_law_count"] s__law_places_by := ⟨_, _, F9, F9.binds (ps := ["_law_cells", "_law_kind", "_law_count"]) (fun _ _ _ _ _ _ us hl => by obtain ⟨_, _, _, rfl⟩ := len_3 hl; rfl), k9, PySem.W.mg_of X G a9⟩
 have F10 := fun_mk (st := s_law) l10 c10 k10
 have B : Blt mg := ⟨PySem.W.mg_none_of X G z0, PySem.W.mg_none_of X G z1, PySem.W.mg_none_of X G z2, PySem.W.mg_none_of X G z3, PySem.W.mg_none_of X G z4, PySem.W.mg_none_of X G z5, PySem.W.mg_none_of X G z6, PySem.W.mg_none_of X G z7, PySem.W.mg_none_of X G z8, PySem.W.mg_none_of X G z9, PySem.W.mg_none_of X G z10, PySem.W.mg_none_of X G z11⟩
 let c : Cls := ⟨⟩
 have C : ClsM mg c := ⟨⟩
 have hk : KitF K c := ⟨xii, xib, xtt, xll⟩
 refine ⟨PySem.W.fnOf "law" "law" (defArgs s_law) (defBody s_law) (defScope s_law) .none kV10 dc10 pm10 an10 cd10 ct10, fun s v => .of_eq rfl, fun base kb nb => ?_⟩
 have O : ClsO mg base c := ⟨⟩
 have G1 : Cal l.prog w K mg base 1 "turn" 3 (m_turn K c) := ok_turn D1 B C O hk
 have G5 : Cal l.prog w K mg base 1 "_law_cell_at" 2 (m__law_cell_at K c) := ok__law_cell_at D5 B C O hk
 have G6 : Cal l.prog w K mg base 1 "_law_stir" 2 (m__law_stir K c) := ok__law_stir D6 B C O hk
 have G7 : Cal l.prog w K mg base 1 "_law_whole" 1 (m__law_whole K c) := ok__law_whole D7 B C O hk
 have G8 : Cal l.prog w K mg base 1 "_law_turn" 3 (m__law_turn K c) := ok__law_turn D8 B C O hk
 have G2 : Cal l.prog w K mg base 2 "chain" 1 (m_chain K c) := ok_chain D2 B C O hk G1
 have G9 : Cal l.prog w K mg base 2 "_law_places_by" 3 (m__law_places_by K c) := ok__law_places_by D9 B C O hk G6 G5
 have G3 : Cal l.prog w K mg base 3 "hull" 1 (m_hull K c) := ok_hull D3 B C O hk G2
 have G4 : Cal l.prog w K mg base 4 "area" 1 (m_area K c) := ok_area D4 B C O hk G1 G3
 exact law_sp hk (ok_law F10 B C O hk G4 G6 G5 G8 G7 G3 G9)
theorem walk {l : PySem.W.OpenLaw} {q : Program} {loose : List Str} {XP : (Str → Option Value) → Heap → Prop} {YP : World → Heap → Prop} {d : DefRec} {K : Params → PySem.W.Frag} (hn : l.most = some 63) (hdf : d.params.defaults = [])
  (hY : ∀ (w : World) (h : Heap), YP w h → (K w.params).In h) (hK : ∀ w : World, noLists (K w.params) = true)
  (F : ∀ (w : World) (mg : Str → Option Value) (fa : Addr) (h : Heap), (K w.params).In h → h.Ns mainGlobals mg → mg d.name = some (.ref fa) →
   ∃ fd : FuncData, (∀ (s : Shared) (u : Value), BindsTo s fd ⟨[u], []⟩ [("_law_script", u)]) ∧ ∀ base : Heap, (K w.params).In base → base.Ns mainGlobals mg → FnOk l.prog w (K w.params) mg base (CXr l.prog w) 5 fa fd ["_law_script"] spLaw) :
  PySem.W.WalkO q loose XP YP l.row.toRowW d [] (fun f vs => PySem.call f vs) :=
 L2.walk_of (n := 63) (k := 5) (x := "_law_script") (CX := fun w => CXr l.prog w) (sp := fun _ => spLaw) hn (by decide) hdf ⟨rfl, by decide, by decide⟩ hY F (fun w _ a ns hl _ hS => ⟨a, ns, rfl, hS.elim id (fun ⟨_, _, _, e, hc, _⟩ => (noLists_no (hK w) e hc).elim), hl, fun _ => rfl⟩) fun _ _ _ _ _ ⟨_, _, _, _, _, _, _, z⟩ => z
end My
open PySem PySem.W PyProof.Rows
set_option maxRecDepth 100000 in
set_option maxHeartbeats 0 in
theorem PySem.Challenge.cw_creasecurve_k26_areas_holds : PySem.Challenge.rw_creasecurve_k26_areas.Holds := by
 w_on; o_law; k_head; (case hw => w_witness2)
 k_fill
 refine My.walk (l := PySem.Challenge.rw_creasecurve_k26_areas) rfl rfl (fun w h Y => PySem.W.kIn_of Y) ?noL ?F
 case noL => intro w; rfl
 case F =>
  intro w mg fa h KX G hmg
  refine' My.all_mk KX G hmg ?a1 ?l1 ?c1 ?k1 ?a2 ?l2 ?c2 ?k2 ?a3 ?l3 ?c3 ?k3 ?a4 ?l4 ?c4 ?k4 ?a5 ?l5 ?c5 ?k5 ?a6 ?l6 ?c6 ?k6 ?a7 ?l7 ?c7 ?k7 ?a8 ?l8 ?c8 ?k8 ?a9 ?l9 ?c9 ?k9 ?a10 ?l10 ?c10 ?k10 ?z0 ?z1 ?z2 ?z3 ?z4 ?z5 ?z6 ?z7 ?z8 ?z9 ?z10 ?z11 ?xii ?xib ?xtt ?xll
  (case a1 => k_is)
  (case l1 => k_is)
  (case c1 => k_is)
  (case k1 => k_is)
  (case a2 => k_is)
  (case l2 => k_is)
  (case c2 => k_is)
  (case k2 => k_is)
  (case a3 => k_is)
  (case l3 => k_is)
  (case c3 => k_is)
  (case k3 => k_is)
  (case a4 => k_is)
  (case l4 => k_is)
  (case c4 => k_is)
  (case k4 => k_is)
  (case a5 => k_is)
  (case l5 => k_is)
  (case c5 => k_is)
  (case k5 => k_is)
  (case a6 => k_is)
  (case l6 => k_is)
  (case c6 => k_is)
  (case k6 => k_is)
  (case a7 => k_is)
  (case l7 => k_is)
  (case c7 => k_is)
  (case k7 => k_is)
  (case a8 => k_is)
  (case l8 => k_is)
  (case c8 => k_is)
  (case k8 => k_is)
  (case a9 => k_is)
  (case l9 => k_is)
  (case c9 => k_is)
  (case k9 => k_is)
  (case a10 => k_is)
  (case l10 => k_is)
  (case c10 => k_is)
  (case k10 => k_is)
  (case z0 => k_is)
  (case z1 => k_is)
  (case z2 => k_is)
  (case z3 => k_is)
  (case z4 => k_is)
  (case z5 => k_is)
  (case z6 => k_is)
  (case z7 => k_is)
  (case z8 => k_is)
  (case z9 => k_is)
  (case z10 => k_is)
  (case z11 => k_is)
  (case xii => kit_is)
  (case xib => kit_is)
  (case xtt => kit_is)
  (case xll => kit_is)

import PyProof.Rows.All
import Wide.All
import OpenK.AllK
import Wide.FinOn
import Lean
import PyProof.EqAt
import PyProof.EqKinds
import PyProof.TupleCall
import PySem.Challenge.RW_creasecurve_k13_line_roofs_made
set_option Elab.async false
set_option linter.all false
set_option maxRecDepth 100000
namespace L2
open PySem PySem.Spec PyProof.Rows
abbrev Key := Sum Int Str
def keyIs : Key → Value → Bool
 | .inl k, v => Value.isInt k v
 | .inr x, v => Value.isStrOf x v
def keyH (w : World) : Key → Int
 | .inl k => hashInt k
 | .inr x => hashStr w x
theorem keyIs_shape : ∀ {k : Key} {v : Value}, keyIs k v = true → (∃ i t, k = Sum.inl i ∧ v = Value.int i t) ∨ (∃ x t, k = Sum.inr x ∧ v = Value.str x t)
 | .inl i, v, h => by
  obtain ⟨t, e⟩ := Value.isInt_shape (k := i) (v := v) h
  exact .inl ⟨i, t, rfl, e⟩
 | .inr x, v, h => by
  obtain ⟨t, e⟩ := Value.isStrOf_shape (x := x) (v := v) h
  exact .inr ⟨x, t, rfl, e⟩
theorem keyIs_int (i : Int) (t : Tok) : keyIs (.inl i) (.int i t) = true := by simp [keyIs, Value.isInt]
theorem keyIs_str (x : Str) (t : Tok) : keyIs (.inr x) (.str x t) = true := by simp [keyIs, Value.isStrOf]
theorem key_ll (a b : Int) : decide ((Sum.inl a : Key) = Sum.inl b) = (a == b) := by
 by_cases e : a = b
 ·subst e; simp
 ·have h : ¬ (Sum.inl a : Key) = Sum.inl b := fun q => e (Sum.inl.inj q)
  rw [decide_eq_false h]
  exact (beq_eq_false_iff_ne.mpr e).symm
theorem key_rr (a b : Str) : decide ((Sum.inr a : Key) = Sum.inr b) = decide (a = b) := by
 by_cases e : a = b
 ·subst e; simp
 ·have h : ¬ (Sum.inr a : Key) = Sum.inr b := fun q => e (Sum.inr.inj q)
  rw [decide_eq_false h, decide_eq_false e]
theorem key_lr (a : Int) (b : Str) : decide ((Sum.inl a : Key) = Sum.inr b) = false := decide_eq_false (fun q => nomatch q)
theorem key_rl (a : Str) (b : Int) : decide ((Sum.inr a : Key) = Sum.inl b) = false := decide_eq_false (fun q => nomatch q)
def mixKind (prog : Program) (w : World) : PySem.KeyKind prog w Key where
 is := keyIs
 hash := keyH w
 inj := fun v a b ha hb => by
  rcases keyIs_shape ha with ⟨i, t, rfl, rfl⟩ | ⟨x, t, rfl, rfl⟩
  ·rcases keyIs_shape hb with ⟨j, u, rfl, e⟩ | ⟨y, u, rfl, e⟩
   ·injection e with e1 _; rw [e1]
   ·exact nomatch e
  ·rcases keyIs_shape hb with ⟨j, u, rfl, e⟩ | ⟨y, u, rfl, e⟩
   ·exact nomatch e
   ·injection e with e1 _; rw [e1]
 byValue := fun k v h => by
  rcases keyIs_shape h with ⟨i, t, rfl, rfl⟩ | ⟨x, t, rfl, rfl⟩ <;> rfl
 pyHash := fun hv h => by
  rcases keyIs_shape hv with ⟨i, t, rfl, rfl⟩ | ⟨x, t, rfl, rfl⟩
  ·exact wpAny_pyHash_int h
  ·exact wpAny_pyHash_str h
 eqBool := fun hu hv h => by
  rcases keyIs_shape hu with ⟨i, t, rfl, rfl⟩ | ⟨x, t, rfl, rfl⟩
  ·rcases keyIs_shape hv with ⟨j, u, rfl, rfl⟩ | ⟨y, u, rfl, rfl⟩
   ·rw [key_ll] at h; exact wpAny_eqBool_int h
   ·rw [key_lr] at h; exact SeqAt.EqAt.int_str i t y u _ _ _ _ h
  ·rcases keyIs_shape hv with ⟨j, u, rfl, rfl⟩ | ⟨y, u, rfl, rfl⟩
   ·rw [key_rl] at h; exact SeqAt.EqAt.str_int x t j u _ _ _ _ h
   ·rw [key_rr] at h; exact wpAny_eqBool_str h
 «strs» := fun k x t v h => by
  rcases keyIs_shape h with ⟨i, u, rfl, e⟩ | ⟨y, u, rfl, e⟩
  ·exact nomatch e
  ·injection e with e1 _
   subst e1
   cases v <;> rfl
theorem mixKind_int (prog : Program) (w : World) (i : Int) (t : Tok) : (mixKind prog w).is (.inl i) (.int i t) = true := keyIs_int i t
theorem mixKind_str (prog : Program) (w : World) (x : Str) (t : Tok) : (mixKind prog w).is (.inr x) (.str x t) = true := keyIs_str x t
inductive V where
 | non | bl (b : Bool) | int (i : Int) | str (x : Str) | byt (b : Array UInt8) | flt (b : UInt64) | ref (a : Addr) | ty (n : String)
 deriving DecidableEq
def RelV : V → Value → Prop
 | .non, u => u = Value.none
 | .bl b, u => u = Value.bool b
 | .int i, u => ∃ t, u = Value.int i t
 | .str x, u => ∃ t, u = Value.str x t
 | .byt b, u => ∃ t, u = Value.bytes b t
 | .flt b, u => ∃ t, u = Value.float b t
 | .ref a, u => u = Value.ref a
 | .ty n, u => u = Value.type n
abbrev Vals : List V → List Value → Prop := Paired RelV
theorem Vals.length {xs : List V} {us : List Value} (r : Vals xs us) : xs.length = us.length := Paired.length r
theorem Vals.get : ∀ {xs : List V} {us : List Value} {i : Nat} {x : V}, Vals xs us → xs[i]? = some x → ∃ u, us[i]? = some u ∧ RelV x u
 | _, _, _, _, .nil, e => by simp at e
 | _, _, 0, _, .cons r _, e => by simp at e; subst e; exact ⟨_, rfl, r⟩
 | _, _, i + 1, x, .cons _ t, e => by
  obtain ⟨u, h1, h2⟩ := Vals.get (i := i) (x := x) t (by simpa using e)
  exact ⟨u, by simpa using h1, h2⟩
theorem Vals.append : ∀ {xs ys : List V} {us ws : List Value}, Vals xs us → Vals ys ws → Vals (xs ++ ys) (us ++ ws)
 | _, _, _, _, .nil, s => s
 | _, _, _, _, .cons r t, s => .cons r (Vals.append t s)
theorem Vals.take : ∀ {xs : List V} {us : List Value} (n : Nat), Vals xs us → Vals (xs.take n) (us.take n)
 | _, _, 0, _ => .nil
 | _, _, _ + 1, .nil => .nil
 | _, _, n + 1, .cons r t => .cons r (Vals.take n t)
theorem Vals.drop : ∀ {xs : List V} {us : List Value} (n : Nat), Vals xs us → Vals (xs.drop n) (us.drop n)
 | _, _, 0, r => r
 | _, _, _ + 1, .nil => .nil
 | _, _, n + 1, .cons _ t => Vals.drop n t
def RelO : Option V → Option Value → Prop
 | some v, some u => RelV v u
 | none, none => True
 | _, _ => False
def KV {κ : Type} : List (κ × V) → List (κ × Value) → Prop := Paired fun (p : κ × V) (q : κ × Value) => p.1 = q.1 ∧ RelV p.2 q.2
def kV : Key → V
 | .inl i => .int i
 | .inr x => .str x
inductive HO where
 /-- a list -/
 | lst (xs : List V)
 /-- a tuple (never changes) -/
 | tup (xs : List V)
 /-- a dict whose keys are ints and texts; one whose keys are tuples of ints and texts (the empty one is both) -/
 | dK (kvs : List (Key × V)) | dT (kvs : List (List Key × V))
 /-- a set of ints: its members, its size -/
 | set (S : Int → Bool) (n : Nat)
 /-- an instance of the class at C, its dict at dx, its attributes -/
 | ins (C dx : Addr) (fs : List (Str × V))
 /-- the dict of the instance at x -/
 | own (x : Addr)
 /-- the dict of an exception -/
 | xd (fs : List (Str × V))
 /-- a bound method, f of x -/
 | met (f x : Addr)
 /-- a range object lo, lo + 1, .. below hi -/
 | rng (lo hi : Int)
 /-- a thing that is known to the object (the script; a dict while a loop walks it): read, never written while it is so -/
 | frz (o : Obj) (u : HO)
 /-- a code object's table -/
 | tbl (ps : Array Value)
 /-- any other thing, by what is true of its one object (a def of one's own: SetO a S n := HO.ext fun h => ..) -/
 | ext (φ : Heap → Prop)
abbrev Hp := Addr → Option HO
def upd (H : Hp) (a : Addr) (o : HO) : Hp := fun b => if b = a then some o else H b
theorem upd_same {H : Hp} {a : Addr} {o : HO} : upd H a o a = some o := by unfold upd; rw [if_pos rfl]
theorem upd_ne {H : Hp} {a b : Addr} {o : HO} (h : b ≠ a) : upd H a o b = H b := by unfold upd; rw [if_neg h]
theorem ne_of {H : Hp} {a b : Addr} {o u : HO} (h : H a = some o) (h' : H b = some u) (d : o ≠ u) : a ≠ b := by
 intro e; subst e; rw [h] at h'; exact d (Option.some.inj h')
theorem ne_of_none {H : Hp} {a b : Addr} {o : HO} (h : H a = some o) (h' : H b = none) : a ≠ b := by
 intro e; subst e; rw [h] at h'; cases h'
section
variable (P : Program) (w : World)
def ObjOk (H : Hp) (h : Heap) (a : Addr) : HO → Prop
 | .lst xs => xs.length ≤ sizeLine ∧ ∃ (its : List Value) (n : Nat), Vals xs its ∧ h.get? a = some { cls := .type "list", data := .seq its.toArray n }
 | .tup xs => xs.length ≤ sizeLine ∧ ∃ its : List Value, Vals xs its ∧ IsTup h a its.toArray
 | .dK kvs => kvs.length ≤ sizeLine ∧ (a == sysModules) = false ∧ ∃ vs, KV kvs vs ∧ h.DictOf (mixKind P w) a vs
 | .dT kvs => kvs.length ≤ sizeLine ∧ (a == sysModules) = false ∧ ∃ xs : List (List Key × Addr × Value),
   Paired (fun (p : List Key × V) (q : List Key × Addr × Value) => p.1 = q.1 ∧ H q.2.1 = some (.tup (p.1.map kV)) ∧ RelV p.2 q.2.2) kvs xs ∧
   ∃ o es ep, h.get? a = some o ∧ o.ExactDict ∧ o.data = .dict es ep ∧ es.toList = xs.map (entryOfKey (tupleKind (mixKind P w))) ∧ (xs.map (·.1)).Nodup
 | .set S n => h.SetOf (intKind P w) a S n
 | .ins C dx fs => H dx = some (.own a) ∧ fs.length ≤ 1000 ∧ dx ≠ a ∧ h.get? a = some (PySem.W.instObj C dx) ∧
   ∃ mA, h.Ns1 dx mA ∧ (∀ f, RelO (fs.lookup f) (mA f)) ∧ PySem.Within mA (fs.map (·.1))
 | .own _ => ∃ o, h.get? a = some o
 | .xd fs => ∃ mA, h.Ns1 a mA ∧ ∀ f, RelO (fs.lookup f) (mA f)
 | .rng lo hi => ∃ t u v, h.get? a = some { cls := .type "range", data := .fields #[.int lo t, .int hi u, .int 1 v] }
 | .frz o u => h.get? a = some o ∧ ObjOk H h a u
 | .tbl ps => h.get? a = some { cls := .none, data := .fields ps }
 | .met f x => h.get? a = some (PySem.W.methodObj (.ref f) (.ref x))
 | .ext φ => φ h ∧ (∃ o, h.get? a = some o) ∧ ∀ h1 h2 : Heap, φ h1 → (∀ o, h1.get? a = some o → h2.get? a = some o) → φ h2
def HOk (H : Hp) (h : Heap) : Prop := ∀ a o, H a = some o → ObjOk P w H h a o
end
section
variable {P : Program} {w : World} {H H' : Hp} {h h' : Heap} {a : Addr} {o : HO}
theorem ObjOk.lt (x : ObjOk P w H h a o) : a < h.objs.size := by
 cases o with
 | lst xs => obtain ⟨_, _, _, _, e⟩ := x; exact Heap.lt_size e
 | tup xs => obtain ⟨_, _, _, p⟩ := x; exact p.lt
 | dK kvs => obtain ⟨_, _, _, _, o, _, _, e, _⟩ := x; exact Heap.lt_size e
 | dT kvs => obtain ⟨_, _, _, _, o, _, _, e, _⟩ := x; exact Heap.lt_size e
 | set S n => obtain ⟨o, _, _, _, e, _⟩ := x; exact Heap.lt_size e
 | ins C dx fs => obtain ⟨_, _, _, e, _⟩ := x; exact Heap.lt_size e
 | own y => obtain ⟨_, e⟩ := x; exact Heap.lt_size e
 | xd fs => obtain ⟨_, ⟨_, _, _, e, _⟩, _⟩ := x; exact Heap.lt_size e
 | rng lo hi => obtain ⟨_, _, _, e⟩ := x; exact Heap.lt_size e
 | frz ob u => obtain ⟨e, _⟩ := x; exact Heap.lt_size e
 | tbl ps => exact Heap.lt_size (show h.get? a = some _ from x)
 | met f y => exact Heap.lt_size (show h.get? a = some _ from x)
 | ext φ => obtain ⟨_, ⟨_, e⟩, _⟩ := x; exact Heap.lt_size e
theorem Paired.mapP {α β : Type} {F G : α → β → Prop} : ∀ {l₁ : List α} {l₂ : List β}, Paired F l₁ l₂ → (∀ a b, F a b → G a b) → Paired G l₁ l₂
 | _, _, .nil, _ => .nil
 | _, _, .cons r t, f => .cons (f _ _ r) (Paired.mapP t f)
theorem ObjOk.stay (x : ObjOk P w H h a o) (k : ∀ b u, (b = a ∨ H b = some (.own a)) → h.get? b = some u → h'.get? b = some u)
  (ho : ∀ b, H b = some (.own a) → H' b = some (.own a)) (ht : ∀ b xs, H b = some (.tup xs) → H' b = some (.tup xs)) : ObjOk P w H' h' a o := by
 induction o with
 | lst xs => obtain ⟨z, its, n, r, e⟩ := x; exact ⟨z, its, n, r, k _ _ (.inl rfl) e⟩
 | tup xs => obtain ⟨z, its, r, ob, e, c⟩ := x; exact ⟨z, its, r, ob, k _ _ (.inl rfl) e, c⟩
 | dK kvs => obtain ⟨z, y, vs, r, ob, es, ep, e, c⟩ := x; exact ⟨z, y, vs, r, ob, es, ep, k _ _ (.inl rfl) e, c⟩
 | dT kvs =>
  obtain ⟨z, y, xs, r, ob, es, ep, e, c⟩ := x
  exact ⟨z, y, xs, Paired.mapP r fun p q z => ⟨z.1, ht _ _ z.2.1, z.2.2⟩, ob, es, ep, k _ _ (.inl rfl) e, c⟩
 | set S n => obtain ⟨ob, es, ep, t, e, c⟩ := x; exact ⟨ob, es, ep, t, k _ _ (.inl rfl) e, c⟩
 | ins C dx fs =>
  obtain ⟨d, z, ne, e, mA, ⟨od, es, ep, e2, c⟩, r⟩ := x
  exact ⟨ho _ d, z, ne, k _ _ (.inl rfl) e, mA, ⟨od, es, ep, k _ _ (.inr d) e2, c⟩, r⟩
 | own y => obtain ⟨ob, e⟩ := x; exact ⟨ob, k _ _ (.inl rfl) e⟩
 | xd fs => obtain ⟨mA, ⟨od, es, ep, e, c⟩, r⟩ := x; exact ⟨mA, ⟨od, es, ep, k _ _ (.inl rfl) e, c⟩, r⟩
 | rng lo hi => obtain ⟨t, u, v, e⟩ := x; exact ⟨t, u, v, k _ _ (.inl rfl) e⟩
 | frz ob u ih => obtain ⟨e, q⟩ := x; exact ⟨k _ _ (.inl rfl) e, ih q⟩
 | tbl ps =>
  have e : h.get? a = some { cls := .none, data := .fields ps } := x
  show h'.get? a = some { cls := .none, data := .fields ps }
  exact k a _ (.inl rfl) e
 | met f y =>
  have e : h.get? a = some (PySem.W.methodObj (.ref f) (.ref y)) := x
  show h'.get? a = some (PySem.W.methodObj (.ref f) (.ref y))
  exact k a _ (.inl rfl) e
 | ext φ => obtain ⟨p, ⟨o, e⟩, st⟩ := x; exact ⟨st _ _ p fun o q => k _ _ (.inl rfl) q, ⟨o, k _ _ (.inl rfl) e⟩, st⟩
theorem HOk.lt (x : HOk P w H h) (e : H a = some o) : a < h.objs.size := (x a o e).lt
theorem HOk.fresh (x : HOk P w H h) (e : h.objs.size ≤ a) : H a = none := by
 cases q : H a with
 | none => rfl
 | some u => exact absurd (Nat.lt_of_lt_of_le (x.lt q) e) (Nat.lt_irrefl _)
theorem HOk.kept (x : HOk P w H h) (k : ∀ b u, h.get? b = some u → h'.get? b = some u) : HOk P w H h' := fun a o e =>
 (x a o e).stay (fun b u _ q => k b u q) (fun _ q => q) fun _ _ q => q
theorem HOk.laid (x : HOk P w H h) (k : ∀ b u, h.get? b = some u → h'.get? b = some u) (hp : h.objs.size ≤ a) (new : ObjOk P w (upd H a o) h' a o) : HOk P w (upd H a o) h' := fun b u e => by
 have hn := x.fresh hp
 by_cases hb : b = a
 ·subst hb; rw [upd_same] at e; cases e; exact new
 ·rw [upd_ne hb] at e
  exact (x b u e).stay (fun c v _ q => k c v q) (fun c q => by rw [upd_ne (ne_of_none q hn)]; exact q) fun c xs q => by rw [upd_ne (ne_of_none q hn)]; exact q
end
def Rd (H : Hp) (a : Addr) (u : HO) : Prop := H a = some u ∨ ∃ o, H a = some (.frz o u)
theorem Rd.ok {P : Program} {w : World} {H : Hp} {h : Heap} {a : Addr} {u : HO} (r : Rd H a u) (x : HOk P w H h) : ObjOk P w H h a u := by
 rcases r with r | ⟨o, r⟩
 ·exact x a u r
 ·obtain ⟨_, q⟩ := x a _ r
  exact q
def Mut : Option HO → Prop
 | some (.lst _) => True
 | some (.dK _) => True
 | some (.dT _) => True
 | some (.set _ _) => True
 | some (.ins _ _ _) => True
 | some (.ext _) => True
 | _ => False
section
variable {P : Program} {w : World} {H : Hp} {h h' : Heap} {x e : Addr} {o' : HO}
theorem HOk.write (ok : HOk P w H h) (mu : Mut (H x)) (he : e = x ∨ H e = some (.own x)) (k : ∀ b u, b ≠ e → h.get? b = some u → h'.get? b = some u) (heo : ∃ u, h'.get? e = some u)
  (new : ObjOk P w (upd H x o') h' x o') : HOk P w (upd H x o') h' := fun b u q => by
 have nown : ∀ c y, H c = some (.own y) → c ≠ x := fun c y r z => by subst z; rw [r] at mu; exact mu
 have ntup : ∀ c xs, H c = some (.tup xs) → c ≠ x := fun c xs r z => by subst z; rw [r] at mu; exact mu
 by_cases hb : b = x
 ·subst hb; rw [upd_same] at q; cases q; exact new
 ·rw [upd_ne hb] at q
  by_cases hbe : b = e
  ·have q' : H b = some (.own x) := by
    rcases he with z | z
    ·exact absurd (hbe.trans z) hb
    ·rw [hbe]; exact z
   rw [q] at q'; cases q'
   obtain ⟨v, hv⟩ := heo
   exact ⟨v, by rw [hbe]; exact hv⟩
  ·refine (ok b u q).stay (fun c v hc r => k c v ?_ r) (fun c r => by rw [upd_ne (nown c b r)]; exact r) fun c xs r => by rw [upd_ne (ntup c xs r)]; exact r
   rcases hc with rfl | hc
   ·exact hbe
   ·rintro rfl
    rcases he with z | z
    ·exact nown c b hc z
    ·rw [hc] at z; cases z; exact hb rfl
end
structure Un (fs ex : List Addr) (H H' : Hp) (h h' : Heap) : Prop where
 keep : ∀ b o, h.get? b = some o → H b = none → b ∉ fs → b ∉ ex → h'.get? b = some o
 slot : ∀ b o, h.get? b = some o → H b = none → b ∈ fs → b ∉ ex → ∃ sl, h'.get? b = some { o with slots := sl }
 free : ∀ b o, h.get? b = some o → H b = none → b ∉ ex → H' b = none
 there : ∀ b o, h.get? b = some o → b ∉ ex → ∃ o', h'.get? b = some o'
 tups : ∀ b xs, H b = some (.tup xs) → H' b = some (.tup xs)
 frzs : ∀ b o u, H b = some (.frz o u) → H' b = some (.frz o u)
 tbls : ∀ b ps, H b = some (.tbl ps) → ∃ more, H' b = some (.tbl (ps ++ more))
section
variable {fs fs' ex ex' : List Addr} {H H1 H2 : Hp} {h h1 h2 h' : Heap} {a x e : Addr} {o : HO}
theorem Un.any (u : Un fs ex H H1 h h1) {b : Addr} {ob : Obj} (q : h.get? b = some ob) (n : H b = none) (hx : b ∉ ex) : ∃ sl, h1.get? b = some { ob with slots := sl } := by
 by_cases hb : b ∈ fs
 ·exact u.slot b ob q n hb hx
 ·exact ⟨ob.slots, u.keep b ob q n hb hx⟩
theorem Un.kept (k : ∀ b u, h.get? b = some u → h'.get? b = some u) : Un fs ex H H h h' :=
 ⟨fun b ob q _ _ _ => k b ob q, fun b ob q _ _ _ => ⟨ob.slots, k b ob q⟩, fun _ _ _ n _ => n, fun b ob q _ => ⟨ob, k b ob q⟩, fun _ _ q => q, fun _ _ _ q => q, fun _ ps q => ⟨#[], by rw [q]; simp⟩⟩
theorem Un.refl : Un fs ex H H h h := Un.kept fun _ _ q => q
theorem Un.laid (k : ∀ b u, h.get? b = some u → h'.get? b = some u) (hp : h.objs.size ≤ a) (hn : H a = none) : Un fs ex H (upd H a o) h h' where
 keep := fun b u q _ _ _ => k b u q
 slot := fun b u q _ _ _ => ⟨u.slots, k b u q⟩
 free := fun b u q n _ => by rw [upd_ne (Nat.ne_of_lt (Nat.lt_of_lt_of_le (Heap.lt_size q) hp))]; exact n
 there := fun b u q _ => ⟨u, k b u q⟩
 tups := fun b xs q => by rw [upd_ne (ne_of_none q hn)]; exact q
 frzs := fun b u xs q => by rw [upd_ne (ne_of_none q hn)]; exact q
 tbls := fun b ps q => ⟨#[], by rw [upd_ne (ne_of_none q hn), q]; simp⟩
theorem Un.write (mu : Mut (H x)) (he : e = x ∨ H e = some (.own x)) (k : ∀ b u, b ≠ e → h.get? b = some u → h'.get? b = some u) (heo : ∃ u, h'.get? e = some u) : Un fs ex H (upd H x o) h h' := by
 have hx : ∀ b, H b = none → b ≠ x := fun b n z => by subst z; rw [n] at mu; exact mu
 have hb : ∀ b, H b = none → b ≠ e := fun b n z => by
  subst z
  rcases he with r | r
  ·exact hx b n r
  ·rw [n] at r; cases r
 have hm : ∀ b u, H b = some u → ¬ Mut (some u) → b ≠ x := fun b u q nm z => by subst z; rw [q] at mu; exact nm mu
 refine ⟨fun b u q n _ _ => k b u (hb b n) q, fun b u q n _ _ => ⟨u.slots, k b u (hb b n) q⟩, fun b u q n _ => by rw [upd_ne (hx b n)]; exact n, fun b u q _ => ?_,
  fun b xs q => by rw [upd_ne (hm b _ q fun z => z)]; exact q, fun b u xs q => by rw [upd_ne (hm b _ q fun z => z)]; exact q, fun b ps q => ⟨#[], by rw [upd_ne (hm b _ q fun z => z), q]; simp⟩⟩
 by_cases hbe : b = e
 ·subst hbe; exact heo
 ·exact ⟨u, k b u hbe q⟩
end
def trk (h : Heap) (H : Hp) : List Addr := (List.range h.objs.size).filter fun a => (H a).isSome
def hidT (h : Heap) (H : Hp) : Heap := PySem.W.hideAll h (trk h H)
theorem hidT_size (h : Heap) (H : Hp) : (hidT h H).objs.size = h.objs.size := PySem.W.hideAll_size _ _
theorem hidT_get {h : Heap} {H : Hp} {b : Addr} {o : Obj} (e : h.get? b = some o) (n : H b = none) : (hidT h H).get? b = some o :=
 PySem.W.hideAll_get _ e fun hm => by
  have q : (H b).isSome = true := (List.mem_filter.mp hm).2
  rw [n] at q; simp at q
theorem of_hidT {h : Heap} {H : Hp} {b : Addr} {o : Obj} (e : (hidT h H).get? b = some o) : h.get? b = some o ∧ H b = none := by
 have e' : h.get? b = some o := PySem.W.of_hideAll (trk h H) e
 refine ⟨e', ?_⟩
 cases q : H b with
 | none => rfl
 | some x =>
  have hm : b ∈ trk h H := List.mem_filter.mpr ⟨List.mem_range.mpr (Heap.lt_size e'), by simp [q]⟩
  have z : (hidT h H).get? b = none := PySem.W.hideAll_none (trk h H) hm
  rw [z] at e; cases e
def allNews (g h : Heap) (L : Addr) : List (Addr × Obj) := (List.range h.objs.size).filterMap fun a => if a = L ∨ (g.get? a).isSome = true then none else (h.get? a).map fun o => (a, o)
def rest (g h : Heap) (L d : Addr) : List (Addr × Obj) := (allNews g h L).filter fun p => decide (p.1 ≠ d)
structure Mod (K : PySem.W.Frag) (mg : Str → Option Value) (base : Heap) : Prop where
 kin : K.In base
 glob : base.Ns mainGlobals mg
 blt : ∃ mb, base.Ns builtinsNs mb ∧ ∀ x : Str, x ≠ "__name__" → mb x = bootBuiltins x
 nolimit : base.NoLimit
structure Cx where
 prog : Program
 w : World
 K : PySem.W.Frag
 mg : Str → Option Value
 base : Heap
 A : Around
 N : List Str
 s₀ : Shared
 H₀ : Hp
 env : Env
 outer : List Env
 stack : List Env
 ex : List Addr
 fn : Str → Bool
 calm : Bool
 pn : List (Addr × Obj)
 xe : Value → Shared → Prop
def frs (l : List Env) : List Addr := l.filterMap (·.frame)
abbrev Cx.fs (X : Cx) : List Addr := frs X.outer
def Vis (sc : Scope) (x : Str) : Prop := sc.names.lookup x = some .local ∨ sc.names.lookup x = some .cell ∨ sc.names.lookup x = some .free
def Loc (sc : Scope) (x : Str) : Prop := sc.names.lookup x = some .local ∨ sc.names.lookup x = some .cell
def Look (env : Env) (h : Heap) (m : Str → Option Value) (x : Str) (u : Value) : Prop :=
 (env.kindOf x = some .local ∧ m x = some u) ∨ ((env.kindOf x = some .cell ∨ env.kindOf x = some .free) ∧ ∃ c, env.cells.lookup x = some c ∧ h.IsCell c (some u))
structure Cx.Ok (X : Cx) : Prop where
 mod : Mod X.K X.mg X.base
 kind : X.env.scope.kind = .function
 glob : X.env.globals = mainGlobals
 blt : X.env.builtins = builtinsNs
 above : X.s₀.heap.objs.size ≤ X.env.locals
 inj : ∀ x y c, X.env.cells.lookup x = some c → X.env.cells.lookup y = some c → x = y
 has : ∀ x, (X.env.kindOf x = some .cell ∨ X.env.kindOf x = some .free) → ∃ c, X.env.cells.lookup x = some c
 cab : ∀ x c, X.fn x = true → X.env.cells.lookup x = some c → X.s₀.heap.objs.size ≤ c
 hd : X.calm = true → X.A.handled = none
 frames : X.A.frames = some X.stack
 stk : X.stack = X.outer ∨ (X.stack = X.env :: X.outer ∧ X.env.frame = some X.env.locals)
 exf : ∀ b ∈ X.ex, b ≠ X.env.locals ∧ ∀ x c, X.env.cells.lookup x = some c → c ≠ b
 bs : ∀ b o, X.base.get? b = some o → X.s₀.heap.get? b = some o ∧ X.H₀ b = none
 bsz : X.base.objs.size ≤ X.s₀.heap.objs.size
 noex : ∀ b o, X.base.get? b = some o → b ∉ X.ex
 exfs : ∀ b ∈ X.ex, b ∉ X.fs
 funs : X.s₀.heap.FunFrames X.base X.outer
 frf : ∀ b ∈ X.fs, X.H₀ b = none
structure Inv (X : Cx) (pins : List (Addr × Obj)) (σ : List (Option V)) (H : Hp) (s : Shared) : Prop where
 ok : X.Ok
 os : s.os = X.s₀.os
 bare : AllBare s.gens
 base : Un X.fs X.ex X.H₀ H X.s₀.heap s.heap
 loc : ∃ m, s.heap.Ns X.env.locals m ∧ ∀ (i : Nat) (x : Str) (v : V), X.N[i]? = some x → σ[i]? = some (some v) → Vis X.env.scope x → ∃ u, RelV v u ∧ Look X.env s.heap m x u
 cell : ∀ x c, X.env.cells.lookup x = some c → ∃ v, s.heap.IsCell c v
 free : H X.env.locals = none
 freeC : ∀ x c, X.env.cells.lookup x = some c → H c = none
 pin : ∀ p ∈ X.pn ++ pins, s.heap.get? p.1 = some p.2 ∧ H p.1 = none ∧ p.1 ≠ X.env.locals ∧ p.1 ∉ X.fs ∧ ∀ v, p.2.data ≠ .cell v
 hok : HOk X.prog X.w H s.heap
 len : σ.length = X.N.length
section
variable {X : Cx} {pins : List (Addr × Obj)} {σ : List (Option V)} {H H' : Hp} {s : Shared} {h' : Heap}
theorem Cx.Ok.nofr (ok : X.Ok) {b : Addr} {o : Obj} (e : X.base.get? b = some o) : b ∉ X.fs := fun hb => by
 have := (ok.funs.mem hb).1
 rw [e] at this; cases this
theorem Inv.bs (I : Inv X pins σ H s) : ∀ b o, X.base.get? b = some o → s.heap.get? b = some o ∧ H b = none := fun b o e =>
 ⟨I.base.keep b o (I.ok.bs b o e).1 (I.ok.bs b o e).2 (I.ok.nofr e) (I.ok.noex b o e), I.base.free b o (I.ok.bs b o e).1 (I.ok.bs b o e).2 (I.ok.noex b o e)⟩
theorem Inv.bk (I : Inv X pins σ H s) : ∀ b o, X.base.get? b = some o → s.heap.get? b = some o := fun b o e => (I.bs b o e).1
theorem Inv.mod (I : Inv X pins σ H s) : Mod X.K X.mg X.base := I.ok.mod
theorem Inv.kIn (I : Inv X pins σ H s) : X.K.In s.heap := I.ok.mod.kin.keeps I.bk
theorem Inv.lt (I : Inv X pins σ H s) : X.env.locals < s.heap.objs.size := let ⟨_, hn, _⟩ := I.loc; hn.lt
theorem Inv.sz (I : Inv X pins σ H s) : X.s₀.heap.objs.size ≤ s.heap.objs.size := Nat.le_trans I.ok.above (Nat.le_of_lt I.lt)
theorem Inv.nofs (I : Inv X pins σ H s) {a : Addr} (h : s.heap.objs.size ≤ a) : a ∉ X.fs := fun hb => by
 obtain ⟨_, o, ho, _⟩ := I.ok.funs.mem hb
 exact absurd (Nat.lt_of_lt_of_le (Heap.lt_size ho) (Nat.le_trans I.sz h)) (Nat.lt_irrefl _)
theorem Inv.cne (I : Inv X pins σ H s) : ∀ x c, X.env.cells.lookup x = some c → c ≠ X.env.locals := fun x c e z => by
 obtain ⟨v, o, ho, hd⟩ := I.cell x c e
 obtain ⟨m, ⟨o', es, ep, ho', hd', _⟩, _⟩ := I.loc
 rw [z, ho'] at ho; cases ho; rw [hd'] at hd; cases hd
theorem Inv.funs (I : Inv X pins σ H s) : s.heap.FunFrames X.base X.outer := by
 have all : ∀ (l : List Env), (∀ b ∈ frs l, b ∈ X.fs) → X.s₀.heap.FunFrames X.base l → s.heap.FunFrames X.base l := by
  intro l
  induction l with
  | nil => intro _ _; trivial
  | cons env r ih =>
   intro hs hl
   obtain ⟨hk, ⟨L, o, hf, hn, ho, hd⟩, hr⟩ := hl
   have hL : L ∈ X.fs := hs L (by unfold frs; rw [List.filterMap_cons, hf]; exact List.mem_cons_self)
   obtain ⟨sl, e⟩ := I.base.slot L o ho (I.ok.frf L hL) hL fun z => I.ok.exfs L z hL
   exact ⟨hk, ⟨L, _, hf, hn, e, hd⟩, ih (fun b hb => hs b (by unfold frs; rw [List.filterMap_cons, hf]; exact List.mem_cons_of_mem _ hb)) hr⟩
 exact all X.outer (fun _ hb => hb) I.ok.funs
theorem Inv.stack (I : Inv X pins σ H s) : s.heap.FunFrames X.base X.stack := by
 rcases I.ok.stk with e | ⟨e, hf⟩
 ·rw [e]; exact I.funs
 ·rw [e]
  obtain ⟨m, hn, _⟩ := I.loc
  refine .cons (by rw [I.ok.kind]; decide) hf hn ?_ I.funs
  exact Heap.get?_none_of_le (Nat.le_trans I.ok.bsz I.ok.above)
theorem Inv.stkSub (I : Inv X pins σ H s) : ∀ b ∈ frs X.stack, b ∈ X.env.locals :: X.fs := fun b hb => by
 rcases I.ok.stk with e | ⟨e, hf⟩
 ·rw [e] at hb; exact List.mem_cons_of_mem _ hb
 ·rw [e] at hb
  unfold frs at hb
  rw [List.filterMap_cons, hf] at hb
  exact hb
theorem Inv.stkFree (I : Inv X pins σ H s) : ∀ b ∈ frs X.stack, H b = none := fun b hb => by
 rcases List.mem_cons.mp (I.stkSub b hb) with e | hb
 ·rw [e]; exact I.free
 ·obtain ⟨_, o, ho, _⟩ := I.ok.funs.mem hb
  exact I.base.free b o ho (I.ok.frf b hb) fun z => I.ok.exfs b z hb
theorem Inv.step {g' : Array GenState} {t' : Nat} {d' : Drawn} {ch : List Addr} (I : Inv X pins σ H s)
  (hch : ∀ b ∈ ch, (b ∈ X.ex ∨ X.s₀.heap.objs.size ≤ b) ∧ b ≠ X.env.locals ∧ (∀ x c, X.env.cells.lookup x = some c → c ≠ b) ∧ ∀ p ∈ X.pn ++ pins, p.1 ≠ b)
  (keep : ∀ b o, b ≠ X.env.locals → b ∉ X.fs → b ∉ ch → s.heap.get? b = some o → H b = none → h'.get? b = some o)
  (slot : ∀ b o, b ≠ X.env.locals → b ∈ X.fs → b ∉ ch → s.heap.get? b = some o → H b = none → ∃ sl, h'.get? b = some { o with slots := sl }) (free : ∀ b o, b ∉ ch → s.heap.get? b = some o → H b = none → H' b = none)
  (there : ∀ b o, b ∉ ch → s.heap.get? b = some o → ∃ o', h'.get? b = some o')
  (tups : ∀ b xs, H b = some (.tup xs) → H' b = some (.tup xs)) (frzs : ∀ b o u, H b = some (.frz o u) → H' b = some (.frz o u)) (tbls : ∀ b ps, H b = some (.tbl ps) → ∃ more, H' b = some (.tbl (ps ++ more)))
  (ns : ∀ m, s.heap.Ns X.env.locals m → h'.Ns X.env.locals m) (hok : HOk X.prog X.w H' h') (hg : AllBare g') :
  Inv X pins σ H' { s with heap := h', gens := g', drawn := d', toks := t' } := by
 have neL : ∀ b o, X.s₀.heap.get? b = some o → b ≠ X.env.locals := fun b o e => Nat.ne_of_lt (Nat.lt_of_lt_of_le (Heap.lt_size e) I.ok.above)
 have neC : ∀ b o, X.s₀.heap.get? b = some o → b ∉ X.ex → b ∉ ch := fun b o e hx hb => by
  rcases (hch b hb).1 with z | z
  ·exact hx z
  ·exact absurd (Nat.lt_of_lt_of_le (Heap.lt_size e) z) (Nat.lt_irrefl _)
 have cellK : ∀ x c, X.env.cells.lookup x = some c → ∀ v, s.heap.IsCell c v → h'.IsCell c v := fun x c e v ⟨o, ho, hd⟩ => by
  have nch : c ∉ ch := fun z => (hch c z).2.2.1 x c e rfl
  by_cases hc : c ∈ X.fs
  ·obtain ⟨sl, q⟩ := slot c o (I.cne x c e) hc nch ho (I.freeC x c e)
   exact ⟨_, q, hd⟩
  ·exact ⟨o, keep c o (I.cne x c e) hc nch ho (I.freeC x c e), hd⟩
 refine ⟨I.ok, I.os, hg, ⟨fun b o e n hb hx => ?_, fun b o e n hb hx => ?_, fun b o e n hx => ?_, fun b o e hx => ?_, fun b xs e => tups b xs (I.base.tups b xs e), fun b o xs e => frzs b o xs (I.base.frzs b o xs e), fun b ps e => ?_⟩, ?_, fun x c e => ?_, ?_, fun x c e => ?_, fun p hp => ?_, hok, I.len⟩
 ·exact keep b o (neL b o e) hb (neC b o e hx) (I.base.keep b o e n hb hx) (I.base.free b o e n hx)
 ·obtain ⟨sl, e1⟩ := I.base.slot b o e n hb hx
  obtain ⟨sl', e2⟩ := slot b _ (neL b o e) hb (neC b o e hx) e1 (I.base.free b o e n hx)
  exact ⟨sl', e2⟩
 ·obtain ⟨o', e1⟩ := I.base.there b o e hx
  exact free b o' (neC b o e hx) e1 (I.base.free b o e n hx)
 ·obtain ⟨o', e1⟩ := I.base.there b o e hx
  exact there b o' (neC b o e hx) e1
 ·obtain ⟨m1, e1⟩ := I.base.tbls b ps e
  obtain ⟨m2, e2⟩ := tbls b _ e1
  exact ⟨m1 ++ m2, by rw [e2, Array.append_assoc]⟩
 ·obtain ⟨m, hn, hl⟩ := I.loc
  refine ⟨m, ns m hn, fun i x v e1 e2 e3 => ?_⟩
  obtain ⟨u, r, l⟩ := hl i x v e1 e2 e3
  refine ⟨u, r, ?_⟩
  rcases l with l | ⟨k, c, e, z⟩
  ·exact .inl l
  ·exact .inr ⟨k, c, e, cellK x c e _ z⟩
 ·obtain ⟨v, z⟩ := I.cell x c e
  exact ⟨v, cellK x c e v z⟩
 ·obtain ⟨m, ⟨o, _, _, ho, _⟩, _⟩ := I.loc
  exact free _ o (fun z => (hch _ z).2.1 rfl) ho I.free
 ·obtain ⟨v, o, ho, hd⟩ := I.cell x c e
  exact free c o (fun z => (hch c z).2.2.1 x c e rfl) ho (I.freeC x c e)
 ·obtain ⟨e, n, ne, nf, d⟩ := I.pin p hp
  have nch : p.1 ∉ ch := fun z => (hch p.1 z).2.2.2 p hp rfl
  exact ⟨keep p.1 p.2 ne nf nch e n, free p.1 p.2 nch e n, ne, nf, d⟩
theorem Inv.un {t' : Nat} (I : Inv X pins σ H s) (u : Un X.fs [] H H' s.heap h') (hok : HOk X.prog X.w H' h') : Inv X pins σ H' { s with heap := h', toks := t' } := by
 obtain ⟨m, ⟨o, es, ep, ho, r⟩, _⟩ := id I.loc
 obtain ⟨sl, hL⟩ := u.any ho I.free (by simp)
 exact I.step (g' := s.gens) (d' := s.drawn) (ch := []) (fun _ z => nomatch z) (fun b o _ hb _ e n => u.keep b o e n hb (by simp)) (fun b o _ hb _ e n => u.slot b o e n hb (by simp)) (fun b o _ e n => u.free b o e n (by simp)) (fun b o _ e => u.there b o e (by simp)) u.tups u.frzs u.tbls (fun m' hm => by
  obtain ⟨o', es', ep', ho', r'⟩ := hm
  rw [ho] at ho'; cases ho'
  exact ⟨_, es', ep', hL, r'⟩) hok I.bare
theorem Inv.call {g' : Array GenState} {t' : Nat} {d' : Drawn} {ch : List Addr} (I : Inv X pins σ H s) (u : Un (frs X.stack) ch H H' s.heap h') (hok : HOk X.prog X.w H' h') (hg : AllBare g')
  (hch : ∀ b ∈ ch, (b ∈ X.ex ∨ X.s₀.heap.objs.size ≤ b) ∧ b ≠ X.env.locals ∧ (∀ x c, X.env.cells.lookup x = some c → c ≠ b) ∧ ∀ p ∈ X.pn ++ pins, p.1 ≠ b) :
  Inv X pins σ H' { s with heap := h', gens := g', drawn := d', toks := t' } := by
 obtain ⟨m, ⟨o, es, ep, ho, r⟩, _⟩ := id I.loc
 obtain ⟨sl, hL⟩ := u.any ho I.free fun z => (hch _ z).2.1 rfl
 exact I.step (ch := ch) hch (fun b o hL hb hc e n => u.keep b o e n (fun z => (List.mem_cons.mp (I.stkSub b z)).elim hL hb) hc) (fun b o _ _ hc e n => u.any e n hc) (fun b o hc e n => u.free b o e n hc) (fun b o hc e => u.there b o e hc) u.tups u.frzs u.tbls (fun m' hm => by
  obtain ⟨o', es', ep', ho', r'⟩ := hm
  rw [ho] at ho'; cases ho'
  exact ⟨_, es', ep', hL, r'⟩) hok hg
theorem Inv.turned {t' : Nat} {it : Addr} (I : Inv X pins σ H s) (k : ∀ b o, b ≠ it → s.heap.get? b = some o → h'.get? b = some o) (hn : H it = none) (hL : it ≠ X.env.locals)
  (h1 : it ∈ X.ex ∨ X.s₀.heap.objs.size ≤ it) (h2 : ∀ x c, X.env.cells.lookup x = some c → c ≠ it) (h3 : ∀ p ∈ X.pn ++ pins, p.1 ≠ it) : Inv X pins σ H { s with heap := h', toks := t' } := by
 have nit : ∀ b u, H b = some u → b ≠ it := fun b u e z => by rw [z, hn] at e; cases e
 refine I.step (g' := s.gens) (d' := s.drawn) (ch := [it]) (fun b hb => ?_) (fun b o _ _ hc e _ => k b o (fun z => hc (by simp [z])) e) (fun b o _ _ hc e _ => ⟨o.slots, k b o (fun z => hc (by simp [z])) e⟩) (fun _ _ _ _ n => n)
  (fun b o hc e => ⟨o, k b o (fun z => hc (by simp [z])) e⟩) (fun _ _ e => e) (fun _ _ _ e => e) (fun b ps e => ⟨#[], by rw [e]; simp⟩) (fun m hm => ?_) (fun b u e => ?_) I.bare
 ·have e : b = it := by simpa using hb
  subst e
  exact ⟨h1, hL, h2, h3⟩
 ·obtain ⟨o, es, ep, ho, r⟩ := hm
  exact ⟨o, es, ep, k _ o (Ne.symm hL) ho, r⟩
 ·refine (I.hok b u e).stay (fun c v hc q => k c v ?_ q) (fun _ q => q) fun _ _ q => q
  rcases hc with z | z
  ·rw [z]; exact nit b u e
  ·exact nit c _ z
theorem Inv.tok (I : Inv X pins σ H s) (t : Nat) : Inv X pins σ H { s with toks := t } := I.un (h' := s.heap) (t' := t) Un.refl I.hok
theorem Inv.kept {t' : Nat} (I : Inv X pins σ H s) (k : ∀ b u, s.heap.get? b = some u → h'.get? b = some u) : Inv X pins σ H { s with heap := h', toks := t' } := I.un (Un.kept k) (I.hok.kept k)
theorem Inv.laid {a : Addr} {o : HO} {t' : Nat} (I : Inv X pins σ H s) (k : ∀ b u, s.heap.get? b = some u → h'.get? b = some u) (hp : s.heap.objs.size ≤ a) (new : ObjOk X.prog X.w (upd H a o) h' a o) :
  Inv X pins σ (upd H a o) { s with heap := h', toks := t' } := I.un (Un.laid k hp (I.hok.fresh hp)) (I.hok.laid k hp new)
theorem Inv.write {x e : Addr} {o : HO} {t' : Nat} (I : Inv X pins σ H s) (mu : Mut (H x)) (he : e = x ∨ H e = some (.own x)) (k : ∀ b u, b ≠ e → s.heap.get? b = some u → h'.get? b = some u) (heo : ∃ u, h'.get? e = some u)
  (new : ObjOk X.prog X.w (upd H x o) h' x o) : Inv X pins σ (upd H x o) { s with heap := h', toks := t' } := I.un (Un.write mu he k heo) (I.hok.write mu he k heo new)
theorem Inv.weak {σ' : List (Option V)} (I : Inv X pins σ H s) (hl : σ'.length = σ.length) (w : ∀ (i : Nat) v, σ'[i]? = some (some v) → σ[i]? = some (some v)) : Inv X pins σ' H s :=
 ⟨I.ok, I.os, I.bare, I.base, let ⟨m, hn, hl'⟩ := I.loc; ⟨m, hn, fun i x v e1 e2 e3 => hl' i x v e1 (w i v e2) e3⟩, I.cell, I.free, I.freeC, I.pin, I.hok, hl.trans I.len⟩
theorem Inv.pins_of {pins' : List (Addr × Obj)} (I : Inv X pins σ H s) (h : ∀ p ∈ pins', s.heap.get? p.1 = some p.2 ∧ H p.1 = none ∧ p.1 ≠ X.env.locals ∧ p.1 ∉ X.fs ∧ ∀ v, p.2.data ≠ .cell v) : Inv X pins' σ H s :=
 ⟨I.ok, I.os, I.bare, I.base, I.loc, I.cell, I.free, I.freeC, fun p hp => (List.mem_append.mp hp).elim (fun z => I.pin p (List.mem_append_left _ z)) (h p), I.hok, I.len⟩
theorem nodup_ix {N : List Str} (hN : N.Nodup) {i j : Nat} {x : Str} (a : N[i]? = some x) (b : N[j]? = some x) : i = j := by
 obtain ⟨h1, e1⟩ := List.getElem?_eq_some_iff.mp a
 obtain ⟨h2, e2⟩ := List.getElem?_eq_some_iff.mp b
 exact (List.getElem_inj hN).mp (e1.trans e2.symm)
theorem store_ok2 {M : Model} {A : Around} {E : Value → Shared → Prop} {i : Nat} {x : Str} {v : V} {u : Value} {Q : Unit → Shared → Prop} (I : Inv X pins σ H s) (hN : X.N.Nodup) (hi : X.N[i]? = some x) (hx : Loc X.env.scope x) (r : RelV v u)
  (h : ∀ s', Inv X pins (σ.set i (some v)) H s' → (∃ a, Heap.SameBut a s.heap s'.heap ∧ (a = X.env.locals ∨ X.env.cells.lookup x = some a)) → Q () s') (hf : X.fn x = true ∨ X.env.scope.names.lookup x = some .local := by first | exact .inl rfl | exact .inr rfl | assumption) : wpAny M A (storeName X.env x u) Q E s := by
 obtain ⟨m, hn, hl⟩ := id I.loc
 have hcls : (X.env.scope.kind == .class || (X.env.scope.kind == .module && X.env.locals != X.env.globals)) = false := by rw [I.ok.kind]; rfl
 have hiσ : i < σ.length := by rw [I.len]; exact (List.getElem?_eq_some_iff.mp hi).1
 have cne := I.cne
 have tracked : ∀ {a : Addr} {h' : Heap}, (∃ o, s.heap.get? a = some o ∧ H a = none) → Heap.SameBut a s.heap h' → HOk X.prog X.w H h' := fun {a h'} ha hs b ob e => by
  obtain ⟨_, _, hfree⟩ := ha
  refine (I.hok b ob e).stay (fun c w' hc q => (hs.2 c ?_).trans q) (fun _ q => q) fun _ _ q => q
  rintro rfl
  rcases hc with rfl | hc
  ·rw [hfree] at e; cases e
  ·rw [hfree] at hc; cases hc
 rcases hx with hk | hk
 ·refine wpAny_storeName_local hk hn (fun h' hn' hs => ?_) hcls
  obtain ⟨oL, _, _, hoL, _⟩ := id hn
  refine h _ ⟨I.ok, I.os, I.bare, ⟨fun b o e n hb hx => ?_, fun b o e n hb hx => ?_, I.base.free, fun b o e hx => ?_, I.base.tups, I.base.frzs, I.base.tbls⟩, ⟨_, hn', fun j y v' e1 e2 e3 => ?_⟩, fun y c e => ?_, I.free, I.freeC, fun p hp => ?_, tracked ⟨oL, hoL, I.free⟩ hs, by simpa using I.len⟩ ⟨_, hs, .inl rfl⟩
  ·exact (hs.2 b (Nat.ne_of_lt (Nat.lt_of_lt_of_le (Heap.lt_size e) I.ok.above))).trans (I.base.keep b o e n hb hx)
  ·obtain ⟨sl, e1⟩ := I.base.slot b o e n hb hx
   exact ⟨sl, (hs.2 b (Nat.ne_of_lt (Nat.lt_of_lt_of_le (Heap.lt_size e) I.ok.above))).trans e1⟩
  ·obtain ⟨o', e1⟩ := I.base.there b o e hx
   exact ⟨o', (hs.2 b (Nat.ne_of_lt (Nat.lt_of_lt_of_le (Heap.lt_size e) I.ok.above))).trans e1⟩
  ·by_cases hj : j = i
   ·subst hj
    rw [hi] at e1; cases e1
    rw [List.getElem?_set_self hiσ] at e2
    cases e2
    exact ⟨u, r, .inl ⟨hk, by simp⟩⟩
   ·rw [List.getElem?_set_ne (Ne.symm hj)] at e2
    obtain ⟨u', r', q⟩ := hl j y v' e1 e2 e3
    refine ⟨u', r', ?_⟩
    rcases q with ⟨k, e⟩ | ⟨k, c, e, z⟩
    ·refine .inl ⟨k, ?_⟩
     have : y ≠ x := fun e => hj (nodup_ix hN e1 (e ▸ hi))
     simp [this, e]
    ·exact .inr ⟨k, c, e, z.sameBut hs (cne y c e)⟩
  ·obtain ⟨w', z⟩ := I.cell y c e
   exact ⟨w', z.sameBut hs (cne y c e)⟩
  ·obtain ⟨e, n, ne, nf, d⟩ := I.pin p hp
   exact ⟨(hs.2 p.1 ne).trans e, n, ne, nf, d⟩
 ·have hfn : X.fn x = true := by
   rcases hf with z | z
   ·exact z
   ·rw [z] at hk; cases hk
  obtain ⟨c, hc⟩ := I.ok.has x (.inl hk)
  obtain ⟨w', z⟩ := I.cell x c hc
  refine wpAny_storeName_cell I.ok.kind hk hc z (fun h' hc' hs => ?_)
  obtain ⟨oc, hoc, hocd⟩ := id z
  refine h { s with heap := h' } ⟨I.ok, I.os, I.bare, ⟨fun b o e n hb hx => ?_, fun b o e n hb hx => ?_, I.base.free, fun b o e hx => ?_, I.base.tups, I.base.frzs, I.base.tbls⟩, ⟨m, hn.sameBut hs (Ne.symm (cne x c hc)), fun j y v' e1 e2 e3 => ?_⟩, fun y c' e => ?_, I.free, I.freeC, fun p hp => ?_, tracked ⟨oc, hoc, I.freeC x c hc⟩ hs, by simpa using I.len⟩ ⟨c, hs, .inr hc⟩
  ·exact (hs.2 b (Nat.ne_of_lt (Nat.lt_of_lt_of_le (Heap.lt_size e) (I.ok.cab x c hfn hc)))).trans (I.base.keep b o e n hb hx)
  ·obtain ⟨sl, e1⟩ := I.base.slot b o e n hb hx
   exact ⟨sl, (hs.2 b (Nat.ne_of_lt (Nat.lt_of_lt_of_le (Heap.lt_size e) (I.ok.cab x c hfn hc)))).trans e1⟩
  ·obtain ⟨o', e1⟩ := I.base.there b o e hx
   exact ⟨o', (hs.2 b (Nat.ne_of_lt (Nat.lt_of_lt_of_le (Heap.lt_size e) (I.ok.cab x c hfn hc)))).trans e1⟩
  ·by_cases hj : j = i
   ·subst hj
    rw [hi] at e1; cases e1
    rw [List.getElem?_set_self hiσ] at e2
    cases e2
    exact ⟨u, r, .inr ⟨.inl hk, c, hc, hc'⟩⟩
   ·rw [List.getElem?_set_ne (Ne.symm hj)] at e2
    obtain ⟨u', r', q⟩ := hl j y v' e1 e2 e3
    refine ⟨u', r', ?_⟩
    rcases q with q | ⟨k, c', e, z'⟩
    ·exact .inl q
    ·refine .inr ⟨k, c', e, z'.sameBut hs ?_⟩
     rintro rfl
     exact hj (nodup_ix hN e1 (I.ok.inj _ _ _ e hc ▸ hi))
  ·by_cases hcc : c' = c
   ·subst hcc; exact ⟨_, hc'⟩
   ·obtain ⟨w2, z2⟩ := I.cell y c' e
    exact ⟨w2, z2.sameBut hs hcc⟩
  ·obtain ⟨e, n, ne, nf, d⟩ := I.pin p hp
   refine ⟨(hs.2 p.1 ?_).trans e, n, ne, nf, d⟩
   intro q
   rw [q, hoc] at e
   have q' : oc = p.2 := Option.some.inj e
   exact d w' (by rw [← q']; exact hocd)
theorem store_ok {M : Model} {A : Around} {E : Value → Shared → Prop} {i : Nat} {x : Str} {v : V} {u : Value} {Q : Unit → Shared → Prop} (I : Inv X pins σ H s) (hN : X.N.Nodup) (hi : X.N[i]? = some x) (hx : Loc X.env.scope x) (r : RelV v u)
  (h : ∀ s', Inv X pins (σ.set i (some v)) H s' → Q () s') (hf : X.fn x = true ∨ X.env.scope.names.lookup x = some .local := by first | exact .inl rfl | exact .inr rfl | assumption) : wpAny M A (storeName X.env x u) Q E s :=
 store_ok2 I hN hi hx r (fun s' I' _ => h s' I') hf
theorem Inv.call' {s' : Shared} {ch : List Addr} (I : Inv X pins σ H s) (ho : s'.os = s.os) (u : Un (frs X.stack) ch H H' s.heap s'.heap) (hok : HOk X.prog X.w H' s'.heap) (hg : AllBare s'.gens)
  (hch : ∀ b ∈ ch, (b ∈ X.ex ∨ X.s₀.heap.objs.size ≤ b) ∧ b ≠ X.env.locals ∧ (∀ x c, X.env.cells.lookup x = some c → c ≠ b) ∧ ∀ p ∈ X.pn ++ pins, p.1 ≠ b) : Inv X pins σ H' s' := by
 obtain ⟨h', g', d', t', o'⟩ := s'
 have e : o' = s.os := ho
 subst e
 exact I.call (g' := g') (t' := t') (d' := d') u hok hg hch
end
abbrev XK := Value → Option Addr → Hp → Prop
abbrev St := List (Option V)
abbrev VK := V → Hp → Prop
abbrev TE := St → Hp → VK → Prop
abbrev TT := St → Hp → (Bool → Hp → Prop) → Prop
abbrev TA := St → Hp → (List V → Hp → Prop) → Prop
structure Ends where
 nx : St → Hp → Prop
 rt : VK
 bk : St → Hp → Prop := fun _ _ => False
 ct : St → Hp → Prop := fun _ _ => False
abbrev TS := Ends → St → Hp → Prop
def EP (X : Cx) (pins : List (Addr × Obj)) (σ : St) (Q : VK) (u : Value) (s' : Shared) : Prop := ∃ v H', Inv X pins σ H' s' ∧ RelV v u ∧ Q v H'
def TP (X : Cx) (pins : List (Addr × Obj)) (σ : St) (Q : Bool → Hp → Prop) (b : Bool) (s' : Shared) : Prop := ∃ H', Inv X pins σ H' s' ∧ Q b H'
def AP (X : Cx) (pins : List (Addr × Obj)) (σ : St) (Q : List V → Hp → Prop) (us : List Value) (s' : Shared) : Prop := ∃ vs H', Inv X pins σ H' s' ∧ Vals vs us ∧ Q vs H'
def SP (X : Cx) (pins : List (Addr × Obj)) (D : Ends) (f : Flow) (s' : Shared) : Prop :=
 match f with
 | .next => ∃ σ' H', Inv X pins σ' H' s' ∧ D.nx σ' H'
 | .brk => ∃ σ' H', Inv X pins σ' H' s' ∧ D.bk σ' H'
 | .cont => ∃ σ' H', Inv X pins σ' H' s' ∧ D.ct σ' H'
 | .ret u => ∃ v σ' H', Inv X pins σ' H' s' ∧ RelV v u ∧ D.rt v H'
def PE (X : Cx) (e : Expr) (t : TE) : Prop :=
 ∀ (pins : List (Addr × Obj)) (s : Shared) (σ : St) (H : Hp) (Q : VK), Inv X pins σ H s → t σ H Q → wpAny (model X.prog X.w) X.A (eval e X.env) (EP X pins σ Q) X.xe s
def PT (X : Cx) (e : Expr) (t : TT) : Prop :=
 ∀ (pins : List (Addr × Obj)) (s : Shared) (σ : St) (H : Hp) (Q : Bool → Hp → Prop), Inv X pins σ H s → t σ H Q → wpAny (model X.prog X.w) X.A (isTrue e X.env (eval e X.env)) (TP X pins σ Q) X.xe s
def PW (X : Cx) (e : Expr) (t : TT) : Prop :=
 ∀ (whole : Sem Value) (pins : List (Addr × Obj)) (s : Shared) (σ : St) (H : Hp) (Q : Bool → Hp → Prop), Inv X pins σ H s → t σ H Q → wpAny (model X.prog X.w) X.A (isTrue e X.env whole) (TP X pins σ Q) X.xe s
def PA (X : Cx) (es : List Expr) (t : TA) : Prop :=
 ∀ (pos : Pos) (pins : List (Addr × Obj)) (s : Shared) (σ : St) (H : Hp) (Q : List V → Hp → Prop), Inv X pins σ H s → t σ H Q → wpAny (model X.prog X.w) X.A (spliced (backTo pos (starEach es X.env))) (AP X pins σ Q) X.xe s
def PS (X : Cx) (st : Stmt) (t : TS) : Prop :=
 ∀ (pins : List (Addr × Obj)) (s : Shared) (σ : St) (H : Hp) (D : Ends), Inv X pins σ H s → t D σ H → wpAny (model X.prog X.w) X.A (exec st X.env) (SP X pins D) X.xe s
def PSs (X : Cx) (st : List Stmt) (t : TS) : Prop :=
 ∀ (pins : List (Addr × Obj)) (s : Shared) (σ : St) (H : Hp) (D : Ends), Inv X pins σ H s → t D σ H → wpAny (model X.prog X.w) X.A (execs st X.env) (SP X pins D) X.xe s
theorem thn {α : Type} {t : Sem α} {Q Q' : α → Shared → Prop} {M : Model} {A : Around} {E : Value → Shared → Prop} {s : Shared} (h : wpAny M A t Q E s) (hQ : ∀ a s, Q a s → Q' a s) : wpAny M A t Q' E s := wpAny_mono h hQ fun _ _ x => x
section
variable {X : Cx}
def tVar (i : Nat) : TE := fun σ H Q => ∃ v, σ[i]? = some (some v) ∧ Q v H
def tC (v : V) : TE := fun _ H Q => Q v H
theorem pe_var {i : Nat} {x : Str} {pos : Pos} (hN : X.N[i]? = some x) (hv : Vis X.env.scope x) (hd : (x == ("__debug__" : Str)) = false := by decide) (hcd : (x == ("__classdict__" : Str)) = false := by decide) : PE X (.Name x pos) (tVar i) := by
 intro pins s σ H Q I h
 obtain ⟨v, e, h⟩ := h
 obtain ⟨m, hn, hl⟩ := I.loc
 obtain ⟨u, r, l⟩ := hl i x v hN e hv
 have fin : EP X pins σ Q u s := ⟨v, H, I, r, h⟩
 rcases l with ⟨hk, hm⟩ | ⟨hk, c, hc, hcell⟩
 ·exact wpAny_Name (wpAny_loadName_local I.ok.kind hk hn hm fin) hd
 ·rcases hk with hk | hk
  ·exact wpAny_Name (wpAny_loadName_cell I.ok.kind hk hc hcell fin) hd
  ·exact wpAny_Name (wpAny_loadName_free I.ok.kind hk hc hcell fin hcd) hd
theorem pe_int {i j pos} : PE X (.Constant (.int i) j pos) (tC (.int i)) := fun _ _ _ H _ I h => wpAny_Constant_int ⟨.int i, H, I.tok _, ⟨_, rfl⟩, h⟩
theorem pe_bl {b j pos} : PE X (.Constant (.bool b) j pos) (tC (.bl b)) := fun _ _ _ H _ I h => Constant_bool ⟨.bl b, H, I, rfl, h⟩
theorem pe_str {x j pos} : PE X (.Constant (.str x) j pos) (tC (.str x)) := fun _ _ _ H _ I h => Calls.Constant_str ⟨.str x, H, I.tok _, ⟨_, rfl⟩, h⟩
def Gl (X : Cx) (x : Str) : Prop := X.env.kindOf x = some .globalImplicit
theorem ld_glob {E : Value → Shared → Prop} {pins : List (Addr × Obj)} {s : Shared} {σ : St} {H : Hp} {x : Str} {u : Value} {pos : Pos} {Q : Value → Shared → Prop} (I : Inv X pins σ H s) (hg : Gl X x) (hm : X.mg x = some u) (h : Q u s)
  (hd : (x == ("__debug__" : Str)) = false := by decide) : wpAny (model X.prog X.w) X.A (eval (.Name x pos) X.env) Q E s :=
 Calls.Name_function_global I.ok.kind hg (Calls.loadGlobal_global (by rw [I.ok.glob]; exact I.mod.glob.keeps I.bk) hm h) hd
theorem ld_blt {E : Value → Shared → Prop} {pins : List (Addr × Obj)} {s : Shared} {σ : St} {H : Hp} {x : Str} {u : Value} {pos : Pos} {Q : Value → Shared → Prop} (I : Inv X pins σ H s) (hg : Gl X x) (hm : X.mg x = none) (hv : bootBuiltins x = some u) (h : Q u s)
  (hn : x ≠ "__name__" := by decide) (hd : (x == ("__debug__" : Str)) = false := by decide) : wpAny (model X.prog X.w) X.A (eval (.Name x pos) X.env) Q E s := by
 obtain ⟨mb, h1, h2⟩ := I.mod.blt
 exact Calls.Name_function_global I.ok.kind hg (Calls.loadGlobal_builtin (by rw [I.ok.glob]; exact I.mod.glob.keeps I.bk) hm (by rw [I.ok.blt]; exact h1.keeps I.bk) ((h2 x hn).trans hv) h) hd
theorem pe_glob {x : Str} {v : V} {u : Value} {pos : Pos} (hg : Gl X x) (hm : X.mg x = some u) (r : RelV v u) (hd : (x == ("__debug__" : Str)) = false := by decide) : PE X (.Name x pos) (tC v) :=
 fun _ _ _ H _ I h => ld_glob I hg hm ⟨v, H, I, r, h⟩ hd
theorem pe_bltn {x : Str} {v : V} {u : Value} {pos : Pos} (hg : Gl X x) (hm : X.mg x = none) (hv : bootBuiltins x = some u) (r : RelV v u) (hn : x ≠ "__name__" := by decide) (hd : (x == ("__debug__" : Str)) = false := by decide) : PE X (.Name x pos) (tC v) :=
 fun _ _ _ H _ I h => ld_blt I hg hm hv ⟨v, H, I, r, h⟩ hn hd
variable {a b : Expr} {ta tb : TE} {pos : Pos}
def PC (X : Cx) (op : CmpOp) (a b : Expr) (t : TE) : Prop :=
 ∀ (pins : List (Addr × Obj)) (s : Shared) (σ : St) (H : Hp) (Q : VK), Inv X pins σ H s → t σ H Q →
  wpAny (model X.prog X.w) X.A (eval a X.env) (fun v s₁ => wpAny (model X.prog X.w) X.A (eval b X.env) (fun u s₂ => wpAny (model X.prog X.w) X.A (compareOp op v u) (EP X pins σ Q) X.xe s₂) X.xe s₁) X.xe s
theorem nobehind (b : Expr) {op : CmpOp} (h : op ≠ .In) (h2 : op ≠ .NotIn) : behindInMarks op b = false := by
 have e1 : (op == CmpOp.In) = false := by cases op <;> first | rfl | exact absurd rfl h
 have e2 : (op == CmpOp.NotIn) = false := by cases op <;> first | rfl | exact absurd rfl h2
 cases b <;> simp [behindInMarks, e1, e2]
def tB (t : TE) : TT := fun σ H Q => t σ H fun x H1 => ∃ c, x = .bl c ∧ Q c H1
theorem pt_cmp {op : CmpOp} {t : TE} (h : PC X op a b t) (h1 : behindInMarks op b = false := by first | exact nobehind _ (by decide) (by decide) | rfl) : PT X (.Compare a [op] [b] pos) (tB t) := by
 intro pins s σ H Q I hw
 refine wpAny_isTrue_Compare1 (thn (h pins s σ H _ I hw) fun v s1 h1 => thn h1 fun u s2 h2 => thn h2 fun c s3 ⟨x, H1, I1, r1, q1⟩ => ?_) h1
 obtain ⟨d, rfl, q⟩ := q1
 cases r1
 exact wpAny_truthy_bool ⟨H1, I1, q⟩
theorem pt_val {e : Expr} {t : TE} (h : PE X e t) (he : ∀ whole, isTrue e X.env whole = (do let v ← whole; standAt e.pos; holding [v] (truthy v)) := by intro _; rfl) : PT X e (tB t) := by
 intro pins s σ H Q I hw
 refine isTrue_plain (thn (h pins s σ H _ I hw) fun v s1 ⟨x, H1, I1, r1, q1⟩ => ?_) (he _)
 obtain ⟨d, rfl, q⟩ := q1
 cases r1
 exact wpAny_truthy_bool ⟨H1, I1, q⟩
variable {tA tB' : TT} {rest : List Expr}
def tOr (t u : TT) : TT := fun σ H Q => t σ H fun c H1 => if c = true then Q true H1 else u σ H1 Q
def tNot (t : TT) : TT := fun σ H Q => t σ H fun c H1 => Q (!c) H1
theorem pw_or1 (ha : PT X a tA) : PW X (.BoolOp .Or [a] pos) tA := by
 intro wh pins s σ H Q I h
 refine isTrue_or (thn (ha pins s σ H Q I h) fun c s1 e => ?_)
 cases c with
 | false => exact isTrue_or_nil e
 | true => exact e
theorem pw_or (ha : PT X a tA) (hb : PW X (.BoolOp .Or (b :: rest) pos) tB') : PW X (.BoolOp .Or (a :: b :: rest) pos) (tOr tA tB') := by
 intro wh pins s σ H Q I h
 refine isTrue_or (thn (ha pins s σ H _ I h) fun c s1 ⟨H1, I1, q1⟩ => ?_)
 cases c with
 | true => exact ⟨H1, I1, q1⟩
 | false => exact hb wh pins s1 σ H1 Q I1 q1
theorem pt_not (ha : PT X a tA) : PT X (.UnaryOp .Not a pos) (tNot tA) := by
 intro pins s σ H Q I h
 exact isTrue_not (ha pins s σ H (fun c H1 => Q (!c) H1) I h)
def tAndV (ta tb : TE) : TE := fun σ H Q => ta σ H fun x H1 => ∃ c, x = .bl c ∧ if c = true then tb σ H1 Q else Q (.bl false) H1
def tNotV (ta : TE) : TE := fun σ H Q => ta σ H fun x H1 => ∃ c, x = .bl c ∧ Q (.bl (!c)) H1
theorem pe_one {op} {t : TE} (h : PE X a t) : PE X (.BoolOp op [a] pos) t := fun pins s σ H Q I hw => BoolOp_one (h pins s σ H Q I hw)
theorem pe_and (ha : PE X a ta) (hb : PE X (.BoolOp .And (b :: rest) pos) tb) : PE X (.BoolOp .And (a :: b :: rest) pos) (tAndV ta tb) := by
 intro pins s σ H Q I h
 refine BoolOp_and (thn (ha pins s σ H _ I h) fun v s1 ⟨x, H1, I1, r1, q1⟩ => ?_)
 obtain ⟨c, rfl, q1⟩ := q1
 cases r1
 refine wpAny_truthy_bool ?_
 cases c with
 | true => exact hb pins s1 σ H1 Q I1 q1
 | false => exact ⟨.bl false, H1, I1, rfl, q1⟩
theorem pe_not (ha : PE X a ta) : PE X (.UnaryOp .Not a pos) (tNotV ta) := by
 intro pins s σ H Q I h
 refine UnaryOp_ (thn (ha pins s σ H _ I h) fun v s1 ⟨x, H1, I1, r1, q1⟩ => ?_)
 obtain ⟨c, rfl, q1⟩ := q1
 cases r1
 exact not_of (wpAny_truthy_bool ⟨.bl (!c), H1, I1, rfl, q1⟩)
end
def SqL (K : PySem.W.Frag) (H : Hp) (a : Addr) (xs : List V) : Prop :=
 Rd H a (.lst xs) ∨
  ∃ (o : Obj) (its : Array Value) (n : Nat), K.lookup a = some o ∧ o.cls = .type "list" ∧ o.dict = none ∧ o.data = .seq its n ∧ its.size ≤ sizeLine ∧ Vals xs its.toList
def SqT (K : PySem.W.Frag) (H : Hp) (a : Addr) (xs : List V) : Prop :=
 Rd H a (.tup xs) ∨
  ∃ (o : Obj) (its : Array Value) (n : Nat), K.lookup a = some o ∧ o.cls = .type "tuple" ∧ o.data = .seq its n ∧ its.size ≤ sizeLine ∧ Vals xs its.toList
def absV : Value → Option V
 | .none => some .non
 | .bool b => some (.bl b)
 | .int i _ => some (.int i)
 | .str x _ => some (.str x)
 | .bytes b _ => some (.byt b)
 | .float b _ => some (.flt b)
 | .ref a => some (.ref a)
 | .type n => some (.ty n)
 | _ => none
theorem RelV.abs {x : V} {u : Value} (r : RelV x u) : absV u = some x := by
 cases x with
 | non => cases r; rfl
 | bl _ => cases r; rfl
 | int _ => obtain ⟨t, rfl⟩ := r; rfl
 | str _ => obtain ⟨t, rfl⟩ := r; rfl
 | byt _ => obtain ⟨t, rfl⟩ := r; rfl
 | flt _ => obtain ⟨t, rfl⟩ := r; rfl
 | ref _ => cases r; rfl
 | ty _ => cases r; rfl
theorem RelV.inj {x y : V} {u : Value} (r : RelV x u) (q : RelV y u) : x = y := Option.some.inj (r.abs.symm.trans q.abs)
theorem Vals.inj : ∀ {xs ys : List V} {us : List Value}, Vals xs us → Vals ys us → xs = ys
 | _, _, _, .nil, .nil => rfl
 | _, _, _, .cons r t, .cons r' t' => by rw [r.inj r', Vals.inj t t']
section
variable {X : Cx} {pins : List (Addr × Obj)} {σ : St} {H : Hp} {s : Shared} {a : Addr} {xs ys : List V}
theorem SqL.of {K : PySem.W.Frag} (h : H a = some (.lst xs)) : SqL K H a xs := .inl (.inl h)
theorem SqT.of {K : PySem.W.Frag} (h : H a = some (.tup xs)) : SqT K H a xs := .inl (.inl h)
theorem Inv.list (I : Inv X pins σ H s) (h : SqL X.K H a xs) : ∃ its : List Value, Vals xs its ∧ PlainL s.heap a its.toArray ∧ xs.length ≤ sizeLine := by
 rcases h with h | ⟨o, its, n, hk, hc, hd, hs, hz, r⟩
 ·obtain ⟨z, its, n, r, e⟩ := h.ok I.hok
  exact ⟨its, r, ⟨_, n, e, rfl, rfl, rfl⟩, z⟩
 ·refine ⟨its.toList, r, ⟨o, n, I.kIn a o hk, hc, hd, by simpa using hs⟩, ?_⟩
  have e := r.length
  simp only [Array.length_toList] at e
  omega
theorem Inv.tuple (I : Inv X pins σ H s) (h : SqT X.K H a xs) : ∃ its : List Value, Vals xs its ∧ IsTup s.heap a its.toArray ∧ xs.length ≤ sizeLine := by
 rcases h with h | ⟨o, its, n, hk, hc, hs, hz, r⟩
 ·obtain ⟨z, its, r, p⟩ := h.ok I.hok
  exact ⟨its, r, p, z⟩
 ·refine ⟨its.toList, r, ⟨o, I.kIn a o hk, hc, n, by simpa using hs⟩, ?_⟩
  have e := r.length
  simp only [Array.length_toList] at e
  omega
theorem Inv.list_inj (I : Inv X pins σ H s) (h : SqL X.K H a xs) (h' : SqL X.K H a ys) : xs = ys := by
 obtain ⟨its, r, ⟨o, n, e, _, _, d⟩, _⟩ := I.list h
 obtain ⟨its', r', ⟨o', n', e', _, _, d'⟩, _⟩ := I.list h'
 rw [e] at e'; cases e'
 rw [d] at d'
 injection d' with d1 _
 have : its = its' := by simpa using congrArg Array.toList d1
 subst this
 exact r.inj r'
end
section
variable {X : Cx} {pins : List (Addr × Obj)} {σ : St} {H : Hp} {s : Shared} {E : Value → Shared → Prop}
end
section
variable {X : Cx} {st : Stmt} {rest : List Stmt} {t u : TS} {e : Expr} {te : TE} {pos : Pos}
def tNext : TS := fun D σ H => D.nx σ H
def tSeq (t u : TS) : TS := fun D σ H => t { D with nx := u D } σ H
theorem pss_nil : PSs X [] tNext := fun _ _ σ H _ I h => wpAny_execs_nil ⟨σ, H, I, h⟩
theorem pss_cons (h1 : PS X st t) (h2 : PSs X rest u) : PSs X (st :: rest) (tSeq t u) := by
 intro pins s σ H D I h
 refine wpAny_execs_cons (thn (h1 pins s σ H { D with nx := u D } I h) fun f s1 q => ?_)
 cases f with
 | next =>
  obtain ⟨σ', H', I', q⟩ := q
  exact h2 pins s1 σ' H' D I' q
 | ret v => exact q
 | brk => exact q
 | cont => exact q
theorem pss_one (h1 : PS X st t) : PSs X [st] t := by
 intro pins s σ H D I h
 refine wpAny_execs_cons (thn (h1 pins s σ H D I h) fun f s1 q => ?_)
 cases f with
 | next => exact wpAny_execs_nil q
 | ret v => exact q
 | brk => exact q
 | cont => exact q
theorem Inv.quiet {pins : List (Addr × Obj)} {σ : St} {H : Hp} {s : Shared} (I : Inv X pins σ H s) : interactive X.env = false := by simp [interactive, I.ok.kind]
def tDrop (te : TE) : TS := fun D σ H => te σ H fun _ H1 => D.nx σ H1
theorem ps_expr (he : PE X e te) (hs : swapsWith e none pos.line X.env = pure false := by rfl) : PS X (.Expr e pos) (tDrop te) := by
 intro pins s σ H D I h
 exact wpAny_Expr_any (thn (he pins s σ H _ I h) fun v s1 ⟨x, H1, I1, r1, q1⟩ => ⟨σ, H1, I1, q1⟩) I.quiet hs
def tRet (te : TE) : TS := fun D σ H => te σ H D.rt
theorem ps_ret (he : PE X e te) : PS X (.Return (some e) pos) (tRet te) := by
 intro pins s σ H D I h
 exact wpAny_Return_some (thn (he pins s σ H _ I h) fun v s1 ⟨x, H1, I1, r1, q1⟩ => ⟨x, σ, H1, I1, r1, q1⟩)
def tIfS (c : TT) (t u : TS) : TS := fun D σ H => c σ H fun b H1 => if b = true then t D σ H1 else u D σ H1
theorem ps_if {c : Expr} {a b : List Stmt} {tc : TT} (hc : PT X c tc) (ha : PSs X a t) (hb : PSs X b u) : PS X (.If c a b pos) (tIfS tc t u) := by
 intro pins s σ H D I h
 refine wpAny_If (thn (hc pins s σ H _ I h) fun d s1 ⟨H1, I1, q1⟩ => ?_)
 cases d with
 | true => exact ha pins s1 σ H1 D I1 q1
 | false => exact hb pins s1 σ H1 D I1 q1
end
abbrev TG := V → St → Hp → (St → Hp → Prop) → Prop
abbrev TGs := List V → St → Hp → (St → Hp → Prop) → Prop
def PG (X : Cx) (target : Expr) (t : TG) : Prop :=
 ∀ (pins : List (Addr × Obj)) (s : Shared) (σ : St) (H : Hp) (v : V) (u : Value) (Q : St → Hp → Prop), Inv X pins σ H s → RelV v u → t v σ H Q →
  wpAny (model X.prog X.w) X.A (assign target X.env u) (fun _ s' => ∃ σ' H', Inv X pins σ' H' s' ∧ Q σ' H') X.xe s
def PGs (X : Cx) (ts : List Expr) (t : TGs) : Prop :=
 ∀ (pins : List (Addr × Obj)) (s : Shared) (σ : St) (H : Hp) (vs : List V) (us : List Value) (Q : St → Hp → Prop), Inv X pins σ H s → Vals vs us → t vs σ H Q →
  wpAny (model X.prog X.w) X.A (assignInOrder ((assignEach ts X.env).map (·.2)) us) (fun _ s' => ∃ σ' H', Inv X pins σ' H' s' ∧ Q σ' H') X.xe s
section
variable {X : Cx} {pos : Pos}
def gName (i : Nat) : TG := fun v σ H Q => Q (σ.set i (some v)) H
theorem pg_name {i : Nat} {x : Str} (hN : X.N.Nodup) (hi : X.N[i]? = some x) (hx : Loc X.env.scope x) (hf : X.fn x = true ∨ X.env.scope.names.lookup x = some .local := by first | exact .inl rfl | exact .inr rfl | assumption) : PG X (.Name x pos) (gName i) := by
 intro pins s σ H v u Q I r h
 exact wpAny_assign_Name (store_ok I hN hi hx r (fun s' I' => ⟨_, H, I', h⟩) hf)
def gNil : TGs := fun vs σ H Q => vs = [] ∧ Q σ H
def gCons (t : TG) (u : TGs) : TGs := fun vs σ H Q => ∃ v r, vs = v :: r ∧ t v σ H fun σ' H' => u r σ' H' Q
theorem pgs_nil : PGs X [] gNil := by
 intro pins s σ H vs us Q I r h
 obtain ⟨e, h⟩ := h
 subst e
 cases r
 exact assignInOrder_nil ⟨σ, H, I, h⟩
theorem pgs_cons {e : Expr} {es : List Expr} {t : TG} {u : TGs} (h1 : PG X e t) (h2 : PGs X es u)
  (hs : (assignEach (e :: es) X.env).map (·.2) = assign e X.env :: (assignEach es X.env).map (·.2) := by rfl) : PGs X (e :: es) (gCons t u) := by
 intro pins s σ H vs us Q I r h
 obtain ⟨v, vr, e1, h⟩ := h
 subst e1
 cases r with
 | cons r rr =>
  rw [hs]
  refine assignInOrder_cons (thn (h1 pins s σ H _ _ _ I r h) fun _ s1 ⟨σ1, H1, I1, q1⟩ => ?_)
  exact h2 pins s1 σ1 H1 _ _ Q I1 rr q1
def gTup (K : PySem.W.Frag) (n : Nat) (t : TGs) : TG := fun v σ H Q => ∃ a xs, v = .ref a ∧ SqT K H a xs ∧ xs.length = n ∧ t xs σ H Q
theorem pg_tup {es : List Expr} {k : Nat} {t : TGs} {n : Nat} (hc : X.calm = true) (h : PGs X es t)
  (hn : (assignEach es X.env).length = n := by rfl) (hst : (assignEach es X.env).findIdx? (·.1) = none := by rfl) : PG X (.Tuple es k pos) (gTup X.K n t) := by
 intro pins s σ H v u Q I r hw
 obtain ⟨a, xs, e1, hq, hl, hw⟩ := hw
 subst e1
 cases r
 obtain ⟨its, rv, ht, hz⟩ := I.tuple hq
 refine assign_Tuple_tuple (I.ok.hd hc) ht (by simp [hn, ← hl, rv.length]) hst fun h' hx => ?_
 have I1 : Inv X pins σ H { s with heap := h' } := I.kept (t' := s.toks) fun b o e => hx b o (Nat.ne_of_lt (Heap.lt_size e)) e
 exact h pins _ σ H xs _ Q I1 (by simpa using rv) hw
def tAsg (te : TE) (g : TG) : TS := fun D σ H => te σ H fun x H1 => g x σ H1 D.nx
theorem ps_set {i : Nat} {x : Str} {e : Expr} {te : TE} {pos' : Pos} (hN : X.N.Nodup) (hi : X.N[i]? = some x) (hx : Loc X.env.scope x) (he : PE X e te) (hs : swapsWith e (some (.Name x pos')) pos.line X.env = pure false := by rfl) (hf : X.fn x = true ∨ X.env.scope.names.lookup x = some .local := by first | exact .inl rfl | exact .inr rfl | assumption) :
  PS X (.Assign [.Name x pos'] e pos) (tAsg te (gName i)) := by
 intro pins s σ H D I h
 refine wpAny_Assign_Name (thn (he pins s σ H _ I h) fun v s1 ⟨y, H1, I1, r1, q1⟩ => ?_) hs
 exact store_ok I1 hN hi hx r1 (fun s2 I2 => ⟨_, H1, I2, q1⟩) hf
end
section
variable {X : Cx} {pos : Pos}
def tWhile (c : TT) (tb : TS) : TS := fun D σ H => ∃ W : Nat → St → Hp → Prop, (∃ m, W m σ H) ∧ ∀ m σ H, W m σ H →
 c σ H fun b H1 => if b = true then ∃ N : St → Hp → Prop, (∀ σ' H', N σ' H' → ∃ m', m' < m ∧ W m' σ' H') ∧ tb { D with nx := N, ct := N, bk := D.nx } σ H1 else D.nx σ H1
theorem ps_while {c : Expr} {body : List Stmt} {tc : TT} {tb : TS} (hp : PassesOwn (model X.prog X.w) X.A X.env X.xe) (hc : PT X c tc) (hb : PSs X body tb) : PS X (.While c body [] pos) (tWhile tc tb) := by
 intro pins s σ H D I h
 obtain ⟨W, ⟨m0, w0⟩, turn⟩ := h
 refine wpAny_While (codeAny_whileLoop (fun n s' => ∃ σ' H', Inv X pins σ' H' s' ∧ W n σ' H') ?_ m0 ⟨σ, H, I, w0⟩)
 rintro n s1 ⟨σ1, H1, I1, w1⟩
 refine wpAny_passesOwn hp (thn (hc pins s1 σ1 H1 _ I1 (turn n σ1 H1 w1)) fun b s2 ⟨H2, I2, q2⟩ => ?_)
 cases b with
 | true =>
  obtain ⟨N, hN, q2⟩ := q2
  rw [if_pos rfl]
  refine wpAny_passesOwn hp (thn (hb pins s2 σ1 H2 _ I2 q2) fun f s3 q3 => ?_)
  cases f with
  | next =>
   obtain ⟨σ3, H3, I3, n3⟩ := q3
   obtain ⟨m', hm, w3⟩ := hN σ3 H3 n3
   exact ⟨m', hm, σ3, H3, I3, w3⟩
  | cont =>
   obtain ⟨σ3, H3, I3, n3⟩ := q3
   obtain ⟨m', hm, w3⟩ := hN σ3 H3 n3
   exact ⟨m', hm, σ3, H3, I3, w3⟩
  | brk => exact q3
  | ret v => exact q3
 | false =>
  rw [if_neg Bool.false_ne_true]
  exact wpAny_execs_nil ⟨σ1, H2, I2, q2⟩
end
structure It where
 go : Nat → Hp → Prop
 yld : Nat → Hp → V → Hp → Prop
 stop : Nat → Hp → Prop
def FpOk (X : Cx) (pins : List (Addr × Obj)) (H : Hp) (b : Addr) : Prop :=
 H b = none ∧ b ≠ X.env.locals ∧ b ∉ X.fs ∧ (b ∈ X.ex ∨ X.s₀.heap.objs.size ≤ b) ∧ (∀ x c, X.env.cells.lookup x = some c → c ≠ b) ∧ ∀ p ∈ X.pn ++ pins, p.1 ≠ b
theorem Inv.fpOk {X : Cx} {pins : List (Addr × Obj)} {σ : St} {H H' : Hp} {s : Shared} {b : Addr} (I : Inv X pins σ H s) (hb : s.heap.objs.size ≤ b) (hn : H' b = none) : FpOk X pins H' b := by
 refine ⟨hn, Nat.ne_of_gt (Nat.lt_of_lt_of_le I.lt hb), I.nofs hb, .inr (Nat.le_trans I.sz hb), fun x c e z => ?_, fun p hp z => ?_⟩
 ·obtain ⟨v, q⟩ := I.cell x c e
  exact absurd (Nat.lt_of_lt_of_le q.lt (by rw [z]; exact hb)) (Nat.lt_irrefl _)
 ·exact absurd (Nat.lt_of_lt_of_le (Heap.lt_size (I.pin p hp).1) (by rw [z]; exact hb)) (Nat.lt_irrefl _)
structure Turn (P : Program) (w : World) (K : PySem.W.Frag) (tg : Expr) (J : It) (fp : List Addr) (it : Addr) (tn : Nat → Heap → Prop) : Prop where
 mem : it ∈ fp
 obj : ∀ i h, tn i h → ∀ b ∈ fp, ∃ o, h.get? b = some o ∧ ∀ v, o.data ≠ .cell v
 keep : ∀ i h h', tn i h → (∀ b ∈ fp, ∀ o, h.get? b = some o → h'.get? b = some o) → tn i h'
 item : ∀ (X : Cx), X.prog = P → X.w = w → X.K = K → X.calm = true → ∀ (i : Nat) (pins : List (Addr × Obj)) (s : Shared) (σ : St) (H : Hp) (E : Value → Shared → Prop), Inv X pins σ H s → (∀ b ∈ fp, FpOk X pins H b) → tn i s.heap → J.go i H →
  wpAny (model P w) X.A (pyNext (.ref it)) (fun r s1 => ∃ u, r = some u ∧
   wpAny (model P w) X.A (letOwnedTupleGo tg (.ref it) u) (fun _ s2 => ∃ x H', Inv X pins σ H' s2 ∧ RelV x u ∧ J.yld i H x H' ∧ tn (i + 1) s2.heap ∧ ∀ b ∈ fp, H' b = none) E s1) E s
 done : ∀ (X : Cx), X.prog = P → X.w = w → X.K = K → X.calm = true → ∀ (i : Nat) (pins : List (Addr × Obj)) (s : Shared) (σ : St) (H : Hp) (E : Value → Shared → Prop), Inv X pins σ H s → (∀ b ∈ fp, FpOk X pins H b) → tn i s.heap → J.stop i H →
  wpAny (model P w) X.A (pyNext (.ref it)) (fun r s1 => r = none ∧ Inv X pins σ H s1) E s
 self : ∀ (A : Around) (i : Nat) (s : Shared) (Q : Value → Shared → Prop) (E : Value → Shared → Prop), tn i s.heap → Q (.ref it) s → wpAny (model P w) A (pyIter (.ref it)) Q E s
abbrev TI := St → Hp → (It → Hp → Prop) → Prop
def PIE (X : Cx) (pins : List (Addr × Obj)) (σ : St) (tg : Expr) (R : It → Hp → Prop) (itv : Value) (s2 : Shared) : Prop :=
 ∃ (it : Addr) (fp : List Addr) (tn : Nat → Heap → Prop) (J : It) (H' : Hp), itv = .ref it ∧ Inv X pins σ H' s2 ∧ Turn X.prog X.w X.K tg J fp it tn ∧ tn 0 s2.heap ∧ (∀ b ∈ fp, FpOk X pins H' b) ∧ R J H'
def PI (X : Cx) (tg iter : Expr) (wi : TI) : Prop :=
 ∀ (pins : List (Addr × Obj)) (s : Shared) (σ : St) (H : Hp) (R : It → Hp → Prop), Inv X pins σ H s → wi σ H R →
  wpAny (model X.prog X.w) X.A (eval iter X.env) (fun v s1 => wpAny (model X.prog X.w) X.A (pyIter v) (PIE X pins σ tg R) X.xe s1) X.xe s
theorem go_of {M : Model} {A : Around} {E : Value → Shared → Prop} {s : Shared} {tg : Expr} {it : Addr} {u : Value} {o : Obj} {n : String} {vs : Array Value} {Q : Unit → Shared → Prop} (ho : s.heap.get? it = some o) (hc : o.cls = .type n) (hd : o.data = .fields vs)
  (hn : ["enumerate", "zip", "dict_itemiterator", "dict_reverseitemiterator", "odict_iterator", "itertools.zip_longest", "itertools.pairwise"].contains n = false) (hQ : Q () s) : wpAny M A (letOwnedTupleGo tg (.ref it) u) Q E s := by
 unfold letOwnedTupleGo
 cases tg <;> first
  | exact wpAny_pure hQ
  | (cases u <;> first
    | exact wpAny_pure hQ
    | (refine wpAny_bind (wpAny_load ho ?_)
       rw [hc, hd]
       show wpAny M A (if (["enumerate", "zip", "dict_itemiterator", "dict_reverseitemiterator", "odict_iterator", "itertools.zip_longest", "itertools.pairwise"].contains n && vs[0]? == some (rawInt _)) = true then _ else _) Q E s
       rw [if_neg (by intro h; rw [hn, Bool.false_and] at h; cases h)]
       exact wpAny_pure hQ))
def Itl (K : PySem.W.Frag) (a : Addr) : It :=
 ⟨fun i H => ∃ xs x, SqL K H a xs ∧ xs[i]? = some x, fun i H x H' => H' = H ∧ ∀ xs, SqL K H a xs → xs[i]? = some x, fun i H => ∃ xs, SqL K H a xs ∧ xs.length ≤ i⟩
def Itr (lo : Int) (n : Nat) : It := ⟨fun i _ => i < n, fun i H x H' => H' = H ∧ x = .int (lo + i), fun i _ => n ≤ i⟩
theorem turn_list {P : Program} {w : World} {K : PySem.W.Frag} {tg : Expr} (a it : Addr) : Turn P w K tg (Itl K a) [it] it (fun i h => h.IsListIter it a i) where
 mem := by simp
 obj := fun i h st b hb => by
  have e : b = it := by simpa using hb
  subst e
  obtain ⟨o, e, c, d⟩ := st
  exact ⟨o, e, fun v z => by rw [d] at z; cases z⟩
 keep := fun i h h' st k => st.at fun o e => k it (by simp) o e
 item := by
  intro X hP hw hK hc i pins s σ H E I hf st hg
  subst hP hw hK
  obtain ⟨xs, x, hq, hx⟩ := hg
  obtain ⟨its, rv, p, hz⟩ := I.list hq
  obtain ⟨u, hu, ru⟩ := rv.get hx
  obtain ⟨f0, f1, f2, f3, f4, f5⟩ := hf it (by simp)
  refine wpAny_pyNext_list_item st p.isList (x := u) (by simpa using hu) fun h' st' sb => ?_
  have I1 : Inv X pins σ H { s with heap := h' } := I.turned (t' := s.toks) (fun b o hb e => (sb.2 b hb).trans e) f0 f1 f3 f4 f5
  obtain ⟨o, e, c, d⟩ := id st'
  exact ⟨u, rfl, go_of (s := { s with heap := h' }) e c d (by decide) ⟨x, H, I1, ru, ⟨rfl, fun ys hy => by rw [I.list_inj hy hq]; exact hx⟩, st', fun b hb => (hf b hb).1⟩⟩
 done := by
  intro X hP hw hK hc i pins s σ H E I hf st hg
  subst hP hw hK
  obtain ⟨xs, hq, hx⟩ := hg
  obtain ⟨its, rv, p, hz⟩ := I.list hq
  obtain ⟨f0, f1, f2, f3, f4, f5⟩ := hf it (by simp)
  have hl := rv.length
  exact wpAny_pyNext_list_end (I.ok.hd hc) st p.isList (by simp; omega) fun h' eb => ⟨rfl, I.turned (t' := s.toks) (fun b o hb e => eb b o hb e) f0 f1 f3 f4 f5⟩
 self := fun _ _ _ _ _ st h => wpAny_pyIter_listiter st h
theorem turn_range {P : Program} {w : World} {K : PySem.W.Frag} {tg : Expr} (it : Addr) (lo : Int) (n : Nat) : Turn P w K tg (Itr lo n) [it] it (fun i h => IsRangeIter h it (lo + (i : Nat) * 1) ((n : Int) - (i : Nat)) 1) where
 mem := by simp
 obj := fun i h st b hb => by
  have e : b = it := by simpa using hb
  subst e
  exact ⟨_, st, fun v z => by
   have z' : Data.fields _ = Data.cell v := z
   cases z'⟩
 keep := fun i h h' st k => k it (by simp) _ st
 item := by
  intro X hP hw hK hc i pins s σ H E I hf st hg
  subst hP hw hK
  obtain ⟨f0, f1, f2, f3, f4, f5⟩ := hf it (by simp)
  have W := Walks.range (prog := X.prog) (w := X.w) (I.ok.hd hc) it lo 1 n
  refine W.item i s _ _ hg st fun v h' tk hv st' kk => ?_
  obtain ⟨t, rfl⟩ := hv
  have I1 : Inv X pins σ H { s with heap := h', toks := tk } := I.turned (fun b o hb e => kk b o (by simpa using hb) e) f0 f1 f3 f4 f5
  refine ⟨_, rfl, go_of (s := { s with heap := h', toks := tk }) (n := "range_iterator") st' rfl rfl (by decide) ⟨.int (lo + i), H, I1, ⟨t, ?_⟩, ⟨rfl, rfl⟩, st', fun b hb => (hf b hb).1⟩⟩
  rw [Int.mul_one]
 done := by
  intro X hP hw hK hc i pins s σ H E I hf st hg
  subst hP hw hK
  obtain ⟨f0, f1, f2, f3, f4, f5⟩ := hf it (by simp)
  exact wpAny_pyNext_range_end (I.ok.hd hc) st (by have : n ≤ i := hg; omega) fun h' eb => ⟨rfl, I.turned (t' := s.toks) (fun b o hb e => eb b o hb e) f0 f1 f3 f4 f5⟩
 self := fun _ _ _ _ _ st h => wpAny_pyIter_rangeiter st h
section
variable {X : Cx} {tg : Expr}
def iList (K : PySem.W.Frag) (tl : TE) : TI := fun σ H R => tl σ H fun x H1 => ∃ a, x = .ref a ∧ (∃ xs, SqL K H1 a xs) ∧ R (Itl K a) H1
theorem pi_list {l : Expr} {tl : TE} (hl : PE X l tl) : PI X tg l (iList X.K tl) := by
 intro pins s σ H R I h
 refine thn (hl pins s σ H _ I h) fun v s1 ⟨x, H1, I1, r1, q1⟩ => ?_
 obtain ⟨a, e, ⟨xs, hq⟩, q⟩ := q1
 subst e
 cases r1
 obtain ⟨its, rv, p, hz⟩ := I1.list hq
 refine wpAny_pyIter_list p.isList ?_
 refine ⟨s1.heap.objs.size, [s1.heap.objs.size], _, _, H1, rfl, I1.kept (t' := s1.toks) fun b o e => Heap.get?_push_of_some _ e, turn_list a _, ⟨_, Heap.get?_push_size _ rfl, rfl, rfl⟩, fun b hb => ?_, q⟩
 have e : b = s1.heap.objs.size := by simpa using hb
 subst e
 exact I1.fpOk (Nat.le_refl _) (I1.hok.fresh (Nat.le_refl _))
theorem range_it {pins : List (Addr × Obj)} {σ : St} {H : Hp} {s : Shared} {R : It → Hp → Prop} {E : Value → Shared → Prop} {lo hi : Int} {t u v : Tok} {tk : Nat} (I : Inv X pins σ H s) (h1 : -(2 ^ 62) ≤ lo) (h2 : lo < 2 ^ 62) (h3 : -(2 ^ 62) ≤ hi) (h4 : hi < 2 ^ 62)
  (q : R (Itr lo (hi - lo).toNat) H) : wpAny (model X.prog X.w) X.A (pyIter (.ref s.heap.objs.size)) (PIE X pins σ tg R) E { s with heap := s.heap.push { cls := .type "range", data := .fields #[.int lo t, .int hi u, .int 1 v] }, toks := tk } := by
 refine wpAny_pyIter_range (IsRange.new ..) (small_one h1 h2 h3 h4) ?_
 have I1 : Inv X pins σ H { s with heap := s.heap.push { cls := .type "range", data := .fields #[.int lo t, .int hi u, .int 1 v] }, toks := tk } := I.kept fun b o e => Heap.get?_push_of_some _ e
 refine ⟨(s.heap.push { cls := .type "range", data := .fields #[.int lo t, .int hi u, .int 1 v] }).objs.size, [(s.heap.push { cls := .type "range", data := .fields #[.int lo t, .int hi u, .int 1 v] }).objs.size], _, _, H, rfl,
  I1.kept (t' := tk) fun b o e => Heap.get?_push_of_some _ e, turn_range _ lo (hi - lo).toNat, ?_, fun b hb => ?_, q⟩
 ·have e1 : lo + ((0 : Nat) : Int) * 1 = lo := by simp
  have e2 : (((hi - lo).toNat : Nat) : Int) - ((0 : Nat) : Int) = Builtin.Range.rangeSize lo hi 1 := by rw [rangeSize_one]; split <;> omega
  show IsRangeIter _ _ (lo + ((0 : Nat) : Int) * 1) ((((hi - lo).toNat : Nat) : Int) - ((0 : Nat) : Int)) 1
  rw [e1, e2]
  exact Heap.get?_push_size _ rfl
 ·have e : b = (s.heap.push { cls := .type "range", data := .fields #[.int lo t, .int hi u, .int 1 v] }).objs.size := by simpa using hb
  subst e
  exact I1.fpOk (Nat.le_refl _) (I1.hok.fresh (Nat.le_refl _))
def iRng1 (ta : TA) : TI := fun σ H R => ta σ H fun vs H1 => ∃ j : Int, vs = [.int j] ∧ -(2 ^ 62) ≤ j ∧ j < 2 ^ 62 ∧ R (Itr 0 j.toNat) H1
theorem pi_range1 {a : Expr} {ta : TA} {p pos : Pos} (hg : Gl X "range") (hm : X.mg "range" = none) (ha : PA X [a] ta) (hs : starEach [a] X.env = [(false, eval a X.env)] := by rfl) : PI X tg (.Call (.Name "range" p) [a] [] pos) (iRng1 ta) := by
 intro pins s σ H R I h
 refine Call_ (ld_blt I hg hm boot_range (PyProof.Rows.callWith_type1 (thn (ha pos pins s σ H _ I h) fun us s1 ⟨vs, H1, I1, r1, q1⟩ => ?_) hs rfl))
 obtain ⟨j, e, q1, q2, q⟩ := q1
 subst e
 cases r1 with
 | cons r rr =>
  cases rr
  obtain ⟨t, rfl⟩ := r
  exact call_range_1 (range_it I1 (by omega) (by omega) q1 q2 (by simpa using q))
def tFor (wi : TI) (g : TG) (tb : TS) : TS := fun D σ H => wi σ H fun J H1 => ∃ W : Nat → Nat → St → Hp → Prop, (∃ m, W 0 m σ H1) ∧ ∀ i m σ H, W i m σ H →
 (J.stop i H ∧ D.nx σ H) ∨ (J.go i H ∧ ∃ N : St → Hp → Prop, (∀ σ' H', N σ' H' → ∃ m', m' < m ∧ W (i + 1) m' σ' H') ∧ ∀ x H', J.yld i H x H' → g x σ H' fun σ2 H2 => tb { D with nx := N, ct := N, bk := D.nx } σ2 H2)
def pinsAt (fp : List Addr) (h : Heap) : List (Addr × Obj) := fp.filterMap fun b => (h.get? b).map fun o => (b, o)
theorem mem_pinsAt {fp : List Addr} {h : Heap} {b : Addr} {o : Obj} (hb : b ∈ fp) (e : h.get? b = some o) : (b, o) ∈ pinsAt fp h := List.mem_filterMap.mpr ⟨b, hb, by rw [e]; rfl⟩
theorem of_pinsAt {fp : List Addr} {h : Heap} {p : Addr × Obj} (hp : p ∈ pinsAt fp h) : p.1 ∈ fp ∧ h.get? p.1 = some p.2 := by
 obtain ⟨b, hb, e⟩ := List.mem_filterMap.mp hp
 cases q : h.get? b with
 | none => rw [q] at e; cases e
 | some o =>
  rw [q] at e
  have e' : (b, o) = p := Option.some.inj e
  subst e'
  exact ⟨hb, q⟩
theorem Inv.pinned {pins : List (Addr × Obj)} {σ : St} {H : Hp} {s : Shared} {fp : List Addr} (I : Inv X pins σ H s) (hf : ∀ b ∈ fp, FpOk X pins H b) (ho : ∀ b ∈ fp, ∃ o, s.heap.get? b = some o ∧ ∀ v, o.data ≠ .cell v) : Inv X (pins ++ pinsAt fp s.heap) σ H s :=
 I.pins_of fun p hp => (List.mem_append.mp hp).elim (fun z => I.pin p (List.mem_append_right _ z)) fun z => by
  obtain ⟨hb, e⟩ := of_pinsAt z
  obtain ⟨f0, f1, f2, _⟩ := hf p.1 hb
  obtain ⟨o, e', d⟩ := ho p.1 hb
  rw [e] at e'; cases e'
  exact ⟨e, f0, f1, f2, d⟩
theorem Inv.unpinned {pins pl : List (Addr × Obj)} {σ : St} {H : Hp} {s : Shared} (I : Inv X (pins ++ pl) σ H s) : Inv X pins σ H s := I.pins_of fun p hp => I.pin p (List.mem_append_right _ (List.mem_append_left _ hp))
theorem ps_for {iter : Expr} {body : List Stmt} {wi : TI} {g : TG} {tb : TS} {pos : Pos} (hp : PassesOwn (model X.prog X.w) X.A X.env X.xe) (hc : X.calm = true) (hi : PI X tg iter wi) (hg : PG X tg g) (hb : PSs X body tb)
  (hs : ∀ x, foldedSetIterable iter X.env x = pure x := by intro _; rfl) : PS X (.For tg iter body [] pos) (tFor wi g tb) := by
 intro pins s σ H D I h
 refine wpAny_For (thn (hi pins s σ H _ I h) fun v s1 h1 => thn h1 fun itv s2 h2 => ?_) hs
 obtain ⟨it, fp, tn, J, H2, e, I2, T, st2, f2, W, ⟨m0, w0⟩, turn⟩ := h2
 subst e
 have stat : ∀ {H' : Hp}, (∀ b ∈ fp, H' b = none) → ∀ b ∈ fp, FpOk X pins H' b := fun hn b hb => ⟨hn b hb, (f2 b hb).2⟩
 refine codeAny_forLoop_any (fun n s' => ∃ i σ' H', Inv X pins σ' H' s' ∧ tn i s'.heap ∧ (∀ b ∈ fp, H' b = none) ∧ W i n σ' H') ?_ m0 ⟨0, σ, H2, I2, st2, fun b hb => (f2 b hb).1, w0⟩
 rintro n s3 ⟨i, σ3, H3, I3, st3, fr3, w3⟩
 rcases turn i n σ3 H3 w3 with ⟨stop, qn⟩ | ⟨go, N, hN, step⟩
 ·refine wpAny_passesOwn hp (thn (T.done X rfl rfl rfl hc i pins s3 σ3 H3 X.xe I3 (stat fr3) st3 stop) fun r s4 ⟨hr, I4⟩ => ?_)
  subst hr
  exact wpAny_execs_nil ⟨σ3, H3, I4, qn⟩
 ·refine wpAny_passesOwn hp (thn (T.item X rfl rfl rfl hc i pins s3 σ3 H3 X.xe I3 (stat fr3) st3 go) fun r s4 ⟨u, hr, h4⟩ => ?_)
  subst hr
  refine wpAny_passesOwn hp (thn h4 fun _ s5 ⟨x, H5, I5, r5, y5, st5, fr5⟩ => ?_)
  have I5' := I5.pinned (stat fr5) (T.obj _ _ st5)
  refine wpAny_passesOwn hp (thn (hg _ s5 σ3 H5 x u _ I5' r5 (step x H5 y5)) fun _ s6 ⟨σ6, H6, I6, q6⟩ => ?_)
  refine wpAny_passesOwn hp (thn (hb _ s6 σ6 H6 _ I6 q6) fun f s7 q7 => ?_)
  have again : ∀ {σ7 : St} {H7 : Hp}, Inv X (pins ++ pinsAt fp s5.heap) σ7 H7 s7 → N σ7 H7 → ∃ m, m < n ∧ ∃ i σ' H', Inv X pins σ' H' s7 ∧ tn i s7.heap ∧ (∀ b ∈ fp, H' b = none) ∧ W i m σ' H' := fun {σ7 H7} I7 n7 => by
   obtain ⟨m', hm, w7⟩ := hN σ7 H7 n7
   refine ⟨m', hm, i + 1, σ7, H7, I7.unpinned, T.keep _ _ _ st5 fun b hb o e => (I7.pin (b, o) (List.mem_append_right _ (List.mem_append_right _ (mem_pinsAt hb e)))).1, fun b hb => ?_, w7⟩
   obtain ⟨o, e, d⟩ := T.obj _ _ st5 b hb
   exact (I7.pin (b, o) (List.mem_append_right _ (List.mem_append_right _ (mem_pinsAt hb e)))).2.1
  cases f with
  | next => obtain ⟨σ7, H7, I7, n7⟩ := q7; exact again I7 n7
  | cont => obtain ⟨σ7, H7, I7, n7⟩ := q7; exact again I7 n7
  | brk => obtain ⟨σ7, H7, I7, q7⟩ := q7; exact ⟨σ7, H7, I7.unpinned, q7⟩
  | ret v => obtain ⟨x7, σ7, H7, I7, r7, q7⟩ := q7; exact ⟨x7, σ7, H7, I7.unpinned, r7, q7⟩
end
abbrev R2 := V → V → Hp → VK → Prop
def OpR (X : Cx) (f : Value → Value → Sem Value) (r : R2) : Prop :=
 ∀ (pins : List (Addr × Obj)) (s : Shared) (σ : St) (H : Hp) (x y : V) (v u : Value) (Q : VK), Inv X pins σ H s → RelV x v → RelV y u → r x y H Q →
  wpAny (model X.prog X.w) X.A (f v u) (EP X pins σ Q) X.xe s
def UnR (X : Cx) (f : Value → Sem Value) (r : V → Hp → VK → Prop) : Prop :=
 ∀ (pins : List (Addr × Obj)) (s : Shared) (σ : St) (H : Hp) (x : V) (v : Value) (Q : VK), Inv X pins σ H s → RelV x v → r x H Q →
  wpAny (model X.prog X.w) X.A (f v) (EP X pins σ Q) X.xe s
def CallR (X : Cx) (f : Value) (r : List V → Hp → VK → Prop) : Prop :=
 ∀ (pins : List (Addr × Obj)) (s : Shared) (σ : St) (H : Hp) (xs : List V) (us : List Value) (Q : VK), Inv X pins σ H s → Vals xs us → r xs H Q →
  wpAny (model X.prog X.w) X.A (call f us) (EP X pins σ Q) X.xe s
def tOp (r : R2) (ta tb : TE) : TE := fun σ H Q => ta σ H fun x H1 => tb σ H1 fun y H2 => r x y H2 Q
def tUn (r : V → Hp → VK → Prop) (ta : TE) : TE := fun σ H Q => ta σ H fun x H1 => r x H1 Q
def rI (C : Int → Int → Prop) (g : Int → Int → V) : R2 := fun x y H Q => ∃ i j, x = .int i ∧ y = .int j ∧ C i j ∧ Q (g i j) H
def rI0 (g : Int → Int → V) : R2 := fun x y H Q => ∃ i j, x = .int i ∧ y = .int j ∧ Q (g i j) H
def rU (g : Int → V) : V → Hp → VK → Prop := fun x H Q => ∃ i, x = .int i ∧ Q (g i) H
section
variable {X : Cx} {a b c : Expr} {ta tb tc : TE} {pos : Pos}
theorem binT (ha : PE X a ta) (hb : PE X b tb) {pins : List (Addr × Obj)} {s : Shared} {σ : St} {H : Hp} {R : V → V → Hp → Prop} (I : Inv X pins σ H s)
  (h : ta σ H fun x H1 => tb σ H1 fun y H2 => R x y H2) {Q : Value → Shared → Prop} {f : Value → Value → Sem Value}
  (hf : ∀ v u s2 x y H2, Inv X pins σ H2 s2 → RelV x v → RelV y u → R x y H2 → wpAny (model X.prog X.w) X.A (f v u) Q X.xe s2) :
  wpAny (model X.prog X.w) X.A (eval a X.env) (fun v s₁ => wpAny (model X.prog X.w) X.A (eval b X.env) (fun u s₂ => wpAny (model X.prog X.w) X.A (f v u) Q X.xe s₂) X.xe s₁) X.xe s := by
 refine thn (ha pins s σ H _ I h) fun v s1 ⟨x, H1, I1, r1, q1⟩ => ?_
 refine thn (hb pins s1 σ H1 _ I1 q1) fun u s2 ⟨y, H2, I2, r2, q2⟩ => ?_
 exact hf v u s2 x y H2 I2 r1 r2 q2
theorem pe_op {op : Operator} {r : R2} (ho : OpR X (binaryOp op) r) (ha : PE X a ta) (hb : PE X b tb) : PE X (.BinOp a op b pos) (tOp r ta tb) := by
 intro pins s σ H Q I h
 exact wpAny_BinOp (binT ha hb I h fun v u s2 x y H2 I2 rx ry q => ho pins s2 σ H2 x y v u Q I2 rx ry q)
theorem pe_un {op : UnaryOp} {r : V → Hp → VK → Prop} (ho : UnR X (unaryOp op) r) (ha : PE X a ta) : PE X (.UnaryOp op a pos) (tUn r ta) := by
 intro pins s σ H Q I h
 exact UnaryOp_ (thn (ha pins s σ H _ I h) fun v s1 ⟨x, H1, I1, r1, q1⟩ => ho pins s1 σ H1 x v Q I1 r1 q1)
theorem opI {f : Value → Value → Sem Value} {C : Int → Int → Prop} {g : Int → Int → Int}
  (rule : ∀ (i j : Int) (t u : Tok) (s : Shared) (Q : Value → Shared → Prop) (E : Value → Shared → Prop), C i j → Q (.int (g i j) s.toks) { s with toks := s.toks + 1 } → wpAny (model X.prog X.w) X.A (f (.int i t) (.int j u)) Q E s) :
  OpR X f (rI C fun i j => .int (g i j)) := by
 intro pins s σ H x y v u Q I rx ry h
 obtain ⟨i, j, rfl, rfl, hc, q⟩ := h
 obtain ⟨t, rfl⟩ := rx
 obtain ⟨t', rfl⟩ := ry
 exact rule i j t t' s _ _ hc ⟨.int (g i j), H, I.tok _, ⟨_, rfl⟩, q⟩
theorem opI0 {f : Value → Value → Sem Value} {g : Int → Int → Int}
  (rule : ∀ (i j : Int) (t u : Tok) (s : Shared) (Q : Value → Shared → Prop) (E : Value → Shared → Prop), Q (.int (g i j) s.toks) { s with toks := s.toks + 1 } → wpAny (model X.prog X.w) X.A (f (.int i t) (.int j u)) Q E s) :
  OpR X f (rI0 fun i j => .int (g i j)) := by
 intro pins s σ H x y v u Q I rx ry h
 obtain ⟨i, j, rfl, rfl, q⟩ := h
 obtain ⟨t, rfl⟩ := rx
 obtain ⟨t', rfl⟩ := ry
 exact rule i j t t' s _ _ ⟨.int (g i j), H, I.tok _, ⟨_, rfl⟩, q⟩
theorem opB0 {f : Value → Value → Sem Value} {g : Int → Int → Bool}
  (rule : ∀ (i j : Int) (t u : Tok) (s : Shared) (Q : Value → Shared → Prop) (E : Value → Shared → Prop), Q (.bool (g i j)) s → wpAny (model X.prog X.w) X.A (f (.int i t) (.int j u)) Q E s) :
  OpR X f (rI0 fun i j => .bl (g i j)) := by
 intro pins s σ H x y v u Q I rx ry h
 obtain ⟨i, j, rfl, rfl, q⟩ := h
 obtain ⟨t, rfl⟩ := rx
 obtain ⟨t', rfl⟩ := ry
 exact rule i j t t' s _ _ ⟨.bl (g i j), H, I, rfl, q⟩
def CPow (i j : Int) : Prop := 0 ≤ j ∧ j ≤ 1000000 ∧ i.natAbs < 2 ^ 64
def CMul (i j : Int) : Prop := (-(2 ^ 64) < i ∧ i < 2 ^ 64) ∨ (-(2 ^ 64) < j ∧ j < 2 ^ 64)
theorem CMul.ok {i j : Int} (h : CMul i j) : IntMulOk i j := by
 rcases h with ⟨h1, h2⟩ | ⟨h1, h2⟩
 ·exact .of_left (intBits_le_64 h1 h2)
 ·exact .of_right (intBits_le_64 h1 h2)
theorem op_add : OpR X (binaryOp .Add) (rI0 fun i j => .int (i + j)) := opI0 fun _ _ _ _ _ _ _ q => add_int q
theorem op_sub : OpR X (binaryOp .Sub) (rI0 fun i j => .int (i - j)) := opI0 fun _ _ _ _ _ _ _ q => sub_int q
theorem op_modN : OpR X (binaryOp .Mod) (rI (fun _ j => j ≠ 0) fun i j => .int (i.fmod j)) := opI fun _ _ _ _ _ _ _ hc q => mod_int' hc q
theorem op_pow : OpR X (binaryOp .Pow) (rI CPow fun i j => .int (i ^ j.toNat)) := opI fun _ _ _ _ _ _ _ hc q => pow_int_small hc.1 hc.2.1 hc.2.2 q
theorem unI {f : Value → Sem Value} {g : Int → Int}
  (rule : ∀ (i : Int) (t : Tok) (s : Shared) (Q : Value → Shared → Prop) (E : Value → Shared → Prop), Q (.int (g i) s.toks) { s with toks := s.toks + 1 } → wpAny (model X.prog X.w) X.A (f (.int i t)) Q E s) :
  UnR X f (rU fun i => .int (g i)) := by
 intro pins s σ H x v Q I rx h
 obtain ⟨i, rfl, q⟩ := h
 obtain ⟨t, rfl⟩ := rx
 exact rule i t s _ _ ⟨.int (g i), H, I.tok _, ⟨_, rfl⟩, q⟩
theorem un_neg : UnR X (unaryOp .USub) (rU fun i => .int (-i)) := unI fun _ _ _ _ _ q => neg_int q
end
section
variable {X : Cx} {a b c : Expr} {ta tb tc : TE} {pos : Pos}
theorem op_lt : OpR X (compareOp .Lt) (rI0 fun i j => .bl (decide (i < j))) := opB0 fun _ _ _ _ _ _ _ q => lt_int q
theorem op_gt : OpR X (compareOp .Gt) (rI0 fun i j => .bl (decide (j < i))) := opB0 fun _ _ _ _ _ _ _ q => gt_int q
theorem OpR.or {f : Value → Value → Sem Value} {r r' : R2} (h : OpR X f r) (h' : OpR X f r') : OpR X f (fun x y H Q => r x y H Q ∨ r' x y H Q) := by
 intro pins s σ H x y v u Q I rx ry q
 rcases q with q | q
 ·exact h pins s σ H x y v u Q I rx ry q
 ·exact h' pins s σ H x y v u Q I rx ry q
theorem nomark (b : Expr) {op : CmpOp} (h : op ≠ .In := by decide) (h2 : op ≠ .NotIn := by decide) : behindInMarks op b = false := by
 have e1 : (op == CmpOp.In) = false := by cases op <;> first | rfl | exact absurd rfl h
 have e2 : (op == CmpOp.NotIn) = false := by cases op <;> first | rfl | exact absurd rfl h2
 cases b <;> simp [behindInMarks, e1, e2]
theorem pe_cmpR {op : CmpOp} {r : R2} (ho : OpR X (compareOp op) r) (ha : PE X a ta) (hb : PE X b tb) (hm : behindInMarks op b = false) : PE X (.Compare a [op] [b] pos) (tOp r ta tb) := by
 intro pins s σ H Q I h
 exact wpAny_Compare1 (binT ha hb I h fun v u s2 x y H2 I2 rx ry q => ho pins s2 σ H2 x y v u Q I2 rx ry q) hm
def tTest (t : TE) : TT := fun σ H Q => t σ H fun x H' => ∃ k, x = .bl k ∧ Q k H'
theorem pt_cmpR {op : CmpOp} {r : R2} (ho : OpR X (compareOp op) r) (ha : PE X a ta) (hb : PE X b tb) (hm : behindInMarks op b = false) : PT X (.Compare a [op] [b] pos) (tTest (tOp r ta tb)) := by
 intro pins s σ H Q I h
 refine wpAny_isTrue_Compare1 (thn (ha pins s σ H _ I h) fun v s1 ⟨x, H1, I1, r1, q1⟩ => thn (hb pins s1 σ H1 _ I1 q1) fun u s2 ⟨y, H2, I2, r2, q2⟩ =>
  thn (ho pins s2 σ H2 x y v u _ I2 r1 r2 q2) fun c s3 ⟨z, H3, I3, r3, k, e, q3⟩ => ?_) hm
 subst e
 cases r3
 exact wpAny_truthy_bool ⟨H3, I3, q3⟩
theorem line63 : (sizeLine : Nat) < 2 ^ 63 := by rw [sizeLine_eq]; decide
theorem op_add_str : OpR X (binaryOp .Add) (fun x y H Q => ∃ i j, x = .str i ∧ y = .str j ∧ i.length + j.length ≤ sizeLine ∧ Q (.str (i ++ j)) H) := by
 intro pins s σ H x y v u Q I rx ry h
 obtain ⟨i, j, rfl, rfl, hz, q⟩ := h
 obtain ⟨t, rfl⟩ := rx
 obtain ⟨t', rfl⟩ := ry
 exact add_str (fun t' tk => ⟨.str (i ++ j), H, I.tok _, ⟨_, rfl⟩, q⟩) hz
theorem vals1 {x : V} {us : List Value} (r : Vals [x] us) : ∃ u, us = [u] ∧ RelV x u := by
 cases r with
 | cons r1 r2 => cases r2; exact ⟨_, rfl, r1⟩
theorem vals2 {x y : V} {us : List Value} (r : Vals [x, y] us) : ∃ u w', us = [u, w'] ∧ RelV x u ∧ RelV y w' := by
 cases r with
 | cons r1 r2 =>
  cases r2 with
  | cons r3 r4 => cases r4; exact ⟨_, _, rfl, r1, r3⟩
theorem call_abs : CallR X (.builtin "abs") (fun xs H Q => ∃ i, xs = [.int i] ∧ Q (.int (if i < 0 then -i else i)) H) := by
 intro pins s σ H xs us Q I r h
 obtain ⟨i, rfl, q⟩ := h
 obtain ⟨u, rfl, t, rfl⟩ := vals1 r
 exact call_abs_int fun u tk => ⟨.int (if i < 0 then -i else i), H, I.tok _, ⟨_, rfl⟩, q⟩
end
structure ObjM (h : Heap) (x dx C : Addr) (mA : Str → Option Value) : Prop where
 obj : h.get? x = some (PySem.W.instObj C dx)
 ns : h.Ns1 dx mA
 ne : dx ≠ x
theorem lookIn_ns {h : Heap} {dx : Addr} {mA : Str → Option Value} (n : h.Ns1 dx mA) : ∃ od, h.get? dx = some od ∧ ∀ name, PySem.W.lookIn name od = some (mA name) := by
 obtain ⟨o, es, ep, ho, hd, hk, _, hm⟩ := n
 refine ⟨o, ho, fun name => ?_⟩
 have e := hm name
 unfold nsFind findBy at e
 rw [← Array.find?_toList] at e
 unfold PySem.W.lookIn
 rw [hd]
 dsimp only
 split
 ·rename_i y q
  rw [q] at e
  exact congrArg some e
 ·rename_i q
  rw [q] at e
  have a : es.toList.any (·.refKey) = false := by
   rw [List.any_eq_false]
   intro y hy
   obtain ⟨z, t, hkey⟩ := hk y (Array.mem_toList_iff.mp hy)
   simp [DictEntry.refKey, hkey]
  have a' : ¬ es.toList.any (·.refKey) = true := by rw [a]; exact Bool.false_ne_true
  rw [if_neg a']
  exact congrArg some e
theorem ObjM.look {h : Heap} {x dx C : Addr} {mA : Str → Option Value} (I : ObjM h x dx C mA) : ∃ od, PySem.W.InstAt h x (PySem.W.instObj C dx) C (some od) ∧ ∀ name, PySem.W.lookIn name od = some (mA name) :=
 let ⟨od, ho, hl⟩ := lookIn_ns I.ns
 ⟨od, ⟨I.obj, rfl, rfl, ho⟩, hl⟩
section
variable {prog : Program} {w : World} {A : Around} {E : Value → Shared → Prop} {s : Shared} {K : PySem.W.Frag} {x dx C f : Addr} {mA : Str → Option Value} {name : Str} {v : Value}
end
theorem RelO.some_of {v : V} {o : Option Value} (r : RelO (some v) o) : ∃ u, o = some u ∧ RelV v u := by
 cases o with
 | none => exact (show False from r).elim
 | some u => exact ⟨u, rfl, r⟩
section
variable {P : Program} {w : World} {H H' : Hp} {h h' : Heap} {a C dx : Addr} {fs fs' : List (Str × V)}
theorem ins_get (hok : HOk P w H h) (e : H a = some (.ins C dx fs)) : ∃ mA, ObjM h a dx C mA ∧ (∀ f, RelO (fs.lookup f) (mA f)) ∧ PySem.Within mA (fs.map (·.1)) ∧ fs.length ≤ 1000 ∧ H dx = some (.own a) := by
 obtain ⟨d, z, ne, ob, mA, n, r, q⟩ := (show ObjOk P w H h a (.ins C dx fs) from hok a _ e)
 exact ⟨mA, ⟨ob, n, ne⟩, r, q, z, d⟩
end
structure Cls (K : PySem.W.Frag) (C : Addr) : Prop where
 pg : PySem.W.plainGet K C Str.empty = true
 hd : PySem.W.hasDictIn K C = true
 po : PySem.W.plainOver K C = true
 sa : PySem.W.findIn K (.ref C) "__setattr__" = some (some (.builtin "object.__setattr__"))
theorem Cls.get {K : PySem.W.Frag} {C : Addr} (c : Cls K C) (f : Str) : PySem.W.plainGet K C f = true := c.pg
section
variable {X : Cx} {pins : List (Addr × Obj)} {σ : St} {H : Hp} {s : Shared} {a C dx : Addr} {fs : List (Str × V)} {f : Str} {v : V} {A : Around} {E : Value → Shared → Prop}
end
section
variable {X : Cx} {o e value : Expr} {f : Str} {pos pos' tpos : Pos} {ta tv : TE}
end
section
variable {X : Cx} {pins : List (Addr × Obj)} {σ : St} {H : Hp} {s : Shared} {A : Around} {E : Value → Shared → Prop} {Q : Value → Shared → Prop} {c : Value} {b : Bool}
inductive TyOf (K : PySem.W.Frag) (H : Hp) : V → Value → Prop where
 | non : TyOf K H .non (.type "NoneType")
 | bl (x : Bool) : TyOf K H (.bl x) (.type "bool")
 | int (i : Int) : TyOf K H (.int i) (.type "int")
 | str (x : Str) : TyOf K H (.str x) (.type "str")
 | flt (x : UInt64) : TyOf K H (.flt x) (.type "float")
 | lst {a : Addr} {xs : List V} (e : H a = some (.lst xs)) : TyOf K H (.ref a) (.type "list")
 | frz {a : Addr} {o : Obj} {xs : List V} (e : H a = some (.frz o (.lst xs))) : TyOf K H (.ref a) (.type "list")
 | tup {a : Addr} {xs : List V} (e : H a = some (.tup xs)) : TyOf K H (.ref a) (.type "tuple")
 | dK {a : Addr} {kvs : List (Key × V)} (e : H a = some (.dK kvs)) : TyOf K H (.ref a) (.type "dict")
 | dT {a : Addr} {kvs : List (List Key × V)} (e : H a = some (.dT kvs)) : TyOf K H (.ref a) (.type "dict")
 | ins {a C dx : Addr} {fs : List (Str × V)} (e : H a = some (.ins C dx fs)) (cl : Cls K C) (ha : PySem.W.findIn K (.ref C) "__class__" = some (some (.builtin "object.__class__")))
   (hn : PySem.W.specialIn K (.builtin "object.__class__") "__get__" = some (some (.builtin "getset_descriptor.__get__"))) (htk : PySem.W.takesIn K (.builtin "object.__class__") = some true)
   (hm : PySem.W.mroIn K C (.type "object") = some true) : TyOf K H (.ref a) (.ref C)
theorem isinst_ok {x : V} {u t : Value} (I : Inv X pins σ H s) (rx : RelV x u) (ty : TyOf X.K H x t) (e : PySem.W.kitOne X.K t c = some b) (h : ∀ tk, Q (.bool b) { s with toks := tk }) :
  wpAny (model X.prog X.w) A (call (.builtin "isinstance") [u, c]) Q E s := by
 cases ty with
 | non => cases (show u = Value.none from rx); exact PySem.W.kia_one PySem.W.kitx_none I.kIn True.intro e (fun z => nomatch z) h
 | bl y => cases (show u = Value.bool y from rx); exact PySem.W.kia_one PySem.W.kitx_bool I.kIn True.intro e (fun z => nomatch z) h
 | int i => obtain ⟨t, q⟩ := (show ∃ t, u = Value.int i t from rx); cases q; exact PySem.W.kia_one PySem.W.kitx_int I.kIn True.intro e (fun z => nomatch z) h
 | str y => obtain ⟨t, q⟩ := (show ∃ t, u = Value.str y t from rx); cases q; exact PySem.W.kia_one PySem.W.kitx_str I.kIn True.intro e (fun z => nomatch z) h
 | flt y => obtain ⟨t, q⟩ := (show ∃ t, u = Value.float y t from rx); cases q; exact PySem.W.kia_one PySem.W.kitx_float I.kIn True.intro e (fun z => nomatch z) h
 | @lst a xs ea =>
  cases (show u = Value.ref a from rx)
  obtain ⟨_, _, n, _, h1⟩ := (show ObjOk X.prog X.w H s.heap a (.lst xs) from I.hok a _ ea)
  exact PySem.W.kia_one PySem.W.kitx_list I.kIn ⟨_, h1, rfl⟩ e (fun z => nomatch z) h
 | @frz a ob xs ea =>
  cases (show u = Value.ref a from rx)
  obtain ⟨_, _, _, n, _, h1⟩ := (show ObjOk X.prog X.w H s.heap a (.frz ob (.lst xs)) from I.hok a _ ea)
  exact PySem.W.kia_one PySem.W.kitx_list I.kIn ⟨_, h1, rfl⟩ e (fun z => nomatch z) h
 | @tup a xs ea =>
  cases (show u = Value.ref a from rx)
  obtain ⟨_, _, _, p⟩ := (show ObjOk X.prog X.w H s.heap a (.tup xs) from I.hok a _ ea)
  obtain ⟨o, h1, h2, _⟩ := p
  exact PySem.W.kia_one PySem.W.kitx_tuple I.kIn ⟨o, h1, h2⟩ e (fun z => nomatch z) h
 | @dK a kvs ea =>
  cases (show u = Value.ref a from rx)
  obtain ⟨_, _, vs, _, p⟩ := (show ObjOk X.prog X.w H s.heap a (.dK kvs) from I.hok a _ ea)
  obtain ⟨o, es, ep, h1, h2, _⟩ := p
  exact PySem.W.kia_one PySem.W.kitx_dict I.kIn ⟨o, h1, h2.1⟩ e (fun z => nomatch z) h
 | @dT a kvs ea =>
  cases (show u = Value.ref a from rx)
  obtain ⟨_, _, xs, _, o, es, ep, h1, h2, _⟩ := (show ObjOk X.prog X.w H s.heap a (.dT kvs) from I.hok a _ ea)
  exact PySem.W.kia_one PySem.W.kitx_dict I.kIn ⟨o, h1, h2.1⟩ e (fun z => nomatch z) h
 | @ins a C dx fs ea cl ha hn htk hm =>
  cases (show u = Value.ref a from rx)
  obtain ⟨mA, O, _⟩ := ins_get I.hok ea
  obtain ⟨od, J, _⟩ := O.look
  exact PySem.W.kia_one (PySem.W.kitx_own (cl.get _) cl.hd ha hn htk hm) I.kIn J e (fun z => nomatch z) h
end
structure Room (k : Nat) (A : Around) : Prop where
 hd : A.handled = none
 dp : A.depth + 3 * k + 5 < recursionLimit
 un : A.units + 16 * k + 200 < cLine
theorem Room.mono {j k : Nat} {A : Around} (r : Room k A) (h : j ≤ k) : Room j A := ⟨r.hd, by have := r.dp; omega, by have := r.un; omega⟩
theorem Room.deeper {k : Nat} {A : Around} (r : Room (k + 1) A) (env : Env) : Room k (A.deeper env) :=
 ⟨r.hd, by have := r.dp; show A.depth + 1 + 3 * k + 5 < _; omega, by have := r.un; show A.units + 3 + 16 * k + 200 < _; omega⟩
theorem Room.depth {k : Nat} {A : Around} (r : Room k A) : A.depth < recursionLimit := by have := r.dp; omega
def tNil : TA := fun _ H Q => Q [] H
def tCons (ta : TE) (tr : TA) : TA := fun σ H Q => ta σ H fun x H1 => tr σ H1 fun xs H2 => Q (x :: xs) H2
section
variable {X : Cx} {e : Expr} {es : List Expr} {te : TE} {t : TA} {pos : Pos}
theorem pa_nil : PA X [] tNil := fun _ _ _ _ H Q I h => Calls.spliced_nil ⟨[], H, I, .nil, h⟩
theorem pa_cons (ha : PE X e te) (hr : PA X es t) (hs : starEach (e :: es) X.env = (false, eval e X.env) :: starEach es X.env := by rfl) : PA X (e :: es) (tCons te t) := by
 intro pos pins s σ H Q I h
 rw [hs]
 show wpAny _ _ (spliced ((false, eval e X.env) :: backTo pos (starEach es X.env))) _ _ s
 refine Calls.spliced_cons (thn (ha pins s σ H _ I h) fun u s1 ⟨x, H1, I1, r1, q1⟩ => ?_)
 exact thn (hr pos pins s1 σ H1 _ I1 q1) fun us s2 ⟨xs, H2, I2, r2, q2⟩ => ⟨x :: xs, H2, I2, .cons r1 r2, q2⟩
def tTup (t : TA) : TE := fun σ H Q => t σ H fun xs H1 => xs.length ≤ sizeLine ∧ ∀ p, H1 p = none → Q (.ref p) (upd H1 p (.tup xs))
def tLst (t : TA) : TE := fun σ H Q => t σ H fun xs H1 => xs.length ≤ sizeLine ∧ ∀ p, H1 p = none → Q (.ref p) (upd H1 p (.lst xs))
theorem pe_tup {x1} (h : PA X es t) : PE X (.Tuple es x1 pos) (tTup t) := by
 intro pins s σ H Q I hq
 refine wpAny_Tuple_spliced (thn (h pos pins s σ H _ I hq) fun us s1 ⟨xs, H1, I1, r, z, q⟩ => ⟨by rw [← r.length]; exact z, ?_⟩)
 have hf : H1 s1.heap.objs.size = none := I1.hok.fresh (Nat.le_refl _)
 refine ⟨.ref s1.heap.objs.size, upd H1 s1.heap.objs.size (.tup xs), I1.laid (t' := s1.toks) (fun b u e => Heap.get?_push_of_some _ e) (Nat.le_refl _) ?_, rfl, q _ hf⟩
 exact ⟨z, us, r, ⟨_, Heap.get?_push_size _ rfl, rfl, _, rfl⟩⟩
theorem pe_lst (h : PA X es t) : PE X (.List es pos) (tLst t) := by
 intro pins s σ H Q I hq
 refine wpAny_List_spliced (thn (h pos pins s σ H _ I hq) fun us s1 ⟨xs, H1, I1, r, z, q⟩ => ⟨by rw [← r.length]; exact z, ?_⟩)
 have hf : H1 s1.heap.objs.size = none := I1.hok.fresh (Nat.le_refl _)
 refine ⟨.ref s1.heap.objs.size, upd H1 s1.heap.objs.size (.lst xs), I1.laid (t' := s1.toks) (fun b u e => Heap.get?_push_of_some _ e) (Nat.le_refl _) ?_, rfl, q _ hf⟩
 exact ⟨z, us, 0, r, Heap.get?_push_size _ rfl⟩
end
abbrev Sp := List V → Hp → VK → XK → Prop
abbrev CXT := List Env → Hp → Shared → XK → Value → Shared → Prop
structure Env0 (P : Program) (w : World) (K : PySem.W.Frag) (mg : Str → Option Value) (base : Heap) (A : Around) (outer : List Env) (s : Shared) (H : Hp) : Prop where
 frames : A.frames = some outer
 mod : Mod K mg base
 bs : ∀ b o, base.get? b = some o → s.heap.get? b = some o ∧ H b = none
 bsz : base.objs.size ≤ s.heap.objs.size
 funs : s.heap.FunFrames base outer
 frf : ∀ b ∈ frs outer, H b = none
 hok : HOk P w H s.heap
 bare : AllBare s.gens
def CE (outer : List Env) (P : Program) (w : World) (H : Hp) (s : Shared) (Q : VK) (u : Value) (s' : Shared) : Prop :=
 ∃ v H', s'.os = s.os ∧ AllBare s'.gens ∧ Un (frs outer) [] H H' s.heap s'.heap ∧ HOk P w H' s'.heap ∧ RelV v u ∧ Q v H'
def CR (CX : CXT) (outer : List Env) (P : Program) (w : World) (H : Hp) (s : Shared) (Q : VK) (E : XK) (r : Result) (s' : Shared) : Prop :=
 match r with
 | .ok (.ret u) => CE outer P w H s Q u s'
 | .ok _ => False
 | .error e => CX outer H s E e s'
structure FnOk (P : Program) (w : World) (K : PySem.W.Frag) (mg : Str → Option Value) (base : Heap) (CX : CXT) (k : Nat) (f : Addr) (fd : FuncData) (ps : List Str) (sp : Sp) : Prop where
 len : ∀ vs H Q E, sp vs H Q E → vs.length = ps.length
 run : ∀ (A : Around) (outer : List Env) (s : Shared) (H : Hp) (args : Args) (us : List Value) (vs : List V) (Q : VK) (E : XK), Room k A → Env0 P w K mg base A outer s H → BindsTo s fd args (ps.zip us) → Vals vs us → sp vs H Q E →
  codeAny (model P w) A (.call (.ref f) args) (CR CX outer P w H s Q E) s
theorem FnOk.mono {P : Program} {w : World} {K : PySem.W.Frag} {mg : Str → Option Value} {base : Heap} {CX : CXT} {j k : Nat} {f : Addr} {fd : FuncData} {ps : List Str} {sp : Sp} (F : FnOk P w K mg base CX j f fd ps sp) (h : j ≤ k) :
  FnOk P w K mg base CX k f fd ps sp := ⟨F.len, fun A outer s H args us vs Q E hr => F.run A outer s H args us vs Q E (hr.mono h)⟩
theorem FnOk.imp {P : Program} {w : World} {K : PySem.W.Frag} {mg : Str → Option Value} {base : Heap} {CX : CXT} {k : Nat} {f : Addr} {fd : FuncData} {ps : List Str} {sp sp' : Sp} (F : FnOk P w K mg base CX k f fd ps sp)
  (h : ∀ vs H Q E, sp' vs H Q E → sp vs H Q E) : FnOk P w K mg base CX k f fd ps sp' :=
 ⟨fun vs H Q E q => F.len vs H Q E (h _ _ _ _ q), fun A outer s H args us vs Q E hr he hb hv hs => F.run A outer s H args us vs Q E hr he hb hv (h _ _ _ _ hs)⟩
section
variable {X : Cx} {pins : List (Addr × Obj)} {σ : St} {H : Hp} {s s' : Shared}
theorem Inv.env0 (I : Inv X pins σ H s) : Env0 X.prog X.w X.K X.mg X.base X.A X.stack s H :=
 ⟨I.ok.frames, I.ok.mod, I.bs, Nat.le_trans I.ok.bsz I.sz, I.stack, I.stkFree, I.hok, I.bare⟩
theorem Inv.after {Q : VK} {u : Value} (I : Inv X pins σ H s) (h : CE X.stack X.prog X.w H s Q u s') : EP X pins σ Q u s' := by
 obtain ⟨v, H', os, bare, un, hok, r, q⟩ := h
 obtain ⟨hh, g, d, t, os'⟩ := s'
 obtain rfl : os' = s.os := os
 exact ⟨v, H', I.call (h' := hh) (g' := g) (d' := d) (t' := t) (ch := []) un hok bare (fun b z => absurd z (by simp)), r, q⟩
end
def Binds (K : PySem.W.Frag) (fd : FuncData) (ps : List Str) (ds : List Value) : Prop :=
 ∀ (s : Shared) (us : List Value), K.In s.heap → (us ++ ds).length = ps.length → BindsTo s fd ⟨us, []⟩ (ps.zip (us ++ ds))
theorem Binds.all {K : PySem.W.Frag} {fd : FuncData} {ps : List Str} (h : ∀ us : List Value, us.length = ps.length → bindArgs fd ⟨us, []⟩ = pure (ps.zip us)) : Binds K fd ps [] := fun s us _ hl => by
 rw [List.append_nil] at hl ⊢
 exact .of_eq (h us hl)
def Passes (CX : CXT) (X : Cx) (E : XK) : Prop := ∀ (pins : List (Addr × Obj)) (σ : St) (H : Hp) (s : Shared) (e : Value) (s' : Shared), Inv X pins σ H s → CX X.stack H s E e s' → X.xe e s'
section
variable {X : Cx} {CX : CXT} {k : Nat} {f C : Addr} {fd : FuncData} {ps : List Str} {sp : Sp} {dvs : List V} {ds : List Value} {E : XK} {x m : Str} {p pos apos : Pos} {e o : Expr} {es : List Expr} {ta : TE} {t : TA}
end
section
variable {X : Cx} {CX : CXT} {k : Nat} {f C : Addr} {fd : FuncData} {ps ks : List Str} {sp : Sp} {E : XK} {x m : Str} {p pos apos kpos : Pos} {e o : Expr} {es : List Expr} {kws : List Keyword} {te ta : TE} {t tk : TA} {nm : Option Str}
variable {g : List Value → List Value → List Value} {gV : List V → List V → List V}
end
structure FnScope (N P : List Str) (sc : Scope) : Prop where
 kind : sc.kind = .function
 co : sc.isCoroutine = false
 gen : sc.isGenerator = false
 nd : N.Nodup
 pre : N.take P.length = P
 par : ∀ x ∈ P, sc.names.lookup x = some .local ∨ sc.names.lookup x = some .cell
 nofree : ∀ y ∈ sc.names, y.2 ≠ .free
theorem bindL_out {kindOf : Str → Option NameKind} {x : Str} : ∀ {binds : List (Str × Value)} {m : Str → Option Value}, (∀ v, (x, v) ∉ binds) → bindL kindOf binds m x = m x
 | [], _, _ => rfl
 | (n, v) :: r, m, h => by
  unfold bindL
  rw [bindL_out fun w hw => h w (List.mem_cons_of_mem _ hw)]
  split
  ·have : x ≠ n := by rintro rfl; exact h v List.mem_cons_self
   simp [this]
  ·rfl
theorem bindC_out {kindOf : Str → Option NameKind} {x : Str} : ∀ {binds : List (Str × Value)} {m : Str → Option Value}, (∀ v, (x, v) ∉ binds) → bindC kindOf binds m x = m x
 | [], _, _ => rfl
 | (n, v) :: r, m, h => by
  unfold bindC
  rw [bindC_out fun w hw => h w (List.mem_cons_of_mem _ hw)]
  split
  ·rfl
  ·have : x ≠ n := by rintro rfl; exact h v List.mem_cons_self
   simp [this]
theorem bindL_get {kindOf : Str → Option NameKind} {x : Str} {v : Value} : ∀ {P : List Str} {vs : List Value} {i : Nat} {m : Str → Option Value}, P.Nodup → P[i]? = some x → vs[i]? = some v → kindOf x = some .local →
  bindL kindOf (P.zip vs) m x = some v
 | [], _, _, _, _, h, _, _ => by simp at h
 | _ :: _, [], _, _, _, _, h, _ => by simp at h
 | p :: P, w :: vs, 0, m, nd, h1, h2, hk => by
  simp at h1 h2; subst h1; subst h2
  show bindL kindOf ((p, w) :: P.zip vs) m p = _
  unfold bindL
  rw [bindL_out fun v hv => (List.nodup_cons.mp nd).1 (List.of_mem_zip hv).1, if_pos hk]
  simp
 | p :: P, w :: vs, i + 1, m, nd, h1, h2, hk => by
  show bindL kindOf ((p, w) :: P.zip vs) m x = _
  unfold bindL
  exact bindL_get (i := i) (List.nodup_cons.mp nd).2 (by simpa using h1) (by simpa using h2) hk
theorem bindC_get {kindOf : Str → Option NameKind} {x : Str} {v : Value} : ∀ {P : List Str} {vs : List Value} {i : Nat} {m : Str → Option Value}, P.Nodup → P[i]? = some x → vs[i]? = some v → kindOf x ≠ some .local →
  bindC kindOf (P.zip vs) m x = some v
 | [], _, _, _, _, h, _, _ => by simp at h
 | _ :: _, [], _, _, _, _, h, _ => by simp at h
 | p :: P, w :: vs, 0, m, nd, h1, h2, hk => by
  simp at h1 h2; subst h1; subst h2
  show bindC kindOf ((p, w) :: P.zip vs) m p = _
  unfold bindC
  rw [bindC_out fun v hv => (List.nodup_cons.mp nd).1 (List.of_mem_zip hv).1, if_neg hk]
  simp
 | p :: P, w :: vs, i + 1, m, nd, h1, h2, hk => by
  show bindC kindOf ((p, w) :: P.zip vs) m x = _
  unfold bindC
  exact bindC_get (i := i) (List.nodup_cons.mp nd).2 (by simpa using h1) (by simpa using h2) hk
def start (N : List Str) (vs : List V) : St := vs.map some ++ List.replicate (N.length - vs.length) none
def cxOf (CX : CXT) (P : Program) (w : World) (K : PySem.W.Frag) (mg : Str → Option Value) (base : Heap) (N : List Str) (qual : Str) (scope : Scope) (f : Addr) (cd : Value) (A : Around) (outer : List Env) (s : Shared) (H : Hp) (E : XK) : Cx where
 prog := P
 w := w
 K := K
 mg := mg
 base := base
 A := A.deeper (envOfC qual scope s.heap.objs.size f cd)
 N := N
 s₀ := s
 H₀ := H
 env := envOfC qual scope s.heap.objs.size f cd
 outer := outer
 stack := envOfC qual scope s.heap.objs.size f cd :: outer
 ex := []
 calm := true
 fn := fun _ => true
 pn := []
 xe := fun e s' => wpAny (model P w) (A.deeper (envOfC qual scope s.heap.objs.size f cd)) (leaving (envOfC qual scope s.heap.objs.size f cd) e) (fun _ s'' => CX outer H s E e s'') (fun e' s'' => CX outer H s E e' s'') s'
theorem cell_has {sc : Scope} {n : Nat} {x : Str} (h : sc.names.lookup x = some .cell) : ∃ c, (cellsFrom n sc.names []).lookup x = some c := by
 have q := PySem.W.cellsFrom_some sc.names n [] (.inl h)
 exact Option.isSome_iff_exists.mp q
theorem inv_start {CX : CXT} {P : Program} {w : World} {K : PySem.W.Frag} {mg : Str → Option Value} {base : Heap} {N ps : List Str} {qual : Str} {scope : Scope} {f : Addr} {cd : Value} {A : Around} {outer : List Env} {s s1 : Shared} {H : Hp} {E : XK} {us : List Value} {vs : List V}
  (S : FnScope N ps scope) (hd : A.handled = none) (e0 : Env0 P w K mg base A outer s H) (hl : vs.length = ps.length) (r : Vals vs us)
  (x : InCallC s s.heap.objs.size (bindL (envOfC qual scope s.heap.objs.size f cd).kindOf (ps.zip us) fun _ => none) (cellsFrom (s.heap.objs.size + 1) scope.names []) (bindC (envOfC qual scope s.heap.objs.size f cd).kindOf (ps.zip us) fun _ => none) s1) :
  Inv (cxOf CX P w K mg base N qual scope f cd A outer s H E) [] (start N vs) H s1 := by
 have hpl : ps.length ≤ N.length := by have := congrArg List.length S.pre; rw [List.length_take] at this; omega
 obtain ⟨h1, tk, rfl, hk⟩ := x.done
 have noA : ∀ b : Addr, b ∉ (cxOf CX P w K mg base N qual scope f cd A outer s H E).ex := fun b z => absurd (show b ∈ ([] : List Addr) from z) (by simp)
 refine ⟨⟨e0.mod, S.kind, rfl, rfl, Nat.le_refl _, fun y z c h1 h2 => ?_, fun y hy => ?_, fun y c _ h => ?_, fun _ => hd, Around.frames_deeper e0.frames, .inr ⟨rfl, rfl⟩, fun b z => absurd z (noA b), e0.bs, e0.bsz, fun b _ _ => noA b, fun b z => absurd z (noA b), e0.funs, e0.frf⟩,
  rfl, e0.bare, Un.kept hk, ⟨_, x.toInCall.ns, fun i y v h1 h2 h3 => ?_⟩, fun y c h => ⟨_, x.cell y c h⟩, e0.hok.fresh (Nat.le_refl _), fun y c h => ?_, fun p hp => absurd (show p ∈ ([] : List (Addr × Obj)) from hp) (by simp), e0.hok.kept hk, ?_⟩
 ·exact name_of_addr x.apart (PySem.mem_of_lookup h1) (PySem.mem_of_lookup h2)
 ·have hy : scope.names.lookup y = some .cell ∨ scope.names.lookup y = some .free := hy
  rcases hy with hy | hy
  ·exact cell_has hy
  ·exact absurd rfl (S.nofree _ (PySem.mem_of_lookup hy))
 ·exact Nat.le_of_lt (x.above y c (PySem.mem_of_lookup h))
 ·have hi : i < vs.length := by
   unfold start at h2
   by_cases hi : i < vs.length
   ·exact hi
   ·rw [List.getElem?_append_right (by simpa using hi)] at h2
    rw [List.getElem?_replicate] at h2
    split at h2 <;> cases h2
  have ha : vs[i]? = some v := by
   unfold start at h2
   rw [List.getElem?_append_left (by simpa using hi), List.getElem?_map] at h2
   cases e : vs[i]? with
   | none => rw [e] at h2; cases h2
   | some a => rw [e] at h2; cases h2; rfl
  obtain ⟨u, hu, rv⟩ := r.get ha
  have hp : ps[i]? = some y := by
   rw [← S.pre, List.getElem?_take_of_lt (by omega)]; exact h1
  have ndP : ps.Nodup := by rw [← S.pre]; exact S.nd.sublist (List.take_sublist _ _)
  refine ⟨u, rv, ?_⟩
  rcases S.par y (List.mem_of_getElem? hp) with k | k
  ·exact .inl ⟨k, bindL_get ndP hp hu k⟩
  ·obtain ⟨c, e⟩ := cell_has (n := s.heap.objs.size + 1) k
   refine .inr ⟨.inl k, c, e, ?_⟩
   have q := x.cell y c e
   rw [bindC_get ndP hp hu (by show scope.names.lookup y ≠ _; rw [k]; decide)] at q
   exact q
 ·exact e0.hok.fresh (Nat.le_of_lt (x.above y c (PySem.mem_of_lookup h)))
 ·unfold start
  show _ = N.length
  rw [List.length_append, List.length_map, List.length_replicate]
  omega
theorem fn_of {CX : CXT} {P : Program} {w : World} {K : PySem.W.Frag} {mg : Str → Option Value} {base : Heap} {k : Nat} {f : Addr} {name qual : Str} {params : Arguments} {body : List Stmt} {scope : Scope} {dV kV doc pm cdv ct oc : Value} {an od : Option Addr}
  {osl : Array (Option Value)} {N ps : List Str} {sp : Sp} (lk : K.lookup f = some ⟨oc, od, .func (PySem.W.fnOf name qual params body scope dV kV doc pm an cdv ct), osl⟩) (hcd : PySem.W.codeIn K cdv qual = true) (S : FnScope N ps scope)
  (len : ∀ vs H Q E, sp vs H Q E → vs.length = ps.length)
  (hbody : ∀ (A : Around) (outer : List Env) (s : Shared) (H : Hp) (vs : List V) (Q : VK) (E : XK), Room k (A.deeper (envOfC qual scope s.heap.objs.size f cdv)) → sp vs H Q E →
   ∃ t, PSs (cxOf CX P w K mg base N qual scope f cdv A outer s H E) body t ∧ t { nx := fun _ H' => Q .non H', rt := Q } (start N vs) H) :
  FnOk P w K mg base CX (k + 1) f (PySem.W.fnOf name qual params body scope dV kV doc pm an cdv ct) ps sp := by
 refine ⟨len, fun A outer s H args us vs Q E hr e0 hb r hsp => ?_⟩
 have hl := len _ _ _ _ hsp
 have KX : K.In s.heap := e0.mod.kin.keeps fun b o e => (e0.bs b o e).1
 have lim : s.heap.NoLimit := e0.mod.nolimit.keeps fun b o e => (e0.bs b o e).1
 have hkind : ∀ y ∈ ps.zip us, scope.names.lookup y.1 = some .local ∨ (scope.names.lookup y.1 = some .cell ∧ ((cellsFrom (s.heap.objs.size + 1) scope.names []).lookup y.1).isSome = true) := fun ⟨n, v⟩ hy => by
  rcases S.par n (List.of_mem_zip hy).1 with q | q
  ·exact .inl q
  ·exact .inr ⟨q, PySem.W.cellsFrom_some _ _ _ (.inl q)⟩
 refine codeAny_call_function hr.depth (KX _ _ lk) rfl S.co S.gen rfl (PySem.W.codeRec_of KX hcd) (hb _ _ _ _ ?_)
 refine wpAny_newFunctionEnv_cells S.kind hkind fun env he s1 x => ?_
 subst he
 refine ⟨lim.keeps x.toInCall.keep, codeAny_func ?_⟩
 obtain ⟨t, ht, hq⟩ := hbody A outer s H vs Q E (hr.deeper _) hsp
 have I : Inv (cxOf CX P w K mg base N qual scope f cdv A outer s H E) [] (start N vs) H s1 := inv_start S hr.hd e0 hl r x
 refine wpAny_mono (ht [] s1 (start N vs) H _ I hq) (fun fl s' hs => ?_) fun e s' hs => hs
 have fin : ∀ {σ' : St} {H' : Hp} {v : V} {u : Value}, Inv (cxOf CX P w K mg base N qual scope f cdv A outer s H E) [] σ' H' s' → RelV v u → Q v H' → CE outer P w H s Q u s' :=
  fun {σ' H' v u} J rv q => ⟨v, H', J.os, J.bare, J.base, J.hok, rv, q⟩
 cases fl with
 | ret u =>
  obtain ⟨v, σ', H', J, rv, q⟩ := hs
  exact fin J rv q
 | next =>
  obtain ⟨σ', H', J, q⟩ := hs
  exact fin (v := V.non) (u := Value.none) J rfl q
 | brk =>
  obtain ⟨_, _, _, q⟩ := hs
  exact False.elim q
 | cont =>
  obtain ⟨_, _, _, q⟩ := hs
  exact False.elim q
section
variable {X : Cx} {x : Str} {p pos : Pos} {e : Expr} {es : List Expr} {t : TA} {id T : String} {r : List V → Hp → VK → Prop}
def tCB (r : List V → Hp → VK → Prop) (t : TA) : TE := fun σ H Q => t σ H fun vs H1 => r vs H1 Q
theorem pe_callB (hc : CallR X (.builtin id) r) (hg : Gl X x) (hm : X.mg x = none) (hv : bootBuiltins x = some (.builtin id)) (ha : PA X (e :: es) t) (hn : x ≠ "__name__" := by decide) (hdb : (x == ("__debug__" : Str)) = false := by decide)
  (he : starEach (e :: es) X.env = (false, eval e X.env) :: starEach es X.env := by rfl) (hpl : (backTo pos (starEach es X.env)).any (·.1) = false := by rfl) : PE X (.Call (.Name x p) (e :: es) [] pos) (tCB r t) := by
 intro pins s σ H Q I h
 refine wpAny_Call_Name_kw (ld_blt I hg hm hv ?_ hn hdb)
 exact PyProof.Rows.callWith_builtin1 (thn (ha pos pins s σ H _ I h) fun us s1 ⟨vs, H1, I1, r1, q1⟩ => hc pins s1 σ H1 vs us Q I1 r1 q1) he hpl
theorem pe_callTy (hc : CallR X (.type T) r) (hg : Gl X x) (hm : X.mg x = none) (hv : bootBuiltins x = some (.type T)) (ha : PA X (e :: es) t) (hn : x ≠ "__name__" := by decide) (hdb : (x == ("__debug__" : Str)) = false := by decide)
  (he : starEach (e :: es) X.env = (false, eval e X.env) :: starEach es X.env := by rfl) (hpl : (backTo pos (starEach es X.env)).any (·.1) = false := by rfl) : PE X (.Call (.Name x p) (e :: es) [] pos) (tCB r t) := by
 intro pins s σ H Q I h
 refine wpAny_Call_Name_kw (ld_blt I hg hm hv ?_ hn hdb)
 exact PyProof.Rows.callWith_type1 (thn (ha pos pins s σ H _ I h) fun us s1 ⟨vs, H1, I1, r1, q1⟩ => hc pins s1 σ H1 vs us Q I1 r1 q1) he hpl
end
end L2
namespace HT
open PySem PyProof.Rows
section
open PySem.SeqAt
open PySem.AutoSeq1 (wpAny_loadPart')
open PySem.MeetsSeq PySem.MeetsSeq2 PySem.MeetsSeq3
end
section
variable {prog : Program} {w : World} {A : Around} {E : Value → Shared → Prop} {s : Shared}
def sIx (n d : Nat) : Option Int → Nat
 | none => d
 | some v => if v < 0 then (v + (n : Int)).toNat else min v.toNat n
theorem sIx_none (n d : Nat) : sIx n d none = d := rfl
theorem sIx_nat (n d k : Nat) : sIx n d (some (k : Int)) = min k n := by
 show (if (k : Int) < 0 then ((k : Int) + (n : Int)).toNat else min (k : Int).toNat n) = min k n
 rw [if_neg (by omega), Int.toNat_natCast]
end
end HT
namespace L2
open PySem PySem.Spec PyProof.Rows
abbrev TO := St → Hp → (Option Int → Hp → Prop) → Prop
def PO (X : Cx) (e : Option Expr) (t : TO) : Prop :=
 ∀ (pins : List (Addr × Obj)) (s : Shared) (σ : St) (H : Hp) (Q : Option Int → Hp → Prop), Inv X pins σ H s → t σ H Q →
  wpAny (model X.prog X.w) X.A (evalPart e X.env) (fun u s' => ∃ o H', Inv X pins σ H' s' ∧ IsPart u o ∧ Q o H') X.xe s
def tNoPart : TO := fun _ H Q => Q none H
def tPart (t : TE) : TO := fun σ H Q => t σ H fun x H1 => ∃ i, x = .int i ∧ Q (some i) H1
section
variable {X : Cx} {e : Expr} {te : TE} {lo hi : Option Expr} {tl th : TO} {pos p2 : Pos}
theorem po_none : PO X none tNoPart := by
 intro pins s σ H Q I h
 rw [evalPart_none]
 exact wpAny_pure ⟨none, H, I, .none, h⟩
theorem po_some (h : PE X e te) : PO X (some e) (tPart te) := by
 intro pins s σ H Q I hw
 rw [evalPart_some]
 refine thn (h pins s σ H _ I hw) fun u s1 ⟨x, H1, I1, r1, q1⟩ => ?_
 obtain ⟨i, rfl, q⟩ := q1
 obtain ⟨t, rfl⟩ := r1
 exact ⟨some i, H1, I1, .int i t, q⟩
def SlR (X : Cx) (r : V → Option Int → Option Int → Hp → VK → Prop) : Prop :=
 ∀ (pins : List (Addr × Obj)) (s : Shared) (σ : St) (H : Hp) (x : V) (v vl vu : Value) (lo hi : Option Int) (sl : Addr) (Q : VK), Inv X pins σ H s → RelV x v → s.heap.IsSliceOf sl vl vu .none → IsPart vl lo → IsPart vu hi → r x lo hi H Q →
  ∃ T id, typeLookup (.type T) "__getitem__" = pure (some (.builtin id)) ∧ s.TypeIs v T ∧ wpAny (model X.prog X.w) X.A (getItem v (.ref sl)) (EP X pins σ Q) X.xe s
def tSl (r : V → Option Int → Option Int → Hp → VK → Prop) (te : TE) (tl th : TO) : TE := fun σ H Q => te σ H fun x H1 => tl σ H1 fun l H2 => th σ H2 fun u H3 => r x l u H3 Q
theorem pe_slice {r : V → Option Int → Option Int → Hp → VK → Prop} (hr : SlR X r) (he : PE X e te) (hl : PO X lo tl) (hu : PO X hi th) : PE X (.Subscript e (.Slice lo hi none p2) pos) (tSl r te tl th) := by
 intro pins s σ H Q I h
 refine Subscript_ (thn (he pins s σ H _ I h) fun v s1 ⟨x, H1, I1, r1, q1⟩ => ?_)
 refine wpAny_Slice (thn (hl pins s1 σ H1 _ I1 q1) fun vl s2 ⟨l, H2, I2, pl, q2⟩ => thn (hu pins s2 σ H2 _ I2 q2) fun vu s3 ⟨u, H3, I3, pu, q3⟩ => ?_)
 rw [evalPart_none]
 refine wpAny_pure ?_
 have I4 : Inv X pins σ H3 { s3 with heap := s3.heap.push { cls := .type "slice", data := .fields #[vl, vu, .none] } } := I3.kept (t' := s3.toks) fun b ob q => Heap.get?_push_of_some _ q
 obtain ⟨T, id, hT, ht, hg⟩ := hr pins { s3 with heap := s3.heap.push { cls := .type "slice", data := .fields #[vl, vu, .none] } } σ H3 x v vl vu l u s3.heap.objs.size Q I4 r1 (Heap.IsSliceOf.new ..) pl pu q3
 show wpAny (model X.prog X.w) X.A (subscriptTail e (.Slice lo hi none p2) v (.ref s3.heap.objs.size)) (EP X pins σ Q) X.xe { s3 with heap := s3.heap.push { cls := .type "slice", data := .fields #[vl, vu, .none] } }
 exact tail_any (ops := [.ref s3.heap.objs.size, v]) ht hT hg (by with_unfolding_all rfl)
def cutV (xs : List V) (lo hi : Option Int) : List V := (xs.drop (HT.sIx xs.length 0 lo)).take (HT.sIx xs.length xs.length hi - HT.sIx xs.length 0 lo)
theorem cutV_length (xs : List V) (lo hi : Option Int) : (cutV xs lo hi).length ≤ xs.length := by
 unfold cutV
 rw [List.length_take, List.length_drop]
 omega
end
def ixN (n : Nat) (i : Int) : Option Nat := if 0 ≤ i then (if i < n then some i.toNat else none) else if -(n : Int) ≤ i then some (i + n).toNat else none
def atI {α : Type} (xs : List α) (i : Int) : Option α := (ixN xs.length i).bind fun j => xs[j]?
theorem ixN_seq {n : Nat} {i : Int} {j : Nat} (h : ixN n i = some j) : seqIndex? i n = some j ∧ j < n ∧ -(n : Int) ≤ i ∧ i < n := by
 unfold ixN at h
 by_cases h0 : 0 ≤ i
 ·rw [if_pos h0] at h
  by_cases h1 : i < n
  ·rw [if_pos h1] at h
   have e : i.toNat = j := Option.some.inj h
   exact ⟨by rw [seqIndex_of h0 h1, e], by omega, by omega, h1⟩
  ·rw [if_neg h1] at h; cases h
 ·rw [if_neg h0] at h
  by_cases h1 : -(n : Int) ≤ i
  ·rw [if_pos h1] at h
   have e : (i + n).toNat = j := Option.some.inj h
   exact ⟨by rw [seqIndex_neg (by omega) h1, e], by omega, h1, by omega⟩
  ·rw [if_neg h1] at h; cases h
theorem atI_get {α : Type} {xs : List α} {i : Int} {v : α} (h : atI xs i = some v) : ∃ j, seqIndex? i xs.length = some j ∧ xs[j]? = some v ∧ j < xs.length ∧ -(xs.length : Int) ≤ i ∧ i < xs.length := by
 unfold atI at h
 cases e : ixN xs.length i with
 | none => rw [e] at h; cases h
 | some j =>
  rw [e] at h
  obtain ⟨h1, h2, h3, h4⟩ := ixN_seq e
  exact ⟨j, h1, h, h2, h3, h4⟩
theorem atI_nat {α : Type} {xs : List α} {j : Nat} {v : α} (h : xs[j]? = some v) : atI xs (j : Int) = some v := by
 have hj : j < xs.length := (List.getElem?_eq_some_iff.mp h).1
 have e : ixN xs.length (j : Int) = some j := by
  unfold ixN
  rw [if_pos (by omega), if_pos (by omega)]; simp
 unfold atI; rw [e]; exact h
def PlainIx (b : Expr) : Prop := ∀ o i, subscripted b false o i = operate [o, i] (getItem o i)
def IxR (X : Cx) (r : R2) : Prop :=
 ∀ (value slice : Expr) (pins : List (Addr × Obj)) (s : Shared) (σ : St) (H : Hp) (x y : V) (v u : Value) (Q : VK), Inv X pins σ H s → RelV x v → RelV y u → r x y H Q →
  subscripted slice false v u = operate [v, u] (getItem v u) → wpAny (model X.prog X.w) X.A (subscriptTail value slice v u) (EP X pins σ Q) X.xe s
def MtR (X : Cx) (id : String) (r : V → List V → Hp → VK → Prop) : Prop :=
 ∀ (pins : List (Addr × Obj)) (s : Shared) (σ : St) (H : Hp) (x : V) (xs : List V) (v : Value) (us : List Value) (Q : VK), Inv X pins σ H s → RelV x v → Vals xs us → r x xs H Q →
  wpAny (model X.prog X.w) X.A (call (.builtin id) (v :: us)) (EP X pins σ Q) X.xe s
section
variable {X : Cx} {a b : Expr} {ta tb : TE} {pos : Pos}
theorem IxR.or {r r' : R2} (h : IxR X r) (h' : IxR X r') : IxR X (fun x y H Q => r x y H Q ∨ r' x y H Q) := by
 intro value slice pins s σ H x y v u Q I rx ry q hs
 rcases q with q | q
 ·exact h value slice pins s σ H x y v u Q I rx ry q hs
 ·exact h' value slice pins s σ H x y v u Q I rx ry q hs
theorem pe_ix {r : R2} (hr : IxR X r) (ha : PE X a ta) (hb : PE X b tb) (hs : PlainIx b) : PE X (.Subscript a b pos) (tOp r ta tb) := by
 intro pins s σ H Q I h
 exact Subscript_ (binT ha hb I h fun v u s2 x y H2 I2 rx ry q => hr a b pins s2 σ H2 x y v u Q I2 rx ry q (hs _ _))
def rIxL (K : PySem.W.Frag) : R2 := fun x y H Q => ∃ p xs i v, x = .ref p ∧ y = .int i ∧ SqL K H p xs ∧ atI xs i = some v ∧ Q v H
def rIxT (K : PySem.W.Frag) : R2 := fun x y H Q => ∃ p xs i v, x = .ref p ∧ y = .int i ∧ SqT K H p xs ∧ atI xs i = some v ∧ Q v H
theorem ix_list : IxR X (rIxL X.K) := by
 intro value slice pins s σ H x y v u Q I rx ry h hs
 obtain ⟨p, xs, i, z, rfl, rfl, hq, he, q⟩ := h
 cases rx
 obtain ⟨t, rfl⟩ := ry
 obtain ⟨its, r, pl, hz⟩ := I.list hq
 obtain ⟨j, h1, h2, h3, h4, h5⟩ := atI_get he
 obtain ⟨w, ew, rw'⟩ := r.get h2
 have hl := r.length
 have hn := line63
 have fin : EP X pins σ Q w s := ⟨z, H, I, rw', q⟩
 by_cases h0 : 0 ≤ i
 ·have hj : i.toNat = j := by
   rw [seqIndex_of h0 h5] at h1
   exact Option.some.inj h1
  exact item_listR pl.isList h0 (by omega) (by rw [hj]; simpa using ew) fin hs
 ·have hj : (i + (its.toArray.size : Int)).toNat = j := by
   rw [seqIndex_neg (by omega) h4] at h1
   rw [List.size_toArray, ← hl]
   exact Option.some.inj h1
  exact subscriptTail_builtinR (x := w) pl.isList.typeIs slot_list_getitem.lookup
   (wpAny_getItem_list_neg (Q := fun r s' => r = w ∧ EP X pins σ Q r s') pl.isList (by omega) (by rw [List.size_toArray] <;> omega) (by omega) (by rw [hj]; simpa using ew) ⟨rfl, fin⟩) hs
theorem ix_tup : IxR X (rIxT X.K) := by
 intro value slice pins s σ H x y v u Q I rx ry h hs
 obtain ⟨p, xs, i, z, rfl, rfl, hq, he, q⟩ := h
 cases rx
 obtain ⟨t, rfl⟩ := ry
 obtain ⟨its, r, pl, hz⟩ := I.tuple hq
 obtain ⟨j, h1, h2, h3, h4, h5⟩ := atI_get he
 obtain ⟨w, ew, rw'⟩ := r.get h2
 have hl := r.length
 have hn := line63
 have fin : EP X pins σ Q w s := ⟨z, H, I, rw', q⟩
 exact subscriptTail_builtinR (x := w) pl.typeIs slot_tuple_getitem.lookup
  (getItem_tuple (j := j) (Q := fun r s' => r = w ∧ EP X pins σ Q r s') pl (by omega) (by omega) (by rw [List.size_toArray, ← hl]; exact h1) (by simpa using ew) ⟨rfl, fin⟩) hs
theorem slice_bounds (lo hi : Option Int) (n : Nat) : (sliceBounds lo hi none n).1 = ((HT.sIx n 0 lo : Nat) : Int) ∧ (sliceBounds lo hi none n).2.1 = ((HT.sIx n n hi : Nat) : Int) ∧ (sliceBounds lo hi none n).2.2 = 1 := by
 refine ⟨?_, ?_, rfl⟩
 ·cases lo with
  | none => simp [sliceBounds, HT.sIx]
  | some i =>
   simp only [sliceBounds, HT.sIx, Option.getD_none, show (1 : Int) > 0 by decide, if_true]
   by_cases h : i < 0
   ·simp only [h, if_true] <;> omega
   ·simp only [h, if_false] <;> omega
 ·cases hi with
  | none => simp [sliceBounds, HT.sIx]
  | some i =>
   simp only [sliceBounds, HT.sIx, Option.getD_none, show (1 : Int) > 0 by decide, if_true]
   by_cases h : i < 0
   ·simp only [h, if_true] <;> omega
   ·simp only [h, if_false] <;> omega
theorem slicePick_cut (its : List Value) (lo hi : Option Int) : slicePick its.toArray lo hi none = ((its.drop (HT.sIx its.length 0 lo)).take (HT.sIx its.length its.length hi - HT.sIx its.length 0 lo)).toArray := by
 obtain ⟨h1, h2, h3⟩ := slice_bounds lo hi its.toArray.size
 unfold slicePick
 rw [h1, h2, h3]
 simp only [sliceRange_one, pick_run, List.size_toArray] <;> rfl
def rSlL (K : PySem.W.Frag) : V → Option Int → Option Int → Hp → VK → Prop := fun x lo hi H Q => ∃ a xs, x = .ref a ∧ SqL K H a xs ∧ ∀ p, H p = none → Q (.ref p) (upd H p (.lst (cutV xs lo hi)))
theorem sl_list : SlR X (rSlL X.K) := by
 intro pins s σ H x v vl vu lo hi sl Q I rx hs pl pu h
 obtain ⟨a, xs, rfl, hx, q⟩ := h
 cases rx
 obtain ⟨its, r, ht, hz⟩ := I.list hx
 have hlen := r.length
 refine ⟨"list", _, slot_list_getitem.lookup, ht.isList.typeIs, ?_⟩
 refine wpAny_getItem_list_slice ht.isList hs pl pu .none (by simp) ?_ (by rw [List.size_toArray] <;> omega)
 rw [slicePick_cut, ← hlen]
 refine ⟨.ref s.heap.objs.size, _, I.laid (t' := s.toks) (o := .lst (cutV xs lo hi)) (fun b ob q => Heap.get?_push_of_some _ q) (Nat.le_refl _) ?_, rfl, q _ (I.hok.fresh (Nat.le_refl _))⟩
 exact ⟨Nat.le_trans (cutV_length xs lo hi) hz, _, 0, (r.drop (HT.sIx xs.length 0 lo)).take (HT.sIx xs.length xs.length hi - HT.sIx xs.length 0 lo), Heap.get?_push_size _ rfl⟩
def flatV : V → Bool
 | .non => true
 | .bl _ => true
 | .int _ => true
 | .str _ => true
 | _ => false
def eqV : V → V → Bool
 | .non, .non => true
 | .bl a, .bl b => a == b
 | .bl a, .int b => (if a then 1 else 0) == b
 | .int a, .bl b => a == (if b then 1 else 0)
 | .int a, .int b => a == b
 | .str a, .str b => a == b
 | _, _ => false
theorem eqAt_V {A : Around} {s : Shared} {y x : V} {u v : Value} (ry : RelV y u) (rx : RelV x v) (fy : flatV y = true) (fx : flatV x = true) : SeqAt.EqAt A s u v (eqV y x) := by
 cases y with
 | non =>
  cases ry
  cases x with
  | non => cases rx; exact SeqAt.EqAt.same _
  | bl b => cases rx; exact SeqAt.EqAt.none_bool b
  | int b => obtain ⟨t, rfl⟩ := rx; exact SeqAt.EqAt.none_int b t
  | str b => obtain ⟨t, rfl⟩ := rx; exact SeqAt.EqAt.none_str b t
  | _ => exact absurd (show false = true from fx) Bool.false_ne_true
 | bl a =>
  cases ry
  cases x with
  | non => cases rx; exact SeqAt.EqAt.bool_none a
  | bl b => cases rx; exact SeqAt.EqAt.bool_bool a b
  | int b => obtain ⟨t, rfl⟩ := rx; exact SeqAt.EqAt.bool_int a b t
  | str b => obtain ⟨t, rfl⟩ := rx; exact SeqAt.EqAt.bool_str a b t
  | _ => exact absurd (show false = true from fx) Bool.false_ne_true
 | int a =>
  obtain ⟨t', rfl⟩ := ry
  cases x with
  | non => cases rx; exact SeqAt.EqAt.int_none a t'
  | bl b => cases rx; exact SeqAt.EqAt.int_bool a t' b
  | int b => obtain ⟨t, rfl⟩ := rx; exact SeqAt.EqAt.int_int a t' b t
  | str b => obtain ⟨t, rfl⟩ := rx; exact SeqAt.EqAt.int_str a t' b t
  | _ => exact absurd (show false = true from fx) Bool.false_ne_true
 | str a =>
  obtain ⟨t', rfl⟩ := ry
  cases x with
  | non => cases rx; exact SeqAt.EqAt.str_none a t'
  | bl b => cases rx; exact SeqAt.EqAt.str_bool a t' b
  | int b => obtain ⟨t, rfl⟩ := rx; exact SeqAt.EqAt.str_int a t' b t
  | str b => obtain ⟨t, rfl⟩ := rx; exact SeqAt.EqAt.str_str a t' b t
  | _ => exact absurd (show false = true from fx) Bool.false_ne_true
 | _ => exact absurd (show false = true from fy) Bool.false_ne_true
def eqU (x : V) (u : Value) : Bool := match u with
 | .none => eqV .non x
 | .bool b => eqV (.bl b) x
 | .int i _ => eqV (.int i) x
 | .str z _ => eqV (.str z) x
 | _ => false
theorem eqU_of {x y : V} {u : Value} (r : RelV y u) (f : flatV y = true) : eqU x u = eqV y x := by
 cases y with
 | non => cases r; rfl
 | bl b => cases r; rfl
 | int i => obtain ⟨t, rfl⟩ := r; rfl
 | str z => obtain ⟨t, rfl⟩ := r; rfl
 | _ => exact absurd (show false = true from f) Bool.false_ne_true
theorem any_eqU {x : V} : ∀ {xs : List V} {us : List Value}, Vals xs us → xs.all flatV = true → us.any (eqU x) = xs.any fun y => eqV y x
 | _, _, .nil, _ => rfl
 | y :: xs, u :: us, .cons r t, f => by
  rw [List.all_cons, Bool.and_eq_true] at f
  rw [List.any_cons, List.any_cons, eqU_of r f.1, any_eqU t f.2]
theorem mem_eqAt {A : Around} {s : Shared} {x : V} {v : Value} (rx : RelV x v) (fx : flatV x = true) : ∀ {xs : List V} {us : List Value}, Vals xs us → xs.all flatV = true → ∀ u ∈ us, SeqAt.EqAt A s u v (eqU x u)
 | _, _, .nil, _ => fun u hu => by cases hu
 | y :: xs, u :: us, .cons r t, f => fun u' hu => by
  rw [List.all_cons, Bool.and_eq_true] at f
  rcases List.mem_cons.mp hu with rfl | hu
  ·rw [eqU_of r f.1]; exact eqAt_V r rx f.1 fx
  ·exact mem_eqAt rx fx t f.2 u' hu
def inV (x : V) (xs : List V) : Bool := xs.any fun y => eqV y x
def rIn (K : PySem.W.Frag) (neg : Bool) : R2 := fun x y H Q => ∃ p xs, y = .ref p ∧ (SqL K H p xs ∨ SqT K H p xs) ∧ flatV x = true ∧ xs.all flatV = true ∧ Q (.bl (if neg then !inV x xs else inV x xs)) H
theorem op_in_seq : OpR X (compareOp .In) (rIn X.K false) := by
 intro pins s σ H x y v u Q I rx ry h
 obtain ⟨p, xs, rfl, hq, fx, fs, q⟩ := h
 cases ry
 rcases hq with hq | hq
 ·obtain ⟨its, r, pl, hz⟩ := I.list hq
  refine SeqAt.in_listAt (eqU x) pl.isList (fun w hw => mem_eqAt rx fx r fs w (by simpa using hw)) ⟨.bl _, H, I, rfl, ?_⟩
  rw [show its.toArray.any (eqU x) = its.any (eqU x) by simp, any_eqU r fs]
  exact q
 ·obtain ⟨its, r, pl, hz⟩ := I.tuple hq
  refine SeqAt.in_tupleAt (eqU x) pl (fun w hw => mem_eqAt rx fx r fs w (by simpa using hw)) ⟨.bl _, H, I, rfl, ?_⟩
  rw [show its.toArray.any (eqU x) = its.any (eqU x) by simp, any_eqU r fs]
  exact q
theorem call_len_seq : CallR X (.builtin "len") (fun xs H Q => ∃ p ys, xs = [.ref p] ∧ (SqL X.K H p ys ∨ SqT X.K H p ys) ∧ Q (.int ys.length) H) := by
 intro pins s σ H xs us Q I r h
 obtain ⟨p, ys, rfl, hq, q⟩ := h
 obtain ⟨u, rfl, rx⟩ := vals1 r
 cases rx
 have hn := line63
 rcases hq with hq | hq
 ·obtain ⟨its, r', pl, hz⟩ := I.list hq
  have hlen := r'.length
  exact Calls.call_len_list pl.isList (by simp only [List.size_toArray] <;> omega) ⟨.int ys.length, H, I.tok _, ⟨s.toks + 1, by rw [List.size_toArray, hlen]⟩, q⟩
 ·obtain ⟨its, r', pl, hz⟩ := I.tuple hq
  have hlen := r'.length
  exact len_tuple pl (by simp only [List.size_toArray] <;> omega) ⟨.int ys.length, H, I.tok _, ⟨s.toks + 1, by rw [List.size_toArray, hlen]⟩, q⟩
theorem call_list_of : CallR X (.type "list") (fun xs H Q => ∃ p ys, xs = [.ref p] ∧ (SqL X.K H p ys ∨ SqT X.K H p ys) ∧ ∀ l, H l = none → Q (.ref l) (upd H l (.lst ys))) := by
 intro pins s σ H xs us Q I r h
 obtain ⟨p, ys, rfl, hq, q⟩ := h
 obtain ⟨u, rfl, rx⟩ := vals1 r
 cases rx
 have fin : ∀ (its : List Value), Vals ys its → ys.length ≤ sizeLine → ∀ (h' : Heap) (c' : Nat), (∀ b o', s.heap.get? b = some o' → h'.get? b = some o') →
   h'.get? s.heap.objs.size = some { cls := .type "list", dict := none, data := .seq its.toArray c', slots := #[] } → EP X pins σ Q (.ref s.heap.objs.size) { s with heap := h' } := fun its r' hz h' c' kp e =>
  ⟨.ref s.heap.objs.size, _, I.laid (t' := s.toks) kp (Nat.le_refl _) (show ObjOk X.prog X.w _ h' _ (.lst ys) from ⟨hz, its, c', r', e⟩), rfl, q _ (I.hok.fresh (Nat.le_refl _))⟩
 rcases hq with hq | hq
 ·obtain ⟨its, r', pl, hz⟩ := I.list hq
  have hlen := r'.length
  obtain ⟨o, ho, hc, n, hd⟩ := pl.isList
  exact call_list_seq p (.inl rfl) ho hc hd (fun h' c' kp e => fin its r' hz h' c' kp e) (by simp only [List.size_toArray] <;> omega)
 ·obtain ⟨its, r', pl, hz⟩ := I.tuple hq
  have hlen := r'.length
  obtain ⟨o, ho, hc, n, hd⟩ := pl
  exact call_list_seq p (.inr rfl) ho hc hd (fun h' c' kp e => fin its r' hz h' c' kp e) (by simp only [List.size_toArray] <;> omega)
def tyV (K : PySem.W.Frag) (T : String) (x : V) (H : Hp) : Prop := match x with
 | .str _ => T = "str"
 | .int _ => T = "int"
 | .ref p => (T = "list" ∧ ∃ xs, SqL K H p xs) ∨ (T = "tuple" ∧ ∃ o, K.lookup p = some o ∧ o.cls = .type "tuple" ∧ o.dict = none) ∨
   (T = "dict" ∧ ((∃ kvs, H p = some (.dK kvs)) ∨ ∃ kvs, H p = some (.dT kvs))) ∨ (T = "set" ∧ ∃ S n, H p = some (.set S n))
 | _ => False
theorem tyV_is {pins : List (Addr × Obj)} {σ : St} {H : Hp} {s : Shared} {T : String} {x : V} {v : Value} (I : Inv X pins σ H s) (r : RelV x v) (ty : tyV X.K T x H) :
  s.TypeIs v T ∧ ∀ a, v = .ref a → ∃ ob, s.heap.get? a = some ob ∧ ob.dict = none := by
 cases x with
 | str z =>
  obtain ⟨t, rfl⟩ := r
  cases (show T = "str" from ty)
  exact ⟨typeIs_str s z t, fun _ e => nomatch e⟩
 | int i =>
  obtain ⟨t, rfl⟩ := r
  cases (show T = "int" from ty)
  exact ⟨typeIs_int s i t, fun _ e => nomatch e⟩
 | ref p =>
  cases r
  rcases ty with ⟨rfl, xs, hq⟩ | ⟨rfl, o, hk, hc, hd⟩ | ⟨rfl, hk⟩ | ⟨rfl, S, n, hk⟩
  ·obtain ⟨its, _, pl, _⟩ := I.list hq
   refine ⟨pl.isList.typeIs, fun a e => ?_⟩
   cases e
   obtain ⟨o, n, e, c, hd, _⟩ := pl
   exact ⟨o, e, hd⟩
  ·refine ⟨⟨o, I.kIn p o hk, hc⟩, fun a e => ?_⟩
   cases e
   exact ⟨o, I.kIn _ o hk, hd⟩
  ·have z : ∃ o, s.heap.get? p = some o ∧ o.ExactDict := by
    rcases hk with ⟨kvs, hk⟩ | ⟨kvs, hk⟩
    ·obtain ⟨_, _, _, _, o, _, _, e, ex, _⟩ := I.hok p _ hk
     exact ⟨o, e, ex⟩
    ·obtain ⟨_, _, _, _, o, _, _, e, ex, _⟩ := I.hok p _ hk
     exact ⟨o, e, ex⟩
   obtain ⟨o, e, ex⟩ := z
   refine ⟨⟨o, e, ex.1⟩, fun a e2 => ?_⟩
   cases e2
   exact ⟨o, e, ex.2.1⟩
  ·obtain ⟨o, _, _, _, e, ex, _⟩ := I.hok p _ hk
   refine ⟨⟨o, e, ex.1⟩, fun a e2 => ?_⟩
   cases e2
   exact ⟨o, e, ex.2.1⟩
 | _ => exact False.elim ty
def tBM0 (K : PySem.W.Frag) (T : String) (r : V → List V → Hp → VK → Prop) (to : TE) : TE := fun σ H Q => to σ H fun x H1 => tyV K T x H1 ∧ r x [] H1 Q
def tBM (K : PySem.W.Frag) (T : String) (r : V → List V → Hp → VK → Prop) (to : TE) (t : TA) : TE := fun σ H Q => to σ H fun x H1 => tyV K T x H1 ∧ t σ H1 fun xs H2 => r x xs H2 Q
variable {o e : Expr} {es : List Expr} {to : TE} {t : TA} {name : Str} {apos cpos : Pos} {T id : String} {r : V → List V → Hp → VK → Prop}
theorem pe_bm0 (pa : PlainAttrs T) (slot : Slot T name id) (hty : typeOf (.builtin id) = pure (.type "method_descriptor")) (hm : MtR X id r) (ho : PE X o to)
  (hbase : attributeBase o name X.env (eval o X.env) = eval o X.env := by rfl) (hline : (apos.endLine == cpos.line) = true := by rfl) : PE X (.Call (.Attribute o name apos) [] [] cpos) (tBM0 X.K T r to) := by
 intro pins s σ H Q I h
 refine wpAny_Call_method0_late hbase hline (thn (ho pins s σ H _ I h) fun v s1 ⟨x, H1, I1, r1, ty, q1⟩ => ?_)
 obtain ⟨h1, h2⟩ := tyV_is I1 r1 ty
 exact ⟨T, id, pa, slot, hty, h1, h2, Calls.callWith_builtin rfl (PySem.evalArgs_none (hm pins s1 σ H1 x [] v [] Q I1 r1 .nil q1))⟩
theorem pe_bm (pa : PlainAttrs T) (slot : Slot T name id) (hty : typeOf (.builtin id) = pure (.type "method_descriptor")) (hm : MtR X id r) (ho : PE X o to) (ha : PA X (e :: es) t)
  (hbase : attributeBase o name X.env (eval o X.env) = eval o X.env := by rfl)
  (hfew : ((backTo cpos (starEach (e :: es) X.env)).all (fun x => !x.1) && (backToKw cpos (keywordEach [] X.env)).all (fun x => x.1.isSome)
   && decide ((e :: es).length + ([] : List Keyword).length + (if ([] : List Keyword).isEmpty then 0 else 1) < 30)) = true := by rfl)
  (hline : (apos.endLine == cpos.line) = true := by rfl) (hs : starEach (e :: es) X.env = (false, eval e X.env) :: starEach es X.env := by rfl) (hplain : (backTo cpos (starEach es X.env)).any (·.1) = false := by rfl) :
  PE X (.Call (.Attribute o name apos) (e :: es) [] cpos) (tBM X.K T r to t) := by
 intro pins s σ H Q I h
 refine wpAny_Call_method_late hbase hfew hline rfl (thn (ho pins s σ H _ I h) fun v s1 ⟨x, H1, I1, r1, ty, q1⟩ => ?_)
 obtain ⟨h1, h2⟩ := tyV_is I1 r1 ty
 refine ⟨T, id, pa, slot, hty, h1, h2, ?_⟩
 have hA := ha cpos pins s1 σ H1 _ I1 q1
 rw [hs] at hA ⊢
 refine Calls.callWith_builtin (by show (false || (backTo cpos (starEach es X.env)).any (·.1)) = false; rw [hplain] <;> rfl) (Calls.evalArgs_plain ?_)
 exact thn hA fun us s2 ⟨vs, H2, I2, r2, q2⟩ => hm pins s2 σ H2 x vs v us Q I2 r1 r2 q2
end
def MtM (X : Cx) (id : String) (r : V → List V → Hp → VK → Prop) : Prop :=
 ∀ (pins : List (Addr × Obj)) (s : Shared) (σ : St) (H : Hp) (x : V) (xs : List V) (v : Value) (us : List Value) (Q : VK), Inv X pins σ H s → RelV x v → Vals xs us → r x xs H Q →
  wpAny (model X.prog X.w) X.A (call (.builtin id) (v :: us)) (EP X pins σ Q) X.xe s
theorem Vals.one : ∀ {x : V} {us : List Value}, Vals [x] us → ∃ u, us = [u] ∧ RelV x u
 | _, _, .cons r .nil => ⟨_, rfl, r⟩
theorem Vals.zero : ∀ {us : List Value}, Vals [] us → us = []
 | _, .nil => rfl
theorem Vals.reverse {xs : List V} {us : List Value} (h : Vals xs us) : Vals xs.reverse us.reverse := by
 induction h with
 | nil => exact .nil
 | cons r t ih => rw [List.reverse_cons, List.reverse_cons]; exact Vals.append ih (.cons r .nil)
section
variable {X : Cx} {pins : List (Addr × Obj)} {σ : St} {H : Hp} {s : Shared} {l b : Addr} {xs ys zs : List V}
theorem Inv.lset {its its' : List Value} {n : Nat} {f : Array Value → Array Value} {t' : Nat} (I : Inv X pins σ H s) (hH : H l = some (.lst xs))
  (e : s.heap.get? l = some { cls := .type "list", data := .seq its.toArray n }) (hf : f its.toArray = its'.toArray) (hv : Vals ys its') (hz : ys.length ≤ sizeLine) :
  Inv X pins σ (upd H l (.lst ys)) { s with heap := s.heap.update l (Obj.mapSeq f), toks := t' } := by
 have q := PySem.IsL.update e f
 rw [hf] at q
 refine I.write (x := l) (e := l) (by rw [hH]; exact trivial) (.inl rfl) (fun b' u hb hu => (Heap.get?_update_other s.heap (Obj.mapSeq f) (Ne.symm hb)).trans hu) ⟨_, q⟩ ?_
 exact ⟨hz, its', _, hv, q⟩
theorem Inv.lnew {its : List Value} {t' : Nat} (I : Inv X pins σ H s) (hv : Vals ys its) (hz : ys.length ≤ sizeLine) :
  Inv X pins σ (upd H s.heap.objs.size (.lst ys)) { s with heap := s.heap.push { cls := .type "list", data := .seq its.toArray }, toks := t' } :=
 I.laid (fun _ _ q => Heap.get?_push_of_some _ q) (Nat.le_refl _) ⟨hz, its, 0, hv, Heap.get?_push_size _ rfl⟩
theorem Inv.fresh (I : Inv X pins σ H s) : H s.heap.objs.size = none := I.hok.fresh (Nat.le_refl _)
theorem Inv.lstM (I : Inv X pins σ H s) (hH : H l = some (.lst xs)) : xs.length ≤ sizeLine ∧ ∃ (its : List Value) (n : Nat), Vals xs its ∧ xs.length = its.length ∧ s.heap.get? l = some { cls := .type "list", data := .seq its.toArray n } := by
 obtain ⟨z, its, n, r, e⟩ := I.hok l _ hH
 exact ⟨z, its, n, r, r.length, e⟩
end
section
variable {X : Cx}
def rAppend : V → List V → Hp → VK → Prop := fun x vs H Q => ∃ l xs y, x = .ref l ∧ vs = [y] ∧ H l = some (.lst xs) ∧ xs.length < sizeLine ∧ Q .non (upd H l (.lst (xs ++ [y])))
theorem mt_append : MtM X "list.append" rAppend := by
 intro pins s σ H x vs v us Q I rx rv h
 obtain ⟨l, xs, y, rfl, rfl, hH, hz, q⟩ := h
 cases rx
 obtain ⟨u, rfl, ru⟩ := rv.one
 obtain ⟨z, its, n, r, hl, e⟩ := I.lstM hH
 refine call_meets F.slot_list_append ⟨_, e, rfl⟩ F.entry_list_append (F.args_list_append_2 _ _) (PySem.list_append l its.toArray n u (by rw [List.size_toArray]; omega)) ⟨e, ?_⟩
 refine ⟨.non, _, I.lset (its' := its ++ [u]) hH e (by simp) (r.append (.cons ru .nil)) ?_, rfl, q⟩
 rw [List.length_append, List.length_singleton]
 omega
def rReverse : V → List V → Hp → VK → Prop := fun x vs H Q => ∃ l xs, x = .ref l ∧ vs = [] ∧ H l = some (.lst xs) ∧ Q .non (upd H l (.lst xs.reverse))
theorem mt_reverse : MtM X "list.reverse" rReverse := by
 intro pins s σ H x vs v us Q I rx rv h
 obtain ⟨l, xs, rfl, rfl, hH, q⟩ := h
 cases rx
 have hus := rv.zero
 subst hus
 obtain ⟨z, its, n, r, hl, e⟩ := I.lstM hH
 refine call_meets F.slot_list_reverse ⟨_, e, rfl⟩ F.entry_list_reverse (F.args_list_reverse_1 _) (AutoSeq1.list_reverse_list_0 l its.toArray n (by rw [List.size_toArray]; omega)) ⟨e, ?_⟩
 refine ⟨.non, _, I.lset (its' := its.reverse) hH e (by simp) r.reverse ?_, rfl, q⟩
 rw [List.length_reverse]
 omega
def rClear : V → List V → Hp → VK → Prop := fun x vs H Q => ∃ l xs, x = .ref l ∧ vs = [] ∧ H l = some (.lst xs) ∧ Q .non (upd H l (.lst []))
theorem mt_clear : MtM X "list.clear" rClear := by
 intro pins s σ H x vs v us Q I rx rv h
 obtain ⟨l, xs, rfl, rfl, hH, q⟩ := h
 cases rx
 have hus := rv.zero
 subst hus
 obtain ⟨z, its, n, r, hl, e⟩ := I.lstM hH
 refine call_meets F.slot_list_clear ⟨_, e, rfl⟩ F.entry_list_clear (F.args_list_clear_1 _) (AutoSeq1.list_clear_list_0 l its.toArray n (by rw [List.size_toArray]; omega)) ⟨e, ?_⟩
 exact ⟨.non, _, I.lset (its' := []) (ys := []) hH e rfl .nil (Nat.zero_le _), rfl, q⟩
end
section
variable {prog : Program} {w : World} {A : Around} {E : Value → Shared → Prop} {s : Shared}
set_option maxRecDepth 100000 in
end
section
variable {X : Cx}
end
section
variable {κ : Type} [DecidableEq κ]
def valV (kvs : List (κ × V)) (k : κ) : Option V := (kvs.find? fun kv => decide (kv.1 = k)).map (·.2)
def putK (kvs : List (κ × V)) (k : κ) (v : V) : List (κ × V) :=
 if (kvs.any fun kv => decide (kv.1 = k)) = true then kvs.map (fun kv => if kv.1 = k then (kv.1, v) else kv) else kvs ++ [(k, v)]
theorem valV_pos {p : κ × V} {r : List (κ × V)} {k : κ} (e : p.1 = k) : valV (p :: r) k = some p.2 := by simp [valV, List.find?_cons, e]
theorem valV_neg {p : κ × V} {r : List (κ × V)} {k : κ} (e : ¬ p.1 = k) : valV (p :: r) k = valV r k := by simp [valV, List.find?_cons, e]
theorem valV_any (k : κ) : ∀ kvs : List (κ × V), (kvs.any fun kv => decide (kv.1 = k)) = (valV kvs k).isSome
 | [] => rfl
 | p :: r => by
  rw [List.any_cons]
  by_cases e : p.1 = k
  ·simp only [valV_pos e, decide_eq_true e, Bool.true_or, Option.isSome_some]
  ·rw [valV_neg e, decide_eq_false e, Bool.false_or]; exact valV_any k r
theorem length_putK (kvs : List (κ × V)) (k : κ) (v : V) : (putK kvs k v).length ≤ kvs.length + 1 := by
 unfold putK
 split
 ·rw [List.length_map]; omega
 ·rw [List.length_append, List.length_cons, List.length_nil]; omega
theorem RelO.isSome_eq {o : Option V} {u : Option Value} (r : RelO o u) : o.isSome = u.isSome := by
 cases o with
 | none => cases u with
  | none => rfl
  | some _ => exact (show False from r).elim
 | some _ => cases u with
  | none => exact (show False from r).elim
  | some _ => rfl
theorem KV.val {kvs : List (κ × V)} {vs : List (κ × Value)} (r : KV kvs vs) (k : κ) : RelO (valV kvs k) (valueAt vs k) := by
 unfold KV at r
 induction r with
 | nil => exact True.intro
 | @cons p q ps qs h t ih =>
  obtain ⟨h1, h2⟩ := h
  by_cases e : p.1 = k
  ·have e' : q.1 = k := h1.symm.trans e
   have b : valueAt (q :: qs) k = some q.2 := by simp [valueAt, List.find?_cons, e']
   rw [valV_pos e, b]; exact h2
  ·have e' : ¬ q.1 = k := fun z => e (h1.trans z)
   have b : valueAt (q :: qs) k = valueAt qs k := by simp [valueAt, List.find?_cons, e']
   rw [valV_neg e, b]; exact ih
theorem KV.any {kvs : List (κ × V)} {vs : List (κ × Value)} (r : KV kvs vs) (k : κ) : (kvs.any fun kv => decide (kv.1 = k)) = vs.any fun kv => decide (kv.1 = k) := by
 unfold KV at r
 induction r with
 | nil => rfl
 | cons h t ih => rw [List.any_cons, List.any_cons, ih, h.1]
theorem KV.repl {kvs : List (κ × V)} {vs : List (κ × Value)} (r : KV kvs vs) (k : κ) {y : V} {u : Value} (ry : RelV y u) :
  KV (kvs.map fun kv => if kv.1 = k then (kv.1, y) else kv) (vs.map fun kv => if kv.1 = k then (kv.1, u) else kv) := by
 unfold KV at r ⊢
 induction r with
 | nil => exact .nil
 | @cons p q ps qs h t ih =>
  rw [List.map_cons, List.map_cons]
  refine .cons ?_ ih
  obtain ⟨h1, h2⟩ := h
  by_cases e : p.1 = k
  ·rw [if_pos e, if_pos (h1.symm.trans e)]; exact ⟨h1, ry⟩
  ·rw [if_neg e, if_neg (fun z => e (h1.trans z))]; exact ⟨h1, h2⟩
theorem KV.put {kvs : List (κ × V)} {vs : List (κ × Value)} (r : KV kvs vs) (k : κ) {y : V} {u : Value} (ry : RelV y u) : KV (putK kvs k y) (stored vs k u) := by
 unfold putK stored
 rw [r.any k]
 by_cases e : (vs.any fun kv => decide (kv.1 = k)) = true
 ·rw [if_pos e, if_pos e]; exact r.repl k ry
 ·rw [if_neg e, if_neg e]; exact Paired.snoc r ⟨rfl, ry⟩
theorem KV.length {kvs : List (κ × V)} {vs : List (κ × Value)} (r : KV kvs vs) : kvs.length = vs.length := Paired.length r
end
theorem kV_is {P : Program} {w : World} {k : Key} {u : Value} (r : RelV (kV k) u) : (mixKind P w).is k u = true := by
 cases k with
 | inl i => obtain ⟨t, e⟩ := (show ∃ t, u = Value.int i t from r); subst e; exact mixKind_int P w i t
 | inr x => obtain ⟨t, e⟩ := (show ∃ t, u = Value.str x t from r); subst e; exact mixKind_str P w x t
theorem items_are {P : Program} {w : World} : ∀ {ks : List Key} {us : List Value}, Vals (ks.map kV) us → ItemsAre (mixKind P w) ks us
 | [], _, r => by rw [List.map_nil] at r; cases r; exact .nil
 | k :: ks, _, r => by
  rw [List.map_cons] at r
  cases r with
  | cons h t => exact .cons (kV_is h) (items_are t)
abbrev KT (H : Hp) : List (List Key × V) → List (List Key × Addr × Value) → Prop := Paired fun p q => p.1 = q.1 ∧ H q.2.1 = some (.tup (p.1.map kV)) ∧ RelV p.2 q.2.2
theorem KT.val {H : Hp} {kvs : List (List Key × V)} {xs : List (List Key × Addr × Value)} (r : KT H kvs xs) (k : List Key) : RelO (valV kvs k) ((atKey xs k).map (·.2)) := by
 induction r with
 | nil => exact True.intro
 | @cons p q ps qs h t ih =>
  obtain ⟨h1, _, h2⟩ := h
  by_cases e : p.1 = k
  ·have e' : q.1 = k := h1.symm.trans e
   have b : atKey (q :: qs) k = some q.2 := by simp [atKey, List.find?_cons, e']
   rw [valV_pos e, b]; exact h2
  ·have e' : ¬ q.1 = k := fun z => e (h1.trans z)
   have b : atKey (q :: qs) k = atKey qs k := by simp [atKey, List.find?_cons, e']
   rw [valV_neg e, b]; exact ih
theorem KT.repl {H : Hp} {kvs : List (List Key × V)} {xs : List (List Key × Addr × Value)} (r : KT H kvs xs) (k : List Key) {y : V} {u : Value} (ry : RelV y u) :
  KT H (kvs.map fun kv => if kv.1 = k then (kv.1, y) else kv) (xs.map (putAt k u)) := by
 induction r with
 | nil => exact .nil
 | @cons p q ps qs h t ih =>
  rw [List.map_cons, List.map_cons]
  refine .cons ?_ ih
  obtain ⟨h1, h2, h3⟩ := h
  unfold putAt
  by_cases e : p.1 = k
  ·rw [if_pos e, if_pos (h1.symm.trans e)]; exact ⟨h1, h2, ry⟩
  ·rw [if_neg e, if_neg (fun z => e (h1.trans z))]; exact ⟨h1, h2, h3⟩
theorem KT.put {H : Hp} {kvs : List (List Key × V)} {xs : List (List Key × Addr × Value)} (r : KT H kvs xs) (k : List Key) {b : Addr} {y : V} {u : Value} (hb : H b = some (.tup (k.map kV))) (ry : RelV y u) :
  KT H (putK kvs k y) (storedH xs k b u) := by
 have e : (kvs.any fun kv => decide (kv.1 = k)) = (atKey xs k).isSome := by
  rw [valV_any, (r.val k).isSome_eq, Option.isSome_map]
 unfold putK storedH
 rw [e]
 by_cases q : (atKey xs k).isSome = true
 ·rw [if_pos q, if_pos q]; exact r.repl k ry
 ·rw [if_neg q, if_neg q]; exact Paired.snoc r ⟨rfl, hb, ry⟩
theorem KT.keeps {H H' : Hp} {kvs : List (List Key × V)} {xs : List (List Key × Addr × Value)} (r : KT H kvs xs) (ht : ∀ b ys, H b = some (.tup ys) → H' b = some (.tup ys)) : KT H' kvs xs :=
 Paired.mapP r fun _ _ z => ⟨z.1, ht _ _ z.2.1, z.2.2⟩
section
variable {P : Program} {w : World} {H : Hp} {h : Heap} {a : Addr}
theorem rd_of {u : HO} (ok : HOk P w H h) (e : Rd H a u) : ObjOk P w H h a u := e.ok ok
theorem dk_rd {kvs : List (Key × V)} (ok : HOk P w H h) (e : Rd H a (.dK kvs)) : kvs.length ≤ sizeLine ∧ (a == sysModules) = false ∧ ∃ vs, KV kvs vs ∧ h.DictOf (mixKind P w) a vs :=
 show ObjOk P w H h a (.dK kvs) from rd_of ok e
theorem dk_of {kvs : List (Key × V)} (ok : HOk P w H h) (e : H a = some (.dK kvs)) : kvs.length ≤ sizeLine ∧ (a == sysModules) = false ∧ ∃ vs, KV kvs vs ∧ h.DictOf (mixKind P w) a vs := dk_rd ok (.inl e)
theorem key_of {ks : List Key} (ok : HOk P w H h) (e : H a = some (.tup (ks.map kV))) : (tupleKind (mixKind P w)).is h ks a := by
 obtain ⟨_, its, r, o, h1, h2, n, h3⟩ := (show ObjOk P w H h a (.tup (ks.map kV)) from ok a _ e)
 exact ⟨o, its.toArray, n, h1, h2, h3, by simpa using items_are r⟩
theorem dt_rd {kvs : List (List Key × V)} (ok : HOk P w H h) (e : Rd H a (.dT kvs)) : kvs.length ≤ sizeLine ∧ (a == sysModules) = false ∧
  ∃ xs, KT H kvs xs ∧ h.DictOfH (tupleKind (mixKind P w)) a xs := by
 obtain ⟨z, y, xs, r, o, es, ep, h1, h2, h3, h4, h5⟩ := (show ObjOk P w H h a (.dT kvs) from rd_of ok e)
 refine ⟨z, y, xs, r, o, es, ep, h1, h2, h3, h4, fun x hx => ?_, h5⟩
 have all : ∀ {l : List (List Key × V)} {m : List (List Key × Addr × Value)}, KT H l m → ∀ x ∈ m, (tupleKind (mixKind P w)).is h x.1 x.2.1 := by
  intro l m q
  induction q with
  | nil => intro x hx; exact nomatch hx
  | @cons p q ps qs hq t ih =>
   intro x hx
   rcases List.mem_cons.mp hx with e | hx
   ·subst e
    exact key_of ok (by rw [← hq.1]; exact hq.2.1)
   ·exact ih x hx
 exact all r x hx
theorem dt_of {kvs : List (List Key × V)} (ok : HOk P w H h) (e : H a = some (.dT kvs)) : kvs.length ≤ sizeLine ∧ (a == sysModules) = false ∧
  ∃ xs, KT H kvs xs ∧ h.DictOfH (tupleKind (mixKind P w)) a xs := dt_rd ok (.inl e)
end
def DGet (H : Hp) (a : Addr) (y : V) (r : Option V) : Prop :=
 (∃ kvs k, Rd H a (.dK kvs) ∧ y = kV k ∧ r = valV kvs k) ∨ ∃ kvs k b, Rd H a (.dT kvs) ∧ y = .ref b ∧ H b = some (.tup (k.map kV)) ∧ r = valV kvs k
def DPut (H : Hp) (a : Addr) (y v : V) (H' : Hp) : Prop :=
 (∃ kvs k, H a = some (.dK kvs) ∧ y = kV k ∧ kvs.length < sizeLine ∧ H' = upd H a (.dK (putK kvs k v))) ∨
 ∃ kvs k b, H a = some (.dT kvs) ∧ y = .ref b ∧ H b = some (.tup (k.map kV)) ∧ kvs.length < sizeLine ∧ H' = upd H a (.dT (putK kvs k v))
theorem DGet.k {H : Hp} {a : Addr} {kvs : List (Key × V)} {k : Key} (e : H a = some (.dK kvs)) : DGet H a (kV k) (valV kvs k) := .inl ⟨kvs, k, .inl e, rfl, rfl⟩
theorem DGet.t {H : Hp} {a b : Addr} {kvs : List (List Key × V)} {k : List Key} (e : H a = some (.dT kvs)) (eb : H b = some (.tup (k.map kV))) : DGet H a (.ref b) (valV kvs k) := .inr ⟨kvs, k, b, .inl e, rfl, eb, rfl⟩
theorem DPut.k {H : Hp} {a : Addr} {kvs : List (Key × V)} {k : Key} {v : V} (e : H a = some (.dK kvs)) (hl : kvs.length < sizeLine) : DPut H a (kV k) v (upd H a (.dK (putK kvs k v))) := .inl ⟨kvs, k, e, rfl, hl, rfl⟩
theorem DPut.t {H : Hp} {a b : Addr} {kvs : List (List Key × V)} {k : List Key} {v : V} (e : H a = some (.dT kvs)) (eb : H b = some (.tup (k.map kV))) (hl : kvs.length < sizeLine) :
  DPut H a (.ref b) v (upd H a (.dT (putK kvs k v))) := .inr ⟨kvs, k, b, e, rfl, eb, hl, rfl⟩
section
variable {X : Cx} {pins : List (Addr × Obj)} {σ : St} {H : Hp} {s : Shared} {a : Addr} {y v : V} {u r : Value} {o : Option V} {A : Around} {E : Value → Shared → Prop}
theorem Inv.big (I : Inv X pins σ H s) : sysModules < s.heap.objs.size := by
 have h : mainGlobals < s.heap.objs.size := (I.mod.glob.keeps I.bk).lt
 exact Nat.lt_trans (by decide) h
theorem d_getItem {Q : Value → Shared → Prop} (hu : A.units + 1 < cLine) (I : Inv X pins σ H s) (g : DGet H a y (some v)) (ry : RelV y u) (h : ∀ w' s', Inv X pins σ H s' → RelV v w' → Q w' s') :
  wpAny (model X.prog X.w) A (getItem (.ref a) u) Q E s := by
 rcases g with ⟨kvs, k, e, ey, l⟩ | ⟨kvs, k, b, e, ey, eb, l⟩
 ·subst ey
  obtain ⟨z, hd, vs, rel, dd⟩ := dk_rd I.hok e
  obtain ⟨w', hw, rw'⟩ := RelO.some_of (v := v) (o := valueAt vs k) (by rw [l]; exact rel.val k)
  exact wpAny_getItem_of (kV_is ry) dd.mapOf hw (h w' _ (I.tok _) rw')
 ·subst ey
  cases (show u = Value.ref b from ry)
  obtain ⟨z, hd, xs, rel, dd⟩ := dt_rd I.hok e
  obtain ⟨w', hw, rw'⟩ := RelO.some_of (v := v) (o := (atKey xs k).map (·.2)) (by rw [l]; exact rel.val k)
  obtain ⟨p, hp, hp2⟩ := Option.map_eq_some_iff.mp hw
  refine wpAny_getItem_heap (tupleKind_room_in1 hu) (key_of I.hok eb) dd hp ?_
  rw [hp2]
  exact h w' _ (I.tok _) rw'
theorem d_notIn {Q : Value → Shared → Prop} (hu : A.units + 1 < cLine) (I : Inv X pins σ H s) (g : DGet H a y o) (ry : RelV y u) (h : ∀ s', Inv X pins σ H s' → Q (.bool (!o.isSome)) s') :
  wpAny (model X.prog X.w) A (compareOp .NotIn u (.ref a)) Q E s := by
 rcases g with ⟨kvs, k, e, ey, l⟩ | ⟨kvs, k, b, e, ey, eb, l⟩
 ·subst ey
  obtain ⟨z, hd, vs, rel, dd⟩ := dk_rd I.hok e
  refine wpAny_notIn_of (kV_is ry) hd dd.mapOf ?_
  rw [← (rel.val k).isSome_eq, ← l]
  exact h _ (I.tok _)
 ·subst ey
  cases (show u = Value.ref b from ry)
  obtain ⟨z, hd, xs, rel, dd⟩ := dt_rd I.hok e
  refine wpAny_notIn_heap (tupleKind_room_in1 hu) (key_of I.hok eb) hd dd ?_
  have q := (rel.val k).isSome_eq
  rw [Option.isSome_map] at q
  rw [← q, ← l]
  exact h _ (I.tok _)
theorem d_write {h' : Heap} {t' : Nat} {ob : HO} (I : Inv X pins σ H s) (mu : Mut (H a)) (hs : Heap.SameBut a s.heap h') (he : ∃ q, h'.get? a = some q) (new : ObjOk X.prog X.w (upd H a ob) h' a ob) :
  Inv X pins σ (upd H a ob) { s with heap := h', toks := t' } :=
 I.write (x := a) (e := a) mu (.inl rfl) (fun b q hb z => (hs.2 b hb).trans z) he new
theorem dk_new {P : Program} {w : World} {H' : Hp} {h' : Heap} {kvs : List (Key × V)} {vs : List (Key × Value)} (z : kvs.length ≤ sizeLine) (hd : (a == sysModules) = false) (rel : KV kvs vs) (dd : h'.DictOf (mixKind P w) a vs) :
  ObjOk P w H' h' a (.dK kvs) := ⟨z, hd, vs, rel, dd⟩
theorem d_setItem {H' : Hp} {Q : Unit → Shared → Prop} (hu : A.units + 1 < cLine) (I : Inv X pins σ H s) (g : DPut H a y v H') (ry : RelV y u) (rv : RelV v r) (h : ∀ s', Inv X pins σ H' s' → Q () s') :
  wpAny (model X.prog X.w) A (setItem (.ref a) u r) Q E s := by
 rcases g with ⟨kvs, k, e, ey, l, eH⟩ | ⟨kvs, k, b, e, ey, eb, l, eH⟩
 ·subst ey eH
  obtain ⟨z, hd, vs, rel, dd⟩ := dk_of I.hok e
  have hz : vs.length ≤ sizeLine := by rw [← rel.length]; exact z
  have hl : (putK kvs k v).length ≤ sizeLine := by have := length_putK kvs k v; omega
  refine wpAny_setItem_pairs (hsz := hz) (kV_is ry) dd fun h' dd' hs => h _ ?_
  have he : ∃ q, h'.get? a = some q := let ⟨q, _, _, hq, _⟩ := dd'; ⟨q, hq⟩
  exact d_write I (by rw [e]; exact True.intro) hs he (dk_new hl hd (rel.put k rv) dd')
 ·subst ey eH
  cases (show u = Value.ref b from ry)
  obtain ⟨z, hd, xs, rel, dd⟩ := dt_of I.hok e
  have hz : xs.length ≤ sizeLine := by rw [← Paired.length rel]; exact z
  have hl : (putK kvs k v).length ≤ sizeLine := by have := length_putK kvs k v; omega
  refine wpAny_setItem_heap (hsz := hz) (tupleKind_room_in1 hu) (key_of I.hok eb) dd fun h' dd' hs => h _ ?_
  obtain ⟨q, es, ep, hq, h2, h3, h4, _, h5⟩ := dd'
  refine d_write I (by rw [e]; exact True.intro) hs ⟨q, hq⟩ ⟨hl, hd, _, (rel.put k eb rv).keeps fun c ys ec => ?_, q, es, ep, hq, h2, h3, h4, h5⟩
  rw [upd_ne (ne_of ec e (fun z => nomatch z))]
  exact ec
end
section
variable {X : Cx} {pins : List (Addr × Obj)} {σ : St} {H : Hp} {s : Shared} {a : Addr} {kvs : List (Key × V)} {k : Key} {u : Value} {A : Around} {E : Value → Shared → Prop}
end
def NoSl (i : Expr) : Prop := ∀ ov iv, subscripted i false ov iv = operate [ov, iv] (getItem ov iv)
theorem subD_of {prog : Program} {w : World} {A : Around} {E : Value → Shared → Prop} {s : Shared} {env : Env} {value slice : Expr} {pos : Pos} {T id : String} {Q : Value → Shared → Prop}
  (hl : typeLookup (.type T) "__getitem__" = pure (some (.builtin id))) (hs : NoSl slice)
  (h : wpAny (model prog w) A (eval value env) (fun o s₁ => wpAny (model prog w) A (eval slice env) (fun i s₂ => s₂.TypeIs o T ∧ wpAny (model prog w) A (getItem o i) Q E s₂) E s₁) E s) :
  wpAny (model prog w) A (eval (.Subscript value slice pos) env) Q E s := by
 refine Subscript_ (wpAny_mono h (fun o s₁ h₁ => wpAny_mono h₁ (fun i s₂ h₂ => ?_) fun _ _ x => x) fun _ _ x => x)
 obtain ⟨hT, h₂⟩ := h₂
 unfold subscriptTail
 refine wpAny_bind ?_
 rw [getitemInPython_of_ne hT.not_modules]
 refine wpAny_bind (wpAny_specialOf hT hl ?_)
 have fin : wpAny (model prog w) A (subscripted slice false o i) (fun r s₃ => wpAny (model prog w) A (letTemporaryGo value o r >>= fun _ => pure r) Q E s₃) E s₂ := by
  rw [hs o i]
  exact wpAny_operating (wpAny_mono h₂ (fun r s₃ h₃ => wpAny_bind (wpAny_letTemporaryGo (wpAny_pure h₃))) fun _ _ x => x)
 first
  | exact wpAny_pure (wpAny_bind fin)
  | exact wpAny_bind (wpAny_pure (wpAny_bind fin))
  | exact wpAny_bind fin
theorem dict_typeIs {X : Cx} {pins : List (Addr × Obj)} {σ : St} {H : Hp} {s : Shared} {a : Addr} {y : V} {o : Option V} (I : Inv X pins σ H s) (g : DGet H a y o) : s.TypeIs (.ref a) "dict" := by
 rcases g with ⟨kvs, k, e, _, _⟩ | ⟨kvs, k, b, e, _, _, _⟩
 ·obtain ⟨_, _, vs, _, dd⟩ := dk_rd I.hok e
  exact dd.typeIs
 ·obtain ⟨_, _, xs, _, dd⟩ := dt_rd I.hok e
  exact dd.typeIs
def tDGet (td ty : TE) : TE := fun σ H Q => td σ H fun x H1 => ty σ H1 fun y H2 => ∃ a v, x = .ref a ∧ DGet H2 a y (some v) ∧ Q v H2
def tDNotIn (ty td : TE) : TE := fun σ H Q => ty σ H fun y H1 => td σ H1 fun x H2 => ∃ a o, x = .ref a ∧ DGet H2 a y o ∧ Q (.bl (!o.isSome)) H2
def sDPut (td ty tv : TE) : TS := fun D σ H => tv σ H fun v H1 => td σ H1 fun x H2 => ty σ H2 fun y H3 => ∃ a H4, x = .ref a ∧ DPut H3 a y v H4 ∧ D.nx σ H4
section
variable {X : Cx} {o i e value : Expr} {pos pos' tpos : Pos} {td ty tv : TE}
theorem pe_dget (hu : X.A.units + 1 < cLine) (ho : PE X o td) (hi : PE X i ty) (hs : NoSl i) : PE X (.Subscript o i pos) (tDGet td ty) := by
 intro pins s σ H Q I h
 refine subD_of PySem.F.slot_dict_getitem.lookup hs (thn (ho pins s σ H _ I h) fun u s1 ⟨x, H1, I1, rx, q1⟩ => thn (hi pins s1 σ H1 _ I1 q1) fun iv s2 ⟨y, H2, I2, ry, a, v, ex, g, q2⟩ => ?_)
 subst ex
 obtain rfl : u = Value.ref a := rx
 exact ⟨dict_typeIs I2 g, d_getItem hu I2 g ry fun w' s3 I3 rw' => ⟨v, H2, I3, rw', q2⟩⟩
theorem pc_dnotin (hu : X.A.units + 1 < cLine) (hi : PE X i ty) (ho : PE X o td) : PC X .NotIn i o (tDNotIn ty td) := by
 intro pins s σ H Q I h
 refine thn (hi pins s σ H _ I h) fun iv s1 ⟨y, H1, I1, ry, q1⟩ => thn (ho pins s1 σ H1 _ I1 q1) fun u s2 ⟨x, H2, I2, rx, a, ov, ex, g, q2⟩ => ?_
 subst ex
 obtain rfl : u = Value.ref a := rx
 exact d_notIn hu I2 g ry fun s3 I3 => ⟨.bl (!ov.isSome), H2, I3, rfl, q2⟩
theorem ps_dput (hu : X.A.units + 1 < cLine) (ho : PE X o td) (hi : PE X i ty) (hv : PE X value tv) (hs : swapsWith value (some (.Subscript o i pos')) pos.line X.env = pure false) :
  PS X (.Assign [.Subscript o i pos'] value pos) (sDPut td ty tv) := by
 intro pins s σ H D I h
 refine wpAny_Assign_Subscript (thn (hv pins s σ H _ I h) fun r s1 ⟨v, H1, I1, rv, q1⟩ => thn (ho pins s1 σ H1 _ I1 q1) fun u s2 ⟨x, H2, I2, rx, q2⟩ => thn (hi pins s2 σ H2 _ I2 q2) fun iv s3 ⟨y, H3, I3, ry, a, H4, ex, g, q3⟩ => ?_) hs
 subst ex
 obtain rfl : u = Value.ref a := rx
 exact d_setItem hu I3 g ry rv fun s4 I4 => ⟨σ, H4, I4, q3⟩
end
theorem dk_empty {P : Program} {w : World} {H : Hp} (h : Heap) (hb : sysModules < h.objs.size) : ObjOk P w H (h.push { cls := .type "dict", data := .dict #[] }) h.objs.size (.dK []) :=
 ⟨Nat.zero_le _, beq_eq_false_iff_ne.mpr (Ne.symm (Nat.ne_of_lt hb)), [], .nil, Heap.DictOf.new h⟩
def tDNewK : TE := fun _ H Q => ∀ p, H p = none → Q (.ref p) (upd H p (.dK []))
section
variable {X : Cx} {pos : Pos}
theorem pe_dnewK : PE X (.Dict [] [] pos) tDNewK := fun pins s σ H Q I h =>
 wpAny_Dict_empty ⟨.ref s.heap.objs.size, _, I.laid (a := s.heap.objs.size) (o := .dK []) (t' := s.toks) (fun _ _ q => Heap.get?_push_of_some _ q) (Nat.le_refl _) (dk_empty s.heap I.big), rfl, h _ (I.hok.fresh (Nat.le_refl _))⟩
end
section
variable {X : Cx} {pins : List (Addr × Obj)} {σ : St} {H : Hp} {s : Shared} {a : Addr} {y d : V} {u r : Value} {o : Option V} {A : Around} {E : Value → Shared → Prop}
end
section
variable {X : Cx} {o e f : Expr} {apos cpos : Pos} {td ty tx : TE}
end
section
variable {X : Cx} {pins : List (Addr × Obj)} {σ : St} {H : Hp} {s : Shared} {a : Addr} {kvs : List (Key × V)} {A : Around} {E : Value → Shared → Prop}
end
section
variable {X : Cx} {pins : List (Addr × Obj)} {σ : St} {H : Hp} {s : Shared} {a : Addr} {y : V} {u : Value} {A : Around} {E : Value → Shared → Prop}
end
end L2
namespace Att
open PySem PySem.W PySem.Calls PyProof.Rows
theorem ints_of_wellAll {P : Params} {h : Heap} : ∀ (ns : List Int) (vs : List Value), WellAll P h vs (ns.map WData.int) → IntsAre vs ns := by
 intro ns
 induction ns with
 | nil =>
  intro vs w
  rw [List.map_nil] at w
  cases w
  exact .nil
 | cons n ns ih =>
  intro vs w
  rw [List.map_cons] at w
  cases w with
  | cons a b =>
   cases a
   exact .cons _ _ (ih _ b)
theorem script_of {l : OpenLaw} {n : Nat} (hn : l.most = some n) {P : Params} {h : Heap} {args : List WData} {vals : List Value}
  (hpre : l.row.toRowW.claim.pre args = true) (hwl : WellAll P h vals args) :
  ∃ a vs ns, vals = [Value.ref a] ∧ args = [WData.list (ns.map WData.int)] ∧ h.get? a = some { cls := .type "list", data := .seq vs.toArray } ∧ IntsAre vs ns ∧ ns.length ≤ n := by
 have hsh : WShape.hasAll [] args [.list .int] = true := (pre_splitW hpre).1
 have hc : l.pre.holds [] { args := args } = true := (pre_splitW hpre).2
 obtain ⟨d, r, rfl, h1, h2⟩ := hasAllW_cons hsh
 obtain rfl := hasAllW_nil h2
 obtain ⟨xs, rfl, h3⟩ := hasW_list h1
 obtain ⟨ns, rfl⟩ := items_int h3
 have hlen : ns.length ≤ n := by
  unfold OpenLaw.pre at hc
  have h4 : (WTm.not (.lt (.lit (.int (n : Int))) (.len (.arg 0)))).holds [] { args := [.list (ns.map .int)] } = true := by
   have h4 := (holds_andW hc).1
   rw [hn] at h4
   exact h4
  have h5 := condW_of h4 (w_not (w_lt w_lit (w_len_list (w_arg rfl))))
  rw [List.length_map] at h5
  refine Nat.le_of_not_lt fun q => ?_
  have q' : (n : Int) < ((ns.length : Nat) : Int) := by omega
  first
   | (rw [decide_eq_true q'] at h5; exact absurd h5 (by decide))
   | (simp at h5; omega)
 cases hwl with
 | cons w1 w2 =>
  cases w2
  cases w1 with
  | list ho hall => exact ⟨_, _, ns, rfl, rfl, ho, ints_of_wellAll ns _ hall, hlen⟩
theorem post_true (l : OpenLaw) (args : List WData) : l.row.toRowW.claim.post args (.bool true) args = true :=
 postW_of (r := l.row.toRowW) (X := (true == true))
  (show WShape.has [] (.bool true) .bool = true by first | rfl | decide | simp [WShape.has, WShape.arms, WShape.armsAll])
  (show (WTm.eq .res (.lit (.bool true))).value [] { args := args, res := some (.bool true), after := args } = some (.bool (true == true)) from w_eq_bool (w_res rfl) w_lit) rfl
theorem attach_call {l : OpenLaw} {n : Nat} {q : Program} {loose : List Str} {XP : (Str → Option Value) → Heap → Prop} {YP : World → Heap → Prop} {d : DefRec}
  (hn : l.most = some n) (hdf : d.params.defaults = [])
  (call : ∀ (w : World) (s₀ s₁ : Shared) (mg mb : Str → Option Value) (fa : Addr) (o : Obj) (pm cd doc : Value) (a : Addr) (vs : List Value) (ns : List Int),
   Ground q loose [] XP w s₀ mg mb s₁.heap → YP w s₁.heap →
   s₁.heap.get? fa = some o → o.data = .func (docDef d.name d.params d.body d.scope pm cd doc) → s₁.heap.CodeRec cd d.name → mg d.name = some (.ref fa) →
   s₁.heap.get? a = some { cls := .type "list", data := .seq vs.toArray } → IntsAre vs ns → ns.length ≤ n → s₁.gens = #[] →
   codeAny (model l.prog w) callerA (.call (.ref fa) ⟨[.ref a], []⟩) (fun r s' => r = .ok (.ret (.bool true)) ∧ OldK s₁.heap s'.heap ∧ s'.os = s₁.os ∧ AllBare s'.gens) s₁) :
  WalkO q loose XP YP l.row.toRowW d [] (fun f vs => PySem.call f vs) := by
 intro w s₀ s₁ mg mb G Y fa o pm cd doc dV kV ho hd hcd hD hmg hg args vals as hpre hlay hrd hwl hlo
 obtain rfl : dV = .none := Dflts.none hD hdf
 obtain rfl : kV = .none := Dflts.noKw hD
 obtain ⟨a, vs, ns, rfl, rfl, hobj, hints, hlen⟩ := script_of hn hpre hwl
 refine enter_call (codeAny_mono (call w s₀ s₁ mg mb fa o pm cd doc a vs ns G Y ho (fd_plain hd) hcd hmg hobj hints hlen hg) fun r s' hq => ?_)
 obtain ⟨rfl, h2, h3, h4⟩ := hq
 exact ⟨.inl ⟨.bool true, .bool true, [], rfl, fun _ => rfl, .bool true, post_true l _, fun _ => ⟨List.Pairwise.nil, fun _ hm => (nomatch hm)⟩⟩, h2, h3, h4⟩
section
variable {prog : Program} {w : World} {A : Around} {E : Value → Shared → Prop} {s : Shared} {K : Frag}
end
end Att
namespace L2
open PySem PySem.Spec PyProof.Rows
theorem vals_ints : ∀ {vs : List Value} {ns : List Int}, IntsAre vs ns → Vals (ns.map V.int) vs
 | _, _, .nil => .nil
 | _, _, .cons n t h => .cons ⟨t, rfl⟩ (vals_ints h)
def Only (H : Hp) : Prop := ∀ b, H b = none ∨ ∃ o xs, H b = some (.frz o (.lst xs))
theorem law_call {P : Program} {w : World} {K : PySem.W.Frag} {mg mb : Str → Option Value} {CX : CXT} {k : Nat} {fa a : Addr} {fd : FuncData} {x : Str} {sp : Sp} {s₁ : Shared} {vs : List Value} {ns : List Int}
  (KX : K.In s₁.heap) (hns : s₁.heap.Ns mainGlobals mg) (hb : s₁.heap.Ns builtinsNs mb) (hbb : ∀ x : Str, x ≠ "__name__" → mb x = bootBuiltins x) (hlim : s₁.heap.NoLimit) (hg : s₁.gens = #[])
  (ha : s₁.heap.get? a = some { cls := .type "list", data := .seq vs.toArray }) (hi : IntsAre vs ns) (hl : ns.length ≤ sizeLine) (hr : Room k callerA)
  (F : ∀ base : Heap, K.In base → base.Ns mainGlobals mg → FnOk P w K mg base CX k fa fd [x] sp) (hbind : ∀ (s : Shared) (u : Value), BindsTo s fd ⟨[u], []⟩ [(x, u)])
  (hsp : ∀ H : Hp, Only H → SqL K H a (ns.map V.int) → sp [.ref a] H (fun v _ => v = .bl true) fun _ _ _ => False)
  (hCX : ∀ H e s', CX [] H s₁ (fun _ _ _ => False) e s' → False) :
  codeAny (model P w) callerA (.call (.ref fa) ⟨[.ref a], []⟩) (fun r s' => r = .ok (.ret (.bool true)) ∧ OldK s₁.heap s'.heap ∧ s'.os = s₁.os ∧ AllBare s'.gens) s₁ := by
 have rv := vals_ints hi
 have lenV := hi.length
 have core : ∀ H : Hp, Only H → SqL K H a (ns.map V.int) → HOk P w H s₁.heap → (∀ b, H b ≠ none → b = a) → (H a ≠ none → K.lookup a = none) →
   codeAny (model P w) callerA (.call (.ref fa) ⟨[.ref a], []⟩) (fun r s' => r = .ok (.ret (.bool true)) ∧ OldK s₁.heap s'.heap ∧ s'.os = s₁.os ∧ AllBare s'.gens) s₁ := by
  intro H hO hS hok hA hK
  have base_of : ∀ {b : Addr} {o : Obj}, s₁.heap.get? b = some o → H b = none → (hidT s₁.heap H).get? b = some o := fun e n => hidT_get e n
  have noA : ∀ {b : Addr} {o : Obj} {es : Array DictEntry} {ep : Nat}, s₁.heap.get? b = some o → o.data = .dict es ep → H b = none := fun {b o es ep} e d => by
   cases q : H b with
   | none => rfl
   | some u =>
    have e' : b = a := hA b (by rw [q]; simp)
    subst e'
    rw [ha] at e; cases e
    have d' : Data.seq vs.toArray _ = Data.dict es ep := d
    cases d'
  have nsK : ∀ {b : Addr} {m : Str → Option Value}, s₁.heap.Ns b m → (hidT s₁.heap H).Ns b m := fun {b m} ⟨o, es, ep, e, d, r⟩ => ⟨o, es, ep, base_of e (noA e d), d, r⟩
  have hKb : K.In (hidT s₁.heap H) := fun b o e => base_of (KX b o e) (by
   cases q : H b with
   | none => rfl
   | some u =>
    have e' : b = a := hA b (by rw [q]; simp)
    subst e'
    rw [hK (by rw [q]; simp)] at e; cases e)
  have hM : Mod K mg (hidT s₁.heap H) := ⟨hKb, nsK hns, ⟨mb, nsK hb, hbb⟩, let ⟨mc, h1, h2⟩ := hlim; ⟨mc, nsK h1, h2⟩⟩
  have e0 : Env0 P w K mg (hidT s₁.heap H) callerA [] s₁ H := ⟨rfl, hM, fun b o e => of_hidT e, Nat.le_of_eq (hidT_size _ _), trivial, fun b hb => absurd (show b ∈ ([] : List Addr) from hb) (by simp), hok, .of_eq hg⟩
  refine codeAny_mono ((F _ hKb (nsK hns)).run callerA [] s₁ H ⟨[.ref a], []⟩ [.ref a] [.ref a] _ _ hr e0 (hbind s₁ (.ref a)) (.cons rfl .nil) (hsp H hO hS)) fun r s' h => ?_
  cases r with
  | error e => exact (hCX H e s' h).elim
  | ok fl =>
   cases fl with
   | next => exact False.elim h
   | brk => exact False.elim h
   | cont => exact False.elim h
   | ret u =>
    obtain ⟨v, H', os, bare, un, hok', r', q⟩ := h
    have q' : v = .bl true := q
    subst q'
    obtain rfl : u = Value.bool true := r'
    refine ⟨rfl, OldK.of_keep fun b o e => ?_, os, bare⟩
    cases q : H b with
    | none => exact un.keep b o e q (by intro z; exact absurd (show b ∈ ([] : List Addr) from z) (by simp)) (by simp)
    | some u =>
     rcases hO b with z | ⟨ob, xs, z⟩
     ·rw [q] at z; cases z
     ·have z2 := un.frzs b ob _ z
      obtain ⟨e1, _⟩ := hok b _ z
      obtain ⟨e2, _⟩ := hok' b _ z2
      rw [e] at e1; cases e1
      exact e2
 cases hk : K.lookup a with
 | some o =>
  have e := KX a o hk
  rw [ha] at e
  cases e
  refine core (fun _ => none) (fun _ => .inl rfl) (.inr ⟨_, vs.toArray, _, hk, rfl, rfl, rfl, by rw [List.size_toArray, lenV]; exact hl, by simpa using rv⟩) (fun b u z => by have z' : (none : Option HO) = some u := z; cases z') (fun b z => absurd rfl z) fun z => absurd rfl z
 | none =>
  refine core (fun b => if b = a then some (.frz { cls := .type "list", data := .seq vs.toArray } (.lst (ns.map V.int))) else none) (fun b => ?_) (.inl (.inr ⟨{ cls := .type "list", data := .seq vs.toArray }, if_pos rfl⟩)) (fun b u z => ?_) (fun b z => ?_) fun _ => hk
  ·by_cases hb : b = a
   ·exact .inr ⟨_, _, if_pos hb⟩
   ·exact .inl (if_neg hb)
  ·by_cases hb : b = a
   ·have z' := (if_pos hb).symm.trans z
    cases z'
    subst hb
    exact ⟨ha, by rw [List.length_map]; exact hl, vs, _, rv, ha⟩
   ·have z' := (if_neg hb).symm.trans z
    cases z'
  ·by_cases hb : b = a
   ·exact hb
   ·exact absurd (if_neg hb) z
theorem walk_of {l : PySem.W.OpenLaw} {n k : Nat} {q : Program} {loose : List Str} {XP : (Str → Option Value) → Heap → Prop} {YP : World → Heap → Prop} {d : DefRec} {K : Params → PySem.W.Frag} {CX : World → CXT} {sp : World → Sp} {x : Str}
  (hn : l.most = some n) (hn2 : n ≤ sizeLine) (hdf : d.params.defaults = []) (hr : Room k callerA)
  (hY : ∀ (w : World) (h : Heap), YP w h → (K w.params).In h)
  (F : ∀ (w : World) (mg : Str → Option Value) (fa : Addr) (h : Heap), (K w.params).In h → h.Ns mainGlobals mg → mg d.name = some (.ref fa) →
   ∃ fd : FuncData, (∀ (s : Shared) (u : Value), BindsTo s fd ⟨[u], []⟩ [(x, u)]) ∧
    ∀ base : Heap, (K w.params).In base → base.Ns mainGlobals mg → FnOk l.prog w (K w.params) mg base (CX w) k fa fd [x] (sp w))
  (hsp : ∀ (w : World) (H : Hp) (a : Addr) (ns : List Int), ns.length ≤ n → Only H → SqL (K w.params) H a (ns.map V.int) → sp w [.ref a] H (fun v _ => v = .bl true) fun _ _ _ => False)
  (hCX : ∀ (w : World) (H : Hp) (s : Shared) (e : Value) (s' : Shared), CX w [] H s (fun _ _ _ => False) e s' → False) :
  PySem.W.WalkO q loose XP YP l.row.toRowW d [] (fun f vs => PySem.call f vs) := by
 refine Att.attach_call hn hdf fun w s₀ s₁ mg mb fa o pm cd doc a vs ns G Y ho hd hcd hmg hobj hints hlen hg => ?_
 have KX := hY w _ Y
 obtain ⟨fd, hb, hF⟩ := F w mg fa _ KX G.T.g hmg
 exact law_call KX G.T.g G.T.b G.T.builtins G.T.nolimit hg hobj hints (Nat.le_trans hlen hn2) hr hF hb (fun H hO hS => hsp w H a ns hlen hO hS) fun H e s' => hCX w H s₁ e s'
def defArgs (s : Stmt) : Arguments := match s with
 | .FunctionDef _ a _ _ _ _ _ _ _ _ => a
 | _ => { posonlyargs := [], args := [], vararg := none, kwonlyargs := [], kw_defaults := [], kwarg := none, defaults := [] }
def defBody (s : Stmt) : List Stmt := match s with
 | .FunctionDef _ _ b _ _ _ _ _ _ _ => b
 | _ => []
def defScope (s : Stmt) : Scope := match s with
 | .FunctionDef _ _ _ _ _ _ sc _ _ _ => sc
 | _ => { kind := .function, names := [], isGenerator := false, isCoroutine := false }
abbrev CX0 : CXT := fun _ _ _ _ _ _ => False
abbrev E0 : XK := fun _ _ _ => False
structure Fun (K : PySem.W.Frag) (x qual : Str) (st : Stmt) (f : Addr) (fd : FuncData) : Prop where
 ex : ∃ (oc : Value) (od : Option Addr) (kV doc pm : Value) (an : Option Addr) (cdv ct : Value) (osl : Array (Option Value)),
  fd = PySem.W.fnOf x qual (defArgs st) (defBody st) (defScope st) .none kV doc pm an cdv ct ∧ K.lookup f = some ⟨oc, od, .func fd, osl⟩ ∧ PySem.W.codeIn K cdv qual = true
 kp : PySem.W.keepIn K (.ref f) = true
section
variable {P : Program} {w : World} {K : PySem.W.Frag} {mg : Str → Option Value} {base : Heap}
theorem Fun.binds {x qual : Str} {st : Stmt} {f : Addr} {fd : FuncData} {ps : List Str} (F : Fun K x qual st f fd)
  (h : ∀ (kV doc pm : Value) (an : Option Addr) (cdv ct : Value) (us : List Value), us.length = ps.length → bindArgs (PySem.W.fnOf x qual (defArgs st) (defBody st) (defScope st) .none kV doc pm an cdv ct) ⟨us, []⟩ = pure (ps.zip us)) : Binds K fd ps [] := by
 obtain ⟨oc, od, kV, doc, pm, an, cdv, ct, osl, rfl, lk, hcd⟩ := F.ex
 exact .all (h kV doc pm an cdv ct)
theorem fun_mk {x qual : Str} {st : Stmt} {f : Addr} {oc : Value} {od an : Option Addr} {osl : Array (Option Value)} {kV doc pm cdv ct : Value} (l : K.lookup f = some ⟨oc, od, .func (PySem.W.fnOf x qual (defArgs st) (defBody st) (defScope st) .none kV doc pm an cdv ct), osl⟩)
  (c : PySem.W.codeIn K cdv qual = true) (k : PySem.W.keepIn K (.ref f) = true) : Fun K x qual st f (PySem.W.fnOf x qual (defArgs st) (defBody st) (defScope st) .none kV doc pm an cdv ct) := ⟨⟨oc, od, kV, doc, pm, an, cdv, ct, osl, rfl, l, c⟩, k⟩
end
section
variable {X : Cx}
theorem pv (i : Nat) {x : Str} {pos : Pos} (hN : X.N[i]? = some x := by rfl) (hv : Vis X.env.scope x := by first | exact Or.inl rfl | exact Or.inr (Or.inl rfl) | exact Or.inr (Or.inr rfl)) (hd : (x == ("__debug__" : Str)) = false := by decide)
  (hcd : (x == ("__classdict__" : Str)) = false := by decide) : PE X (.Name x pos) (tVar i) := pe_var hN hv hd hcd
end
def Same (H H' : Hp) : Prop := ∀ b o, H b = some o → H' b = some o
theorem Same.refl (H : Hp) : Same H H := fun _ _ h => h
theorem Same.trans {H H1 H2 : Hp} (a : Same H H1) (b : Same H1 H2) : Same H H2 := fun c o h => b c o (a c o h)
theorem Same.free {H H' : Hp} (e : Same H H') {l : Addr} (h : H' l = Option.none) : H l = Option.none := by
 cases q : H l with
 | none => rfl
 | some o =>
  rw [e l o q] at h
  cases h
theorem Same.seq {K : PySem.W.Frag} {H H' : Hp} {a : Addr} {xs : List V} (e : Same H H') (h : SqL K H a xs) : SqL K H' a xs := by
 rcases h with (h | ⟨o, h⟩) | h
 ·exact .inl (.inl (e _ _ h))
 ·exact .inl (.inr ⟨o, e _ _ h⟩)
 ·exact .inr h
section
variable {X : Cx}
end
section
variable {κ : Type} [DecidableEq κ]
end
end L2

set_option maxHeartbeats 4000000
namespace PySem.W
open PySem PySem.Spec PySem.Calls PyProof.Rows Builtin Builtin.ObjectAttr Builtin.Getset_descriptor
section
variable {prog : Program} {w : World} {A : Around} {E : Value → Shared → Prop} {K : Frag} {h : Heap} {g : Array GenState} {d : Drawn} {t : Nat} {os : OsState} {a C : Addr}
structure ExcK (K : Frag) (C : Addr) : Prop where
 ga : findIn K (.ref C) "__getattribute__" = some (some (.builtin "BaseException.__getattribute__"))
 gt : findIn K (.ref C) "__getattr__" = some none
 cl : findIn K (.ref C) "__class__" = some (some (.builtin "object.__class__"))
 mo : mroIn K C (.type "object") = some true
 mb : mroIn K C (.type "BaseException") = some true
 ic : (clsIn K C).isSome = true
def ExcAt (a : Addr) (cls : Value) (h : Heap) : Prop := ∃ o, h.get? a = some o ∧ o.cls = cls ∧ ∃ vs, o.data = .fields vs
theorem ExcAt.ty {cls : Value} (p : ExcAt a cls h) (M : Model) : Looks M h (typeOf (.ref a)) cls := by
 obtain ⟨o, h1, h2, _⟩ := p
 exact h2 ▸ (Looks.ld h1).andThen .now
theorem xc_get {tp : Value} {R : Result → Shared → Prop} (X : K.In h) (T : ExcK K C) (p : ExcAt a (.ref C) h) (hq : R (.ok (.ret (.ref C))) ⟨h, g, d, t, os⟩) :
  codeAny (model prog w) A (.call (.builtin "getset_descriptor.__get__") ⟨[.builtin "object.__class__", .ref a, tp], []⟩) R ⟨h, g, d, t, os⟩ := by
 have La := p.ty (model prog w)
 have Lb := looks_mroIn (M := model prog w) X T.mo
 refine codeAny_call_builtin KF.slot_gs.plain KF.entry_gs (KF.slot_gs.check _ _ _ _ _ _ _ _ KF.type_class (KF.args_gs _ _ _) ?_)
 unfold Builtin.«getset_descriptor.__get__» descrGet
 rw [dga_obj]
 refine wpAny_bind (wpAny_pure ?_)
 unfold descrGetter descrCheckInstance descrNameAndClass isInstance
 simp only [KF.owner_class]
 repeat lk
 refine ⟨Code.quiet_builtin _ (by decide +kernel), codeAny_builtin KF.entry_class ?_⟩
 unfold Builtin.«object.__class__» shownTypeOf
 repeat lk
 exact hq
theorem xc_entry {tk : Tok} {Q : Fin → Shared → Prop} (X : K.In h) (T : ExcK K C) (p : ExcAt a (.ref C) h) (hq : Q (.done (.ret (.ref C))) ⟨h, g, d, t, os⟩) :
  wpAny (model prog w) A (Builtin.«object.__getattribute__» ⟨[.ref a, .str "__class__" tk], []⟩) Q E ⟨h, g, d, t, os⟩ := by
 have La := p.ty (model prog w)
 have Lc := looks_findIn (M := model prog w) X T.cl
 have hT5 : (⟨h, g, d, t, os⟩ : Shared).TypeIs (.builtin "object.__class__") "getset_descriptor" := F.typeOf_object_class
 have e5 := F.typeOf_object_class
 have e6 := F.slot_gs_get.lookup
 have e7 := F.slot_gs_set.lookup
 repeat (any_goals (first | assumption | with_reducible refine Looks.at (by assumption) ?_ | wp_step))
 refine xc_get X T p ?_
 repeat (any_goals (first | assumption | wp_step))
theorem xc_check {M : Model} {nameV : Value} {Q : Unit → Shared → Prop} (X : K.In h) (T : ExcK K C) (p : ExcAt a (.ref C) h) (hq : Q () ⟨h, g, d, t, os⟩) :
  wpAny M A (checkBuiltinCall "BaseException.__getattribute__" ⟨[.ref a, nameV], []⟩) Q E ⟨h, g, d, t, os⟩ := by
 have hk : builtinKind "BaseException.__getattribute__" = some .slot := by decide +kernel
 have hsp : splitId "BaseException.__getattribute__" = some ("BaseException", "__getattribute__") := by decide +kernel
 have La := p.ty M
 have Lb := looks_mroIn (M := M) X T.mb
 have ha := F.args_bexc_ga (.ref a) nameV
 simp only [checkBuiltinCall, hk, hsp]
 refine wpAny_bind ?_
 unfold isInstance
 repeat (any_goals (first | assumption | with_reducible refine Looks.at (by assumption) ?_ | wp_step))
theorem xc_call {tk : Tok} {R : Result → Shared → Prop} (X : K.In h) (T : ExcK K C) (p : ExcAt a (.ref C) h) (hq : R (.ok (.ret (.ref C))) ⟨h, g, d, t, os⟩) :
  codeAny (model prog w) A (.call (.builtin "BaseException.__getattribute__") ⟨[.ref a, .str "__class__" tk], []⟩) R ⟨h, g, d, t, os⟩ :=
 codeAny_call_builtin F.attr_ValueError.ga.plain F.entry_bexc_ga (xc_check X T p (xc_entry X T p hq))
theorem xc_by {tk : Tok} {Q : Value → Shared → Prop} (X : K.In h) (T : ExcK K C) (p : ExcAt a (.ref C) h) (hq : Q (.ref C) ⟨h, g, d, t, os⟩) : wpAny (model prog w) A (getAttrBy (.ref a) (.str "__class__" tk) false) Q E ⟨h, g, d, t, os⟩ := by
 have La := p.ty (model prog w)
 have Lg := looks_findIn (M := model prog w) X T.ga
 have Lt := looks_findIn (M := model prog w) X T.gt
 have f3 := F.attr_ValueError.ga.bind (.ref a)
 have hx0 : (false && onTheHeap (Value.builtin "BaseException.__getattribute__")) = false := rfl
 have hx2 : (Value.builtin "BaseException.__getattribute__" == Value.builtin "object.__getattribute__") = false := by decide +kernel
 have hx1 : (onTheHeap (Value.ref C) && Value.builtin "BaseException.__getattribute__" == Value.builtin "object.__getattribute__") = false := by rw [hx2]; rfl
 repeat (any_goals (first | assumption | with_reducible refine Looks.at (by assumption) ?_ | wp_step))
 refine xc_call X T p ?_
 repeat (any_goals (first | assumption | wp_step))
theorem xc_attr {Q : Option Value → Shared → Prop} (X : K.In h) (T : ExcK K C) (p : ExcAt a (.ref C) h) (hq : Q (some (.ref C)) ⟨h, g, d, t + 1, os⟩) : wpAny (model prog w) A (getAttr? (.ref a) "__class__") Q E ⟨h, g, d, t, os⟩ := by
 unfold getAttr? getAttrBy?
 repeat (any_goals (first | assumption | with_reducible apply xc_by X T p | wp_step))
theorem kitx_exc (T : ExcK K C) : KitX K (.ref a) (.ref C) (ExcAt a (.ref C)) where
 ty := fun M _ _ p => p.ty M
 it := fun _ _ X _ => by
  have hs := T.ic
  unfold clsIn at hs
  split at hs
  ·rename_i ho
   intro A' Q' E' s' k q
   unfold isType loadHead
   exact wpAny_bind (wpAny_loadPart (k _ _ (X _ _ ho)) (wpAny_pure q))
  ·cases hs
 ne := fun h tp dd its n sl X htp => by
  refine Bool.eq_false_iff.mpr fun q => ?_
  have e : C = tp := Value.ref.inj (beq_iff_eq.mp q)
  have hs := T.ic
  unfold clsIn at hs
  split at hs
  ·rename_i ho
   have z := X _ _ ho
   rw [e, htp] at z
   cases z
  ·cases hs
 ca := fun {_ _ _ _ _ s} X p k => by
  obtain ⟨hh, gg, dd, tt, oo⟩ := s
  exact xc_attr X T p k
end
end PySem.W

namespace L2
open PySem PySem.Spec PyProof.Rows
structure Flown (P : Program) (w : World) (outer : List Env) (H : Hp) (s : Shared) (ea : Addr) (cls : Value) (H' : Hp) (B : Heap) (a0 : Value) (s' : Shared) : Prop where
 os : s'.os = s.os
 bare : AllBare s'.gens
 un : Un (frs outer) [] H H' s.heap s'.heap
 hok : HOk P w H' s'.heap
 fly : Heap.FlyingW B outer ea cls a0 s'.heap
 inB : ∀ b o, s'.heap.get? b = some o → (H' b ≠ none ∨ ((∃ u, s.heap.get? b = some u) ∧ b ∉ frs outer)) → B.get? b = some o
 new : s.heap.get? ea = none
 nt : H' ea = none
def CXr (P : Program) (w : World) : CXT := fun outer H s E e s' =>
 ∃ (ea : Addr) (cls : Value) (H' : Hp) (B : Heap) (a0 : Value), e = .ref ea ∧ Flown P w outer H s ea cls H' B a0 s' ∧ E cls none H'
theorem hok_keep {P : Program} {w : World} {H : Hp} {h h' : Heap} (ok : HOk P w H h) (k : ∀ b o, H b ≠ none → h.get? b = some o → h'.get? b = some o) : HOk P w H h' := fun a o e =>
 (ok a o e).stay (fun b u hb q => k b u (by
  rcases hb with z | z
  ·rw [z, e]; exact fun q => nomatch q
  ·rw [z]; exact fun q => nomatch q) q) (fun _ q => q) fun _ _ q => q
theorem objOk_there {P : Program} {w : World} {H : Hp} {h : Heap} {a : Addr} {o : HO} (x : ObjOk P w H h a o) : ∃ ob, h.get? a = some ob := by
 cases o with
 | lst xs => obtain ⟨_, _, _, _, e⟩ := x; exact ⟨_, e⟩
 | tup xs => obtain ⟨_, _, _, ob, e, _⟩ := x; exact ⟨_, e⟩
 | dK kvs => obtain ⟨_, _, _, _, o, _, _, e, _⟩ := x; exact ⟨_, e⟩
 | dT kvs => obtain ⟨_, _, _, _, o, _, _, e, _⟩ := x; exact ⟨_, e⟩
 | set S n => obtain ⟨o, _, _, _, e, _⟩ := x; exact ⟨_, e⟩
 | ins C dx fs => obtain ⟨_, _, _, e, _⟩ := x; exact ⟨_, e⟩
 | own y => exact x
 | xd fs => obtain ⟨_, ⟨_, _, _, e, _⟩, _⟩ := x; exact ⟨_, e⟩
 | rng lo hi => obtain ⟨_, _, _, e⟩ := x; exact ⟨_, e⟩
 | frz ob u => obtain ⟨e, _⟩ := x; exact ⟨_, e⟩
 | tbl ps => exact ⟨_, (show h.get? a = some _ from x)⟩
 | met f y => exact ⟨_, (show h.get? a = some _ from x)⟩
 | ext φ => obtain ⟨_, e, _⟩ := x; exact e
theorem HOk.there {P : Program} {w : World} {H : Hp} {h : Heap} {a : Addr} (x : HOk P w H h) (n : H a ≠ none) : ∃ ob, h.get? a = some ob := by
 cases q : H a with
 | none => exact absurd q n
 | some u => exact objOk_there (x a u q)
section
variable {P : Program} {w : World} {K : PySem.W.Frag} {mg : Str → Option Value} {base : Heap} {N : List Str} {qual : Str} {scope : Scope} {f : Addr} {cd : Value} {A : Around} {outer : List Env} {s : Shared} {H : Hp} {E : XK}
theorem frs_cons {env : Env} {l : List Env} {L : Addr} (h : env.frame = some L) : frs (env :: l) = L :: frs l := by
 unfold frs
 rw [List.filterMap_cons, h]
theorem flown_mk {X : Cx} {pins : List (Addr × Obj)} {σ : St} {H1 H' : Hp} {s1 : Shared} {B h'' : Heap} {ea : Addr} {cls a0 : Value} {g' : Array GenState} {d' : Drawn} {t' : Nat} {os' : OsState}
  (I : Inv X pins σ H1 s1) (hx : X.ex = []) (hs : X.env.locals ∉ frs X.outer)
  (ho : os' = X.s₀.os) (hg : AllBare g')
  (fly : Heap.FlyingW B X.outer ea cls a0 h'')
  (kp : ∀ b o, s1.heap.get? b = some o → H1 b = none → b ∉ frs X.outer → b ≠ X.env.locals → B.get? b = some o)
  (sl : ∀ b o, s1.heap.get? b = some o → b ∈ frs X.outer → ∃ sl, h''.get? b = some { o with slots := sl })
  (fr : ∀ b o, s1.heap.get? b = some o → H1 b = none → H' b = none)
  (tups : ∀ b xs, H1 b = some (.tup xs) → H' b = some (.tup xs)) (frzs : ∀ b o u, H1 b = some (.frz o u) → H' b = some (.frz o u)) (tbls : ∀ b ps, H1 b = some (.tbl ps) → ∃ more, H' b = some (.tbl (ps ++ more)))
  (hok : HOk X.prog X.w H' h'') (inH : ∀ b o, h''.get? b = some o → H' b ≠ none → B.get? b = some o)
  (th : ∀ b o, s1.heap.get? b = some o → H1 b ≠ none → ∃ o', h''.get? b = some o')
  (inB : ∀ b o, s1.heap.get? b = some o → b ∉ frs X.outer → b ≠ X.env.locals → ∃ o', B.get? b = some o')
  (new : s1.heap.get? ea = none) (nt : H' ea = none) :
  Flown X.prog X.w X.outer X.H₀ X.s₀ ea cls H' B a0 ⟨h'', g', d', t', os'⟩ := by
 have hxn : ∀ b : Addr, b ∉ X.ex := fun b z => by rw [hx] at z; cases z
 have neL : ∀ b o, X.s₀.heap.get? b = some o → b ≠ X.env.locals := fun b o e => Nat.ne_of_lt (Nat.lt_of_lt_of_le (Heap.lt_size e) I.ok.above)
 have st := fly.1
 refine ⟨ho, hg, ⟨fun b o e n hb _ => ?_, fun b o e n hb _ => ?_, fun b o e n _ => ?_, fun b o e _ => ?_, fun b xs e => tups b xs (I.base.tups b xs e), fun b o u e => frzs b o u (I.base.frzs b o u e), fun b ps e => ?_⟩, hok, fly, fun b o e hb => ?_, ?_, nt⟩
 ·exact st b o (kp b o (I.base.keep b o e n hb (hxn b)) (I.base.free b o e n (hxn b)) hb (neL b o e))
 ·obtain ⟨l1, e1⟩ := I.base.slot b o e n hb (hxn b)
  obtain ⟨l2, e2⟩ := sl b _ e1 hb
  exact ⟨l2, e2⟩
 ·obtain ⟨o1, e1⟩ := I.base.there b o e (hxn b)
  exact fr b o1 e1 (I.base.free b o e n (hxn b))
 ·obtain ⟨o1, e1⟩ := I.base.there b o e (hxn b)
  by_cases hb : b ∈ frs X.outer
  ·obtain ⟨l2, e2⟩ := sl b o1 e1 hb
   exact ⟨_, e2⟩
  ·obtain ⟨o2, e2⟩ := inB b o1 e1 hb (neL b o e)
   exact ⟨o2, st b o2 e2⟩
 ·obtain ⟨m1, e1⟩ := I.base.tbls b ps e
  obtain ⟨m2, e2⟩ := tbls b _ e1
  exact ⟨m1 ++ m2, by rw [e2, Array.append_assoc]⟩
 ·rcases hb with hb | ⟨⟨u, hu⟩, hb⟩
  ·exact inH b o e hb
  ·obtain ⟨o1, e1⟩ := I.base.there b u hu (hxn b)
   obtain ⟨o2, e2⟩ := inB b o1 e1 hb (neL b u hu)
   have e3 := st b o2 e2
   have e4 : h''.get? b = some o := e
   rw [e3] at e4
   cases e4
   exact e2
 ·cases q : X.s₀.heap.get? ea with
  | none => rfl
  | some o =>
   obtain ⟨o', e'⟩ := I.base.there ea o q (hxn ea)
   rw [new] at e'
   cases e'
theorem passR : Passes (CXr P w) (cxOf (CXr P w) P w K mg base N qual scope f cd A outer s H E) E := by
 intro pins σ H1 s1 e s1' I h
 obtain ⟨ea, cls, H', B, a0, rfl, F, want⟩ := h
 have hfr : (cxOf (CXr P w) P w K mg base N qual scope f cd A outer s H E).A.frames = some (envOfC qual scope s.heap.objs.size f cd :: outer) := I.ok.frames
 have hstk : frs (cxOf (CXr P w) P w K mg base N qual scope f cd A outer s H E).stack = s.heap.objs.size :: frs outer := frs_cons rfl
 have hLo : s.heap.objs.size ∉ frs outer := fun z => by
  obtain ⟨_, o, ho, _⟩ := I.ok.funs.mem z
  exact absurd (Heap.lt_size ho) (Nat.lt_irrefl _)
 have nst : ∀ {b : Addr}, b ∉ frs outer → b ≠ s.heap.objs.size → b ∉ frs (cxOf (CXr P w) P w K mg base N qual scope f cd A outer s H E).stack := fun h1 h2 z => by
  rw [hstk] at z
  rcases List.mem_cons.mp z with z | z
  ·exact h2 z
  ·exact h1 z
 show wpAny (model P w) _ (leaving _ (.ref ea)) _ _ s1'
 refine wpAny_leaves_onW hfr rfl F.fly fun h'' fl' up => ?_
 have inB' : ∀ b o, s1'.heap.get? b = some o → H' b ≠ none → h''.get? b = some o := fun b o e n => fl'.1 b o (F.inB b o e (.inl n))
 refine ⟨ea, cls, H', B, a0, rfl, flown_mk (X := cxOf (CXr P w) P w K mg base N qual scope f cd A outer s H E) I rfl hLo (F.os.trans I.os) F.bare fl' (fun b o e n hb hL => ?_) (fun b o e hb => ?_) (fun b o e n => F.un.free b o e n (by simp)) F.un.tups F.un.frzs F.un.tbls
  (hok_keep F.hok fun b o n e => inB' b o e n) (fun b o e n => ?_) (fun b o e n => ?_) (fun b o e hb hL => ?_) F.new F.nt, want⟩
 ·exact F.inB b o (F.un.keep b o e n (nst hb hL) (by simp)) (.inr ⟨⟨o, e⟩, nst hb hL⟩)
 ·have hb' : b ∈ frs outer := hb
  have n : H1 b = none := by
   have := I.stkFree b (by rw [hstk]; exact List.mem_cons_of_mem _ hb')
   exact this
  obtain ⟨l1, e1⟩ := F.un.slot b o e n (by rw [hstk]; exact List.mem_cons_of_mem _ hb') (by simp)
  obtain ⟨_, o', ho', hd'⟩ := F.fly.2.2.1.mem (b := b) (by
   have : b ∈ frs (cxOf (CXr P w) P w K mg base N qual scope f cd A outer s H E).stack := by rw [hstk]; exact List.mem_cons_of_mem _ hb'
   exact this)
  rw [e1] at ho'
  cases ho'
  obtain ⟨l2, e2⟩ := up b _ e1 hd'
  exact ⟨l2, e2⟩
 ·obtain ⟨o1, e1⟩ := F.hok.there n
  have e2 := F.inB b o1 e1 (.inl n)
  have e3 := fl'.1 b o1 e2
  rw [e] at e3
  cases e3
  exact e2
 ·obtain ⟨o1, e1⟩ := F.un.there b o e (by simp)
  by_cases hb : b ∈ frs outer
  ·have hz : H1 b = none := I.stkFree b (by rw [hstk]; exact List.mem_cons_of_mem _ hb)
   exact absurd hz n
  ·by_cases hL : b = s.heap.objs.size
   ·have hz : H1 b = none := I.stkFree b (by rw [hstk, hL]; exact List.mem_cons_self)
    exact absurd hz n
   ·exact ⟨o1, fl'.1 b o1 (F.inB b o1 e1 (.inr ⟨⟨o, e⟩, nst hb hL⟩))⟩
 ·obtain ⟨o1, e1⟩ := F.un.there b o e (by simp)
  exact ⟨o1, F.inB b o1 e1 (.inr ⟨⟨o, e⟩, nst hb hL⟩)⟩
def Raises (X : Cx) (E : XK) : Prop := ∀ (pins : List (Addr × Obj)) (σ : St) (H : Hp) (s : Shared) (C : Addr) (h' : Heap) (e : Addr) (vs : List Value), Inv X pins σ H s → Heap.MadeExcOf s.heap h' e (.ref C) vs → E (.ref C) none H → X.xe (.ref e) { s with heap := h' }
theorem raisesR : Raises (cxOf (CXr P w) P w K mg base N qual scope f cd A outer s H E) E := by
 intro pins σ H1 s1 C h' e vs I hx want
 have hstk : frs (cxOf (CXr P w) P w K mg base N qual scope f cd A outer s H E).stack = s.heap.objs.size :: frs outer := frs_cons rfl
 have hfr : (cxOf (CXr P w) P w K mg base N qual scope f cd A outer s H E).A.frames = some (envOfC qual scope s.heap.objs.size f cd :: outer) := I.ok.frames
 have hLo : s.heap.objs.size ∉ frs outer := fun z => by
  obtain ⟨_, o, ho, _⟩ := I.ok.funs.mem z
  exact absurd (Heap.lt_size ho) (Nat.lt_irrefl _)
 have st : s1.heap.FunFrames base (envOfC qual scope s.heap.objs.size f cd :: outer) := I.stack
 have fin : s1.heap.FunFrames (PySem.W.hideAll s1.heap (s.heap.objs.size :: frs outer)) (envOfC qual scope s.heap.objs.size f cd :: outer) :=
  PySem.W.funFrames_hide st fun env he a ha => by
   rw [← hstk]
   exact List.mem_filterMap.mpr ⟨env, he, ha⟩
 have nfr : ∀ {b : Addr}, H1 b ≠ none → b ∉ s.heap.objs.size :: frs outer := fun n z => n (I.stkFree _ (by rw [hstk]; exact z))
 have nin : ∀ {b : Addr}, b ∉ frs outer → b ≠ s.heap.objs.size → b ∉ s.heap.objs.size :: frs outer := fun h1 h2 z => (List.mem_cons.mp z).elim h2 h1
 show wpAny (model P w) _ (leaving _ (.ref e)) _ _ { s1 with heap := h' }
 refine wpAny_leaves_madeW (base := PySem.W.hideAll s1.heap (s.heap.objs.size :: frs outer)) (h := s1.heap) hfr rfl (fun b o q => PySem.W.of_hideAll _ q) fin hx fun h'' t fl _ _ up => ?_
 refine ⟨e, .ref C, H1, _, .ref t, rfl, flown_mk (X := cxOf (CXr P w) P w K mg base N qual scope f cd A outer s H E) I rfl hLo I.os I.bare fl (fun b o q n hb hL => PySem.W.hideAll_get _ q (nin hb hL)) (fun b o q hb => ?_) (fun _ _ _ n => n) (fun _ _ q => q) (fun _ _ _ q => q)
  (fun b ps q => ⟨#[], by rw [q]; simp⟩) (hok_keep I.hok fun b o n q => fl.1 b o (PySem.W.hideAll_get _ q (nfr n))) (fun b o q n => ?_) (fun b o q n => ⟨o, fl.1 b o (PySem.W.hideAll_get _ q (nfr n))⟩) (fun b o q hb hL => ⟨o, PySem.W.hideAll_get _ q (nin hb hL)⟩) hx.new ?_, want⟩
 ·obtain ⟨_, o', ho', hd'⟩ := st.mem (b := b) (by
   have : b ∈ frs (envOfC qual scope s.heap.objs.size f cd :: outer) := by
    rw [frs_cons rfl]
    exact List.mem_cons_of_mem _ hb
   exact this)
  rw [q] at ho'
  cases ho'
  exact up b o (hx.keeps b o q) hd'
 ·obtain ⟨o1, e1⟩ := I.hok.there n
  have e2 := PySem.W.hideAll_get _ e1 (nfr n)
  have e3 := fl.1 b o1 e2
  rw [q] at e3
  cases e3
  exact e2
 ·cases q : H1 e with
  | none => rfl
  | some u =>
   obtain ⟨ob, eo⟩ := objOk_there (I.hok e u q)
   rw [hx.new] at eo
   cases eo
end
section
variable {X : Cx} {E : XK}
def tRaise (C : Addr) (E : XK) (t : TA) : TS := fun _ σ H => t σ H fun vs H1 => vs.length ≤ sizeLine ∧ E (.ref C) none H1
theorem ps_raise {x : Str} {e₀ : Expr} {rest : List Expr} {t : TA} {C : Addr} {bm : List Value} {B newId initId : String} {np cpos pos : Pos} (hx : Raises X E) (hc : X.calm = true) (hg : Gl X x) (O : OwnCls x C bm newId X.mg X.base)
  (FB : ExcBaseFacts B newId initId bm) (ha : PA X (e₀ :: rest) t) (hdb : (x == ("__debug__" : Str)) = false := by decide)
  (he : starEach (e₀ :: rest) X.env = (false, eval e₀ X.env) :: starEach rest X.env := by rfl) (hpl : (backTo cpos (starEach rest X.env)).any (·.1) = false := by rfl) :
  PS X (.Raise (some (.Call (.Name x np) (e₀ :: rest) [] cpos)) none pos) (tRaise C E t) := by
 intro pins s σ H D I h
 obtain ⟨tl, NN, nm, qn, bs, hdc, sn, sb, ab, cl, dd, z0, z1, z2, z3, z5, mN, hC, hN, hni, T⟩ := O.obj
 have hp : (backTo cpos (starEach (e₀ :: rest) X.env)).any (·.1) = false := by
  rw [he]
  show (false || (backTo cpos (starEach rest X.env)).any (·.1)) = false
  rw [hpl]
  all_goals rfl
 have h2 := ha cpos pins s σ H _ I h
 refine wpAny_Raise_call_subT (bm := tl) (N := NN) (nm := nm) (q := qn) (bs := bs) (hdct := hdc) (sn := sn) (sub := sb) (ab := ab) (col := cl) (dd := dd) (k0 := z0) (k1 := z1) (k2 := z2) (k3 := z3) (k5 := z5) FB (T.hasType FB.hasBase) (I.ok.hd hc) hp hni
  (ld_glob I hg O.bound ⟨rfl, ?_⟩ hdb)
 rw [he] at h2 ⊢
 refine Calls.evalArgs_plain (thn h2 fun us s2 ⟨vs, H1, I1, r, z, w'⟩ => ?_)
 exact ⟨rfl, by rw [← r.length]; exact z, I1.bk _ _ hC, hN.keeps I1.bk, T.keeps I1.bk, fun h' e hm => hx pins σ H1 s2 C h' e us I1 hm w'⟩
end
def PassesS (CX : CXT) (X : Cx) (E : St → XK) : Prop := ∀ (pins : List (Addr × Obj)) (σ : St) (H : Hp) (s : Shared) (e : Value) (s' : Shared), Inv X pins σ H s → CX X.stack H s (E σ) e s' → X.xe e s'
def tCallS (sp : Sp) (E : St → XK) (t : TA) : TE := fun σ H Q => t σ H fun vs H1 => sp vs H1 Q (E σ)
section
variable {X : Cx} {CX : CXT} {k : Nat} {f : Addr} {fd : FuncData} {ps : List Str} {sp : Sp} {E : St → XK} {x : Str} {p pos : Pos} {e : Expr} {es : List Expr} {t : TA}
theorem pe_callS (F : FnOk X.prog X.w X.K X.mg X.base CX k f fd ps sp) (hr : Room k X.A) (hg : Gl X x) (hm : X.mg x = some (.ref f)) (hk : PySem.W.keepIn X.K (.ref f) = true) (hb : Binds X.K fd ps []) (hx : PassesS CX X E)
  (ha : PA X (e :: es) t) (hdb : (x == ("__debug__" : Str)) = false := by decide) (he : starEach (e :: es) X.env = (false, eval e X.env) :: starEach es X.env := by rfl) (hpl : (backTo pos (starEach es X.env)).any (·.1) = false := by rfl) :
  PE X (.Call (.Name x p) (e :: es) [] pos) (tCallS sp E t) := by
 intro pins s σ H Q I h
 refine wpAny_Call_Name_kw (ld_glob I hg hm ?_ hdb)
 refine PySem.W.callWith_K (h₀ := X.base) I.ok.mod.kin hk (thn (ha pos pins s σ H _ I h) fun us s1 ⟨vs, H1, I1, r, q⟩ => ⟨I1.kIn, ?_⟩) he hpl
 have hl : us.length = ps.length := by rw [← r.length]; exact F.len _ _ _ _ q
 have hb' := hb s1 us I1.kIn (by rw [List.append_nil]; exact hl)
 rw [List.append_nil] at hb'
 refine wpAny_call (codeAny_mono (F.run X.A X.stack s1 H1 ⟨us, []⟩ us vs Q (E σ) hr I1.env0 hb' r q) fun rr s' hq => ?_)
 cases rr with
 | error e' => exact hx pins σ H1 s1 e' s' I1 hq
 | ok fl =>
  cases fl with
  | ret u => exact I1.after hq
  | next => exact False.elim hq
  | brk => exact False.elim hq
  | cont => exact False.elim hq
end
structure RoomQ (k : Nat) (A : Around) : Prop where
 dp : A.depth + 3 * k + 5 < recursionLimit
 un : A.units + 16 * k + 200 < cLine
theorem RoomQ.deeper {k : Nat} {A : Around} (r : RoomQ (k + 1) A) (env : Env) : RoomQ k (A.deeper env) :=
 ⟨by have := r.dp; show A.depth + 1 + 3 * k + 5 < _; omega, by have := r.un; show A.units + 3 + 16 * k + 200 < _; omega⟩
theorem RoomQ.depth {k : Nat} {A : Around} (r : RoomQ k A) : A.depth < recursionLimit := by have := r.dp; omega
structure FnOkQ (P : Program) (w : World) (K : PySem.W.Frag) (mg : Str → Option Value) (base : Heap) (k : Nat) (f : Addr) (fd : FuncData) (ps : List Str) (sp : Sp) : Prop where
 len : ∀ vs H Q E, sp vs H Q E → vs.length = ps.length
 run : ∀ (A : Around) (outer : List Env) (s : Shared) (H : Hp) (args : Args) (us : List Value) (vs : List V) (Q : VK), RoomQ k A → Env0 P w K mg base A outer s H → BindsTo s fd args (ps.zip us) → Vals vs us → sp vs H Q E0 →
  codeAny (model P w) A (.call (.ref f) args) (CR CX0 outer P w H s Q E0) s
abbrev Cx.quiet (X : Cx) : Cx := { X with calm := false, xe := fun _ _ => False }
theorem Fun.okQ {P : Program} {w : World} {K : PySem.W.Frag} {mg : Str → Option Value} {base : Heap} {x qual : Str} {st : Stmt} {f : Addr} {fd : FuncData} {N ps : List Str} {k : Nat} {sp : Sp} (F : Fun K x qual st f fd) (S : FnScope N ps (defScope st))
  (len : ∀ vs H Q E, sp vs H Q E → vs.length = ps.length)
  (hbody : ∀ (cdv : Value) (A : Around) (outer : List Env) (s : Shared) (H : Hp) (vs : List V) (Q : VK), RoomQ k (A.deeper (envOfC qual (defScope st) s.heap.objs.size f cdv)) → sp vs H Q E0 →
   ∃ t, PSs (cxOf CX0 P w K mg base N qual (defScope st) f cdv A outer s H E0).quiet (defBody st) t ∧ t { nx := fun _ H' => Q .non H', rt := Q } (start N vs) H) : FnOkQ P w K mg base (k + 1) f fd ps sp := by
 obtain ⟨oc, od, kV, doc, pm, an, cdv, ct, osl, rfl, lk, hcd⟩ := F.ex
 refine ⟨len, fun A outer s H args us vs Q hr e0 hb r hsp => ?_⟩
 have hl := len _ _ _ _ hsp
 have KX : K.In s.heap := e0.mod.kin.keeps fun b o e => (e0.bs b o e).1
 have lim : s.heap.NoLimit := e0.mod.nolimit.keeps fun b o e => (e0.bs b o e).1
 have hkind : ∀ y ∈ ps.zip us, (defScope st).names.lookup y.1 = some .local ∨ ((defScope st).names.lookup y.1 = some .cell ∧ ((cellsFrom (s.heap.objs.size + 1) (defScope st).names []).lookup y.1).isSome = true) := fun ⟨n, v⟩ hy => by
  rcases S.par n (List.of_mem_zip hy).1 with q | q
  ·exact .inl q
  ·exact .inr ⟨q, PySem.W.cellsFrom_some _ _ _ (.inl q)⟩
 refine codeAny_call_function hr.depth (KX _ _ lk) rfl S.co S.gen rfl (PySem.W.codeRec_of KX hcd) (hb _ _ _ _ ?_)
 refine wpAny_newFunctionEnv_cells S.kind hkind fun env he s1 x => ?_
 subst he
 refine ⟨lim.keeps x.toInCall.keep, codeAny_func ?_⟩
 obtain ⟨t, ht, hq⟩ := hbody cdv A outer s H vs Q (hr.deeper _) hsp
 have e1 : Env0 P w K mg base { A with handled := none } outer s H := ⟨e0.frames, e0.mod, e0.bs, e0.bsz, e0.funs, e0.frf, e0.hok, e0.bare⟩
 have J : Inv (cxOf CX0 P w K mg base N qual (defScope st) f cdv { A with handled := none } outer s H E0) [] (start N vs) H s1 := inv_start S rfl e1 hl r x
 have o := J.ok
 have I : Inv (cxOf CX0 P w K mg base N qual (defScope st) f cdv A outer s H E0).quiet [] (start N vs) H s1 :=
  ⟨⟨o.mod, o.kind, o.glob, o.blt, o.above, o.inj, o.has, o.cab, (fun z => nomatch z), Around.frames_deeper e0.frames, o.stk, o.exf, o.bs, o.bsz, o.noex, o.exfs, o.funs, o.frf⟩, J.os, J.bare, J.base, J.loc, J.cell, J.free, J.freeC, J.pin, J.hok, J.len⟩
 refine wpAny_mono (ht [] s1 (start N vs) H _ I hq) (fun fl s' hs => ?_) fun e s' hs => hs.elim
 cases fl with
 | ret u =>
  obtain ⟨v, σ', H', J', rv, q⟩ := hs
  exact ⟨v, H', J'.os, J'.bare, J'.base, J'.hok, rv, q⟩
 | next =>
  obtain ⟨σ', H', J', q⟩ := hs
  exact ⟨V.non, H', J'.os, J'.bare, J'.base, J'.hok, rfl, q⟩
 | brk =>
  obtain ⟨_, _, _, q⟩ := hs
  exact False.elim q
 | cont =>
  obtain ⟨_, _, _, q⟩ := hs
  exact False.elim q
section
variable {X : Cx} {k : Nat} {f : Addr} {fd : FuncData} {ps : List Str} {sp : Sp} {x : Str} {p pos : Pos} {e : Expr} {es : List Expr} {t : TA}
theorem pe_callQ (F : FnOkQ X.prog X.w X.K X.mg X.base k f fd ps sp) (hr : RoomQ k X.A) (hg : Gl X x) (hm : X.mg x = some (.ref f)) (hk : PySem.W.keepIn X.K (.ref f) = true) (hb : Binds X.K fd ps [])
  (ha : PA X (e :: es) t) (hdb : (x == ("__debug__" : Str)) = false := by decide) (he : starEach (e :: es) X.env = (false, eval e X.env) :: starEach es X.env := by rfl) (hpl : (backTo pos (starEach es X.env)).any (·.1) = false := by rfl) :
  PE X (.Call (.Name x p) (e :: es) [] pos) (tCallS sp (fun _ => E0) t) := by
 intro pins s σ H Q I h
 refine wpAny_Call_Name_kw (ld_glob I hg hm ?_ hdb)
 refine PySem.W.callWith_K (h₀ := X.base) I.ok.mod.kin hk (thn (ha pos pins s σ H _ I h) fun us s1 ⟨vs, H1, I1, r, q⟩ => ⟨I1.kIn, ?_⟩) he hpl
 have hl : us.length = ps.length := by rw [← r.length]; exact F.len _ _ _ _ q
 have hb' := hb s1 us I1.kIn (by rw [List.append_nil]; exact hl)
 rw [List.append_nil] at hb'
 refine wpAny_call (codeAny_mono (F.run X.A X.stack s1 H1 ⟨us, []⟩ us vs Q hr I1.env0 hb' r q) fun rr s' hq => ?_)
 cases rr with
 | error e' => exact False.elim hq
 | ok fl =>
  cases fl with
  | ret u => exact I1.after hq
  | next => exact False.elim hq
  | brk => exact False.elim hq
  | cont => exact False.elim hq
end
def excO (e : Addr) (cls : Value) : HO := .ext fun h => ∃ o, h.get? e = some o ∧ o.cls = cls ∧ ∃ vs, o.data = .fields vs
theorem forget_ok {X : Cx} {pins : List (Addr × Obj)} {σ : St} {H : Hp} {s : Shared} {M : Model} {A : Around} {E : Value → Shared → Prop} {i : Nat} {n : Str} {pos : Pos} {Q : Unit → Shared → Prop} (I : Inv X pins σ H s) (hN : X.N.Nodup) (hi : X.N[i]? = some n)
  (hk : X.env.kindOf n = some .local) (h : ∀ s', Inv X pins (σ.set i none) H s' → Q () s') : wpAny M A (do bindName X.env n .none; unbindBehindTheSuite X.env n pos) Q E s := by
 obtain ⟨m, hn, hl⟩ := id I.loc
 have hcls : (X.env.scope.kind == .class || (X.env.scope.kind == .module && X.env.locals != X.env.globals)) = false := by rw [I.ok.kind]; rfl
 have cne := I.cne
 refine wpAny_nameGoes_keeps hk hn hcls fun h' v hn' hs => ?_
 have ne0 : ∀ b o, X.s₀.heap.get? b = some o → b ≠ X.env.locals := fun b o e => Nat.ne_of_lt (Nat.lt_of_lt_of_le (Heap.lt_size e) I.ok.above)
 have tr : HOk X.prog X.w H h' := fun b ob e => by
  refine (I.hok b ob e).stay (fun c w' hc q => (hs.2 c ?_).trans q) (fun _ q => q) fun _ _ q => q
  rintro rfl
  rcases hc with z | z
  ·rw [← z, I.free] at e; cases e
  ·rw [I.free] at z; cases z
 refine h _ ⟨I.ok, I.os, I.bare, ⟨fun b o e n' hb hx => (hs.2 b (ne0 b o e)).trans (I.base.keep b o e n' hb hx), fun b o e n' hb hx => ?_, I.base.free, fun b o e hx => ?_, I.base.tups, I.base.frzs, I.base.tbls⟩, ⟨_, hn', fun j y v' e1 e2 e3 => ?_⟩, fun y c e => ?_, I.free, I.freeC, fun p hp => ?_, tr, by simpa using I.len⟩
 ·obtain ⟨sl, e1⟩ := I.base.slot b o e n' hb hx
  exact ⟨sl, (hs.2 b (ne0 b o e)).trans e1⟩
 ·obtain ⟨o', e1⟩ := I.base.there b o e hx
  exact ⟨o', (hs.2 b (ne0 b o e)).trans e1⟩
 ·by_cases hj : j = i
  ·subst hj
   rw [List.getElem?_set] at e2
   split at e2
   ·split at e2 <;> cases e2
   ·rename_i z
    exact absurd rfl z
  ·rw [List.getElem?_set_ne (Ne.symm hj)] at e2
   obtain ⟨u', r', q⟩ := hl j y v' e1 e2 e3
   refine ⟨u', r', ?_⟩
   rcases q with ⟨k, e⟩ | ⟨k, c, e, z⟩
   ·refine .inl ⟨k, ?_⟩
    have hy : y ≠ n := fun e => hj (nodup_ix hN e1 (e ▸ hi))
    simp [hy, e]
   ·exact .inr ⟨k, c, e, z.sameBut hs (cne y c e)⟩
 ·obtain ⟨w', z⟩ := I.cell y c e
  exact ⟨w', z.sameBut hs (cne y c e)⟩
 ·obtain ⟨e, n', ne, nf, d⟩ := I.pin p hp
  exact ⟨(hs.2 p.1 ne).trans e, n', ne, nf, d⟩
abbrev Cx.wp (X : Cx) (W : Value → Shared → Prop) (pn : List (Addr × Obj)) : Cx := { X with xe := W, pn := pn }
abbrev Cx.hot (X : Cx) (e : Addr) : Cx := { X with A := X.A.mark (some (.ref e)), calm := false, xe := fun _ _ => False }
theorem Inv.wp {X : Cx} {pins : List (Addr × Obj)} {σ : St} {H : Hp} {s : Shared} (I : Inv X pins σ H s) (W : Value → Shared → Prop) : Inv (X.wp W (X.pn ++ pins)) [] σ H s := by
 have ok := I.ok
 exact ⟨⟨ok.mod, ok.kind, ok.glob, ok.blt, ok.above, ok.inj, ok.has, ok.cab, ok.hd, ok.frames, ok.stk, ok.exf, ok.bs, ok.bsz, ok.noex, ok.exfs, ok.funs, ok.frf⟩, I.os, I.bare, I.base, I.loc, I.cell, I.free, I.freeC, fun p hp => I.pin p (by simpa using hp), I.hok, I.len⟩
theorem Inv.unwp {X : Cx} {pins pins' : List (Addr × Obj)} {σ : St} {H : Hp} {s : Shared} {W : Value → Shared → Prop} (I : Inv (X.wp W (X.pn ++ pins)) pins' σ H s) : Inv X pins σ H s := by
 have ok := I.ok
 exact ⟨⟨ok.mod, ok.kind, ok.glob, ok.blt, ok.above, ok.inj, ok.has, ok.cab, ok.hd, ok.frames, ok.stk, ok.exf, ok.bs, ok.bsz, ok.noex, ok.exfs, ok.funs, ok.frf⟩, I.os, I.bare, I.base, I.loc, I.cell, I.free, I.freeC, fun p hp => I.pin p (List.mem_append_left _ hp), I.hok, I.len⟩
theorem Inv.hot {X : Cx} {pins : List (Addr × Obj)} {σ : St} {H : Hp} {s : Shared} (I : Inv X pins σ H s) (e : Addr) : Inv (X.hot e) pins σ H s := by
 have ok := I.ok
 exact ⟨⟨ok.mod, ok.kind, ok.glob, ok.blt, ok.above, ok.inj, ok.has, ok.cab, (fun z => nomatch z), ok.frames, ok.stk, ok.exf, ok.bs, ok.bsz, ok.noex, ok.exfs, ok.funs, ok.frf⟩, I.os, I.bare, I.base, I.loc, I.cell, I.free, I.freeC, I.pin, I.hok, I.len⟩
theorem Inv.cool {X : Cx} {pins : List (Addr × Obj)} {σ : St} {H : Hp} {s : Shared} {e : Addr} (I : Inv (X.hot e) pins σ H s) (hd : X.calm = true → X.A.handled = none) : Inv X pins σ H s := by
 have ok := I.ok
 exact ⟨⟨ok.mod, ok.kind, ok.glob, ok.blt, ok.above, ok.inj, ok.has, ok.cab, hd, ok.frames, ok.stk, ok.exf, ok.bs, ok.bsz, ok.noex, ok.exfs, ok.funs, ok.frf⟩, I.os, I.bare, I.base, I.loc, I.cell, I.free, I.freeC, I.pin, I.hok, I.len⟩
theorem SP.unwp {X : Cx} {pins : List (Addr × Obj)} {W : Value → Shared → Prop} {D : Ends} {f : Flow} {s' : Shared} (h : SP (X.wp W (X.pn ++ pins)) [] D f s') : SP X pins D f s' := by
 cases f with
 | next => obtain ⟨σ', H', I, q⟩ := h; exact ⟨σ', H', I.unwp, q⟩
 | brk => obtain ⟨σ', H', I, q⟩ := h; exact ⟨σ', H', I.unwp, q⟩
 | cont => obtain ⟨σ', H', I, q⟩ := h; exact ⟨σ', H', I.unwp, q⟩
 | ret u => obtain ⟨v, σ', H', I, r, q⟩ := h; exact ⟨v, σ', H', I.unwp, r, q⟩
theorem landed {X : Cx} {pins : List (Addr × Obj)} {σ : St} {H H' : Hp} {s s' : Shared} {ea : Addr} {cls a0 : Value} {B h' : Heap} (I : Inv X pins σ H s) (F : Flown X.prog X.w X.stack H s ea cls H' B a0 s') (fl : Heap.FlyingW B X.stack ea cls a0 h') (up : s'.heap.UpToSlots h') :
  Inv X pins σ H' { s' with heap := h' } ∧ Inv X pins σ (upd H' ea (excO ea cls)) { s' with heap := h' } := by
 have st := fl.1
 have tn : ∀ b u, H' b = some u → b ≠ ea := fun b u e z => by rw [z, F.nt] at e; cases e
 have kB : ∀ b o, H' b ≠ none → s'.heap.get? b = some o → h'.get? b = some o := fun b o n e => st b o (F.inB b o e (.inl n))
 have frd : ∀ b ∈ frs X.stack, ∀ o, s'.heap.get? b = some o → ∀ vs, o.data ≠ .fields vs := fun b hb o e => by
  obtain ⟨_, o', ho', hd'⟩ := F.fly.2.2.1.mem (b := b) hb
  rw [e] at ho'
  cases ho'
  exact hd'
 have ne : ∀ b o, s.heap.get? b = some o → b ≠ ea := fun b o e z => by rw [z, F.new] at e; cases e
 have un : ∀ H2 : Hp, (∀ b, b ≠ ea → H2 b = H' b) → Un (frs X.stack) [] H H2 s.heap h' := fun H2 same =>
  ⟨fun b o e n hb _ => st b o (F.inB b o (F.un.keep b o e n hb (by simp)) (.inr ⟨⟨o, e⟩, hb⟩)), fun b o e n hb _ => by
   obtain ⟨sl, e1⟩ := F.un.slot b o e n hb (by simp)
   obtain ⟨sl2, e2⟩ := up b _ e1 (frd b hb _ e1)
   exact ⟨sl2, e2⟩, fun b o e n _ => by rw [same b (ne b o e)]; exact F.un.free b o e n (by simp), fun b o e _ => by
   obtain ⟨o1, e1⟩ := F.un.there b o e (by simp)
   by_cases hb : b ∈ frs X.stack
   ·obtain ⟨sl2, e2⟩ := up b _ e1 (frd b hb _ e1)
    exact ⟨_, e2⟩
   ·exact ⟨o1, st b o1 (F.inB b o1 e1 (.inr ⟨⟨o, e⟩, hb⟩))⟩, fun b xs e => by
   have q := F.un.tups b xs e
   rw [same b (tn b _ q)]
   exact q, fun b o u e => by
   have q := F.un.frzs b o u e
   rw [same b (tn b _ q)]
   exact q, fun b ps e => by
   obtain ⟨more, q⟩ := F.un.tbls b ps e
   exact ⟨more, by rw [same b (tn b _ q)]; exact q⟩⟩
 have ok1 : HOk X.prog X.w H' h' := hok_keep F.hok kB
 obtain ⟨oe, vs, hoe, hoc, hod, _⟩ := fl.first
 have ok2 : HOk X.prog X.w (upd H' ea (excO ea cls)) h' := fun a o e => by
  by_cases ha : a = ea
  ·subst ha
   rw [upd_same] at e
   cases e
   refine ⟨⟨oe, hoe, hoc, vs, hod⟩, ⟨oe, hoe⟩, fun h1 h2 p k => ?_⟩
   obtain ⟨o1, p1, p2, p3⟩ := p
   exact ⟨o1, k o1 p1, p2, p3⟩
  ·rw [upd_ne ha] at e
   refine (ok1 a o e).stay (fun _ _ _ q => q) (fun b q => ?_) fun b xs q => ?_
   ·rw [upd_ne (tn b _ q)]; exact q
   ·rw [upd_ne (tn b _ q)]; exact q
 exact ⟨I.call' (s' := { s' with heap := h' }) (ch := []) F.os (un H' fun _ _ => rfl) ok1 F.bare (fun _ z => absurd z (by simp)), I.call' (s' := { s' with heap := h' }) (ch := []) F.os (un _ fun b hb => upd_ne hb) ok2 F.bare (fun _ z => absurd z (by simp))⟩
def catchE (K : PySem.W.Frag) (R : Addr) (i : Nat) (th : TS) (D : Ends) : St → XK := fun σ cls _ H1 => PySem.W.exmOne K cls (.ref R) = some true ∧ ∀ e, H1 e = none →
 th { nx := fun σ2 H2 => D.nx (σ2.set i none) H2, rt := D.rt, bk := fun σ2 H2 => D.bk (σ2.set i none) H2, ct := fun σ2 H2 => D.ct (σ2.set i none) H2 } (σ.set i (some (.ref e))) (upd H1 e (excO e cls))
def tTry (K : PySem.W.Frag) (R : Addr) (i : Nat) (tb : (St → XK) → TS) (th : TS) : TS := fun D σ H => tb (catchE K R i th D) D σ H
theorem ps_try {X : Cx} {body : List Stmt} {b₀ : Stmt} {suite : List Stmt} {x n : Str} {np hpos pos : Pos} {i : Nat} {R : Addr} {tb : (St → XK) → TS} {th : TS} (hst : X.stack = X.env :: X.outer) (hfr : X.env.frame = some X.env.locals) (hN : X.N.Nodup) (hi : X.N[i]? = some n)
  (hk : X.env.kindOf n = some .local) (hg : Gl X x) (hm : X.mg x = some (.ref R))
  (hb : ∀ (W : Value → Shared → Prop) (pn : List (Addr × Obj)) (E : St → XK), PassesS (CXr X.prog X.w) (X.wp W pn) E → PSs (X.wp W pn) body (tb E)) (hh : ∀ e : Addr, PSs (X.hot e) (b₀ :: suite) th)
  (hdb : (x == ("__debug__" : Str)) = false := by decide) :
  PS X (.Try body [.ExceptHandler (some (.Name x np)) (some n) (b₀ :: suite) hpos] [] [] pos) (tTry X.K R i tb th) := by
 intro pins s σ H D I h
 refine wpAny_Try_except ?_
 refine wpAny_mono (hb _ (X.pn ++ pins) (catchE X.K R i th D) ?_ [] s σ H D (I.wp _) h) (fun f s₁ q => ?_) fun e s₁ q => q
 ·intro pins' σ1 H1 s1 e s1' I1 hq
  obtain ⟨ea, cls, H', B, a0, rfl, F, want⟩ := hq
  have I1' : Inv X pins σ1 H1 s1 := I1.unwp
  have hfr' : X.A.frames = some (X.env :: X.outer) := by rw [← hst]; exact I.ok.frames
  have F' : Flown X.prog X.w X.stack H1 s1 ea cls H' B a0 s1' := F
  have fly : Heap.FlyingW B (X.env :: X.outer) ea cls a0 s1'.heap := by rw [← hst]; exact F'.fly
  refine wpAny_looks_onW hfr' hfr fly fun h₄ held₄ up₄ => ?_
  refine wpAny_landsW held₄ fun h₅ fl₅ up₅ => ?_
  have J5 := landed I1' F' (by rw [hst]; exact fl₅) (up₄.trans up₅)
  refine wpAny_handleBy_cons (codeAny_handlers_test ?_) (by intro q; cases q)
  refine ld_glob (X := X.hot ea) (J5.1.hot ea) hg hm ?_ hdb
  obtain ⟨oe, vs, hoe, hoc, hod, _⟩ := fl₅.first
  have LT : PySem.W.Looks (model X.prog X.w) h₅ (typeOf (.ref ea)) cls := by
   rw [← hoc]
   exact (PySem.W.Looks.ld hoe).andThen .now
  refine PySem.W.exm_one (K := X.K) J5.1.kIn LT want.1 _ _ _ _ (fun _ _ q => q) ?_
  refine codeAny_handlers_suite_as ?_
  refine lands_againW fl₅ fun h₆ fl₆ up₆ => ?_
  have J6 := landed I1' F' (by rw [hst]; exact fl₆) ((up₄.trans up₅).trans up₆)
  have I6 := J6.2.hot ea
  refine store_ok (X := X.hot ea) I6 hN hi (.inl hk) (v := .ref ea) rfl (fun s₇ I7 => ?_) (.inr hk)
  refine wpAny_mono (hh ea pins s₇ _ _ _ I7 (want.2 ea F'.nt)) (fun f s₈ q8 => ?_) fun _ _ z => z.elim
  have hd : X.calm = true → X.A.handled = none := I.ok.hd
  cases f with
  | next =>
   obtain ⟨σ8, H8, I8, q⟩ := q8
   exact forget_ok (I8.cool hd) hN hi hk fun s₉ I9 => ⟨_, H8, I9, q⟩
  | brk =>
   obtain ⟨σ8, H8, I8, q⟩ := q8
   exact forget_ok (I8.cool hd) hN hi hk fun s₉ I9 => ⟨_, H8, I9, q⟩
  | cont =>
   obtain ⟨σ8, H8, I8, q⟩ := q8
   exact forget_ok (I8.cool hd) hN hi hk fun s₉ I9 => ⟨_, H8, I9, q⟩
  | ret u =>
   obtain ⟨v8, σ8, H8, I8, r8, q⟩ := q8
   exact forget_ok (I8.cool hd) hN hi hk fun s₉ I9 => ⟨v8, _, H8, I9, r8, q⟩
 ·cases f with
  | next => exact wpAny_execs_nil (SP.unwp q)
  | brk => exact SP.unwp q
  | cont => exact SP.unwp q
  | ret u => exact SP.unwp (f := .ret u) q
abbrev blockCx (X : Cx) (scope : Scope) (cl : List (Str × Addr)) (C : Addr) (N : List Str) (s₀ : Shared) (H₀ : Hp) (ex : List Addr) (pn : List (Addr × Obj)) : Cx :=
 { X with env := compEnvC scope cl C X.env, N := N, s₀ := s₀, H₀ := H₀, outer := X.stack, stack := X.stack, ex := ex, fn := fun _ => false, pn := pn, xe := fun _ _ => False }
structure ClOk (X : Cx) (scope : Scope) (cl : List (Str × Addr)) : Prop where
 clos : closureFor scope X.env = pure cl
 sub : ∀ y c, cl.lookup y = some c → X.env.cells.lookup y = some c
 has : ∀ y, (relabel scope X.env).names.lookup y = some .cell ∨ (relabel scope X.env).names.lookup y = some .free → ∃ c, cl.lookup y = some c
def caps (js : List Nat) (σ : St) : St := js.map fun j => (σ[j]?).getD none
structure CapOk (X : Cx) (scope : Scope) (cl : List (Str × Addr)) (ys : List Str) (js : List Nat) : Prop where
 len : ys.length = js.length
 at_ : ∀ (i : Nat) (y : Str) (j : Nat), ys[i]? = some y → js[i]? = some j → X.N[j]? = some y ∧ (X.env.kindOf y = some .cell ∨ X.env.kindOf y = some .free) ∧ ((relabel scope X.env).names.lookup y = some .cell ∨ (relabel scope X.env).names.lookup y = some .free) ∧ (X.env.cells.lookup y).isSome = true ∧ cl.lookup y = X.env.cells.lookup y
section
variable {X : Cx}
end
def Sz (n : Nat) (x : Int) : Prop := x.natAbs < 2 ^ n
theorem Sz.mono {m n : Nat} {x : Int} (h : Sz m x) (l : m ≤ n) : Sz n x := Nat.lt_of_lt_of_le h (Nat.pow_le_pow_right (by decide) l)
theorem Sz.mul {m n : Nat} {x y : Int} (hx : Sz m x) (hy : Sz n y) : Sz (m + n) (x * y) := by
 unfold Sz at *
 rw [Int.natAbs_mul, Nat.pow_add]
 exact Nat.mul_lt_mul'' hx hy
theorem Sz.add {n : Nat} {x y : Int} (hx : Sz n x) (hy : Sz n y) : Sz (n + 1) (x + y) := by
 unfold Sz at *
 have := Int.natAbs_add_le x y
 rw [Nat.pow_succ]
 omega
theorem Sz.le {n : Nat} {x y : Int} (hy : Sz n y) (h : x.natAbs ≤ y.natAbs) : Sz n x := Nat.lt_of_le_of_lt h hy
def CMulW (i j : Int) : Prop := Sz 60000 i ∧ Sz 60000 j
theorem CMulW.ok {i j : Int} (h : CMulW i j) : IntMulOk i j := .of_le (intBits_le_iff.mpr h.1) (intBits_le_iff.mpr h.2) (by decide)
def CDivW (i j : Int) : Prop := j ≠ 0 ∧ Sz 8000 j
section
variable {X : Cx}
theorem op_mulW : OpR X (binaryOp .Mult) (rI CMulW fun i j => .int (i * j)) := opI fun _ _ _ _ _ _ _ hc q => mul_int q hc.ok
theorem log2_small {n : Nat} (h : n < 2 ^ 8000) : n.log2 < 9000 := by
 by_cases z : n = 0
 ·rw [z]; decide
 ·have : n.log2 < 8000 := (Nat.log2_lt z).mpr h
  omega
theorem op_fdivW : OpR X (binaryOp .FloorDiv) (rI CDivW fun i j => .int (i.fdiv j)) := opI fun _ _ _ _ _ _ _ hc q => floordiv_int hc.1 q (.inl (PyProof.noPylong_of_log2 (log2_small hc.2)))
inductive TyX (K : PySem.W.Frag) (H : Hp) : V → Value → Prop where
 | plain {x : V} {t : Value} (h : TyOf K H x t) : TyX K H x t
 | exc {a C : Addr} (e : H a = some (excO a (.ref C))) (T : PySem.W.ExcK K C) : TyX K H (.ref a) (.ref C)
theorem RelV.tyOrRef {y : V} {c u : Value} (h : (∃ n, y = .ty n) ∨ ∃ a, y = .ref a) (r : RelV y c) (r' : RelV y u) : u = c := by
 rcases h with ⟨n, rfl⟩ | ⟨n, rfl⟩
 ·cases r; cases r'; rfl
 ·cases r; cases r'; rfl
def rIsiC (K : PySem.W.Frag) : List V → Hp → VK → Prop := fun xs H Q => ∃ x y t c b, xs = [x, y] ∧ ((∃ n, y = .ty n) ∨ ∃ a, y = .ref a) ∧ TyX K H x t ∧ RelV y c ∧ PySem.W.kitOne K t c = some b ∧ Q (.bl b) H
theorem call_isi : CallR X (.builtin "isinstance") (rIsiC X.K) := by
 intro pins s σ H xs us Q I r h
 obtain ⟨x, y, t, c, b, rfl, hy, ty, rc, e, q⟩ := h
 obtain ⟨u, w', rfl, r1, r2⟩ := vals2 r
 have ec := RelV.tyOrRef hy rc r2
 subst ec
 cases ty with
 | plain ty => exact isinst_ok I r1 ty e fun tk => ⟨.bl b, H, I.tok _, rfl, q⟩
 | @exc a C ea T =>
  cases (show u = Value.ref a from r1)
  obtain ⟨p, _, _⟩ := (show ObjOk X.prog X.w H s.heap a (excO a (.ref C)) from I.hok a _ ea)
  exact PySem.W.kia_one (PySem.W.kitx_exc T) I.kIn p e (fun z => nomatch z) fun tk => ⟨.bl b, H, I.tok _, rfl, q⟩
end
def tIsi (K : PySem.W.Frag) (te : TE) (v : V) : TE := fun σ H Q => te σ H fun x H1 => rIsiC K [x, v] H1 Q
theorem pe_isi {X : Cx} {e c : Expr} {te : TE} {v : V} {p pos : Pos} (hg : Gl X "isinstance") (hm : X.mg "isinstance" = none) (he : PE X e te) (hc : PE X c (tC v)) (h1 : starEach [e, c] X.env = (false, eval e X.env) :: starEach [c] X.env := by rfl)
  (h2 : (backTo pos (starEach [c] X.env)).any (·.1) = false := by rfl) (h3 : starEach [c] X.env = (false, eval c X.env) :: starEach [] X.env := by rfl) : PE X (.Call (.Name "isinstance" p) [e, c] [] pos) (tIsi X.K te v) := fun pins s σ H Q I h =>
 pe_callB call_isi hg hm (by decide +kernel) (pa_cons he (pa_cons hc pa_nil h3) h1) (by decide) (by decide) h1 h2 pins s σ H Q I h
theorem Fun.okX {P : Program} {w : World} {K : PySem.W.Frag} {mg : Str → Option Value} {base : Heap} {x qual : Str} {st : Stmt} {f : Addr} {fd : FuncData} {N ps : List Str} {k : Nat} {sp : Sp} (F : Fun K x qual st f fd) (S : FnScope N ps (defScope st)) (len : ∀ vs H Q E, sp vs H Q E → vs.length = ps.length)
  (hbody : ∀ (cdv : Value) (A : Around) (outer : List Env) (s : Shared) (H : Hp) (vs : List V) (Q : VK) (E : XK), Room k (A.deeper (envOfC qual (defScope st) s.heap.objs.size f cdv)) → sp vs H Q E →
   ∃ t, PSs (cxOf (CXr P w) P w K mg base N qual (defScope st) f cdv A outer s H E) (defBody st) t ∧ t { nx := fun _ H' => Q .non H', rt := Q } (start N vs) H) : FnOk P w K mg base (CXr P w) (k + 1) f fd ps sp := by
 obtain ⟨oc, od, kV, doc, pm, an, cdv, ct, osl, rfl, lk, hcd⟩ := F.ex
 exact fn_of lk hcd S len fun A outer s H vs Q E hr hsp => hbody cdv A outer s H vs Q E hr hsp
theorem Same.upd {H H' : Hp} {p : Addr} (h : Same H H') (hp : H' p = none) (o : HO) : Same H (upd H' p o) := fun b u q => by
 have := h b u q
 rw [upd_ne (ne_of_none this hp)]
 exact this
end L2

namespace FR
theorem gcd_turn {a b : Int} (ha : 0 ≤ a) (hb : 0 ≤ b) : Int.gcd b (a % b) = Int.gcd a b := by
 obtain ⟨m, rfl⟩ := Int.eq_ofNat_of_zero_le ha
 obtain ⟨n, rfl⟩ := Int.eq_ofNat_of_zero_le hb
 rw [← Int.natCast_emod, Int.gcd_natCast_natCast, Int.gcd_natCast_natCast, Nat.gcd_comm n, ← Nat.gcd_rec, Nat.gcd_comm]
theorem gcd_abs (a b : Int) : Int.gcd (if a < 0 then -a else a) (if b < 0 then -b else b) = Int.gcd a b := by
 split <;> split <;> simp [Int.gcd_neg, Int.neg_gcd]
theorem gcd_end {a : Int} (ha : 0 ≤ a) : ((Int.gcd a 0 : Nat) : Int) = a := by
 rw [Int.gcd_zero_right]
 omega
def sgn (b : Int) (g : Int) : Int := if b < 0 then -g else g
def mk (t b : Int) : Int × Int := (t.fdiv (sgn b (Int.gcd t b)), b.fdiv (sgn b (Int.gcd t b)))
theorem gcd_pos {t b : Int} (hb : b ≠ 0) : 0 < Int.gcd t b := Int.gcd_pos_of_ne_zero_right t hb
theorem parts (t b : Int) (hb : b ≠ 0) : ∃ t' b' : Int, t = (Int.gcd t b : Int) * t' ∧ b = (Int.gcd t b : Int) * b' ∧ Int.gcd t' b' = 1 := by
 obtain ⟨t', ht⟩ := Int.gcd_dvd_left t b
 obtain ⟨b', hb'⟩ := Int.gcd_dvd_right t b
 refine ⟨t', b', ht, hb', ?_⟩
 have g0 := gcd_pos (t := t) hb
 have e : Int.gcd t b = Int.gcd t b * Int.gcd t' b' := by
  have h : Int.gcd ((Int.gcd t b : Int) * t') ((Int.gcd t b : Int) * b') = (Int.gcd t b : Int).natAbs * Int.gcd t' b' := Int.gcd_mul_left ..
  rw [← ht, ← hb'] at h
  simpa using h
 have e2 : Int.gcd t b * 1 = Int.gcd t b * Int.gcd t' b' := by omega
 exact (Nat.eq_of_mul_eq_mul_left g0 e2).symm
theorem mk_parts {t b g t' b' : Int} (g0 : 0 < g) (ht : t = g * t') (hb : b = g * b') : (t.fdiv (sgn b g) = (if b < 0 then -t' else t')) ∧ (b.fdiv (sgn b g) = if b < 0 then -b' else b') := by
 unfold sgn
 by_cases h : b < 0
 ·rw [if_pos h, if_pos h, if_pos h]
  have e1 : t = (-g) * (-t') := by rw [ht, Int.neg_mul_neg]
  have e2 : b = (-g) * (-b') := by rw [hb, Int.neg_mul_neg]
  constructor
  ·conv => lhs; rw [e1]
   exact Int.mul_fdiv_cancel_left _ (by omega)
  ·conv => lhs; rw [e2]
   exact Int.mul_fdiv_cancel_left _ (by omega)
 ·rw [if_neg h, if_neg h, if_neg h]
  constructor
  ·conv => lhs; rw [ht]
   exact Int.mul_fdiv_cancel_left _ (by omega)
  ·conv => lhs; rw [hb]
   exact Int.mul_fdiv_cancel_left _ (by omega)
structure Fr (f : Int × Int) : Prop where
 pos : 1 ≤ f.2
 low : Int.gcd f.1 f.2 = 1
theorem mk_fr {t b : Int} (hb : b ≠ 0) : Fr (mk t b) ∧ (mk t b).1 * b = t * (mk t b).2 := by
 obtain ⟨t', b', e1, e2, e3⟩ := parts t b hb
 have g0 : (0 : Int) < (Int.gcd t b : Int) := by have := gcd_pos (t := t) hb; omega
 obtain ⟨p1, p2⟩ := mk_parts g0 e1 e2
 have q1 : (mk t b).1 = if b < 0 then -t' else t' := p1
 have q2 : (mk t b).2 = if b < 0 then -b' else b' := p2
 have hs : b < 0 ↔ b' < 0 := by
  constructor
  ·intro h
   rcases Int.lt_or_le b' 0 with z | z
   ·exact z
   ·have := Int.mul_nonneg (Int.le_of_lt g0) z
    omega
  ·intro h
   have := Int.mul_neg_of_pos_of_neg g0 h
   omega
 have hb' : b' ≠ 0 := by
  rintro rfl
  rw [Int.mul_zero] at e2
  exact hb e2
 refine ⟨⟨?_, ?_⟩, ?_⟩
 ·rw [q2]
  split
  ·rename_i h
   have := hs.mp h
   omega
  ·rename_i h
   have : ¬ b' < 0 := fun z => h (hs.mpr z)
   omega
 ·rw [q1, q2]
  split
  ·rw [Int.gcd_neg, Int.neg_gcd, e3]
  ·exact e3
 ·rw [q1, q2]
  generalize hg : (Int.gcd t b : Int) = g at *
  rw [e1, e2]
  split
  ·rw [Int.neg_mul, Int.mul_neg, Int.mul_left_comm, Int.mul_assoc]
  ·rw [Int.mul_left_comm, Int.mul_assoc]
end FR

namespace L2
open PySem PySem.Spec PyProof.Rows
section
variable {X : Cx}
end
open PySem.W (Dat kqdP kqdPs kqdOk kqd_lay kqd_eqv)
mutual
inductive HasD (H : Hp) : V → Dat → Prop
 | int (i : Int) : HasD H (.int i) (.int i)
 | tup {a : Addr} {xs : List V} {ds : List Dat} : H a = some (.tup xs) → HasDs H xs ds → HasD H (.ref a) (.tuple ds)
 | lst {a : Addr} {xs : List V} {ds : List Dat} : H a = some (.lst xs) → HasDs H xs ds → HasD H (.ref a) (.list ds)
inductive HasDs (H : Hp) : List V → List Dat → Prop
 | nil : HasDs H [] []
 | cons {x : V} {xs : List V} {d : Dat} {ds : List Dat} : HasD H x d → HasDs H xs ds → HasDs H (x :: xs) (d :: ds)
end
mutual
theorem HasD.keep {H H' : Hp} (k : ∀ a o, H a = some o → H' a = some o) : ∀ {v : V} {d : Dat}, HasD H v d → HasD H' v d
 | _, _, .int i => .int i
 | _, _, .tup h r => .tup (k _ _ h) (HasDs.keep k r)
 | _, _, .lst h r => .lst (k _ _ h) (HasDs.keep k r)
theorem HasDs.keep {H H' : Hp} (k : ∀ a o, H a = some o → H' a = some o) : ∀ {v : List V} {d : List Dat}, HasDs H v d → HasDs H' v d
 | _, _, .nil => .nil
 | _, _, .cons h r => .cons (HasD.keep k h) (HasDs.keep k r)
end
mutual
theorem HasD.reads {P : Program} {w : World} {H : Hp} {h : Heap} (ok : HOk P w H h) : ∀ {v : V} {d : Dat}, HasD H v d → ∀ {u : Value}, RelV v u → ∃ as, Reads h u (kqdP d) as
 | _, _, .int i, _, ⟨t, e⟩ => by subst e; exact ⟨_, Reads.int i t⟩
 | _, _, .tup hh r, _, e => by
  have e : _ = Value.ref _ := e
  subst e
  obtain ⟨_, its, rv, o, ho, hc, n, hd⟩ := (show ObjOk P w H h _ _ from ok _ _ hh)
  obtain ⟨as, q⟩ := HasDs.reads ok r rv
  rw [kqdP]
  exact ⟨as, reads_tuple_at ho hc hd (by simpa using q)⟩
 | _, _, .lst hh r, _, e => by
  have e : _ = Value.ref _ := e
  subst e
  obtain ⟨_, its, n, rv, ho⟩ := (show ObjOk P w H h _ _ from ok _ _ hh)
  obtain ⟨as, q⟩ := HasDs.reads ok r rv
  rw [kqdP]
  exact ⟨_, reads_list_at ho rfl rfl (by simpa using q)⟩
theorem HasDs.reads {P : Program} {w : World} {H : Hp} {h : Heap} (ok : HOk P w H h) : ∀ {vs : List V} {ds : List Dat}, HasDs H vs ds → ∀ {us : List Value}, Vals vs us → ∃ as, ReadsAll h us (kqdPs ds) as
 | _, _, .nil, _, .nil => ⟨_, ReadsAll.nil⟩
 | _, _, .cons hd r, _, .cons rv rt => by
  obtain ⟨as, q⟩ := HasD.reads ok hd rv
  obtain ⟨bs, p⟩ := HasDs.reads ok r rt
  rw [kqdPs]
  exact ⟨_, ReadsAll.cons q p⟩
end
section
variable {X : Cx}
end
section
variable {prog : Program} {w : World} {A : Around} {E : Value → Shared → Prop} {s : Shared} {d it : Addr} {es : Array DictEntry} {ep i : Nat}
end
section
variable {prog : Program} {w : World} {A : Around} {R : Result → Shared → Prop} {s : Shared}
abbrev testsOf (ifs : List Expr) (env : Env) : Sem Bool := forIn ifs true fun c r => if r = true then do let ok ← isTrue c env (eval c env); pure (ForInStep.yield ok) else pure (ForInStep.yield r)
theorem comp_loop {elt target iter : Expr} {ifs : List Expr} {scope : Scope} {pos : Pos} {it acc : Value} {env : Env} (I : Nat → Shared → Prop)
  (turn : ∀ n s, I n s → wpAny (model prog w) A (pyNext it) (fun r s₁ => match r with
   | none => R (.ok .next) s₁
   | some v => wpAny (model prog w) A (letOwnedTupleGo target it v) (fun _ s₀ => wpAny (model prog w) A (assign target env v) (fun _ s₂ =>
     wpAny (model prog w) A (testsOf ifs env) (fun ok s₃ =>
      if ok = true then wpAny (model prog w) A (eval elt env) (fun x s₄ =>
       wpAny (model prog w) A (call (.builtin "list.append") [acc, x]) (fun _ s₅ => ∃ m, m < n ∧ I m s₅) (fun _ _ => False) s₄) (fun _ _ => False) s₃
      else ∃ m, m < n ∧ I m s₃) (fun _ _ => False) s₂) (fun _ _ => False) s₀) (fun _ _ => False) s₁) (fun _ _ => False) s)
  (n : Nat) (h : I n s) : codeAny (model prog w) A (.compLoop (.ListComp elt [⟨target, iter, ifs, 0⟩] scope pos) 0 it acc env) R s := by
 refine codeAny_loop rfl I (fun n s hI => ?_) n h
 show wpAny _ A ((compTurn (.ListComp elt [⟨target, iter, ifs, 0⟩] scope pos) 0 it acc env).onRaise (fun x => do noteFrame x env; theTreesLotGoes x)) _ _ s
 refine wpAny_noted ?_
 rw [compTurn_list]
 refine wpAny_bind (wpAny_standAt (wpAny_bind (wpAny_mono (turn n s hI) (fun r s₁ h₁ => ?_) fun _ _ z => z.elim)))
 cases r with
 | none => exact wpAny_pure h₁
 | some v =>
  refine wpAny_bind (wpAny_mono h₁ (fun _ s₀ h₀ => ?_) fun _ _ z => z.elim)
  refine wpAny_bind (wpAny_mono h₀ (fun _ s₂ h₂ => wpAny_bind (wpAny_mono h₂ (fun ok s₃ h₃ => ?_) fun _ _ z => z.elim)) fun _ _ z => z.elim)
  cases ok with
  | false => exact wpAny_pure ⟨rfl, h₃⟩
  | true =>
   exact wpAny_bind (wpAny_bind (wpAny_mono h₃ (fun x s₄ h₄ => wpAny_bind (wpAny_mono h₄ (fun _ s₅ h₅ => wpAny_pure (wpAny_pure ⟨rfl, h₅⟩)) fun _ _ z => z.elim)) fun _ _ z => z.elim))
end
def PTs (X : Cx) (ifs : List Expr) (t : TT) : Prop :=
 ∀ (pins : List (Addr × Obj)) (s : Shared) (σ : St) (H : Hp) (Q : Bool → Hp → Prop), Inv X pins σ H s → t σ H Q → wpAny (model X.prog X.w) X.A (testsOf ifs X.env) (TP X pins σ Q) X.xe s
def tYes : TT := fun _ H Q => Q true H
theorem pts_nil {X : Cx} : PTs X [] tYes := fun _ _ _ H _ I h => wpAny_tests_nil ⟨H, I, h⟩
def tCompG (wi : TI) (g : TG) (tt : TT) (te : TE) (n : Nat) (js : List Nat) : TE := fun σ H Q => wi σ H fun J H1 => ∀ D, H1 D = none → ∃ (N : Nat) (W : Nat → List V → Hp → Prop), W 0 [] (upd H1 D (.lst [])) ∧ ∀ i ys H2, W i ys H2 →
 (J.stop i H2 ∧ Q (.ref D) H2) ∨ (i < N ∧ J.go i H2 ∧ ∀ v H3, J.yld i H2 v H3 → g v (List.replicate n none ++ caps js σ) H3 fun σ2 H4 => (σ2.length = n + js.length ∧ σ2.drop n = caps js σ) ∧ tt σ2 H4 fun b H5 =>
  if b = true then te σ2 H5 fun y H6 => H6 D = some (.lst ys) ∧ ys.length < sizeLine ∧ W (i + 1) (ys ++ [y]) (upd H6 D (.lst (ys ++ [y]))) else W (i + 1) ys H5)
section
variable {X : Cx}
theorem Inv.but {pins : List (Addr × Obj)} {σ : St} {H : Hp} {s : Shared} {C : Addr} {h' : Heap} (I : Inv X pins σ H s) (f : FpOk X pins H C) (hs : Heap.SameBut C s.heap h') : Inv X pins σ H { s with heap := h' } := by
 have ne : ∀ b, b ∉ [C] → b ≠ C := fun b hb z => hb (by rw [z]; exact .head _)
 refine I.call' (s' := { s with heap := h' }) (ch := [C]) rfl ⟨fun b o e n hb hx => (hs.2 b (ne b hx)).trans e, fun b o e n hb hx => ⟨o.slots, (hs.2 b (ne b hx)).trans e⟩, fun b o e n hx => n, fun b o e hx => ⟨o, (hs.2 b (ne b hx)).trans e⟩, fun b xs e => e, fun b o u e => e, fun b ps e => ⟨#[], by rw [Array.append_empty]; exact e⟩⟩ (hok_keep I.hok fun b o nn e => (hs.2 b (fun z => nn (by rw [z]; exact f.1))).trans e) I.bare fun b hb => ?_
 rw [List.mem_singleton.mp hb]
 exact ⟨f.2.2.2.1, f.2.1, f.2.2.2.2.1, f.2.2.2.2.2⟩
set_option maxHeartbeats 8000000 in
theorem comp_core {elt iter tg : Expr} {pos : Pos} {scope : Scope} {ifs : List Expr} {wi : TI} {g : TG} {tt : TT} {te : TE} {xs ys : List Str} {js : List Nat} {cl : List (Str × Addr)} (hc : X.calm = true) (hi : PI X tg iter wi)
  (hcl : ClOk X scope cl) (hcap : CapOk X scope cl ys js) (hcell : ∀ y ∈ scope.names, y.2 ≠ .cell) (hkind : scope.kind = .function) (hnames : ∀ y ∈ scope.names, y.2 = .local → scope.names.lookup y.1 = some .local)
  (hg : ∀ C s₀ H₀ ex pn, PG (blockCx X scope cl C (xs ++ ys) s₀ H₀ ex pn) tg g) (ht : ∀ C s₀ H₀ ex pn, PTs (blockCx X scope cl C (xs ++ ys) s₀ H₀ ex pn) ifs tt) (hb : ∀ C s₀ H₀ ex pn, PE (blockCx X scope cl C (xs ++ ys) s₀ H₀ ex pn) elt te)
  (hs : ∀ x, foldedSetIterable iter X.env x = pure x) {use : Option (Value → Sem Unit)} {QQ : Value → Shared → Prop} {Q : VK} {pins : List (Addr × Obj)} {s : Shared} {σ : St} {H : Hp} {cp : Pos} (I : Inv X pins σ H s)
  (hfin : ∀ (C D : Addr) (s' : Shared) (H' : Hp), Inv X pins σ H' s' → FpOk X pins H' C → (∃ m, s'.heap.Ns C m) → Q (.ref D) H' → compPost (model X.prog X.w) X.A X.xe use QQ (.ref D) C (.ok .next) s')
  (h : tCompG wi g tt te xs.length js σ H Q) :
  wpAny (model X.prog X.w) X.A (comprehension (.ListComp elt [⟨tg, iter, ifs, 0⟩] scope pos) scope X.env cp (newList []) false (eval iter X.env) use) QQ X.xe s := by
 refine wpAny_comprehension_free rfl hs hcl.clos hkind hnames (thn (hi pins s σ H _ I h) fun v s1 h1 => thn h1 fun itv s2 h2 => ?_)
 obtain ⟨it, fp, tn, J, H2, e, I2, T, st2, f2, q2⟩ := h2
 subst e
 obtain ⟨n, W, w0, turn⟩ := q2 s2.heap.objs.size I2.fresh
 refine wpAny_newObj_type (wpAny_newFunctionEnv hcell (by intro y hy; simp at hy) (fun h₁ hns₁ hsb₁ => ?_) hkind)
 dsimp only at hns₁ hsb₁ ⊢
 have I3 := I2.lnew (ys := []) (its := []) (t' := s2.toks) .nil (Nat.zero_le _)
 generalize hg3 : s2.heap.push { cls := .type "list", dict := none, data := .seq ([] : List Value).toArray } = g3 at hns₁ hsb₁ I3 ⊢
 have sz3 : g3.objs.size = s2.heap.objs.size + 1 := by rw [← hg3, Heap.size_push]
 generalize hC : g3.objs.size = C at hns₁ hsb₁ ⊢
 have old3 : ∀ b o, g3.get? b = some o → h₁.get? b = some o := fun b o q => hsb₁.extBut b o (by rw [← hC]; exact Nat.ne_of_lt (Heap.lt_size q)) (Heap.get?_push_of_some _ q)
 have old2 : ∀ b o, s2.heap.get? b = some o → g3.get? b = some o := fun b o q => by rw [← hg3]; exact Heap.get?_push_of_some _ q
 have fpl : ∀ b ∈ fp, ∃ o, s2.heap.get? b = some o ∧ ∀ v, o.data ≠ .cell v := T.obj _ _ st2
 have fplt : ∀ b ∈ fp, b < s2.heap.objs.size := fun b hb => let ⟨o, q, _⟩ := fpl b hb; Heap.lt_size q
 have H3n : ∀ b, b ≠ s2.heap.objs.size → upd H2 s2.heap.objs.size (.lst []) b = H2 b := fun b hb => upd_ne hb
 have fp3 : ∀ b ∈ fp, upd H2 s2.heap.objs.size (.lst []) b = none := fun b hb => by rw [H3n b (Nat.ne_of_lt (fplt b hb))]; exact (f2 b hb).1
 have okX := I3.ok
 have inj : ∀ y z c, cl.lookup y = some c → cl.lookup z = some c → y = z := fun y z c h1 h2 => okX.inj y z c (hcl.sub y c h1) (hcl.sub z c h2)
 have cellE : ∀ y c, cl.lookup y = some c → ∃ v, g3.IsCell c v := fun y c q => I3.cell y c (hcl.sub y c q)
 have st3 : g3.FunFrames X.base X.stack := I3.stack
 have exlt : ∀ b ∈ fp, b ≠ C := fun b hb => by rw [← hC, sz3]; exact Nat.ne_of_lt (Nat.lt_succ_of_lt (fplt b hb))
 have frlt : ∀ b ∈ frs X.stack, b < g3.objs.size := fun b hb => let ⟨_, o, q, _⟩ := st3.mem hb; Heap.lt_size q
 have okB : (blockCx X scope cl C (xs ++ ys) { s2 with heap := g3 } (upd H2 s2.heap.objs.size (.lst [])) fp (X.pn ++ pins)).Ok := by
  refine ⟨okX.mod, hkind, okX.glob, okX.blt, Nat.le_of_eq hC, inj, fun y hy => hcl.has y hy, (fun y c hf _ => nomatch hf), okX.hd, okX.frames, .inl rfl, fun b hb => ⟨exlt b hb, fun y c q z => ?_⟩, I3.bs, Nat.le_trans okX.bsz I3.sz, fun b o q hb => ?_, fun b hb => ?_, st3, I3.stkFree⟩
  ·subst z
   exact (f2 c hb).2.2.2.2.1 y c (hcl.sub y c q) rfl
  ·rcases (f2 b hb).2.2.2.1 with z | z
   ·exact okX.noex b o q z
   ·have := Heap.lt_size (okX.bs b o q).1
    exact absurd (Nat.lt_of_lt_of_le this z) (Nat.lt_irrefl _)
  ·intro hz
   rcases List.mem_cons.mp (I3.stkSub b hz) with z | z
   ·exact (f2 b hb).2.1 z
   ·exact (f2 b hb).2.2.1 z
 have tot : ∀ tk : Nat, Inv (blockCx X scope cl C (xs ++ ys) { s2 with heap := g3 } (upd H2 s2.heap.objs.size (.lst [])) fp (X.pn ++ pins)) [] (List.replicate xs.length none ++ caps js σ) (upd H2 s2.heap.objs.size (.lst [])) { s2 with heap := h₁, toks := tk } := fun tk => by
  refine ⟨okB, rfl, I3.bare, Un.kept old3, ⟨_, hns₁, fun i y v' e1 e2 e3 => ?_⟩, fun y c q => ?_, I3.hok.fresh (Nat.le_of_eq hC), fun y c q => ?_, fun p hp => ?_, I3.hok.kept old3, ?_⟩
  ·by_cases hix : i < xs.length
   ·rw [List.getElem?_append_left (by rw [List.length_replicate]; exact hix), List.getElem?_replicate] at e2
    split at e2 <;> cases e2
   ·have hix' : xs.length ≤ i := by omega
    obtain ⟨k, rfl⟩ : ∃ k, i = xs.length + k := ⟨i - xs.length, by omega⟩
    have e1' : ys[k]? = some y := by
     rw [List.getElem?_append_right (by omega)] at e1
     simpa using e1
    have e2' : (caps js σ)[k]? = some (some v') := by
     rw [List.getElem?_append_right (by rw [List.length_replicate]; omega), List.length_replicate] at e2
     simpa using e2
    unfold caps at e2'
    rw [List.getElem?_map] at e2'
    cases ej : js[k]? with
    | none => rw [ej] at e2'; cases e2'
    | some j =>
     rw [ej] at e2'
     have e2'' : (σ[j]?).getD none = some v' := Option.some.inj e2'
     have eσ : σ[j]? = some (some v') := by
      cases es : σ[j]? with
      | none => rw [es] at e2''; cases e2''
      | some z => rw [es] at e2''; have : z = some v' := e2''; rw [this]
     obtain ⟨c1, c2, c3, c4, c5⟩ := hcap.at_ k y j e1' ej
     obtain ⟨m0, hn0, hl0⟩ := I3.loc
     obtain ⟨u, r, l⟩ := hl0 j y v' c1 eσ (c2.elim (fun z => .inr (.inl z)) fun z => .inr (.inr z))
     refine ⟨u, r, .inr ⟨c3, ?_⟩⟩
     rcases l with ⟨l, _⟩ | ⟨_, c, hcc, z⟩
     ·rcases c2 with c2 | c2
      ·rw [c2] at l; cases l
      ·rw [c2] at l; cases l
     ·obtain ⟨o, ho, hd⟩ := z
      exact ⟨c, c5.trans hcc, o, old3 c o ho, hd⟩
  ·obtain ⟨v0, o, ho, hd⟩ := cellE y c q
   exact ⟨v0, o, old3 c o ho, hd⟩
  ·exact I3.freeC y c (hcl.sub y c q)
  ·have hp' : p ∈ X.pn ++ pins := by simpa using hp
   obtain ⟨p1, p2, p3, p4, p5⟩ := I3.pin p hp'
   refine ⟨old3 _ _ p1, p2, ?_, fun hz => ?_, p5⟩
   ·show p.1 ≠ C
    rw [← hC]
    exact Nat.ne_of_lt (Heap.lt_size p1)
   ·rcases List.mem_cons.mp (I3.stkSub p.1 hz) with z | z
    ·exact p3 z
    ·exact p4 z
  ·show (List.replicate xs.length none ++ caps js σ).length = (xs ++ ys).length
   unfold caps
   simp [hcap.len]
 have fpB : ∀ {H' : Hp}, (∀ b ∈ fp, H' b = none) → ∀ b ∈ fp, FpOk (blockCx X scope cl C (xs ++ ys) { s2 with heap := g3 } (upd H2 s2.heap.objs.size (.lst [])) fp (X.pn ++ pins)) [] H' b := fun hn b hb =>
  ⟨hn b hb, exlt b hb, okB.exfs b hb, .inl hb, (okB.exf b hb).2, fun p hp => (f2 b hb).2.2.2.2.2 p (by simpa using hp)⟩
 have fin : ∀ s' : Shared, (∃ i zs σ' H', Inv (blockCx X scope cl C (xs ++ ys) { s2 with heap := g3 } (upd H2 s2.heap.objs.size (.lst [])) fp (X.pn ++ pins)) [] σ' H' s' ∧ W i zs H' ∧ J.stop i H' ∧ Q (.ref s2.heap.objs.size) H') →
   compPost (model X.prog X.w) X.A X.xe use QQ (.ref s2.heap.objs.size) C (.ok .next) s' := by
  rintro s' ⟨i, zs, σ', H', Ib, w, stop, q⟩
  obtain ⟨m', hn', _⟩ := Ib.loc
  have ub := Ib.base
  have un : Un (frs X.stack) fp (upd H2 s2.heap.objs.size (.lst [])) H' g3 s'.heap := ub
  have IX : Inv X pins σ H' s' := I3.call' (s' := s') (ch := fp) Ib.os un Ib.hok Ib.bare fun b hb => ⟨(f2 b hb).2.2.2.1, (f2 b hb).2.1, (f2 b hb).2.2.2.2.1, (f2 b hb).2.2.2.2.2⟩
  exact hfin C _ s' H' IX (I3.fpOk (Nat.le_of_eq hC) Ib.free) ⟨m', hn'⟩ q
 have loop : ∀ s₃ : Shared, (∃ tk, s₃ = { s2 with heap := h₁, toks := tk }) →
   codeAny (model X.prog X.w) X.A (.compLoop (.ListComp elt [⟨tg, iter, ifs, 0⟩] scope pos) 0 (.ref it) (.ref s2.heap.objs.size) (compEnvC scope cl C X.env)) (compPost (model X.prog X.w) X.A X.xe use QQ (.ref s2.heap.objs.size) C) s₃ := by
  rintro s₃ ⟨tk, rfl⟩
  refine comp_loop (fun k s' => ∃ i zs H', k = n + 1 - i ∧ i ≤ n ∧ Inv (blockCx X scope cl C (xs ++ ys) { s2 with heap := g3 } (upd H2 s2.heap.objs.size (.lst [])) fp (X.pn ++ pins)) [] (List.replicate xs.length none ++ caps js σ) H' s' ∧ tn i s'.heap ∧ (∀ b ∈ fp, H' b = none) ∧ W i zs H')
   ?_ (n + 1) ⟨0, [], _, rfl, Nat.zero_le _, tot tk, T.keep _ _ _ st2 fun b hb o q => old3 b o (old2 b o q), fp3, w0⟩
  rintro k s' ⟨i, zs, H', rfl, hin, Ib, st, fr, w⟩
  rcases turn i zs H' w with ⟨stop, qq⟩ | ⟨hlt, go, step⟩
  ·refine wpAny_mono (T.done (blockCx X scope cl C (xs ++ ys) { s2 with heap := g3 } (upd H2 s2.heap.objs.size (.lst [])) fp (X.pn ++ pins)) rfl rfl rfl hc i [] s' _ H' (fun _ _ => False) Ib (fpB fr) st stop) (fun r s4 ⟨hr, I4⟩ => ?_) fun _ _ z => z.elim
   subst hr
   exact fin s4 ⟨i, zs, _, H', I4, w, stop, qq⟩
  ·refine wpAny_mono (T.item (blockCx X scope cl C (xs ++ ys) { s2 with heap := g3 } (upd H2 s2.heap.objs.size (.lst [])) fp (X.pn ++ pins)) rfl rfl rfl hc i [] s' _ H' (fun _ _ => False) Ib (fpB fr) st go) (fun r s4 ⟨u, hr, h4⟩ => ?_) fun _ _ z => z.elim
   subst hr
   refine wpAny_mono h4 (fun _ s5 ⟨v5, H5, I5, r5, y5, st5, fr5⟩ => ?_) fun _ _ z => z.elim
   have I5' := I5.pinned (fpB fr5) (T.obj _ _ st5)
   have hw5 := step v5 H5 y5
   refine wpAny_mono (hg C _ _ fp (X.pn ++ pins) _ s5 _ H5 v5 u _ I5' r5 hw5) (fun _ s6 ⟨σ6, H6, I6, ⟨hl6, hd6⟩, e6⟩ => ?_) fun _ _ z => z.elim
   have back : ∀ {H' : Hp} {s' : Shared} {pins' : List (Addr × Obj)}, Inv (blockCx X scope cl C (xs ++ ys) { s2 with heap := g3 } (upd H2 s2.heap.objs.size (.lst [])) fp (X.pn ++ pins)) pins' σ6 H' s' → Inv (blockCx X scope cl C (xs ++ ys) { s2 with heap := g3 } (upd H2 s2.heap.objs.size (.lst [])) fp (X.pn ++ pins)) pins' (List.replicate xs.length none ++ caps js σ) H' s' := fun I' => by
    refine I'.weak ?_ fun j v' e => ?_
    ·rw [hl6]; unfold caps; simp
    ·by_cases hj : j < xs.length
     ·rw [List.getElem?_append_left (by rw [List.length_replicate]; exact hj), List.getElem?_replicate] at e
      split at e <;> cases e
     ·rw [List.getElem?_append_right (by rw [List.length_replicate]; omega), List.length_replicate, ← hd6, List.getElem?_drop] at e
      rw [← e]
      congr 1
      omega
   refine wpAny_mono (ht C _ _ fp (X.pn ++ pins) _ s6 _ _ _ I6 e6) (fun ok s6b ⟨H6b, I6b, e6b⟩ => ?_) fun _ _ z => z.elim
   cases ok with
   | false =>
    rw [if_neg Bool.false_ne_true]
    have e6c : W (i + 1) zs H6b := by simpa using e6b
    have I8 := back I6b
    refine ⟨n + 1 - (i + 1), by omega, i + 1, zs, _, rfl, hlt, I8.unpinned (pins := []), ?_, fun b hb => ?_, e6c⟩
    ·exact T.keep _ _ _ st5 fun b hb o q => (I8.pin (b, o) (List.mem_append_right _ (List.mem_append_right _ (mem_pinsAt hb q)))).1
    ·obtain ⟨o, q, d⟩ := T.obj _ _ st5 b hb
     exact (I8.pin (b, o) (List.mem_append_right _ (List.mem_append_right _ (mem_pinsAt hb q)))).2.1
   | true =>
    rw [if_pos rfl]
    have e6c := e6b
    rw [if_pos rfl] at e6c
    refine wpAny_mono (hb C _ _ fp (X.pn ++ pins) _ s6b _ _ _ I6b e6c) (fun y s7 ⟨yv, H7, I7, r7, hD, hz, w7⟩ => ?_) fun _ _ z => z.elim
    obtain ⟨z7, its, n7, rv7, hl7, e7⟩ := I7.lstM hD
    refine append_at (n := n7) (its := its.toArray) e7 (fun h₈ sb8 eD8 => ?_) (by rw [List.size_toArray, ← hl7]; exact Nat.le_of_lt hz)
    have I8 : Inv _ _ _ (upd H7 s2.heap.objs.size (.lst (zs ++ [yv]))) { s7 with heap := h₈, toks := s7.toks } := I7.write (x := s2.heap.objs.size) (e := s2.heap.objs.size) (by rw [hD]; exact trivial) (.inl rfl) (fun b u hb q => (sb8.2 b hb).trans q) ⟨_, eD8⟩
     ⟨by rw [List.length_append]; exact hz, its ++ [y], n7 + 1, rv7.append (.cons r7 .nil), by rw [eD8, List.push_toArray]⟩
    have I9 := back I8
    refine ⟨n + 1 - (i + 1), by omega, i + 1, zs ++ [yv], _, rfl, hlt, I9.unpinned (pins := []), ?_, fun b hb => ?_, w7⟩
    ·exact T.keep _ _ _ st5 fun b hb o q => (I8.pin (b, o) (List.mem_append_right _ (List.mem_append_right _ (mem_pinsAt hb q)))).1
    ·obtain ⟨o, q, d⟩ := T.obj _ _ st5 b hb
     exact (I8.pin (b, o) (List.mem_append_right _ (List.mem_append_right _ (mem_pinsAt hb q)))).2.1
 exact codeAny_compStart_list (loop _ ⟨_, rfl⟩) (T.self _ 0 _ _ _ (T.keep _ _ _ st2 fun b hb o q => old3 b o (old2 b o q)) (loop _ ⟨_, rfl⟩))
theorem pe_compG {elt iter tg : Expr} {pos : Pos} {scope : Scope} {ifs : List Expr} {wi : TI} {g : TG} {tt : TT} {te : TE} {xs ys : List Str} {js : List Nat} {cl : List (Str × Addr)} (hc : X.calm = true) (hi : PI X tg iter wi)
  (hcl : ClOk X scope cl) (hcap : CapOk X scope cl ys js) (hcell : ∀ y ∈ scope.names, y.2 ≠ .cell) (hkind : scope.kind = .function) (hnames : ∀ y ∈ scope.names, y.2 = .local → scope.names.lookup y.1 = some .local)
  (hg : ∀ C s₀ H₀ ex pn, PG (blockCx X scope cl C (xs ++ ys) s₀ H₀ ex pn) tg g) (ht : ∀ C s₀ H₀ ex pn, PTs (blockCx X scope cl C (xs ++ ys) s₀ H₀ ex pn) ifs tt) (hb : ∀ C s₀ H₀ ex pn, PE (blockCx X scope cl C (xs ++ ys) s₀ H₀ ex pn) elt te)
  (hs : ∀ x, foldedSetIterable iter X.env x = pure x := by intro _; rfl) :
  PE X (.ListComp elt [⟨tg, iter, ifs, 0⟩] scope pos) (tCompG wi g tt te xs.length js) := by
 intro pins s σ H Q I h
 rw [eval_ListComp]
 exact comp_core hc hi hcl hcap hcell hkind hnames hg ht hb hs (use := none) (QQ := EP X pins σ Q) (Q := Q) I (fun C D s' H' IX f ⟨m, hn⟩ q => ⟨m, hn, fun h' hs' => ⟨.ref D, H', IX.but f hs', rfl, q⟩⟩) h
end
end L2

namespace M
open PySem PySem.Spec PyProof.Rows L2
abbrev D := PyData
inductive Res (α : Type) where
 | ok (a : α)
 | exc (C : Addr)
 | bad
def Res.bind {α β : Type} (r : Res α) (f : α → Res β) : Res β := match r with
 | .ok a => f a
 | .exc C => .exc C
 | .bad => .bad
def wpR {α : Type} (r : Res α) (Q : α → Prop) (E : Addr → Prop) : Prop := match r with
 | .ok a => Q a
 | .exc C => E C
 | .bad => False
theorem wpR_bind {α β : Type} {r : Res α} {f : α → Res β} {Q : β → Prop} {E : Addr → Prop} : wpR (r.bind f) Q E = wpR r (fun a => wpR (f a) Q E) E := by cases r <;> rfl
theorem wpR_mono {α : Type} {r : Res α} {Q Q' : α → Prop} {E E' : Addr → Prop} (h : wpR r Q E) (hQ : ∀ a, Q a → Q' a) (hE : ∀ C, E C → E' C) : wpR r Q' E' := by
 cases r with
 | ok a => exact hQ a h
 | exc C => exact hE C h
 | bad => exact h
inductive L where
 | p (d : D)
 | o (d : D)
 | x (C : Addr)
 | h (a : Addr)
inductive Ev where
 | p (d : D)
 | f (d : D)
 | b (d : D)
 | x (C : Addr)
def Ev.c : Ev → Ev
 | .f d => .p d
 | r => r
abbrev En := List (Option L)
def kD : Key → D
 | .inl i => .int i
 | .inr x => .str x
def tkD (ks : List Key) : D := .tuple (ks.map kD)
mutual
inductive Rep (K : PySem.W.Frag) (G : Hp) : V → D → Prop
 | non : Rep K G .non .none
 | bl (b : Bool) : Rep K G (.bl b) (.bool b)
 | int (i : Int) : Rep K G (.int i) (.int i)
 | str (x : Str) : Rep K G (.str x) (.str x)
 | tup {a : Addr} {xs : List V} {ds : List D} : G a = some (.tup xs) → Reps K G xs ds → Rep K G (.ref a) (.tuple ds)
 | lst {a : Addr} {xs : List V} {ds : List D} : Rd G a (.lst xs) → Reps K G xs ds → Rep K G (.ref a) (.list ds)
 | dT {a : Addr} {kv : List (List Key × V)} {kvs : List (D × D)} : G a = some (.dT kv) → RepT K G kv kvs → Rep K G (.ref a) (.dict kvs)
 | dK {a : Addr} {kv : List (Key × V)} {kvs : List (D × D)} : G a = some (.dK kv) → RepK K G kv kvs → Rep K G (.ref a) (.dict ((.none, .none) :: kvs))
inductive Reps (K : PySem.W.Frag) (G : Hp) : List V → List D → Prop
 | nil : Reps K G [] []
 | cons {x : V} {xs : List V} {d : D} {ds : List D} : Rep K G x d → Reps K G xs ds → Reps K G (x :: xs) (d :: ds)
inductive RepT (K : PySem.W.Frag) (G : Hp) : List (List Key × V) → List (D × D) → Prop
 | nil : RepT K G [] []
 | cons {k : List Key} {x : V} {d : D} {kv : List (List Key × V)} {kvs : List (D × D)} : Rep K G x d → RepT K G kv kvs → RepT K G ((k, x) :: kv) ((tkD k, d) :: kvs)
inductive RepK (K : PySem.W.Frag) (G : Hp) : List (Key × V) → List (D × D) → Prop
 | nil : RepK K G [] []
 | cons {k : Key} {x : V} {d : D} {kv : List (Key × V)} {kvs : List (D × D)} : Rep K G x d → RepK K G kv kvs → RepK K G ((k, x) :: kv) ((kD k, d) :: kvs)
end
inductive Cont (K : PySem.W.Frag) (G : Hp) : HO → D → Prop
 | lst {xs : List V} {ds : List D} : Reps K G xs ds → Cont K G (.lst xs) (.list ds)
 | dT {kv : List (List Key × V)} {kvs : List (D × D)} : RepT K G kv kvs → Cont K G (.dT kv) (.dict kvs)
 | dK {kv : List (Key × V)} {kvs : List (D × D)} : RepK K G kv kvs → Cont K G (.dK kv) (.dict ((.none, .none) :: kvs))
section
variable {K : PySem.W.Frag} {G G' H H' : Hp}
theorem rd_mono {a : Addr} {u : HO} (s : Same G G') (h : Rd G a u) : Rd G' a u := by
 rcases h with h | ⟨o, h⟩
 ·exact .inl (s _ _ h)
 ·exact .inr ⟨o, s _ _ h⟩
mutual
theorem Rep.mono (s : Same G G') : ∀ {v : V} {d : D}, Rep K G v d → Rep K G' v d
 | _, _, .non => .non
 | _, _, .bl b => .bl b
 | _, _, .int i => .int i
 | _, _, .str x => .str x
 | _, _, .tup h r => .tup (s _ _ h) (Reps.mono s r)
 | _, _, .lst h r => .lst (rd_mono s h) (Reps.mono s r)
 | _, _, .dT h r => .dT (s _ _ h) (RepT.mono s r)
 | _, _, .dK h r => .dK (s _ _ h) (RepK.mono s r)
theorem Reps.mono (s : Same G G') : ∀ {v : List V} {d : List D}, Reps K G v d → Reps K G' v d
 | _, _, .nil => .nil
 | _, _, .cons h r => .cons (Rep.mono s h) (Reps.mono s r)
theorem RepT.mono (s : Same G G') : ∀ {v : List (List Key × V)} {d : List (D × D)}, RepT K G v d → RepT K G' v d
 | _, _, .nil => .nil
 | _, _, .cons h r => .cons (Rep.mono s h) (RepT.mono s r)
theorem RepK.mono (s : Same G G') : ∀ {v : List (Key × V)} {d : List (D × D)}, RepK K G v d → RepK K G' v d
 | _, _, .nil => .nil
 | _, _, .cons h r => .cons (Rep.mono s h) (RepK.mono s r)
end
theorem Cont.mono (s : Same G G') {o : HO} {d : D} (h : Cont K G o d) : Cont K G' o d := by
 cases h with
 | lst r => exact .lst (r.mono s)
 | dT r => exact .dT (r.mono s)
 | dK r => exact .dK (r.mono s)
theorem Cont.rep {a : Addr} {o : HO} {d : D} (h : Cont K G o d) (e : G a = some o) : Rep K G (.ref a) d := by
 cases h with
 | lst r => exact .lst (.inl e) r
 | dT r => exact .dT e r
 | dK r => exact .dK e r
theorem Reps.length : ∀ {xs : List V} {ds : List D}, Reps K G xs ds → xs.length = ds.length
 | _, _, .nil => rfl
 | _, _, .cons _ r => by rw [List.length_cons, List.length_cons, Reps.length r]
theorem Reps.get' : ∀ {xs : List V} {ds : List D} {i : Nat} {d : D}, Reps K G xs ds → ds[i]? = some d → ∃ x, xs[i]? = some x ∧ Rep K G x d
 | _, _, _, _, .nil, e => by simp at e
 | _, _, 0, _, .cons h _, e => by simp at e; subst e; exact ⟨_, rfl, h⟩
 | _, _, i + 1, _, .cons _ r, e => by
  have := Reps.get' (i := i) r (by simpa using e)
  simpa using this
theorem Reps.append : ∀ {xs ys : List V} {ds es : List D}, Reps K G xs ds → Reps K G ys es → Reps K G (xs ++ ys) (ds ++ es)
 | _, _, _, _, .nil, r => r
 | _, _, _, _, .cons h t, r => .cons h (Reps.append t r)
theorem Reps.take : ∀ {xs : List V} {ds : List D} (n : Nat), Reps K G xs ds → Reps K G (xs.take n) (ds.take n)
 | _, _, 0, _ => .nil
 | _, _, _ + 1, .nil => .nil
 | _, _, n + 1, .cons h t => .cons h (Reps.take n t)
theorem Reps.drop : ∀ {xs : List V} {ds : List D} (n : Nat), Reps K G xs ds → Reps K G (xs.drop n) (ds.drop n)
 | _, _, 0, r => r
 | _, _, _ + 1, .nil => .nil
 | _, _, n + 1, .cons _ t => Reps.drop n t
end
structure Step (G H G' H' : Hp) : Prop where
 g : Same G G'
 h : Same H H'
 gh : Same G' H'
 new : ∀ b, H b ≠ none → G b = none → G' b = none ∨ ∃ xs, H b = some (.tup xs)
theorem Step.off {G H G' H' : Hp} (s : Step G H G' H') {b : Addr} {o : HO} (h : H b = some o) (n : ∀ xs, o ≠ .tup xs) (g : G b = none) : G' b = none := by
 rcases s.new b (by rw [h]; exact fun z => nomatch z) g with z | ⟨xs, z⟩
 ·exact z
 ·rw [h] at z; exact absurd (Option.some.inj z) (n xs)
theorem same_ne {H H' : Hp} (s : Same H H') {b : Addr} (h : H b ≠ none) : H' b ≠ none := by
 cases e : H b with
 | none => exact absurd e h
 | some o => rw [s b o e]; exact fun z => nomatch z
theorem Step.refl {G H : Hp} (s : Same G H) : Step G H G H := ⟨Same.refl _, Same.refl _, s, fun _ _ h => .inl h⟩
theorem Step.trans {G H G1 H1 G2 H2 : Hp} (a : Step G H G1 H1) (b : Step G1 H1 G2 H2) : Step G H G2 H2 :=
 ⟨a.g.trans b.g, a.h.trans b.h, b.gh, fun c hc hg => by
  rcases a.new c hc hg with z | z
  ·rcases b.new c (same_ne a.h hc) z with y | ⟨xs, y⟩
   ·exact .inl y
   ·cases e : H c with
    | none => exact absurd e hc
    | some o =>
     rw [a.h _ _ e] at y
     exact .inr ⟨xs, y⟩
  ·exact .inr z⟩
theorem Step.put {G H : Hp} {a : Addr} {o : HO} (s : Same G H) (e : H a = none) : Step G H (upd G a o) (upd H a o) :=
 ⟨Same.upd (Same.refl _) (s.free e) o, Same.upd (Same.refl _) e o, fun b u q => by
  by_cases z : b = a
  ·subst z; rw [upd_same] at q ⊢; exact q
  ·rw [upd_ne z] at q ⊢; exact s b u q, fun b hb hg => by
  have z : b ≠ a := fun z => hb (z ▸ e)
  rw [upd_ne z]; exact .inl hg⟩
theorem Step.lay {G H : Hp} {a : Addr} {o : HO} (s : Same G H) (e : H a = none) : Step G H G (upd H a o) :=
 ⟨Same.refl _, Same.upd (Same.refl _) e o, Same.upd s e o, fun _ _ h => .inl h⟩
def EOk (K : PySem.W.Frag) (W : Addr → Option Nat) (Hs G H : Hp) (v : V) : Ev → Prop
 | .p d => Rep K G v d
 | .f d => ∃ a o, v = .ref a ∧ Hs a = none ∧ G a = none ∧ H a = some o ∧ Cont K G o d
 | .b d => ∃ a i o, v = .ref a ∧ W a = some i ∧ H a = some o ∧ Cont K G o d
 | .x C => ∃ e, v = .ref e ∧ G e = some (excO e (.ref C))
theorem EOk.step {K : PySem.W.Frag} {W : Addr → Option Nat} {Hs Hs' G H G' H' : Hp} {v : V} {r : Ev} (h : EOk K W Hs G H v r.c) (s : Step G H G' H') : EOk K W Hs' G' H' v r.c := by
 cases r with
 | p d => exact Rep.mono s.g h
 | f d => exact Rep.mono s.g h
 | b d =>
  obtain ⟨a, i, o, h1, h2, h3, h4⟩ := h
  exact ⟨a, i, o, h1, h2, s.h _ _ h3, h4.mono s.g⟩
 | x C =>
  obtain ⟨e, h1, h2⟩ := h
  exact ⟨e, h1, s.g _ _ h2⟩
theorem EOk.c {K : PySem.W.Frag} {W : Addr → Option Nat} {G H G1 H1 : Hp} {v : V} {r : Ev} (s : Step G H G1 H1) (h : EOk K W H G1 H1 v r) : ∃ G2, Step G H G2 H1 ∧ EOk K W H G2 H1 v r.c := by
 cases r with
 | p d => exact ⟨G1, s, h⟩
 | b d => exact ⟨G1, s, h⟩
 | x d => exact ⟨G1, s, h⟩
 | f d =>
  obtain ⟨a, o, rfl, h1, h2, h3, h4⟩ := h
  refine ⟨upd G1 a o, ⟨s.g.trans (Same.upd (Same.refl _) h2 o), s.h, fun b u q => ?_, fun b hb hg => ?_⟩, (h4.mono (Same.upd (Same.refl _) h2 o)).rep upd_same⟩
  ·by_cases z : b = a
   ·subst z; rw [upd_same] at q; rw [h3]; exact q
   ·rw [upd_ne z] at q; exact s.gh b u q
  ·have z : b ≠ a := fun z => hb (z ▸ h1)
   rw [upd_ne z]; exact s.new b hb hg
structure SimH (B G0 G : Hp) (W : Addr → Option Nat) (H : Hp) : Prop where
 gh : Same G H
 bh : Same B H
 g0 : Same G0 G
 gb : ∀ b, G b ≠ none → G0 b ≠ none ∨ B b = none ∨ ∃ xs, B b = some (.tup xs)
 wf : ∀ a i, W a = some i → G a = none ∧ B a = none ∧ ∃ o, H a = some o ∧ ∀ xs, o ≠ .tup xs
theorem SimH.step {B G0 G H G' H' : Hp} {W : Addr → Option Nat} (s : SimH B G0 G W H) (t : Step G H G' H') : SimH B G0 G' W H' := by
 refine ⟨t.gh, s.bh.trans t.h, s.g0.trans t.g, fun b hb => ?_, fun a i e => ?_⟩
 ·by_cases z : G b = none
  ·refine .inr ?_
   by_cases y : H b = none
   ·exact .inl (s.bh.free y)
   ·rcases t.new b y z with q | ⟨xs, q⟩
    ·exact absurd q hb
    ·cases e : B b with
     | none => exact .inl rfl
     | some o => rw [s.bh _ _ e] at q; exact .inr ⟨xs, q⟩
  ·exact s.gb b z
 ·obtain ⟨h1, h2, o, h3, h4⟩ := s.wf a i e
  exact ⟨t.off h3 h4 h1, h2, o, t.h _ _ h3, h4⟩
theorem Cont.mut {K : PySem.W.Frag} {G : Hp} {o : HO} {d : D} (h : Cont K G o d) : ∀ xs, o ≠ .tup xs := by
 intro xs z
 subst z
 cases h
def Slot (K : PySem.W.Frag) (W : Addr → Option Nat) (G H : Hp) (i : Nat) (v : V) : L → Prop
 | .p d => Rep K G v d
 | .o d => ∃ a o, v = .ref a ∧ W a = some i ∧ H a = some o ∧ Cont K G o d
 | .x C => ∃ e, v = .ref e ∧ G e = some (excO e (.ref C))
 | .h a => v = .ref a
def SimS (K : PySem.W.Frag) (W : Addr → Option Nat) (G H : Hp) (σ : L2.St) (en : En) : Prop := σ.length = en.length ∧ ∀ i l, en[i]? = some (some l) → ∃ v, σ[i]? = some (some v) ∧ Slot K W G H i v l
theorem Slot.step {K : PySem.W.Frag} {W : Addr → Option Nat} {G H G' H' : Hp} {i : Nat} {v : V} {l : L} (h : Slot K W G H i v l) (s : Step G H G' H') : Slot K W G' H' i v l := by
 cases l with
 | p d => exact Rep.mono s.g h
 | o d =>
  obtain ⟨a, o, h1, h2, h3, h4⟩ := h
  exact ⟨a, o, h1, h2, s.h _ _ h3, h4.mono s.g⟩
 | x C =>
  obtain ⟨e, h1, h2⟩ := h
  exact ⟨e, h1, s.g _ _ h2⟩
 | h a => exact h
theorem SimS.step {K : PySem.W.Frag} {W : Addr → Option Nat} {G H G' H' : Hp} {σ : L2.St} {en : En} (h : SimS K W G H σ en) (s : Step G H G' H') : SimS K W G' H' σ en :=
 ⟨h.1, fun i l e => let ⟨v, e1, e2⟩ := h.2 i l e; ⟨v, e1, e2.step s⟩⟩
def PostE (K : PySem.W.Frag) (W : Addr → Option Nat) (G H : Hp) (Q : VK) (r : Ev) : Prop := ∀ G' H' v, Step G H G' H' → EOk K W H G' H' v r → Q v H'
def PostB (G H : Hp) (Q : Bool → Hp → Prop) (b : Bool) : Prop := ∀ G' H', Step G H G' H' → Q b H'
def EOks (K : PySem.W.Frag) (W : Addr → Option Nat) (Hs G H : Hp) : List V → List Ev → Prop
 | [], [] => True
 | v :: vs, r :: rs => EOk K W Hs G H v r ∧ EOks K W Hs G H vs rs
 | _, _ => False
def PostA (K : PySem.W.Frag) (W : Addr → Option Nat) (G H : Hp) (Q : List V → Hp → Prop) (rs : List Ev) : Prop := ∀ G' H' vs, Step G H G' H' → EOks K W H G' H' vs rs → Q vs H'
def PostX (E : XK) (G H : Hp) (C : Addr) : Prop := ∀ G' H', Step G H G' H' → E (.ref C) none H'
theorem PostE.step {K : PySem.W.Frag} {W : Addr → Option Nat} {G H G' H' : Hp} {Q : VK} {r : Ev} (h : PostE K W G H Q r) (s : Step G H G' H') : PostE K W G' H' Q r := fun G2 H2 v s2 e => h G2 H2 v (s.trans s2) (by
 cases r with
 | p d => exact e
 | b d => exact e
 | x d => exact e
 | f d =>
  obtain ⟨a, o, h1, h2, h3, h4, h5⟩ := e
  exact ⟨a, o, h1, s.h.free h2, h3, h4, h5⟩)
theorem PostX.step {E : XK} {G H G' H' : Hp} {C : Addr} (h : PostX E G H C) (s : Step G H G' H') : PostX E G' H' C := fun G2 H2 s2 => h G2 H2 (s.trans s2)
theorem PostB.step {G H G' H' : Hp} {Q : Bool → Hp → Prop} {b : Bool} (h : PostB G H Q b) (s : Step G H G' H') : PostB G' H' Q b := fun G2 H2 s2 => h G2 H2 (s.trans s2)
def tE (K : PySem.W.Frag) (E : L2.St → XK) (f : En → Res Ev) : TE := fun σ H Q => ∃ B G0 G W en, SimH B G0 G W H ∧ SimS K W G H σ en ∧ wpR (f en) (PostE K W G H Q) (PostX (E σ) G H)
def DE (X : Cx) (E : L2.St → XK) (e : Expr) (f : En → Res Ev) : Prop := PE X e (tE X.K E f)
theorem DE.out {X : Cx} {E : L2.St → XK} {e : Expr} {f : En → Res Ev} (h : DE X E e f) : ∃ t, PE X e t ∧ ∀ B G0 G W H σ en Q, SimH B G0 G W H → SimS X.K W G H σ en → wpR (f en) (PostE X.K W G H Q) (PostX (E σ) G H) → t σ H Q :=
 ⟨_, h, fun B G0 G W H σ en Q h1 h2 h3 => ⟨B, G0, G, W, en, h1, h2, h3⟩⟩
theorem DE.in {X : Cx} {E : L2.St → XK} {e : Expr} {f : En → Res Ev} (h : ∃ t, PE X e t ∧ ∀ B G0 G W H σ en Q, SimH B G0 G W H → SimS X.K W G H σ en → wpR (f en) (PostE X.K W G H Q) (PostX (E σ) G H) → t σ H Q) : DE X E e f :=
 fun pins s σ H Q I ⟨B, G0, G, W, en, h1, h2, h3⟩ => let ⟨_, p, m⟩ := h; p pins s σ H Q I (m B G0 G W H σ en Q h1 h2 h3)
def tT (K : PySem.W.Frag) (E : L2.St → XK) (f : En → Res Bool) : TT := fun σ H Q => ∃ B G0 G W en, SimH B G0 G W H ∧ SimS K W G H σ en ∧ wpR (f en) (PostB G H Q) (PostX (E σ) G H)
def tA (K : PySem.W.Frag) (E : L2.St → XK) (f : En → Res (List Ev)) : TA := fun σ H Q => ∃ B G0 G W en, SimH B G0 G W H ∧ SimS K W G H σ en ∧ wpR (f en) (PostA K W G H Q) (PostX (E σ) G H)
def DT (X : Cx) (E : L2.St → XK) (e : Expr) (f : En → Res Bool) : Prop := PT X e (tT X.K E f)
def DW (X : Cx) (E : L2.St → XK) (e : Expr) (f : En → Res Bool) : Prop := PW X e (tT X.K E f)
def DA (X : Cx) (E : L2.St → XK) (es : List Expr) (f : En → Res (List Ev)) : Prop := PA X es (tA X.K E f)
section
variable {X : Cx} {E : L2.St → XK} {e : Expr} {es : List Expr} {f : En → Res Bool} {fr : En → Res (List Ev)}
theorem DT.out (h : DT X E e f) : ∃ t, PT X e t ∧ ∀ B G0 G W H σ en Q, SimH B G0 G W H → SimS X.K W G H σ en → wpR (f en) (PostB G H Q) (PostX (E σ) G H) → t σ H Q :=
 ⟨_, h, fun B G0 G W H σ en Q h1 h2 h3 => ⟨B, G0, G, W, en, h1, h2, h3⟩⟩
theorem DT.in (h : ∃ t, PT X e t ∧ ∀ B G0 G W H σ en Q, SimH B G0 G W H → SimS X.K W G H σ en → wpR (f en) (PostB G H Q) (PostX (E σ) G H) → t σ H Q) : DT X E e f :=
 fun pins s σ H Q I ⟨B, G0, G, W, en, h1, h2, h3⟩ => let ⟨_, p, m⟩ := h; p pins s σ H Q I (m B G0 G W H σ en Q h1 h2 h3)
theorem DW.out (h : DW X E e f) : ∃ t, PW X e t ∧ ∀ B G0 G W H σ en Q, SimH B G0 G W H → SimS X.K W G H σ en → wpR (f en) (PostB G H Q) (PostX (E σ) G H) → t σ H Q :=
 ⟨_, h, fun B G0 G W H σ en Q h1 h2 h3 => ⟨B, G0, G, W, en, h1, h2, h3⟩⟩
theorem DW.in (h : ∃ t, PW X e t ∧ ∀ B G0 G W H σ en Q, SimH B G0 G W H → SimS X.K W G H σ en → wpR (f en) (PostB G H Q) (PostX (E σ) G H) → t σ H Q) : DW X E e f :=
 fun wh pins s σ H Q I ⟨B, G0, G, W, en, h1, h2, h3⟩ => let ⟨_, p, m⟩ := h; p wh pins s σ H Q I (m B G0 G W H σ en Q h1 h2 h3)
theorem DA.out (h : DA X E es fr) : ∃ t, PA X es t ∧ ∀ B G0 G W H σ en Q, SimH B G0 G W H → SimS X.K W G H σ en → wpR (fr en) (PostA X.K W G H Q) (PostX (E σ) G H) → t σ H Q :=
 ⟨_, h, fun B G0 G W H σ en Q h1 h2 h3 => ⟨B, G0, G, W, en, h1, h2, h3⟩⟩
theorem DA.in (h : ∃ t, PA X es t ∧ ∀ B G0 G W H σ en Q, SimH B G0 G W H → SimS X.K W G H σ en → wpR (fr en) (PostA X.K W G H Q) (PostX (E σ) G H) → t σ H Q) : DA X E es fr :=
 fun pos pins s σ H Q I ⟨B, G0, G, W, en, h1, h2, h3⟩ => let ⟨_, p, m⟩ := h; p pos pins s σ H Q I (m B G0 G W H σ en Q h1 h2 h3)
end
theorem DW.t {X : Cx} {E : L2.St → XK} {e : Expr} {f : En → Res Bool} (h : DW X E e f) : DT X E e f := h _
section
variable {X : Cx} {E : L2.St → XK} {a b c e : Expr} {es : List Expr} {fa fb : En → Res Ev} {fr : En → Res (List Ev)} {pos : Pos}
theorem DE.go {K : PySem.W.Frag} {W : Addr → Option Nat} {G H : Hp} {EE : XK} {Q : VK} {r : Res Ev} {k : Ev → Res Ev} {Q' : VK} (hw : wpR (r.bind k) (PostE K W G H Q) (PostX EE G H))
  (h : ∀ (x : Ev) G1 H1 v, Step G H G1 H1 → EOk K W H G1 H1 v x.c → wpR (k x) (PostE K W G1 H1 Q) (PostX EE G1 H1) → Q' v H1) : wpR r (PostE K W G H Q') (PostX EE G H) := by
 rw [wpR_bind] at hw
 refine wpR_mono hw (fun x hx G1 H1 v s e => ?_) fun C h => h
 obtain ⟨G2, s2, e2⟩ := e.c s
 exact h x G2 H1 v s2 e2 (wpR_mono hx (fun r h => h.step s2) fun C h => h.step s2)
theorem DE.goB {K : PySem.W.Frag} {W : Addr → Option Nat} {G H : Hp} {EE : XK} {Q : Bool → Hp → Prop} {r : Res Ev} {k : Ev → Res Bool} {Q' : VK} (hw : wpR (r.bind k) (PostB G H Q) (PostX EE G H))
  (h : ∀ (x : Ev) G1 H1 v, Step G H G1 H1 → EOk K W H G1 H1 v x.c → wpR (k x) (PostB G1 H1 Q) (PostX EE G1 H1) → Q' v H1) : wpR r (PostE K W G H Q') (PostX EE G H) := by
 rw [wpR_bind] at hw
 refine wpR_mono hw (fun x hx G1 H1 v s e => ?_) fun C h => h
 obtain ⟨G2, s2, e2⟩ := e.c s
 exact h x G2 H1 v s2 e2 (wpR_mono hx (fun r h => h.step s2) fun C h => h.step s2)
def OpM (K : PySem.W.Frag) (r : R2) (op : Ev → Ev → Res Ev) : Prop := ∀ (W : Addr → Option Nat) (G H : Hp) (v u : V) (x y : Ev) (Q : VK), Same G H → EOk K W H G H v x.c → EOk K W H G H u y.c → wpR (op x.c y.c) (PostE K W G H Q) (fun _ => False) → r v u H Q
def mBin (op : Ev → Ev → Res Ev) (fa fb : En → Res Ev) : En → Res Ev := fun en => (fa en).bind fun x => (fb en).bind fun y => op x.c y.c
def NoX (op : Ev → Ev → Res Ev) : Prop := ∀ x y C, op x y ≠ .exc C
theorem noX {α : Type} {r : Res α} {Q : α → Prop} {E E' : Addr → Prop} (h : wpR r Q E) (n : ∀ C, r ≠ .exc C) : wpR r Q E' := by
 cases r with
 | ok a => exact h
 | exc C => exact absurd rfl (n C)
 | bad => exact h
theorem op_core {ta tb : TE} {r : R2} {op : Ev → Ev → Res Ev} (ma : ∀ B G0 G W H σ en Q, SimH B G0 G W H → SimS X.K W G H σ en → wpR (fa en) (PostE X.K W G H Q) (PostX (E σ) G H) → ta σ H Q)
  (mb : ∀ B G0 G W H σ en Q, SimH B G0 G W H → SimS X.K W G H σ en → wpR (fb en) (PostE X.K W G H Q) (PostX (E σ) G H) → tb σ H Q) (hm : OpM X.K r op) (hn : NoX op) :
  ∀ B G0 G W H σ en Q, SimH B G0 G W H → SimS X.K W G H σ en → wpR (mBin op fa fb en) (PostE X.K W G H Q) (PostX (E σ) G H) → tOp r ta tb σ H Q := by
 intro B G0 G W H σ en Q hh hs hw
 refine ma B G0 G W H σ en _ hh hs (DE.go hw fun x G1 H1 v s1 e1 h1 => ?_)
 refine mb B G0 G1 W H1 σ en _ (hh.step s1) (hs.step s1) (DE.go h1 fun y G2 H2 u s2 e2 h2 => ?_)
 exact hm W G2 H2 v u x y Q s2.gh (e1.step s2) (by cases y <;> exact e2) (noX h2 (hn _ _))
theorem de_op {op : Operator} {r : R2} {f : Ev → Ev → Res Ev} (ho : OpR X (binaryOp op) r) (hm : OpM X.K r f) (hn : NoX f) (ha : DE X E a fa) (hb : DE X E b fb) : DE X E (.BinOp a op b pos) (mBin f fa fb) := by
 obtain ⟨ta, pa, ma⟩ := ha.out
 obtain ⟨tb, pb, mb⟩ := hb.out
 refine DE.in ?_
 exact ⟨_, pe_op ho pa pb, op_core ma mb hm hn⟩
theorem de_cmp {op : CmpOp} {r : R2} {f : Ev → Ev → Res Ev} (ho : OpR X (compareOp op) r) (hm : OpM X.K r f) (hn : NoX f) (ha : DE X E a fa) (hb : DE X E b fb) (hk : behindInMarks op b = false) : DE X E (.Compare a [op] [b] pos) (mBin f fa fb) := by
 obtain ⟨ta, pa, ma⟩ := ha.out
 obtain ⟨tb, pb, mb⟩ := hb.out
 refine DE.in ?_
 exact ⟨_, pe_cmpR ho pa pb hk, op_core ma mb hm hn⟩
def truthR (r : Ev) : Res Bool := match r with
 | .p (.bool b) => .ok b
 | _ => .bad
def mTru (f : En → Res Ev) : En → Res Bool := fun en => (f en).bind truthR
theorem tru_core {t : TE} (m : ∀ B G0 G W H σ en Q, SimH B G0 G W H → SimS X.K W G H σ en → wpR (fa en) (PostE X.K W G H Q) (PostX (E σ) G H) → t σ H Q) :
  ∀ B G0 G W H σ en Q, SimH B G0 G W H → SimS X.K W G H σ en → wpR (mTru fa en) (PostB G H Q) (PostX (E σ) G H) → t σ H fun x H1 => ∃ k, x = .bl k ∧ Q k H1 := by
 intro B G0 G W H σ en Q hh hs hw
 refine m B G0 G W H σ en _ hh hs (DE.goB hw fun x G1 H1 v s1 e1 h1 => ?_)
 cases x with
 | p d =>
  cases d with
  | bool k => cases e1; exact ⟨k, rfl, h1 G1 H1 (Step.refl s1.gh)⟩
  | _ => exact False.elim h1
 | _ => exact False.elim h1
theorem dt_cmp {op : CmpOp} {r : R2} {f : Ev → Ev → Res Ev} (ho : OpR X (compareOp op) r) (hm : OpM X.K r f) (hn : NoX f) (ha : DE X E a fa) (hb : DE X E b fb) (hk : behindInMarks op b = false) : DT X E (.Compare a [op] [b] pos) (mTru (mBin f fa fb)) := by
 obtain ⟨ta, pa, ma⟩ := ha.out
 obtain ⟨tb, pb, mb⟩ := hb.out
 refine DT.in ?_
 exact ⟨_, pt_cmpR ho pa pb hk, tru_core (op_core ma mb hm hn)⟩
theorem dt_val (h : DE X E e fa) (he : ∀ whole, isTrue e X.env whole = (do let v ← whole; standAt e.pos; holding [v] (truthy v)) := by intro _; rfl) : DT X E e (mTru fa) := by
 obtain ⟨t, p, m⟩ := h.out
 refine DT.in ?_
 exact ⟨_, pt_val p he, tru_core m⟩
def mVar (i : Nat) : En → Res Ev := fun en => match en[i]? with
 | some (some (.p d)) => .ok (.p d)
 | some (some (.o d)) => .ok (.b d)
 | some (some (.x C)) => .ok (.x C)
 | _ => .bad
theorem de_var {i : Nat} {x : Str} (hN : X.N[i]? = some x) (hv : Vis X.env.scope x) (hd : (x == ("__debug__" : Str)) = false := by decide) (hcd : (x == ("__classdict__" : Str)) = false := by decide) : DE X E (.Name x pos) (mVar i) := by
 refine DE.in ?_
 refine ⟨_, pe_var hN hv hd hcd, fun B G0 G W H σ en Q hh hs hw => ?_⟩
 unfold mVar at hw
 split at hw
 ·rename_i d e
  obtain ⟨v, e1, e2⟩ := hs.2 i _ e
  exact ⟨v, e1, hw G H v (Step.refl hh.gh) e2⟩
 ·rename_i d e
  obtain ⟨v, e1, a, o, e2, e3, e4, e5⟩ := hs.2 i _ e
  exact ⟨v, e1, hw G H v (Step.refl hh.gh) ⟨a, i, o, e2, e3, e4, e5⟩⟩
 ·rename_i C e
  obtain ⟨v, e1, e2⟩ := hs.2 i _ e
  exact ⟨v, e1, hw G H v (Step.refl hh.gh) e2⟩
 ·exact hw.elim
def mC (d : D) : En → Res Ev := fun _ => .ok (.p d)
theorem const_core {v : V} {d : D} (h : ∀ G, Rep X.K G v d) : ∀ B G0 G W H σ en Q, SimH B G0 G W H → SimS X.K W G H σ en → wpR (mC d en) (PostE X.K W G H Q) (PostX (E σ) G H) → tC v σ H Q :=
 fun B G0 G W H σ en Q hh hs hw => hw G H v (Step.refl hh.gh) (h G)
theorem de_int {i j} : DE X E (.Constant (.int i) j pos) (mC (.int i)) := DE.in ⟨_, pe_int, const_core fun _ => .int i⟩
theorem de_bl {b j} : DE X E (.Constant (.bool b) j pos) (mC (.bool b)) := DE.in ⟨_, pe_bl, const_core fun _ => .bl b⟩
theorem de_str {x j} : DE X E (.Constant (.str x) j pos) (mC (.str x)) := DE.in ⟨_, pe_str, const_core fun _ => .str x⟩
variable {ga gb : En → Res Bool} {rest : List Expr}
def mAnd (f g : En → Res Bool) : En → Res Bool := fun en => (f en).bind fun c => if c = true then g en else .ok false
def mOr (f g : En → Res Bool) : En → Res Bool := fun en => (f en).bind fun c => if c = true then .ok true else g en
def mNot (f : En → Res Bool) : En → Res Bool := fun en => (f en).bind fun c => .ok (!c)
theorem dw_or1 (ha : DT X E a ga) : DW X E (.BoolOp .Or [a] pos) ga := let ⟨t, p, m⟩ := ha.out; DW.in ⟨t, pw_or1 p, m⟩
theorem dw_or (ha : DT X E a ga) (hb : DW X E (.BoolOp .Or (b :: rest) pos) gb) : DW X E (.BoolOp .Or (a :: b :: rest) pos) (mOr ga gb) := by
 obtain ⟨ta, pa, ma⟩ := ha.out
 obtain ⟨tb, pb, mb⟩ := hb.out
 refine DW.in ?_
 refine ⟨_, pw_or pa pb, fun B G0 G W H σ en Q hh hs hw => ma B G0 G W H σ en _ hh hs ?_⟩
 have hw : wpR ((ga en).bind _) _ _ := hw
 rw [wpR_bind] at hw
 refine wpR_mono hw (fun c hc G1 H1 s => ?_) fun C h => h
 cases c with
 | false => exact mb B G0 G1 W H1 σ en Q (hh.step s) (hs.step s) (wpR_mono hc (fun _ h => h.step s) fun _ h => h.step s)
 | true => exact hc G1 H1 s
theorem dt_not (ha : DT X E a ga) : DT X E (.UnaryOp .Not a pos) (mNot ga) := by
 obtain ⟨ta, pa, ma⟩ := ha.out
 refine DT.in ?_
 refine ⟨_, pt_not pa, fun B G0 G W H σ en Q hh hs hw => ma B G0 G W H σ en _ hh hs ?_⟩
 have hw : wpR ((ga en).bind _) _ _ := hw
 rw [wpR_bind] at hw
 exact wpR_mono hw (fun c hc => hc) fun C h => h
def mAndV (f g : En → Res Ev) : En → Res Ev := fun en => (f en).bind fun c => match c with
 | .p (.bool true) => g en
 | .p (.bool false) => .ok (.p (.bool false))
 | _ => .bad
def mOrV (f g : En → Res Ev) : En → Res Ev := fun en => (f en).bind fun c => match c with
 | .p (.bool false) => g en
 | .p (.bool true) => .ok (.p (.bool true))
 | _ => .bad
def mNotV (f : En → Res Ev) : En → Res Ev := fun en => (f en).bind fun c => match c with
 | .p (.bool k) => .ok (.p (.bool (!k)))
 | _ => .bad
theorem de_one {op} (h : DE X E a fa) : DE X E (.BoolOp op [a] pos) fa := let ⟨t, p, m⟩ := h.out; DE.in ⟨t, pe_one p, m⟩
theorem de_and (ha : DE X E a fa) (hb : DE X E (.BoolOp .And (b :: rest) pos) fb) : DE X E (.BoolOp .And (a :: b :: rest) pos) (mAndV fa fb) := by
 obtain ⟨ta, pa, ma⟩ := ha.out
 obtain ⟨tb, pb, mb⟩ := hb.out
 refine DE.in ?_
 refine ⟨_, pe_and pa pb, fun B G0 G W H σ en Q hh hs hw => ma B G0 G W H σ en _ hh hs (DE.go hw fun x G1 H1 v s1 e1 h1 => ?_)⟩
 cases x with
 | p d =>
  cases d with
  | bool k =>
   cases e1
   cases k with
   | true => exact ⟨true, rfl, mb B G0 G1 W H1 σ en Q (hh.step s1) (hs.step s1) h1⟩
   | false => exact ⟨false, rfl, h1 G1 H1 _ (Step.refl s1.gh) (.bl false)⟩
  | _ => exact False.elim h1
 | _ => exact False.elim h1
theorem de_not (ha : DE X E a fa) : DE X E (.UnaryOp .Not a pos) (mNotV fa) := by
 obtain ⟨ta, pa, ma⟩ := ha.out
 refine DE.in ?_
 refine ⟨_, pe_not pa, fun B G0 G W H σ en Q hh hs hw => ma B G0 G W H σ en _ hh hs (DE.go hw fun x G1 H1 v s1 e1 h1 => ?_)⟩
 cases x with
 | p d =>
  cases d with
  | bool k =>
   cases e1
   exact ⟨k, rfl, h1 G1 H1 _ (Step.refl s1.gh) (.bl _)⟩
  | _ => exact False.elim h1
 | _ => exact False.elim h1
def mNil : En → Res (List Ev) := fun _ => .ok []
def mCons (f : En → Res Ev) (g : En → Res (List Ev)) : En → Res (List Ev) := fun en => (f en).bind fun x => (g en).bind fun xs => .ok (x.c :: xs)
theorem da_nil : DA X E [] mNil := DA.in ⟨_, pa_nil, fun B G0 G W H σ en Q hh hs hw => hw G H [] (Step.refl hh.gh) trivial⟩
theorem da_cons (ha : DE X E e fa) (hr : DA X E es fr) (hst : starEach (e :: es) X.env = (false, eval e X.env) :: starEach es X.env := by rfl) : DA X E (e :: es) (mCons fa fr) := by
 obtain ⟨ta, pa, ma⟩ := ha.out
 obtain ⟨tr, pr, mr⟩ := hr.out
 refine DA.in ?_
 refine ⟨_, pa_cons pa pr hst, fun B G0 G W H σ en Q hh hs hw => ma B G0 G W H σ en _ hh hs ?_⟩
 have hw : wpR ((fa en).bind _) _ _ := hw
 rw [wpR_bind] at hw
 refine wpR_mono hw (fun x hx G1 H1 v s e1 => ?_) fun C h => h
 obtain ⟨G2, s2, e2⟩ := e1.c s
 refine mr B G0 G2 W H1 σ en _ (hh.step s2) (hs.step s2) ?_
 rw [wpR_bind] at hx
 refine wpR_mono hx (fun xs hxs G3 H3 vs s3 e3 => ?_) fun C h => h.step s2
 refine hxs G3 H3 (v :: vs) (s2.trans s3) ⟨e2.step s3, ?_⟩
 clear hxs hx hw
 induction xs generalizing vs with
 | nil => cases vs <;> exact e3
 | cons y ys ih =>
  cases vs with
  | nil => exact e3
  | cons u us =>
   refine ⟨?_, ih us e3.2⟩
   have z := e3.1
   cases y with
   | p d => exact z
   | b d => exact z
   | x d => exact z
   | f d =>
    obtain ⟨a, o, h1, h2, h3⟩ := z
    exact ⟨a, o, h1, s2.h.free h2, h3⟩
end
inductive Out where
 | nx (en : En)
 | rt (l : L)
 | bk (en : En)
 | ct (en : En)
 | ex (C : Addr) (en : En)
abbrev MS := En → Option Out
def RetOk (K : PySem.W.Frag) (B G H : Hp) (v : V) : L → Prop
 | .p d => Rep K G v d
 | .o d => ∃ a o, v = .ref a ∧ G a = none ∧ B a = none ∧ H a = some o ∧ Cont K G o d
 | .x C => ∃ e, v = .ref e ∧ G e = some (excO e (.ref C))
 | .h _ => False
def PostS (K : PySem.W.Frag) (B G0 : Hp) (E : L2.St → XK) (Dn : Ends) : Out → Prop
 | .nx en => ∀ G W H σ, SimH B G0 G W H → SimS K W G H σ en → Dn.nx σ H
 | .bk en => ∀ G W H σ, SimH B G0 G W H → SimS K W G H σ en → Dn.bk σ H
 | .ct en => ∀ G W H σ, SimH B G0 G W H → SimS K W G H σ en → Dn.ct σ H
 | .rt l => ∀ G W H v, SimH B G0 G W H → RetOk K B G H v l → Dn.rt v H
 | .ex C en => ∀ G W H σ, SimH B G0 G W H → SimS K W G H σ en → E σ (.ref C) none H
def wpO (o : Option Out) (P : Out → Prop) : Prop := match o with
 | some r => P r
 | none => False
def tS (K : PySem.W.Frag) (E : L2.St → XK) (f : MS) : TS := fun Dn σ H => ∃ B G0 G W en, SimH B G0 G W H ∧ SimS K W G H σ en ∧ wpO (f en) (PostS K B G0 E Dn)
def DS (X : Cx) (E : L2.St → XK) (st : Stmt) (f : MS) : Prop := PS X st (tS X.K E f)
def DSs (X : Cx) (E : L2.St → XK) (st : List Stmt) (f : MS) : Prop := PSs X st (tS X.K E f)
section
variable {X : Cx} {E : L2.St → XK} {st : Stmt} {sts : List Stmt} {f g : MS} {fe : En → Res Ev} {fc : En → Res Bool} {e c : Expr} {pos : Pos}
theorem DS.in (h : ∃ t, PS X st t ∧ ∀ B G0 G W H σ en Dn, SimH B G0 G W H → SimS X.K W G H σ en → wpO (f en) (PostS X.K B G0 E Dn) → t Dn σ H) : DS X E st f :=
 fun pins s σ H Dn I ⟨B, G0, G, W, en, h1, h2, h3⟩ => let ⟨_, p, m⟩ := h; p pins s σ H Dn I (m B G0 G W H σ en Dn h1 h2 h3)
theorem DSs.in (h : ∃ t, PSs X sts t ∧ ∀ B G0 G W H σ en Dn, SimH B G0 G W H → SimS X.K W G H σ en → wpO (f en) (PostS X.K B G0 E Dn) → t Dn σ H) : DSs X E sts f :=
 fun pins s σ H Dn I ⟨B, G0, G, W, en, h1, h2, h3⟩ => let ⟨_, p, m⟩ := h; p pins s σ H Dn I (m B G0 G W H σ en Dn h1 h2 h3)
theorem DS.out (h : DS X E st f) : ∃ t, PS X st t ∧ ∀ B G0 G W H σ en Dn, SimH B G0 G W H → SimS X.K W G H σ en → wpO (f en) (PostS X.K B G0 E Dn) → t Dn σ H :=
 ⟨_, h, fun B G0 G W H σ en Dn h1 h2 h3 => ⟨B, G0, G, W, en, h1, h2, h3⟩⟩
theorem DSs.out (h : DSs X E sts f) : ∃ t, PSs X sts t ∧ ∀ B G0 G W H σ en Dn, SimH B G0 G W H → SimS X.K W G H σ en → wpO (f en) (PostS X.K B G0 E Dn) → t Dn σ H :=
 ⟨_, h, fun B G0 G W H σ en Dn h1 h2 h3 => ⟨B, G0, G, W, en, h1, h2, h3⟩⟩
def mNext : MS := fun en => some (.nx en)
def mSeq (f g : MS) : MS := fun en => match f en with
 | some (.nx e) => g e
 | r => r
theorem dss_nil : DSs X E [] mNext := DSs.in ⟨_, pss_nil, fun B G0 G W H σ en Dn hh hs hw => hw G W H σ hh hs⟩
theorem dss_one (h : DS X E st f) : DSs X E [st] f := let ⟨t, p, m⟩ := h.out; DSs.in ⟨t, pss_one p, m⟩
theorem dss_cons (h1 : DS X E st f) (h2 : DSs X E sts g) : DSs X E (st :: sts) (mSeq f g) := by
 obtain ⟨t, p, m⟩ := h1.out
 obtain ⟨u, q, n⟩ := h2.out
 refine DSs.in ⟨_, pss_cons p q, fun B G0 G W H σ en Dn hh hs hw => m B G0 G W H σ en _ hh hs ?_⟩
 unfold mSeq at hw
 cases ef : f en with
 | none => rw [ef] at hw; exact hw
 | some r =>
  rw [ef] at hw
  cases r with
  | nx e => exact fun G1 W1 H1 σ1 hh1 hs1 => n B G0 G1 W1 H1 σ1 e Dn hh1 hs1 hw
  | rt l => exact hw
  | bk e => exact hw
  | ct e => exact hw
  | ex C e => exact hw
theorem SimS.set {K : PySem.W.Frag} {W : Addr → Option Nat} {G H : Hp} {σ : L2.St} {en : En} {i : Nat} {v : V} {l : L} (h : SimS K W G H σ en) (hl : Slot K W G H i v l) : SimS K W G H (σ.set i (some v)) (en.set i (some l)) := by
 refine ⟨by rw [List.length_set, List.length_set]; exact h.1, fun j m e => ?_⟩
 rw [List.getElem?_set] at e
 rw [List.getElem?_set]
 by_cases hj : i = j
 ·subst hj
  rw [if_pos rfl] at e
  split at e
  ·rename_i hlt
   cases e
   rw [if_pos rfl, if_pos (by rw [h.1]; exact hlt)]
   exact ⟨v, rfl, hl⟩
  ·cases e
 ·rw [if_neg hj] at e ⊢
  exact h.2 j m e
def owner (W : Addr → Option Nat) (a : Addr) (i : Nat) : Addr → Option Nat := fun b => if b = a then some i else W b
theorem take_new {K : PySem.W.Frag} {B G0 G H : Hp} {W : Addr → Option Nat} {σ : L2.St} {en : En} {i : Nat} {a : Addr} {o : HO} {d : D} (hh : SimH B G0 G W H) (hs : SimS K W G H σ en) (hW : W a = none) (hG : G a = none) (hB : B a = none) (hH : H a = some o) (hc : Cont K G o d) :
  SimH B G0 G (owner W a i) H ∧ SimS K (owner W a i) G H (σ.set i (some (.ref a))) (en.set i (some (.o d))) := by
 refine ⟨⟨hh.gh, hh.bh, hh.g0, hh.gb, fun b j e => ?_⟩, SimS.set ⟨hs.1, fun j l e => ?_⟩ ⟨a, o, rfl, if_pos rfl, hH, hc⟩⟩
 ·unfold owner at e
  split at e
  ·rename_i z
   subst z
   exact ⟨hG, hB, o, hH, hc.mut⟩
  ·exact hh.wf b j e
 ·obtain ⟨v, e1, e2⟩ := hs.2 j l e
  refine ⟨v, e1, ?_⟩
  cases l with
  | p d => exact e2
  | x C => exact e2
  | h a => exact e2
  | o d =>
   obtain ⟨b, ob, h1, h2, h3, h4⟩ := e2
   refine ⟨b, ob, h1, ?_, h3, h4⟩
   unfold owner
   rw [if_neg (fun z => by rw [z, hW] at h2; cases h2)]
   exact h2
def mSet (i : Nat) (fe : En → Res Ev) : MS := fun en => match fe en with
 | .ok (.p d) => some (.nx (en.set i (some (.p d))))
 | .ok (.f d) => some (.nx (en.set i (some (.o d))))
 | .ok (.x C) => some (.nx (en.set i (some (.x C))))
 | .ok (.b _) => none
 | .exc C => some (.ex C en)
 | .bad => none
theorem SimH.lone {B G0 G H : Hp} {W : Addr → Option Nat} (hh : SimH B G0 G W H) {a : Addr} (h : H a = none) : W a = none := by
 cases e : W a with
 | none => rfl
 | some i =>
  obtain ⟨_, _, o, q, _⟩ := hh.wf a i e
  rw [h] at q; cases q
theorem set_core {te : TE} {i : Nat} (m : ∀ B G0 G W H σ en Q, SimH B G0 G W H → SimS X.K W G H σ en → wpR (fe en) (PostE X.K W G H Q) (PostX (E σ) G H) → te σ H Q) :
  ∀ B G0 G W H σ en Dn, SimH B G0 G W H → SimS X.K W G H σ en → wpO (mSet i fe en) (PostS X.K B G0 E Dn) → te σ H fun x H1 => Dn.nx (σ.set i (some x)) H1 := by
 intro B G0 G W H σ en Dn hh hs hw
 refine m B G0 G W H σ en _ hh hs ?_
 unfold mSet at hw
 cases ef : fe en with
 | bad => rw [ef] at hw; exact hw
 | exc C => rw [ef] at hw; exact fun G1 H1 s => hw G1 W H1 σ (hh.step s) (hs.step s)
 | ok r =>
  rw [ef] at hw
  cases r with
  | b d => exact hw.elim
  | p d => exact fun G1 H1 v s e => hw G1 W H1 _ (hh.step s) ((hs.step s).set e)
  | x C => exact fun G1 H1 v s e => hw G1 W H1 _ (hh.step s) ((hs.step s).set e)
  | f d =>
   rintro G1 H1 v s ⟨a, o, rfl, h1, h2, h3, h4⟩
   obtain ⟨q1, q2⟩ := take_new (i := i) (hh.step s) (hs.step s) (hh.lone h1) h2 (hh.bh.free h1) h3 h4
   exact hw G1 _ H1 _ q1 q2
theorem ds_set {i : Nat} {x : Str} {pos' : Pos} (hN : X.N.Nodup) (hi : X.N[i]? = some x) (hx : Loc X.env.scope x) (he : DE X E e fe) (hs : swapsWith e (some (.Name x pos')) pos.line X.env = pure false := by rfl) (hf : X.fn x = true ∨ X.env.scope.names.lookup x = some .local := by first | exact .inl rfl | exact .inr rfl | assumption) :
  DS X E (.Assign [.Name x pos'] e pos) (mSet i fe) := by
 obtain ⟨t, p, m⟩ := he.out
 exact DS.in ⟨_, ps_set hN hi hx p hs hf, set_core m⟩
def mDrop (fe : En → Res Ev) : MS := fun en => match fe en with
 | .ok _ => some (.nx en)
 | .exc C => some (.ex C en)
 | .bad => none
theorem ds_expr (he : DE X E e fe) (hs : swapsWith e none pos.line X.env = pure false := by rfl) : DS X E (.Expr e pos) (mDrop fe) := by
 obtain ⟨t, p, m⟩ := he.out
 refine DS.in ⟨_, ps_expr p hs, fun B G0 G W H σ en Dn hh hs hw => m B G0 G W H σ en _ hh hs ?_⟩
 unfold mDrop at hw
 cases ef : fe en with
 | bad => rw [ef] at hw; exact hw
 | exc C => rw [ef] at hw; exact fun G1 H1 s => hw G1 W H1 σ (hh.step s) (hs.step s)
 | ok r => rw [ef] at hw; exact fun G1 H1 v s _ => hw G1 W H1 σ (hh.step s) (hs.step s)
def retL : Ev → L
 | .p d => .p d
 | .f d => .o d
 | .b d => .o d
 | .x C => .x C
def mRet (fe : En → Res Ev) : MS := fun en => match fe en with
 | .ok r => some (.rt (retL r))
 | .exc C => some (.ex C en)
 | .bad => none
theorem ds_ret (he : DE X E e fe) : DS X E (.Return (some e) pos) (mRet fe) := by
 obtain ⟨t, p, m⟩ := he.out
 refine DS.in ⟨_, ps_ret p, fun B G0 G W H σ en Dn hh hs hw => m B G0 G W H σ en _ hh hs ?_⟩
 unfold mRet at hw
 cases ef : fe en with
 | bad => rw [ef] at hw; exact hw
 | exc C => rw [ef] at hw; exact fun G1 H1 s => hw G1 W H1 σ (hh.step s) (hs.step s)
 | ok r =>
  rw [ef] at hw
  intro G1 H1 v s e
  refine hw G1 W H1 v (hh.step s) ?_
  cases r with
  | p d => exact e
  | x C => exact e
  | f d =>
   obtain ⟨a, o, h0, h1, h2, h3, h4⟩ := e
   exact ⟨a, o, h0, h2, hh.bh.free h1, h3, h4⟩
  | b d =>
   obtain ⟨a, i, o, h0, h1, h3, h4⟩ := e
   have z := (hh.step s).wf a i h1
   exact ⟨a, o, h0, z.1, z.2.1, h3, h4⟩
def mIfS (c : En → Res Bool) (f g : MS) : MS := fun en => match c en with
 | .ok k => if k = true then f en else g en
 | .exc C => some (.ex C en)
 | .bad => none
theorem ds_if {A B : List Stmt} (hc : DT X E c fc) (ha : DSs X E A f) (hb : DSs X E B g) : DS X E (.If c A B pos) (mIfS fc f g) := by
 obtain ⟨tc, pc, mc⟩ := hc.out
 obtain ⟨t, p, m⟩ := ha.out
 obtain ⟨u, q, n⟩ := hb.out
 refine DS.in ⟨_, ps_if pc p q, fun B G0 G W H σ en Dn hh hs hw => mc B G0 G W H σ en _ hh hs ?_⟩
 unfold mIfS at hw
 cases ef : fc en with
 | bad => rw [ef] at hw; exact hw
 | exc C => rw [ef] at hw; exact fun G1 H1 s => hw G1 W H1 σ (hh.step s) (hs.step s)
 | ok k =>
  rw [ef] at hw
  intro G1 H1 s
  cases k with
  | true => exact m B G0 G1 W H1 σ en Dn (hh.step s) (hs.step s) hw
  | false => exact n B G0 G1 W H1 σ en Dn (hh.step s) (hs.step s) hw
def frz (i : Nat) (en : En) : En := match en[i]? with
 | some (some (.o d)) => en.set i (some (.p d))
 | _ => en
theorem frz_ok {K : PySem.W.Frag} {B G0 G H : Hp} {W : Addr → Option Nat} {σ : L2.St} {en : En} (i : Nat) (hh : SimH B G0 G W H) (hs : SimS K W G H σ en) : ∃ G' W', SimH B G0 G' W' H ∧ SimS K W' G' H σ (frz i en) := by
 unfold frz
 split
 ·rename_i d e
  obtain ⟨v, e1, a, o, rfl, e2, e3, e4⟩ := hs.2 i _ e
  obtain ⟨w1, w2, w3⟩ := hh.wf a i e2
  have sg : Same G (upd G a o) := Same.upd (Same.refl _) w1 o
  refine ⟨upd G a o, fun b => if b = a then none else W b, ⟨fun b u q => ?_, hh.bh, hh.g0.trans sg, fun b hb => ?_, fun b j e => ?_⟩, by rw [List.length_set]; exact hs.1, fun j l e5 => ?_⟩
  ·by_cases z : b = a
   ·subst z; rw [upd_same] at q; rw [e3]; exact q
   ·rw [upd_ne z] at q; exact hh.gh b u q
  ·by_cases z : b = a
   ·subst z; exact .inr (.inl w2)
   ·rw [upd_ne z] at hb; exact hh.gb b hb
  ·split at e
   ·cases e
   ·rename_i z
    rw [upd_ne z]; exact hh.wf b j e
  ·rw [List.getElem?_set] at e5
   by_cases hj : i = j
   ·subst hj
    rw [if_pos rfl] at e5
    split at e5
    ·cases e5
     exact ⟨_, e1, (e4.mono sg).rep upd_same⟩
    ·cases e5
   ·rw [if_neg hj] at e5
    obtain ⟨v, f1, f2⟩ := hs.2 j l e5
    refine ⟨v, f1, ?_⟩
    cases l with
    | p d => exact f2.mono sg
    | x C => obtain ⟨ea, g1, g2⟩ := f2; exact ⟨ea, g1, sg _ _ g2⟩
    | h a => exact f2
    | o d =>
     obtain ⟨b, ob, g1, g2, g3, g4⟩ := f2
     refine ⟨b, ob, g1, ?_, g3, g4.mono sg⟩
     show (if b = a then none else W b) = some j
     rw [if_neg (fun z => by rw [z, e2] at g2; exact hj (Option.some.inj g2))]
     exact g2
 ·exact ⟨G, W, hh, hs⟩
theorem dss_frz (i : Nat) (h : DSs X E sts f) : DSs X E sts (fun en => f (frz i en)) := by
 obtain ⟨t, p, m⟩ := h.out
 refine DSs.in ⟨t, p, fun B G0 G W H σ en Dn hh hs hw => ?_⟩
 obtain ⟨G', W', h1, h2⟩ := frz_ok i hh hs
 exact m B G0 G' W' H σ _ Dn h1 h2 hw
end
def mWh (c : En → Res Bool) (f : MS) : Nat → MS
 | 0, _ => none
 | n + 1, en => match c en with
  | .bad => none
  | .exc C => some (.ex C en)
  | .ok false => some (.nx en)
  | .ok true => match f en with
   | some (.nx e) => mWh c f n e
   | some (.ct e) => mWh c f n e
   | some (.bk e) => some (.nx e)
   | r => r
theorem mWh_more {c : En → Res Bool} {f : MS} : ∀ {n : Nat} {en : En} {r : Out}, mWh c f n en = some r → mWh c f (n + 1) en = some r
 | 0, _, _, h => by cases h
 | n + 1, en, r, h => by
  unfold mWh at h ⊢
  cases ec : c en with
  | bad => rw [ec] at h; exact h
  | exc C => rw [ec] at h; exact h
  | ok k =>
   rw [ec] at h
   cases k with
   | false => exact h
   | true =>
    dsimp only at h ⊢
    cases ef : f en with
    | none => rw [ef] at h; exact h
    | some o =>
     rw [ef] at h
     cases o with
     | nx e => exact mWh_more (n := n) h
     | ct e => exact mWh_more (n := n) h
     | bk e => exact h
     | rt l => exact h
     | ex C e => exact h
theorem mWh_le {c : En → Res Bool} {f : MS} {n m : Nat} {en : En} {r : Out} (h : mWh c f n en = some r) (l : n ≤ m) : mWh c f m en = some r := by
 induction l with
 | refl => exact h
 | step _ ih => exact mWh_more ih
open Classical in
noncomputable def mWhile (c : En → Res Bool) (f : MS) : MS := fun en => if h : ∃ n r, mWh c f n en = some r then mWh c f h.choose en else none
theorem mWhile_of {c : En → Res Bool} {f : MS} {n : Nat} {en : En} {r : Out} (h : mWh c f n en = some r) : mWhile c f en = some r := by
 unfold mWhile
 have hx : ∃ n r, mWh c f n en = some r := ⟨n, r, h⟩
 rw [dif_pos hx]
 obtain ⟨r', h'⟩ := hx.choose_spec
 rcases Nat.le_total n hx.choose with l | l
 ·exact mWh_le h l
 ·have := mWh_le h' l
  rw [h] at this
  rw [h']; exact this.symm
theorem mWhile_fuel {c : En → Res Bool} {f : MS} {en : En} {P : Out → Prop} (h : wpO (mWhile c f en) P) : ∃ n, wpO (mWh c f n en) P := by
 unfold mWhile at h
 split at h
 ·exact ⟨_, h⟩
 ·exact h.elim
section
variable {X : Cx} {E : L2.St → XK} {st : Stmt} {sts : List Stmt} {f g : MS} {fe : En → Res Ev} {fc : En → Res Bool} {e c : Expr} {pos : Pos}
theorem ds_while (hp : PassesOwn (model X.prog X.w) X.A X.env X.xe) (hc : DT X E c fc) (hb : DSs X E sts f) : DS X E (.While c sts [] pos) (mWhile fc f) := by
 obtain ⟨tc, pc, mc⟩ := hc.out
 obtain ⟨t, p, m⟩ := hb.out
 refine DS.in ⟨_, ps_while hp pc p, fun B G0 G W H σ en Dn hh hs hw => ?_⟩
 obtain ⟨n0, hw⟩ := mWhile_fuel hw
 refine ⟨fun n σ H => ∃ G W en, SimH B G0 G W H ∧ SimS X.K W G H σ en ∧ wpO (mWh fc f n en) (PostS X.K B G0 E Dn), ⟨n0, G, W, en, hh, hs, hw⟩, ?_⟩
 rintro n σ H ⟨G, W, en, hh, hs, hw⟩
 cases n with
 | zero => exact hw.elim
 | succ n =>
  refine mc B G0 G W H σ en _ hh hs ?_
  unfold mWh at hw
  cases ec : fc en with
  | bad => rw [ec] at hw; exact hw
  | exc C => rw [ec] at hw; exact fun G1 H1 s => hw G1 W H1 σ (hh.step s) (hs.step s)
  | ok k =>
   rw [ec] at hw
   intro G1 H1 s
   cases k with
   | false => exact hw G1 W H1 σ (hh.step s) (hs.step s)
   | true =>
    refine ⟨fun σ' H' => ∃ G W en, SimH B G0 G W H' ∧ SimS X.K W G H' σ' en ∧ wpO (mWh fc f n en) (PostS X.K B G0 E Dn), fun σ' H' q => ⟨n, Nat.lt_succ_self n, q⟩, ?_⟩
    refine m B G0 G1 W H1 σ en _ (hh.step s) (hs.step s) ?_
    dsimp only at hw
    cases ef : f en with
    | none => rw [ef] at hw; exact hw
    | some o =>
     rw [ef] at hw
     cases o with
     | nx e => exact fun G2 W2 H2 σ2 h2 s2 => ⟨G2, W2, e, h2, s2, hw⟩
     | ct e => exact fun G2 W2 H2 σ2 h2 s2 => ⟨G2, W2, e, h2, s2, hw⟩
     | bk e => exact hw
     | rt l => exact hw
     | ex C e => exact hw
end
def IterOk (K : PySem.W.Frag) (ds : List D) (G1 : Hp) (J : It) : Prop := ∀ G H, Same G1 G → Same G H →
 (∀ i d, ds[i]? = some d → J.go i H ∧ ∀ v H', J.yld i H v H' → ∃ G', Step G H G' H' ∧ Rep K G' v d) ∧ J.stop ds.length H
def tI (K : PySem.W.Frag) (E : L2.St → XK) (f : En → Res (List D)) : TI := fun σ H R => ∃ B G0 G W en, SimH B G0 G W H ∧ SimS K W G H σ en ∧ wpR (f en) (fun ds => ∀ G' H' J, Step G H G' H' → IterOk K ds G' J → R J H') (PostX (E σ) G H)
def DI (X : Cx) (E : L2.St → XK) (tg e : Expr) (f : En → Res (List D)) : Prop := PI X tg e (tI X.K E f)
def Kept (ks : List Nat) (σ σ' : L2.St) : Prop := σ'.length = σ.length ∧ ∀ j, j ∉ ks → σ'[j]? = σ[j]?
def tG (K : PySem.W.Frag) (ks : List Nat) (f : D → En → Option En) : TG := fun v σ H Q => ∃ G W en d en', Same G H ∧ SimS K W G H σ en ∧ Rep K G v d ∧ f d en = some en' ∧ ∀ σ', SimS K W G H σ' en' → Kept ks σ σ' → Q σ' H
def tGs (K : PySem.W.Frag) (ks : List Nat) (f : List D → En → Option En) : TGs := fun vs σ H Q => ∃ G W en ds en', Same G H ∧ SimS K W G H σ en ∧ Reps K G vs ds ∧ f ds en = some en' ∧ ∀ σ', SimS K W G H σ' en' → Kept ks σ σ' → Q σ' H
def DG (X : Cx) (tg : Expr) (ks : List Nat) (f : D → En → Option En) : Prop := PG X tg (tG X.K ks f)
def DGs (X : Cx) (tg : List Expr) (ks : List Nat) (f : List D → En → Option En) : Prop := PGs X tg (tGs X.K ks f)
theorem Kept.trans {ks ls : List Nat} {σ σ1 σ2 : L2.St} (a : Kept ks σ σ1) (b : Kept ls σ1 σ2) : Kept (ks ++ ls) σ σ2 :=
 ⟨b.1.trans a.1, fun j hj => (b.2 j fun z => hj (List.mem_append_right _ z)).trans (a.2 j fun z => hj (List.mem_append_left _ z))⟩
def mgName (i : Nat) : D → En → Option En := fun d en => some (en.set i (some (.p d)))
def mgNil : List D → En → Option En := fun ds en => match ds with
 | [] => some en
 | _ => none
def mgCons (f : D → En → Option En) (g : List D → En → Option En) : List D → En → Option En := fun ds en => match ds with
 | [] => none
 | d :: r => match f d en with
  | none => none
  | some e => g r e
def mgTup (n : Nat) (f : List D → En → Option En) : D → En → Option En := fun d en => match d with
 | .tuple ds => if ds.length = n then f ds en else none
 | _ => none
section
variable {X : Cx} {E : L2.St → XK} {pos : Pos}
theorem DI.in {tg e : Expr} {f : En → Res (List D)} (h : ∃ t, PI X tg e t ∧ ∀ B G0 G W H σ en R, SimH B G0 G W H → SimS X.K W G H σ en → wpR (f en) (fun ds => ∀ G' H' J, Step G H G' H' → IterOk X.K ds G' J → R J H') (PostX (E σ) G H) → t σ H R) : DI X E tg e f :=
 fun pins s σ H R I ⟨B, G0, G, W, en, h1, h2, h3⟩ => let ⟨_, p, m⟩ := h; p pins s σ H R I (m B G0 G W H σ en R h1 h2 h3)
theorem dg_name {i : Nat} {x : Str} (hN : X.N.Nodup) (hi : X.N[i]? = some x) (hx : Loc X.env.scope x) (hf : X.fn x = true ∨ X.env.scope.names.lookup x = some .local := by first | exact .inl rfl | exact .inr rfl | assumption) : DG X (.Name x pos) [i] (mgName i) := by
 intro pins s σ H v u Q I r ⟨G, W, en, d, en', h1, h2, h3, h4, h5⟩
 refine pg_name hN hi hx hf pins s σ H v u Q I r ?_
 cases h4
 exact h5 _ (h2.set h3) ⟨List.length_set .., fun j hj => List.getElem?_set_ne (fun z => hj (by rw [z]; exact .head _))⟩
theorem dgs_nil : DGs X [] [] mgNil := by
 intro pins s σ H vs us Q I r ⟨G, W, en, ds, en', h1, h2, h3, h4, h5⟩
 refine pgs_nil pins s σ H vs us Q I r ?_
 unfold mgNil at h4
 split at h4
 ·cases h4; cases h3; exact ⟨rfl, h5 _ h2 ⟨rfl, fun _ _ => rfl⟩⟩
 ·cases h4
theorem dgs_cons {e : Expr} {es : List Expr} {ks ls : List Nat} {f : D → En → Option En} {g : List D → En → Option En} (h1 : DG X e ks f) (h2 : DGs X es ls g)
  (hs : (assignEach (e :: es) X.env).map (·.2) = assign e X.env :: (assignEach es X.env).map (·.2) := by rfl) : DGs X (e :: es) (ks ++ ls) (mgCons f g) := by
 intro pins s σ H vs us Q I r ⟨G, W, en, ds, en', k1, k2, k3, k4, k5⟩
 refine pgs_cons h1 h2 hs pins s σ H vs us Q I r ?_
 unfold mgCons at k4
 cases k3 with
 | nil => cases k4
 | @cons x xs d ds hx hr =>
  dsimp only at k4
  split at k4
  ·cases k4
  ·rename_i e1 q1
   exact ⟨x, xs, rfl, G, W, en, d, e1, k1, k2, hx, q1, fun σ' hσ hk => ⟨G, W, e1, ds, en', k1, hσ, hr, k4, fun σ2 q1 q2 => k5 σ2 q1 (hk.trans q2)⟩⟩
theorem dg_tup {es : List Expr} {k : Nat} {ks : List Nat} {f : List D → En → Option En} {n : Nat} (hc : X.calm = true) (h : DGs X es ks f) (hn : (assignEach es X.env).length = n := by rfl) (hst : (assignEach es X.env).findIdx? (·.1) = none := by rfl) : DG X (.Tuple es k pos) ks (mgTup n f) := by
 intro pins s σ H v u Q I r ⟨G, W, en, d, en', k1, k2, k3, k4, k5⟩
 refine pg_tup hc h hn hst pins s σ H v u Q I r ?_
 unfold mgTup at k4
 split at k4
 ·rename_i ds
  split at k4
  ·rename_i hl
   cases k3 with
   | @tup a xs _ ha hr => exact ⟨a, xs, rfl, SqT.of (k1 _ _ ha), by rw [hr.length]; exact hl, G, W, en, ds, en', k1, k2, hr, k4, k5⟩
  ·cases k4
 ·cases k4
def mLoop (tg : D → En → Option En) (f : MS) : List D → MS
 | [], en => some (.nx en)
 | d :: ds, en => match tg d en with
  | none => none
  | some e1 => match f e1 with
   | some (.nx e2) => mLoop tg f ds e2
   | some (.ct e2) => mLoop tg f ds e2
   | some (.bk e2) => some (.nx e2)
   | r => r
def mFor (fi : En → Res (List D)) (tg : D → En → Option En) (f : MS) : MS := fun en => match fi en with
 | .ok ds => mLoop tg f ds en
 | .exc C => some (.ex C en)
 | .bad => none
theorem SimH.lower {B G0 G1 G H H1 : Hp} {W W1 : Addr → Option Nat} (h : SimH B G1 G W H) (h1 : SimH B G0 G1 W1 H1) : SimH B G0 G W H :=
 ⟨h.gh, h.bh, h1.g0.trans h.g0, fun b hb => (h.gb b hb).elim (fun z => h1.gb b z) .inr, h.wf⟩
theorem SimH.raise {B G0 G H : Hp} {W : Addr → Option Nat} (h : SimH B G0 G W H) : SimH B G G W H := ⟨h.gh, h.bh, Same.refl _, fun _ hb => .inl hb, h.wf⟩
theorem PostS.lower {K : PySem.W.Frag} {B G0 G1 H1 : Hp} {W1 : Addr → Option Nat} {Dn : Ends} {r : Out} (h : PostS K B G0 E Dn r) (h1 : SimH B G0 G1 W1 H1) : PostS K B G1 E Dn r := by
 cases r with
 | nx en => exact fun G W H σ a b => h G W H σ (a.lower h1) b
 | bk en => exact fun G W H σ a b => h G W H σ (a.lower h1) b
 | ct en => exact fun G W H σ a b => h G W H σ (a.lower h1) b
 | rt l => exact fun G W H σ a b => h G W H σ (a.lower h1) b
 | ex C en => exact fun G W H σ a b => h G W H σ (a.lower h1) b
theorem ds_for {tg iter : Expr} {body : List Stmt} {fi : En → Res (List D)} {ks : List Nat} {g : D → En → Option En} {f : MS} (hp : PassesOwn (model X.prog X.w) X.A X.env X.xe) (hc : X.calm = true) (hi : DI X E tg iter fi) (hg : DG X tg ks g) (hb : DSs X E body f)
  (hs : ∀ x, foldedSetIterable iter X.env x = pure x := by intro _; rfl) : DS X E (.For tg iter body [] pos) (mFor fi g f) := by
 obtain ⟨t, p, m⟩ := hb.out
 refine DS.in ⟨_, ps_for hp hc hi hg p hs, fun B G0 G W H σ en Dn hh hs hw => ⟨B, G0, G, W, en, hh, hs, ?_⟩⟩
 unfold mFor at hw
 cases ef : fi en with
 | bad => rw [ef] at hw; exact hw
 | exc C => rw [ef] at hw; exact fun G1 H1 s => hw G1 W H1 σ (hh.step s) (hs.step s)
 | ok ds =>
  rw [ef] at hw
  intro G1 H1 J s1 hJ
  have hh1 := hh.step s1
  refine ⟨fun i n σ H => n = ds.length - i ∧ i ≤ ds.length ∧ ∃ G W en, SimH B G1 G W H ∧ SimS X.K W G H σ en ∧ wpO (mLoop g f (ds.drop i) en) (PostS X.K B G0 E Dn),
   ⟨ds.length, rfl, Nat.zero_le _, G1, W, en, hh1.raise, hs.step s1, hw⟩, ?_⟩
  rintro i n σ H ⟨rfl, hi, G, W, en, hh, hs, hw⟩
  obtain ⟨j1, j2⟩ := hJ G H hh.g0 hh.gh
  by_cases hlt : i < ds.length
  ·refine .inr ?_
   obtain ⟨jg, jy⟩ := j1 i ds[i] (List.getElem?_eq_getElem hlt)
   rw [List.drop_eq_getElem_cons hlt] at hw
   unfold mLoop at hw
   refine ⟨jg, fun σ' H' => ∃ G W en, SimH B G1 G W H' ∧ SimS X.K W G H' σ' en ∧ wpO (mLoop g f (ds.drop (i + 1)) en) (PostS X.K B G0 E Dn), fun σ' H' q => ⟨ds.length - (i + 1), by omega, rfl, hlt, q⟩, fun v H' hy => ?_⟩
   obtain ⟨G2, s2, rv⟩ := jy v H' hy
   cases eg : g ds[i] en with
   | none => rw [eg] at hw; exact hw.elim
   | some e1 =>
    rw [eg] at hw
    dsimp only at hw
    refine ⟨G2, W, en, ds[i], e1, s2.gh, hs.step s2, rv, eg, fun σ' hσ _ => ?_⟩
    refine m B G1 G2 W H' σ' e1 _ (hh.step s2) hσ ?_
    cases ef2 : f e1 with
    | none => rw [ef2] at hw; exact hw
    | some o =>
     rw [ef2] at hw
     cases o with
     | nx e => exact fun G2 W2 H2 σ2 h2 s2 => ⟨G2, W2, e, h2, s2, hw⟩
     | ct e => exact fun G2 W2 H2 σ2 h2 s2 => ⟨G2, W2, e, h2, s2, hw⟩
     | bk e => exact PostS.lower (E := E) (Dn := Dn) (r := .nx e) hw hh1
     | rt l => exact PostS.lower (E := E) (Dn := Dn) (r := .rt l) hw hh1
     | ex C e => exact PostS.lower (E := E) (Dn := Dn) (r := .ex C e) hw hh1
  ·have e : i = ds.length := by omega
   subst e
   rw [List.drop_length] at hw
   exact .inl ⟨j2, hw G W H σ (hh.lower hh1) hs⟩
def listR (r : Ev) : Res (List D) := match r with
 | .p (.list ds) => .ok ds
 | _ => .bad
def mItL (fe : En → Res Ev) : En → Res (List D) := fun en => (fe en).bind fun r => listR r.c
theorem di_list {tg e : Expr} {fe : En → Res Ev} (he : DE X E e fe) : DI X E tg e (mItL fe) := by
 obtain ⟨t, p, m⟩ := he.out
 refine DI.in ⟨_, pi_list p, fun B G0 G W H σ en R hh hs hw => m B G0 G W H σ en _ hh hs ?_⟩
 have hw : wpR ((fe en).bind _) _ _ := hw
 rw [wpR_bind] at hw
 refine wpR_mono hw (fun r hr G1 H1 v s e => ?_) fun C h => h
 obtain ⟨G2, s2, e2⟩ := e.c s
 cases er : r.c with
 | p d =>
  rw [er] at hr e2
  cases d with
  | list ds =>
   cases e2 with
   | @lst a xs _ ha hrs =>
    refine ⟨a, rfl, ⟨xs, s2.gh.seq (.inl ha)⟩, hr G2 H1 _ s2 fun G3 H3 k1 k2 => ⟨fun i d ed => ?_, xs, (k1.trans k2).seq (.inl ha), Nat.le_of_eq hrs.length⟩⟩
    obtain ⟨x, ex, rx⟩ := hrs.get' ed
    refine ⟨⟨xs, x, (k1.trans k2).seq (.inl ha), ex⟩, fun v H' hy => ?_⟩
    obtain ⟨rfl, hy⟩ := hy
    have := hy xs ((k1.trans k2).seq (.inl ha))
    rw [ex] at this
    cases this
    exact ⟨G3, Step.refl k2, rx.mono k1⟩
  | _ => exact False.elim hr
 | f d => rw [er] at hr; exact False.elim hr
 | b d => rw [er] at hr; exact False.elim hr
 | x C => rw [er] at hr; exact False.elim hr
def rngL (lo : Int) (n : Nat) : List D := (List.range n).map fun (k : Nat) => PyData.int (lo + (k : Int))
def rng1R (rs : List Ev) : Res (List D) := match rs with
 | [.p (.int j)] => if -(2 ^ 62) ≤ j ∧ j < 2 ^ 62 then .ok (rngL 0 j.toNat) else .bad
 | _ => .bad
theorem iter_range (K : PySem.W.Frag) (lo : Int) (n : Nat) (G1 : Hp) : IterOk K (rngL lo n) G1 (Itr lo n) := fun G H _ k2 => by
 refine ⟨fun i d ed => ?_, by show n ≤ _; unfold rngL; rw [List.length_map, List.length_range]; exact Nat.le_refl _⟩
 unfold rngL at ed
 rw [List.getElem?_map] at ed
 by_cases hi : i < n
 ·rw [List.getElem?_range hi] at ed
  cases ed
  refine ⟨hi, fun v H' hy => ?_⟩
  obtain ⟨rfl, rfl⟩ := hy
  exact ⟨G, Step.refl k2, .int _⟩
 ·rw [List.getElem?_eq_none (by rw [List.length_range]; omega)] at ed
  cases ed
def mItA (r : List Ev → Res (List D)) (fr : En → Res (List Ev)) : En → Res (List D) := fun en => (fr en).bind r
theorem di_range1 {tg a : Expr} {fr : En → Res (List Ev)} {p : Pos} (hg : Gl X "range") (hm : X.mg "range" = none) (ha : DA X E [a] fr) (hs : starEach [a] X.env = [(false, eval a X.env)] := by rfl) : DI X E tg (.Call (.Name "range" p) [a] [] pos) (mItA rng1R fr) := by
 obtain ⟨t, q, m⟩ := ha.out
 refine DI.in ⟨_, pi_range1 hg hm q hs, fun B G0 G W H σ en R hh hs hw => m B G0 G W H σ en _ hh hs ?_⟩
 have hw : wpR ((fr en).bind _) _ _ := hw
 rw [wpR_bind] at hw
 refine wpR_mono hw (fun rs hr G1 H1 vs s e => ?_) fun C h => h
 unfold rng1R at hr
 split at hr
 ·rename_i j
  split at hr
  ·rename_i hj
   match vs, e with
   | [v], ⟨e1, _⟩ =>
    cases e1
    exact ⟨j, rfl, hj.1, hj.2, hr G1 H1 _ s (iter_range _ _ _ _)⟩
  ·exact False.elim hr
 ·exact False.elim hr
end
def argL : Ev → Option L
 | .p d => some (.p d)
 | .x C => some (.x C)
 | .b _ => none
 | .f _ => none
def argB : Ev → Option L
 | .p d => some (.p d)
 | .b d => some (.p d)
 | .x _ => none
 | .f _ => none
def argsL (g : Ev → Option L) : List Ev → Option (List L)
 | [] => some []
 | r :: rs => match g r with
  | none => none
  | some l => match argsL g rs with
   | none => none
   | some ls => some (l :: ls)
def retE : L → Ev
 | .p d => .p d
 | .o d => .f d
 | .x C => .x C
 | .h a => .x a
mutual
def lfD : D → Bool
 | .list _ => false
 | .dict _ => false
 | .tuple ds => lfA ds
 | _ => true
def lfA : List D → Bool
 | [] => true
 | d :: ds => lfD d && lfA ds
end
def lfP : List (D × D) → Bool
 | [] => true
 | p :: r => lfD p.2 && lfP r
def flatL : L → Bool
 | .p d => lfD d
 | .o (.list ds) => lfA ds
 | .o (.dict kvs) => lfP kvs
 | _ => false
def callR (n : Nat) (m : List L → Res L) (rs : List Ev) : Res Ev := match argsL argL rs with
 | some ls => if ls.length = n then (m ls).bind fun l => .ok (retE l) else .bad
 | none => match argsL argB rs with
  | some ls => if ls.length = n then (m ls).bind fun l => if flatL l = true then .ok (retE l) else .bad else .bad
  | none => .bad
def mCall (n : Nat) (m : List L → Res L) (fr : En → Res (List Ev)) : En → Res Ev := fun en => (fr en).bind (callR n m)
def ArgOk (K : PySem.W.Frag) (G : Hp) (v : V) : L → Prop
 | .p d => Rep K G v d
 | .o _ => False
 | .x C => ∃ e, v = .ref e ∧ G e = some (excO e (.ref C))
 | .h _ => False
def ArgsOk (K : PySem.W.Frag) (G : Hp) : List V → List L → Prop
 | [], [] => True
 | v :: vs, l :: ls => ArgOk K G v l ∧ ArgsOk K G vs ls
 | _, _ => False
theorem ArgsOk.length {K : PySem.W.Frag} {G : Hp} : ∀ {vs : List V} {ls : List L}, ArgsOk K G vs ls → vs.length = ls.length
 | [], [], _ => rfl
 | _ :: _, _ :: _, h => by rw [List.length_cons, List.length_cons, ArgsOk.length h.2]
def spM (K : PySem.W.Frag) (n : Nat) (m : List L → Res L) : Sp := fun vs H Q E => vs.length = n ∧ ∃ G ls, Same G H ∧ ArgsOk K G vs ls ∧
 wpR (m ls) (fun l => ∀ G' H' v, Step G H G' H' → RetOk K H G' H' v l → Q v H') (fun C => ∀ G' H', Step G H G' H' → E (.ref C) none H')
theorem args_L {K : PySem.W.Frag} {W : Addr → Option Nat} {Hs G H : Hp} : ∀ {rs : List Ev} {ls : List L} {vs : List V}, argsL argL rs = some ls → EOks K W Hs G H vs rs → ArgsOk K G vs ls
 | [], _, [], h, _ => by cases h; exact trivial
 | [], _, _ :: _, _, e => e.elim
 | _ :: _, _, [], _, e => e.elim
 | r :: rs, ls, v :: vs, h, e => by
  unfold argsL at h
  cases r with
  | p d =>
   cases er : argsL argL rs with
   | none => rw [er] at h; cases h
   | some ls' => rw [er] at h; cases h; exact ⟨e.1, args_L er e.2⟩
  | x C =>
   cases er : argsL argL rs with
   | none => rw [er] at h; cases h
   | some ls' => rw [er] at h; cases h; exact ⟨e.1, args_L er e.2⟩
  | b d => cases h
  | f d => cases h
def both (W : Addr → Option Nat) (G H : Hp) : Hp := fun b => match W b with
 | some _ => H b
 | none => G b
theorem both_same {W : Addr → Option Nat} {B G0 G H : Hp} (hh : SimH B G0 G W H) : Same G (both W G H) ∧ Same (both W G H) H := by
 refine ⟨fun b o e => ?_, fun b o e => ?_⟩
 ·unfold both
  cases ew : W b with
  | none => exact e
  | some i => rw [(hh.wf b i ew).1] at e; cases e
 ·unfold both at e
  cases ew : W b with
  | none => rw [ew] at e; exact hh.gh b o e
  | some i => rw [ew] at e; exact e
theorem args_B {K : PySem.W.Frag} {W : Addr → Option Nat} {Hs B G0 G H : Hp} (hh : SimH B G0 G W H) : ∀ {rs : List Ev} {ls : List L} {vs : List V}, argsL argB rs = some ls → EOks K W Hs G H vs rs → ArgsOk K (both W G H) vs ls
 | [], _, [], h, _ => by cases h; exact trivial
 | [], _, _ :: _, _, e => e.elim
 | _ :: _, _, [], _, e => e.elim
 | r :: rs, ls, v :: vs, h, e => by
  unfold argsL at h
  cases r with
  | p d =>
   cases er : argsL argB rs with
   | none => rw [er] at h; cases h
   | some ls' => rw [er] at h; cases h; exact ⟨Rep.mono (both_same hh).1 e.1, args_B hh er e.2⟩
  | b d =>
   cases er : argsL argB rs with
   | none => rw [er] at h; cases h
   | some ls' =>
    rw [er] at h; cases h
    refine ⟨?_, args_B hh er e.2⟩
    obtain ⟨a, i, o, rfl, h1, h2, h3⟩ := e.1
    exact (h3.mono (both_same hh).1).rep (by unfold both; rw [h1]; exact h2)
  | x d => cases h
  | f d => cases h
mutual
theorem lf_rep {K : PySem.W.Frag} {G G' : Hp} (k : ∀ b xs, G b = some (.tup xs) → G' b = some (.tup xs)) : ∀ {v : V} {d : D}, lfD d = true → Rep K G v d → Rep K G' v d
 | _, _, _, .non => .non
 | _, _, _, .bl b => .bl b
 | _, _, _, .int i => .int i
 | _, _, _, .str x => .str x
 | _, _, hf, .tup h r => .tup (k _ _ h) (lf_reps k (by unfold lfD at hf; exact hf) r)
 | _, _, hf, .lst _ _ => by unfold lfD at hf; cases hf
 | _, _, hf, .dT _ _ => by unfold lfD at hf; cases hf
 | _, _, hf, .dK _ _ => by unfold lfD at hf; cases hf
theorem lf_reps {K : PySem.W.Frag} {G G' : Hp} (k : ∀ b xs, G b = some (.tup xs) → G' b = some (.tup xs)) : ∀ {vs : List V} {ds : List D}, lfA ds = true → Reps K G vs ds → Reps K G' vs ds
 | _, _, _, .nil => .nil
 | _, _, hf, .cons h r => by
  unfold lfA at hf
  have hf := Bool.and_eq_true_iff.mp hf
  exact .cons (lf_rep k hf.1 h) (lf_reps k hf.2 r)
end
theorem lf_repT {K : PySem.W.Frag} {G G' : Hp} (k : ∀ b xs, G b = some (.tup xs) → G' b = some (.tup xs)) : ∀ {kv : List (List Key × V)} {kvs : List (D × D)}, lfP kvs = true → RepT K G kv kvs → RepT K G' kv kvs
 | _, _, _, .nil => .nil
 | _, _, hf, .cons h r => by
  unfold lfP at hf
  have hf := Bool.and_eq_true_iff.mp hf
  exact .cons (lf_rep k hf.1 h) (lf_repT k hf.2 r)
theorem lf_repK {K : PySem.W.Frag} {G G' : Hp} (k : ∀ b xs, G b = some (.tup xs) → G' b = some (.tup xs)) : ∀ {kv : List (Key × V)} {kvs : List (D × D)}, lfP kvs = true → RepK K G kv kvs → RepK K G' kv kvs
 | _, _, _, .nil => .nil
 | _, _, hf, .cons h r => by
  unfold lfP at hf
  have hf := Bool.and_eq_true_iff.mp hf
  exact .cons (lf_rep k hf.1 h) (lf_repK k hf.2 r)
def lessW (W : Addr → Option Nat) (G : Hp) : Hp := fun b => match W b with
 | some _ => none
 | none => G b
theorem flat_rep {K : PySem.W.Frag} {W : Addr → Option Nat} {H1 G H Hs : Hp} {v : V} {l : L} (hf : flatL l = true) (hH : Hs = Hs) (hs : ∀ b, H1 b = none → Hs b = none) (k : ∀ b xs, G b = some (.tup xs) → lessW W G b = some (.tup xs)) (h : RetOk K H1 G H v l) : EOk K W Hs (lessW W G) H v (retE l) := by
 have n0 : ∀ b, G b = none → lessW W G b = none := fun b e => by
  unfold lessW
  cases W b with
  | none => exact e
  | some _ => rfl
 cases l with
 | x C => cases hf
 | h a => cases hf
 | p d => exact lf_rep k hf h
 | o d =>
  obtain ⟨a, o, rfl, h1, h2, h3, h4⟩ := h
  refine ⟨a, o, rfl, hs _ h2, n0 _ h1, h3, ?_⟩
  cases h4 with
  | lst r => exact .lst (lf_reps k hf r)
  | dT r => exact .dT (lf_repT k hf r)
  | dK r => exact .dK (lf_repK k (by unfold flatL at hf; unfold lfP at hf; exact (Bool.and_eq_true_iff.mp hf).2) r)
theorem call_core {K : PySem.W.Frag} {W : Addr → Option Nat} {B G0 G H G1 H1 : Hp} {n : Nat} {m : List L → Res L} {rs : List Ev} {vs : List V} {Q : VK} {EE : XK} (hh : SimH B G0 G W H) (s : Step G H G1 H1) (e : EOks K W H G1 H1 vs rs)
  (hr : wpR (callR n m rs) (PostE K W G H Q) (PostX EE G H)) : spM K n m vs H1 Q EE := by
 unfold callR at hr
 split at hr
 ·rename_i ls el
  split at hr
  ·rename_i hn
   have ha := args_L el e
   refine ⟨by rw [ha.length]; exact hn, G1, ls, s.gh, ha, ?_⟩
   rw [wpR_bind] at hr
   refine wpR_mono hr (fun l hl G2 H2 v s2 rv => hl G2 H2 v (s.trans s2) ?_) fun C h G2 H2 s2 => h G2 H2 (s.trans s2)
   cases l with
   | p d => exact rv
   | x C => exact rv
   | h a => exact rv.elim
   | o d =>
    obtain ⟨a, o, h1, h2, h3, h4, h5⟩ := rv
    exact ⟨a, o, h1, s.h.free h3, h2, h4, h5⟩
  ·exact hr.elim
 ·split at hr
  ·rename_i ls el
   split at hr
   ·rename_i hn
    have hh1 := hh.step s
    have ha := args_B hh1 el e
    obtain ⟨k1, k2⟩ := both_same hh1
    refine ⟨by rw [ha.length]; exact hn, both W G1 H1, ls, k2, ha, ?_⟩
    rw [wpR_bind] at hr
    refine wpR_mono hr (fun l hl G2 H2 v s2 rv => ?_) fun C h G2 H2 s2 => h G1 H2 (s.trans ⟨Same.refl _, s2.h, s.gh.trans s2.h, fun _ _ q => .inl q⟩)
    split at hl
    ·rename_i hf
     have kt : ∀ b xs, G2 b = some (.tup xs) → lessW W G2 b = some (.tup xs) := fun b xs eb => by
      unfold lessW
      cases ew : W b with
      | none => exact eb
      | some i =>
       obtain ⟨_, _, o, e1, e2⟩ := hh1.wf b i ew
       have e3 := s2.gh _ _ eb
       rw [s2.h _ _ e1] at e3
       exact absurd (Option.some.inj e3) (e2 xs)
     refine hl (lessW W G2) H2 v ⟨fun b o eb => ?_, s.h.trans s2.h, fun b o eb => ?_, fun b hb hg => ?_⟩ (flat_rep hf rfl (fun b e => s.h.free e) kt rv)
     ·have e1 := s.g _ _ eb
      unfold lessW
      cases ew : W b with
      | none => exact s2.g _ _ (k1 _ _ e1)
      | some i => rw [(hh1.wf b i ew).1] at e1; cases e1
     ·unfold lessW at eb
      cases ew : W b with
      | none => rw [ew] at eb; exact s2.gh _ _ eb
      | some i => rw [ew] at eb; cases eb
     ·unfold lessW
      cases ew : W b with
      | some i => exact .inl rfl
      | none =>
       rcases s.new b hb hg with z | z
       ·have z2 : both W G1 H1 b = none := by unfold both; rw [ew]; exact z
        rcases s2.new b (same_ne s.h hb) z2 with y | ⟨xs, y⟩
        ·exact .inl y
        ·cases e : H b with
         | none => exact absurd e hb
         | some o => rw [s.h _ _ e] at y; exact .inr ⟨xs, y⟩
       ·exact .inr z
    ·exact hl.elim
   ·exact hr.elim
  ·exact hr.elim
section
variable {X : Cx} {E : L2.St → XK} {k : Nat} {f : Addr} {fd : FuncData} {ps : List Str} {x : Str} {p pos : Pos} {e : Expr} {es : List Expr} {fr : En → Res (List Ev)} {n : Nat} {m : List L → Res L}
theorem de_call (F : FnOk X.prog X.w X.K X.mg X.base (CXr X.prog X.w) k f fd ps (spM X.K n m)) (hr : Room k X.A) (hg : Gl X x) (hm : X.mg x = some (.ref f)) (hk : PySem.W.keepIn X.K (.ref f) = true) (hb : Binds X.K fd ps []) (hx : PassesS (CXr X.prog X.w) X E)
  (ha : DA X E (e :: es) fr) (hdb : (x == ("__debug__" : Str)) = false := by decide) (he : starEach (e :: es) X.env = (false, eval e X.env) :: starEach es X.env := by rfl) (hpl : (backTo pos (starEach es X.env)).any (·.1) = false := by rfl) :
  DE X E (.Call (.Name x p) (e :: es) [] pos) (mCall n m fr) := by
 obtain ⟨t, q, mm⟩ := ha.out
 refine DE.in ⟨_, pe_callS F hr hg hm hk hb hx q hdb he hpl, fun B G0 G W H σ en Q hh hs hw => mm B G0 G W H σ en _ hh hs ?_⟩
 have hw : wpR ((fr en).bind _) _ _ := hw
 rw [wpR_bind] at hw
 exact wpR_mono hw (fun rs hr G1 H1 vs s e => call_core hh s e hr) fun C h => h
theorem de_callQ (F : FnOkQ X.prog X.w X.K X.mg X.base k f fd ps (spM X.K n m)) (hr : RoomQ k X.A) (hg : Gl X x) (hm : X.mg x = some (.ref f)) (hk : PySem.W.keepIn X.K (.ref f) = true) (hb : Binds X.K fd ps [])
  (ha : DA X (fun _ => E0) (e :: es) fr) (hdb : (x == ("__debug__" : Str)) = false := by decide) (he : starEach (e :: es) X.env = (false, eval e X.env) :: starEach es X.env := by rfl) (hpl : (backTo pos (starEach es X.env)).any (·.1) = false := by rfl) :
  DE X (fun _ => E0) (.Call (.Name x p) (e :: es) [] pos) (mCall n m fr) := by
 obtain ⟨t, q, mm⟩ := ha.out
 refine DE.in ⟨_, pe_callQ F hr hg hm hk hb q hdb he hpl, fun B G0 G W H σ en Q hh hs hw => mm B G0 G W H σ en _ hh hs ?_⟩
 have hw : wpR ((fr en).bind _) _ _ := hw
 rw [wpR_bind] at hw
 exact wpR_mono hw (fun rs hr G1 H1 vs s e => call_core hh s e hr) fun C h => h
def CallM (K : PySem.W.Frag) (r : List V → Hp → VK → Prop) (f : List Ev → Res Ev) : Prop := ∀ (W : Addr → Option Nat) (Hs G H : Hp) (vs : List V) (rs : List Ev) (Q : VK), Same G H → EOks K W Hs G H vs rs → wpR (f rs) (PostE K W G H Q) (fun _ => False) → r vs H Q
def NoXs (f : List Ev → Res Ev) : Prop := ∀ rs C, f rs ≠ .exc C
def mCallB (f : List Ev → Res Ev) (fr : En → Res (List Ev)) : En → Res Ev := fun en => (fr en).bind f
theorem callB_core {r : List V → Hp → VK → Prop} {f : List Ev → Res Ev} {t : TA} (hm : CallM X.K r f) (hn : NoXs f) (mm : ∀ B G0 G W H σ en Q, SimH B G0 G W H → SimS X.K W G H σ en → wpR (fr en) (PostA X.K W G H Q) (PostX (E σ) G H) → t σ H Q) :
  ∀ B G0 G W H σ en Q, SimH B G0 G W H → SimS X.K W G H σ en → wpR (mCallB f fr en) (PostE X.K W G H Q) (PostX (E σ) G H) → tCB r t σ H Q := by
 intro B G0 G W H σ en Q hh hs hw
 refine mm B G0 G W H σ en _ hh hs ?_
 have hw : wpR ((fr en).bind _) _ _ := hw
 rw [wpR_bind] at hw
 exact wpR_mono hw (fun rs hr G1 H1 vs s e => hm W H G1 H1 vs rs Q s.gh e (noX (wpR_mono hr (fun _ h => h.step s) fun _ h => h) (hn rs))) fun C h => h
theorem de_callB {id : String} {r : List V → Hp → VK → Prop} {f : List Ev → Res Ev} (hc : CallR X (.builtin id) r) (hM : CallM X.K r f) (hn : NoXs f) (hg : Gl X x) (hm : X.mg x = none) (hv : bootBuiltins x = some (.builtin id)) (ha : DA X E (e :: es) fr) (hnn : x ≠ "__name__" := by decide) (hdb : (x == ("__debug__" : Str)) = false := by decide)
  (he : starEach (e :: es) X.env = (false, eval e X.env) :: starEach es X.env := by rfl) (hpl : (backTo pos (starEach es X.env)).any (·.1) = false := by rfl) : DE X E (.Call (.Name x p) (e :: es) [] pos) (mCallB f fr) := by
 obtain ⟨t, q, mm⟩ := ha.out
 exact DE.in ⟨_, pe_callB hc hg hm hv q hnn hdb he hpl, callB_core hM hn mm⟩
theorem de_callTy {T : String} {r : List V → Hp → VK → Prop} {f : List Ev → Res Ev} (hc : CallR X (.type T) r) (hM : CallM X.K r f) (hn : NoXs f) (hg : Gl X x) (hm : X.mg x = none) (hv : bootBuiltins x = some (.type T)) (ha : DA X E (e :: es) fr) (hnn : x ≠ "__name__" := by decide) (hdb : (x == ("__debug__" : Str)) = false := by decide)
  (he : starEach (e :: es) X.env = (false, eval e X.env) :: starEach es X.env := by rfl) (hpl : (backTo pos (starEach es X.env)).any (·.1) = false := by rfl) : DE X E (.Call (.Name x p) (e :: es) [] pos) (mCallB f fr) := by
 obtain ⟨t, q, mm⟩ := ha.out
 exact DE.in ⟨_, pe_callTy hc hg hm hv q hnn hdb he hpl, callB_core hM hn mm⟩
end
def startE (n : Nat) (ls : List L) : En := ls.map some ++ List.replicate (n - ls.length) none
def runF (n : Nat) (f : MS) (ls : List L) : Res L := match f (startE n ls) with
 | some (.nx _) => .ok (.p .none)
 | some (.rt l) => .ok l
 | some (.ex C _) => .exc C
 | _ => .bad
theorem args_slots {K : PySem.W.Frag} {W : Addr → Option Nat} {G H : Hp} : ∀ {vs : List V} {ls : List L} (i : Nat) (l : L), ArgsOk K G vs ls → ls[i]? = some l → ∃ v, vs[i]? = some v ∧ ∀ j, Slot K W G H j v l
 | [], [], _, _, _, e => by simp at e
 | v :: vs, l :: ls, 0, m, h, e => by
  simp at e; subst e
  refine ⟨v, rfl, fun j => ?_⟩
  have z := h.1
  cases l with
  | p d => exact z
  | x C => exact z
  | h a => exact z.elim
  | o d => exact z.elim
 | v :: vs, l :: ls, i + 1, m, h, e => by
  have := args_slots (W := W) (H := H) i m h.2 (by simpa using e)
  simpa using this
theorem start_sim {K : PySem.W.Frag} {W : Addr → Option Nat} {G H : Hp} {N : List Str} {vs : List V} {ls : List L} (h : ArgsOk K G vs ls) : SimS K W G H (L2.start N vs) (startE N.length ls) := by
 have hl := h.length
 refine ⟨by unfold L2.start startE; simp [hl], fun i l e => ?_⟩
 unfold startE at e
 by_cases hi : i < ls.length
 ·rw [List.getElem?_append_left (by rw [List.length_map]; exact hi), List.getElem?_map] at e
  cases e2 : ls[i]? with
  | none => rw [e2] at e; cases e
  | some l' =>
   rw [e2] at e
   cases e
   obtain ⟨v, e3, e4⟩ := args_slots (W := W) (H := H) i l h e2
   refine ⟨v, ?_, e4 i⟩
   unfold L2.start
   rw [List.getElem?_append_left (by rw [List.length_map, hl]; exact hi), List.getElem?_map, e3]
   rfl
 ·rw [List.getElem?_append_right (by rw [List.length_map]; omega), List.getElem?_replicate] at e
  split at e <;> cases e
theorem step_of {G H G' H' : Hp} {W : Addr → Option Nat} (h : SimH H G G' W H') : Step G H G' H' := ⟨h.g0, h.bh, h.gh, fun b hb hg => by
 cases e : G' b with
 | none => exact .inl rfl
 | some o =>
  rcases h.gb b (by rw [e]; exact fun z => nomatch z) with z | z | z
  ·exact absurd hg z
  ·exact absurd z hb
  ·exact .inr z⟩
theorem body_core {K : PySem.W.Frag} {N : List Str} {n : Nat} {m : List L → Res L} {fm : MS} {vs : List V} {H : Hp} {Q : VK} {E : XK} (h : spM K n m vs H Q E) (hm : ∀ ls, m ls = .bad ∨ runF N.length fm ls = m ls) :
  tS K (fun _ => E) fm { nx := fun _ H' => Q .non H', rt := Q } (L2.start N vs) H := by
 obtain ⟨hl, G, ls, gh, ha, hw⟩ := h
 refine ⟨H, G, G, fun _ => none, startE N.length ls, ⟨gh, Same.refl _, Same.refl _, fun _ hb => .inl hb, fun a i e => nomatch e⟩, start_sim ha, ?_⟩
 rcases hm ls with e | e
 ·rw [e] at hw; exact hw.elim
 ·rw [← e] at hw
  unfold runF at hw
  cases ef : fm (startE N.length ls) with
  | none => rw [ef] at hw; exact hw
  | some o =>
   rw [ef] at hw
   cases o with
   | nx en => exact fun G' W' H' σ' h1 _ => hw G' H' .non (step_of h1) .non
   | rt l => exact fun G' W' H' v h1 h2 => hw G' H' v (step_of h1) h2
   | bk en => exact hw.elim
   | ct en => exact hw.elim
   | ex C en => exact fun G' W' H' σ' h1 _ => hw G' H' (step_of h1)
section
variable {P : Program} {w : World} {K : PySem.W.Frag} {mg : Str → Option Value} {base : Heap}
theorem passS {N : List Str} {qual : Str} {scope : Scope} {f : Addr} {cd : Value} {A : Around} {outer : List Env} {s : Shared} {H : Hp} {E : XK} : PassesS (CXr P w) (cxOf (CXr P w) P w K mg base N qual scope f cd A outer s H E) (fun _ => E) :=
 fun pins σ H s e s' I h => passR pins σ H s e s' I h
theorem passF {X : Cx} : PassesS (CXr P w) X (fun _ => E0) := fun _ _ _ _ _ _ _ ⟨_, _, _, _, _, _, _, z⟩ => z.elim
theorem fnM {x qual : Str} {st : Stmt} {f : Addr} {fd : FuncData} {N ps : List Str} {k n : Nat} {m : List L → Res L} (F : Fun K x qual st f fd) (S : FnScope N ps (defScope st)) (hn : n = ps.length)
  (hbody : ∀ (cdv : Value) (A : Around) (outer : List Env) (s : Shared) (H : Hp) (E : XK), Room k (A.deeper (envOfC qual (defScope st) s.heap.objs.size f cdv)) →
   ∃ fm, DSs (cxOf (CXr P w) P w K mg base N qual (defScope st) f cdv A outer s H E) (fun _ => E) (defBody st) fm ∧ ∀ ls, m ls = .bad ∨ runF N.length fm ls = m ls) : FnOk P w K mg base (CXr P w) (k + 1) f fd ps (spM K n m) := by
 refine F.okX S (fun vs H Q E h => ?_) (fun cdv A outer s H vs Q E hr h => ?_)
 ·rw [← hn]; exact h.1
 ·obtain ⟨fm, hd, hm⟩ := hbody cdv A outer s H E hr
  exact ⟨_, hd, body_core h hm⟩
theorem fnMQ {x qual : Str} {st : Stmt} {f : Addr} {fd : FuncData} {N ps : List Str} {k n : Nat} {m : List L → Res L} (F : Fun K x qual st f fd) (S : FnScope N ps (defScope st)) (hn : n = ps.length)
  (hbody : ∀ (cdv : Value) (A : Around) (outer : List Env) (s : Shared) (H : Hp), RoomQ k (A.deeper (envOfC qual (defScope st) s.heap.objs.size f cdv)) →
   ∃ fm, DSs (cxOf CX0 P w K mg base N qual (defScope st) f cdv A outer s H E0).quiet (fun _ => E0) (defBody st) fm ∧ ∀ ls, m ls = .bad ∨ runF N.length fm ls = m ls) : FnOkQ P w K mg base (k + 1) f fd ps (spM K n m) := by
 refine F.okQ S (fun vs H Q E h => ?_) (fun cdv A outer s H vs Q hr h => ?_)
 ·rw [← hn]; exact h.1
 ·obtain ⟨fm, hd, hm⟩ := hbody cdv A outer s H hr
  exact ⟨_, hd, body_core h hm⟩
end
def mRaise (C : Addr) (fr : En → Res (List Ev)) : MS := fun en => match fr en with
 | .ok rs => if rs.length ≤ 1000 then some (.ex C en) else none
 | .exc C => some (.ex C en)
 | .bad => none
theorem EOks.length {K : PySem.W.Frag} {W : Addr → Option Nat} {Hs G H : Hp} : ∀ {vs : List V} {rs : List Ev}, EOks K W Hs G H vs rs → vs.length = rs.length
 | [], [], _ => rfl
 | [], _ :: _, h => h.elim
 | _ :: _, [], h => h.elim
 | _ :: _, _ :: _, h => by rw [List.length_cons, List.length_cons, EOks.length h.2]
section
variable {X : Cx}
theorem ds_raise {E : XK} {x : Str} {e₀ : Expr} {rest : List Expr} {fr : En → Res (List Ev)} {C : Addr} {bm : List Value} {B newId initId : String} {np cpos pos : Pos} (hx : Raises X E) (hc : X.calm = true) (hg : Gl X x) (O : OwnCls x C bm newId X.mg X.base)
  (FB : ExcBaseFacts B newId initId bm) (ha : DA X (fun _ => E) (e₀ :: rest) fr) (hdb : (x == ("__debug__" : Str)) = false := by decide)
  (he : starEach (e₀ :: rest) X.env = (false, eval e₀ X.env) :: starEach rest X.env := by rfl) (hpl : (backTo cpos (starEach rest X.env)).any (·.1) = false := by rfl) :
  DS X (fun _ => E) (.Raise (some (.Call (.Name x np) (e₀ :: rest) [] cpos)) none pos) (mRaise C fr) := by
 obtain ⟨t, q, m⟩ := ha.out
 refine DS.in ⟨_, ps_raise hx hc hg O FB q hdb he hpl, fun B G0 G W H σ en Dn hh hs hw => m B G0 G W H σ en _ hh hs ?_⟩
 unfold mRaise at hw
 cases ef : fr en with
 | bad => rw [ef] at hw; exact hw
 | exc C => rw [ef] at hw; exact fun G1 H1 s => hw G1 W H1 σ (hh.step s) (hs.step s)
 | ok rs =>
  rw [ef] at hw
  intro G1 H1 vs s e
  dsimp only at hw
  split at hw
  ·rename_i hl
   exact ⟨by rw [e.length]; exact Nat.le_trans hl (by decide), hw G1 W H1 σ (hh.step s) (hs.step s)⟩
  ·exact hw.elim
def mTry (K : PySem.W.Frag) (R : Addr) (i : Nat) (f fh : MS) : MS := fun en => match f en with
 | some (.ex C e) => if PySem.W.exmOne K (.ref C) (.ref R) = some true then match fh (e.set i (some (.x C))) with
   | some (.nx e') => some (.nx (e'.set i none))
   | some (.bk e') => some (.bk (e'.set i none))
   | some (.ct e') => some (.ct (e'.set i none))
   | some (.rt l) => some (.rt l)
   | _ => none
  else none
 | r => r
theorem SimS.unset {K : PySem.W.Frag} {W : Addr → Option Nat} {G H : Hp} {σ : L2.St} {en : En} (i : Nat) (h : SimS K W G H σ en) : SimS K W G H (σ.set i none) (en.set i none) := by
 refine ⟨by rw [List.length_set, List.length_set]; exact h.1, fun j m e => ?_⟩
 rw [List.getElem?_set] at e
 rw [List.getElem?_set]
 by_cases hj : i = j
 ·subst hj
  rw [if_pos rfl] at e
  split at e <;> cases e
 ·rw [if_neg hj] at e ⊢
  exact h.2 j m e
theorem ds_try {E : L2.St → XK} {body : List Stmt} {b₀ : Stmt} {suite : List Stmt} {x n : Str} {np hpos pos : Pos} {i : Nat} {R : Addr} {f fh : MS} (hst : X.stack = X.env :: X.outer) (hfr : X.env.frame = some X.env.locals) (hN : X.N.Nodup) (hi : X.N[i]? = some n)
  (hk : X.env.kindOf n = some .local) (hg : Gl X x) (hm : X.mg x = some (.ref R))
  (hb : ∀ (W : Value → Shared → Prop) (pn : List (Addr × Obj)) (E : L2.St → XK), PassesS (CXr X.prog X.w) (X.wp W pn) E → DSs (X.wp W pn) E body f) (hh : ∀ e : Addr, DSs (X.hot e) (fun _ => E0) (b₀ :: suite) fh)
  (hdb : (x == ("__debug__" : Str)) = false := by decide) :
  DS X E (.Try body [.ExceptHandler (some (.Name x np)) (some n) (b₀ :: suite) hpos] [] [] pos) (mTry X.K R i f fh) := by
 refine DS.in ⟨_, ps_try (tb := fun E => tS X.K E f) (th := tS X.K (fun _ => E0) fh) hst hfr hN hi hk hg hm hb hh hdb, fun B G0 G W H σ en Dn hh hs hw => ⟨B, G0, G, W, en, hh, hs, ?_⟩⟩
 unfold mTry at hw
 cases ef : f en with
 | none => rw [ef] at hw; exact hw
 | some o =>
  rw [ef] at hw
  cases o with
  | nx e => exact hw
  | bk e => exact hw
  | ct e => exact hw
  | rt l => exact hw
  | ex C e =>
   intro G1 W1 H1 σ1 h1 s1
   dsimp only at hw
   split at hw
   ·rename_i hx
    refine ⟨hx, fun ea he => ?_⟩
    have st := Step.put (o := excO ea (.ref C)) h1.gh he
    refine ⟨B, G0, upd G1 ea (excO ea (.ref C)), W1, e.set i (some (.x C)), h1.step st, (s1.step st).set ⟨ea, rfl, upd_same⟩, ?_⟩
    cases eh : fh (e.set i (some (.x C))) with
    | none => rw [eh] at hw; exact hw
    | some o =>
     rw [eh] at hw
     cases o with
     | nx e' => exact fun G2 W2 H2 σ2 h2 s2 => hw G2 W2 H2 _ h2 (s2.unset i)
     | bk e' => exact fun G2 W2 H2 σ2 h2 s2 => hw G2 W2 H2 _ h2 (s2.unset i)
     | ct e' => exact fun G2 W2 H2 σ2 h2 s2 => hw G2 W2 H2 _ h2 (s2.unset i)
     | rt l => exact hw
     | ex C e' => exact hw.elim
   ·exact hw.elim
end
def pureL : List Ev → Option (List D)
 | [] => some []
 | r :: rs => match r with
  | .p d => match pureL rs with
   | some ds => some (d :: ds)
   | none => none
  | _ => none
theorem pure_reps {K : PySem.W.Frag} {W : Addr → Option Nat} {Hs G H : Hp} : ∀ {rs : List Ev} {ds : List D} {vs : List V}, pureL rs = some ds → EOks K W Hs G H vs rs → Reps K G vs ds
 | [], _, [], h, _ => by cases h; exact .nil
 | [], _, _ :: _, _, e => e.elim
 | _ :: _, _, [], _, e => e.elim
 | r :: rs, ds, v :: vs, h, e => by
  unfold pureL at h
  cases r with
  | p d =>
   dsimp only at h
   cases er : pureL rs with
   | none => rw [er] at h; cases h
   | some ds' => rw [er] at h; cases h; exact .cons e.1 (pure_reps er e.2)
  | x C => cases h
  | b d => cases h
  | f d => cases h
def tupR' (rs : List Ev) : Res Ev := match pureL rs with
 | some ds => if ds.length ≤ 1000 then .ok (.p (.tuple ds)) else .bad
 | none => .bad
def lstR' (rs : List Ev) : Res Ev := match pureL rs with
 | some ds => if ds.length ≤ 1000 then .ok (.f (.list ds)) else .bad
 | none => .bad
section
variable {X : Cx} {E : L2.St → XK} {es : List Expr} {fr : En → Res (List Ev)} {pos : Pos}
theorem de_tup {x1} (h : DA X E es fr) : DE X E (.Tuple es x1 pos) (mCallB tupR' fr) := by
 obtain ⟨t, q, m⟩ := h.out
 refine DE.in ⟨_, pe_tup q, fun B G0 G W H σ en Q hh hs hw => m B G0 G W H σ en _ hh hs ?_⟩
 have hw : wpR ((fr en).bind _) _ _ := hw
 rw [wpR_bind] at hw
 refine wpR_mono hw (fun rs hr G1 H1 vs s e => ?_) fun C h => h
 unfold tupR' at hr
 split at hr
 ·rename_i ds el
  have rp := pure_reps el e
  split at hr
  ·rename_i hl
   refine ⟨by rw [rp.length]; exact Nat.le_trans hl (by decide), fun p hp => ?_⟩
   have st := Step.put (o := .tup vs) s.gh hp
   exact hr _ _ _ (s.trans st) (.tup upd_same (rp.mono st.g))
  ·exact False.elim hr
 ·exact False.elim hr
theorem de_lst (h : DA X E es fr) : DE X E (.List es pos) (mCallB lstR' fr) := by
 obtain ⟨t, q, m⟩ := h.out
 refine DE.in ⟨_, pe_lst q, fun B G0 G W H σ en Q hh hs hw => m B G0 G W H σ en _ hh hs ?_⟩
 have hw : wpR ((fr en).bind _) _ _ := hw
 rw [wpR_bind] at hw
 refine wpR_mono hw (fun rs hr G1 H1 vs s e => ?_) fun C h => h
 unfold lstR' at hr
 split at hr
 ·rename_i ds el
  have rp := pure_reps el e
  split at hr
  ·rename_i hl
   refine ⟨by rw [rp.length]; exact Nat.le_trans hl (by decide), fun p hp => ?_⟩
   have st := Step.lay (o := .lst vs) s.gh hp
   exact hr _ _ _ (s.trans st) ⟨p, _, rfl, s.h.free hp, s.gh.free hp, upd_same, .lst rp⟩
  ·exact False.elim hr
 ·exact False.elim hr
end
def mapO (g : D → Option (Option D)) : List D → Option (List D)
 | [] => some []
 | d :: ds => match g d with
  | none => none
  | some o => match mapO g ds with
   | none => none
   | some r => some (match o with
    | some y => y :: r
    | none => r)
def capO (o : Option (Option L)) : Option L := match o with
 | some (some (.p d)) => some (.p d)
 | some (some (.x C)) => some (.x C)
 | _ => none
def capE (js : List Nat) (en : En) : En := js.map fun j => capO en[j]?
def mYes : En → Res Bool := fun _ => .ok true
def compItem (n : Nat) (js : List Nat) (tg : D → En → Option En) (ft : En → Res Bool) (fe : En → Res Ev) (en : En) (d : D) : Option (Option D) := match tg d (List.replicate n none ++ capE js en) with
 | none => none
 | some e => match ft e with
  | .ok true => match fe e with
   | .ok r => match r.c with
    | .p y => some (some y)
    | _ => none
   | _ => none
  | .ok false => some none
  | _ => none
def compR (g : D → Option (Option D)) (ds : List D) : Res Ev := if ds.length ≤ 100000 then match mapO g ds with
  | some r => .ok (.f (.list r))
  | none => .bad
 else .bad
def mComp (n : Nat) (js : List Nat) (fi : En → Res (List D)) (tg : D → En → Option En) (ft : En → Res Bool) (fe : En → Res Ev) : En → Res Ev := fun en => (fi en).bind fun ds => compR (compItem n js tg ft fe en) ds
def DTs (X : Cx) (ifs : List Expr) (f : En → Res Bool) : Prop := PTs X ifs (tT X.K (fun _ => E0) f)
theorem sim0 {G H : Hp} (h : Same G H) : SimH H G G (fun _ => none) H := ⟨h, Same.refl _, Same.refl _, fun _ hb => .inl hb, fun a i e => nomatch e⟩
theorem caps_sim {K : PySem.W.Frag} {W : Addr → Option Nat} {G H : Hp} {σ : L2.St} {en : En} (n : Nat) (js : List Nat) (h : SimS K W G H σ en) : SimS K (fun _ => none) G H (List.replicate n none ++ caps js σ) (List.replicate n none ++ capE js en) := by
 refine ⟨by unfold caps capE; simp, fun i l e => ?_⟩
 by_cases hi : i < n
 ·rw [List.getElem?_append_left (by rw [List.length_replicate]; exact hi), List.getElem?_replicate] at e
  split at e <;> cases e
 ·rw [List.getElem?_append_right (by rw [List.length_replicate]; omega), List.length_replicate] at e ⊢
  unfold capE at e
  unfold caps
  rw [List.getElem?_map] at e ⊢
  cases ej : js[i - n]? with
  | none => rw [ej] at e; cases e
  | some j =>
   rw [ej] at e
   have e' : capO en[j]? = some l := Option.some.inj e
   unfold capO at e'
   split at e'
   ·rename_i d q
    cases e'
    obtain ⟨v, h1, h2⟩ := h.2 j _ q
    exact ⟨v, by show some ((σ[j]?).getD none) = _; rw [h1]; rfl, h2⟩
   ·rename_i d q
    cases e'
    obtain ⟨v, h1, h2⟩ := h.2 j _ q
    exact ⟨v, by show some ((σ[j]?).getD none) = _; rw [h1]; rfl, h2⟩
   ·cases e'
section
variable {X : Cx} {E : L2.St → XK} {pos : Pos}
theorem dts_nil : DTs X [] mYes := fun pins s σ H Q I ⟨B, G0, G, W, en, h1, h2, h3⟩ => pts_nil pins s σ H Q I (h3 G H (Step.refl h1.gh))
theorem comp_sim {elt iter tg : Expr} {scope : Scope} {ifs : List Expr} {n : Nat} {js ks : List Nat} {fi : En → Res (List D)} {g : D → En → Option En} {ft : En → Res Bool} {fe : En → Res Ev} {xs ys : List Str} {cl : List (Str × Addr)} (hc : X.calm = true) (hi : DI X E tg iter fi)
  (hcl : ClOk X scope cl) (hcap : CapOk X scope cl ys js) (hcell : ∀ y ∈ scope.names, y.2 ≠ .cell) (hkind : scope.kind = .function) (hnames : ∀ y ∈ scope.names, y.2 = .local → scope.names.lookup y.1 = some .local) (hn : xs.length = n) (hks : ∀ j ∈ ks, j < n)
  (hg : ∀ C s₀ H₀ ex pn, DG (blockCx X scope cl C (xs ++ ys) s₀ H₀ ex pn) tg ks g) (ht : ∀ C s₀ H₀ ex pn, DTs (blockCx X scope cl C (xs ++ ys) s₀ H₀ ex pn) ifs ft) (hb : ∀ C s₀ H₀ ex pn, DE (blockCx X scope cl C (xs ++ ys) s₀ H₀ ex pn) (fun _ => E0) elt fe)
  : ∀ B G0 G W H σ en Q, SimH B G0 G W H → SimS X.K W G H σ en → wpR (mComp n js fi g ft fe en) (PostE X.K W G H Q) (PostX (E σ) G H) → tCompG (tI X.K E fi) (tG X.K ks g) (tT X.K (fun _ => E0) ft) (tE X.K (fun _ => E0) fe) xs.length js σ H Q := by
 subst hn
 refine fun B G0 G W H σ en Q hh hs hw => ⟨B, G0, G, W, en, hh, hs, ?_⟩
 have hw : wpR ((fi en).bind _) _ _ := hw
 rw [wpR_bind] at hw
 refine wpR_mono hw (fun ds hds G1 H1 J s1 hJ D hD => ?_) fun C h => h
 unfold compR at hds
 split at hds
 case isFalse => exact hds.elim
 rename_i hlen
 split at hds
 case h_2 => exact hds.elim
 rename_i r em
 have gD : G1 D = none := s1.gh.free hD
 have keyH : ∀ {G2 H2 : Hp} {y : List V}, Step G1 H1 G2 H2 → G2 D = none → Step G1 H1 G2 (upd H2 D (.lst y)) := fun st hg2 => by
  refine ⟨st.g, fun b o e => ?_, fun b o e => ?_, st.new⟩
  ·rw [upd_ne (ne_of_none e hD)]; exact st.h b o e
  ·rw [upd_ne (ne_of_none e hg2)]; exact st.gh b o e
 refine ⟨ds.length, fun i ys H2 => i ≤ ds.length ∧ ys.length ≤ i ∧ ∃ G2 rs rest, Step G1 H1 G2 H2 ∧ G2 D = none ∧ H2 D = some (.lst ys) ∧ Reps X.K G2 ys rs ∧ mapO (compItem xs.length js g ft fe en) (ds.drop i) = some rest ∧ rs ++ rest = r,
  ⟨Nat.zero_le _, Nat.zero_le _, G1, [], r, Step.lay s1.gh hD, gD, upd_same, .nil, em, rfl⟩, ?_⟩
 rintro i zs H2 ⟨hi, hzl, G2, rs, rest, st, g2, h2, rp, em2, er⟩
 obtain ⟨j1, j2⟩ := hJ G2 H2 st.g st.gh
 by_cases hlt : i < ds.length
 ·refine .inr ⟨hlt, ?_⟩
  obtain ⟨jg, jy⟩ := j1 i ds[i] (List.getElem?_eq_getElem hlt)
  refine ⟨jg, fun v H3 hy => ?_⟩
  obtain ⟨G3, s3, rv⟩ := jy v H3 hy
  rw [List.drop_eq_getElem_cons hlt] at em2
  unfold mapO at em2
  cases ec : compItem xs.length js g ft fe en ds[i] with
  | none => rw [ec] at em2; cases em2
  | some o =>
   rw [ec] at em2
   dsimp only at em2
   cases em3 : mapO (compItem xs.length js g ft fe en) (ds.drop (i + 1)) with
   | none => rw [em3] at em2; cases em2
   | some rest' =>
    rw [em3] at em2
    have em2 := Option.some.inj em2
    unfold compItem at ec
    split at ec
    ·cases ec
    ·rename_i e eg
     have in3 := caps_sim xs.length js (hs.step ((s1.trans st).trans s3))
     refine ⟨G3, fun _ => none, _, ds[i], e, s3.gh, in3, rv, eg, fun σ' hσ hk => ⟨⟨?_, ?_⟩, ?_⟩⟩
     ·rw [hk.1]; unfold caps; simp
     ·refine List.ext_getElem? fun j => ?_
      rw [List.getElem?_drop, hk.2 (xs.length + j) fun z => absurd (hks _ z) (by omega), List.getElem?_append_right (by rw [List.length_replicate]; omega), List.length_replicate]
      congr 1
      omega
     ·refine ⟨_, _, G3, fun _ => none, e, sim0 s3.gh, hσ, ?_⟩
      cases et : ft e with
      | bad => rw [et] at ec; cases ec
      | exc C => rw [et] at ec; cases ec
      | ok k =>
       rw [et] at ec
       intro G5 H5 s5
       cases k with
       | false =>
        cases ec
        rw [if_neg Bool.false_ne_true]
        have s25 := s3.trans s5
        exact ⟨hlt, Nat.le_succ_of_le hzl, G5, rs, rest', st.trans s25, s25.off h2 (fun xs z => nomatch z) g2, s25.h _ _ h2, rp.mono s25.g, em3, by rw [← er, ← em2]⟩
       | true =>
        rw [if_pos rfl]
        refine ⟨_, _, G5, fun _ => none, e, sim0 s5.gh, hσ.step s5, ?_⟩
        dsimp only at ec
        cases ee : fe e with
        | bad => rw [ee] at ec; cases ec
        | exc C => rw [ee] at ec; cases ec
        | ok q =>
         rw [ee] at ec
         intro G6 H6 y s6 ey
         obtain ⟨G7, s7, e7⟩ := EOk.c s6 ey
         dsimp only at ec
         split at ec
         ·rename_i y' eq
          cases ec
          rw [eq] at e7
          have s27 := (s3.trans s5).trans s7
          have g7 := s27.off h2 (fun xs z => nomatch z) g2
          refine ⟨s27.h _ _ h2, Nat.lt_of_le_of_lt (Nat.le_trans hzl (Nat.le_trans hi hlen)) (by decide), hlt, by rw [List.length_append]; exact Nat.succ_le_succ hzl, G7, rs ++ [y'], rest', keyH (st.trans s27) g7, g7, upd_same, (rp.mono s27.g).append (.cons e7 .nil), em3, ?_⟩
          rw [← er, ← em2, List.append_assoc]
          rfl
         ·cases ec
 ·have e : i = ds.length := by omega
  subst e
  rw [List.drop_length] at em2
  cases em2
  rw [List.append_nil] at er
  subst er
  exact .inl ⟨j2, hds G2 H2 _ (s1.trans st) ⟨D, _, rfl, s1.h.free hD, g2, h2, .lst rp⟩⟩
theorem de_comp {elt iter tg : Expr} {scope : Scope} {ifs : List Expr} {n : Nat} {js ks : List Nat} {fi : En → Res (List D)} {g : D → En → Option En} {ft : En → Res Bool} {fe : En → Res Ev} {xs ys : List Str} {cl : List (Str × Addr)} (hc : X.calm = true) (hi : DI X E tg iter fi)
  (hcl : ClOk X scope cl) (hcap : CapOk X scope cl ys js) (hcell : ∀ y ∈ scope.names, y.2 ≠ .cell) (hkind : scope.kind = .function) (hnames : ∀ y ∈ scope.names, y.2 = .local → scope.names.lookup y.1 = some .local) (hn : xs.length = n) (hks : ∀ j ∈ ks, j < n)
  (hg : ∀ C s₀ H₀ ex pn, DG (blockCx X scope cl C (xs ++ ys) s₀ H₀ ex pn) tg ks g) (ht : ∀ C s₀ H₀ ex pn, DTs (blockCx X scope cl C (xs ++ ys) s₀ H₀ ex pn) ifs ft) (hb : ∀ C s₀ H₀ ex pn, DE (blockCx X scope cl C (xs ++ ys) s₀ H₀ ex pn) (fun _ => E0) elt fe)
  (hs : ∀ x, foldedSetIterable iter X.env x = pure x := by intro _; rfl) : DE X E (.ListComp elt [⟨tg, iter, ifs, 0⟩] scope pos) (mComp n js fi g ft fe) :=
 DE.in ⟨_, pe_compG (xs := xs) (g := tG X.K ks g) (tt := tT X.K (fun _ => E0) ft) (te := tE X.K (fun _ => E0) fe) hc hi hcl hcap hcell hkind hnames hg ht hb hs, comp_sim hc hi hcl hcap hcell hkind hnames hn hks hg ht hb⟩
end
section
variable {X : Cx} {K : PySem.W.Frag}
def rOr (r r' : R2) : R2 := fun x y H Q => r x y H Q ∨ r' x y H Q
theorem OpR.or' {f : Value → Value → Sem Value} {r r' : R2} (h : OpR X f r) (h' : OpR X f r') : OpR X f (rOr r r') := OpR.or h h'
def rCatR : R2 := fun x y H Q => ∃ l b xs zs, x = .ref l ∧ y = .ref b ∧ Rd H l (.lst xs) ∧ Rd H b (.lst zs) ∧ xs.length + zs.length ≤ sizeLine ∧ ∀ p, H p = none → Q (.ref p) (upd H p (.lst (xs ++ zs)))
theorem op_catR : OpR X (binaryOp .Add) rCatR := by
 intro pins s σ H x y v u Q I rx ry h
 obtain ⟨l, b, xs, zs, rfl, rfl, hH, hB, hz, q⟩ := h
 cases rx
 cases ry
 obtain ⟨z, its, n, r, e⟩ := hH.ok I.hok
 obtain ⟨z2, its2, n2, r2, e2⟩ := hB.ok I.hok
 have hl := r.length
 have hl2 := r2.length
 refine PySem.P.add_list e e2 ?_ (by rw [List.size_toArray, List.size_toArray]; omega)
 have ea : its.toArray ++ its2.toArray = (its ++ its2).toArray := by simp
 rw [ea]
 exact ⟨.ref _, _, I.lnew (t' := s.toks) (r.append r2) (by rw [List.length_append]; omega), rfl, q _ I.fresh⟩
def rStrCat : R2 := fun x y H Q => ∃ i j, x = .str i ∧ y = .str j ∧ i.length + j.length ≤ sizeLine ∧ Q (.str (i ++ j)) H
def lstOf : Ev → Option (List D)
 | .p (.list ds) => some ds
 | .b (.list ds) => some ds
 | _ => none
theorem lst_at {W : Addr → Option Nat} {Hs G H : Hp} {v : V} {r : Ev} {ds : List D} (gh : Same G H) (h : EOk K W Hs G H v r) (e : lstOf r = some ds) : ∃ a xs, v = .ref a ∧ Rd H a (.lst xs) ∧ Reps K G xs ds := by
 cases r with
 | p d =>
  cases d with
  | list es =>
   cases e
   cases h with
   | @lst a xs _ h1 h2 => exact ⟨a, xs, rfl, rd_mono gh h1, h2⟩
  | _ => cases e
 | b d =>
  cases d with
  | list es =>
   cases e
   obtain ⟨a, i, o, rfl, h1, h2, h3⟩ := h
   cases h3 with
   | @lst xs _ h4 => exact ⟨a, xs, rfl, .inl h2, h4⟩
  | _ => cases e
 | f d => cases e
 | x C => cases e
def dat : Ev → Option D
 | .p d => some d
 | .b d => some d
 | _ => none
theorem EOk.read {W : Addr → Option Nat} {Hs G H : Hp} {v : V} {r : Ev} {d : D} (gh : Same G H) (h : EOk K W Hs G H v r) (e : dat r = some d) : Rep K H v d := by
 cases r with
 | p d => cases e; exact Rep.mono gh h
 | b d =>
  cases e
  obtain ⟨a, i, o, rfl, h1, h2, h3⟩ := h
  exact (h3.mono gh).rep h2
 | f d => cases e
 | x C => cases e
open Classical in
noncomputable def intE (C : Int → Int → Prop) (g : Int → Int → D) (x y : Ev) : Res Ev := match x, y with
 | .p (.int i), .p (.int j) => if C i j then .ok (.p (g i j)) else .bad
 | _, _ => .bad
def intE0 (g : Int → Int → D) (x y : Ev) : Res Ev := match x, y with
 | .p (.int i), .p (.int j) => .ok (.p (g i j))
 | _, _ => .bad
theorem noX_intE {C : Int → Int → Prop} {g : Int → Int → D} : NoX (intE C g) := by
 intro x y A h
 unfold intE at h
 split at h
 ·split at h <;> cases h
 ·cases h
theorem noX_intE0 {g : Int → Int → D} : NoX (intE0 g) := by
 intro x y A h
 unfold intE0 at h
 split at h <;> cases h
theorem om_int {C : Int → Int → Prop} {g : Int → Int → D} {gv : Int → Int → V} (hg : ∀ G i j, Rep K G (gv i j) (g i j)) : OpM K (rI C gv) (intE C g) := by
 intro W G H v u x y Q gh hx hy hw
 unfold intE at hw
 split at hw
 ·rename_i i j e1 e2
  rw [e1] at hx; rw [e2] at hy
  cases hx; cases hy
  split at hw
  ·rename_i hc
   exact ⟨i, j, rfl, rfl, hc, hw G H _ (Step.refl gh) (hg G i j)⟩
  ·exact hw.elim
 ·exact hw.elim
theorem om_int0 {g : Int → Int → D} {gv : Int → Int → V} (hg : ∀ G i j, Rep K G (gv i j) (g i j)) : OpM K (rI0 gv) (intE0 g) := by
 intro W G H v u x y Q gh hx hy hw
 unfold intE0 at hw
 split at hw
 ·rename_i i j e1 e2
  rw [e1] at hx; rw [e2] at hy
  cases hx; cases hy
  exact ⟨i, j, rfl, rfl, hw G H _ (Step.refl gh) (hg G i j)⟩
 ·exact hw.elim
noncomputable abbrev mulE : Ev → Ev → Res Ev := intE CMulW fun i j => .int (i * j)
noncomputable abbrev fdivE : Ev → Ev → Res Ev := intE CDivW fun i j => .int (i.fdiv j)
noncomputable abbrev modE : Ev → Ev → Res Ev := intE (fun _ j => j ≠ 0) fun i j => .int (i.fmod j)
noncomputable abbrev powE : Ev → Ev → Res Ev := intE CPow fun i j => .int (i ^ j.toNat)
abbrev subE : Ev → Ev → Res Ev := intE0 fun i j => .int (i - j)
abbrev ltE : Ev → Ev → Res Ev := intE0 fun i j => .bool (decide (i < j))
abbrev gtE : Ev → Ev → Res Ev := intE0 fun i j => .bool (decide (j < i))
theorem om_mul : OpM K (rI CMulW fun i j => .int (i * j)) mulE := om_int fun _ _ _ => .int _
theorem om_fdiv : OpM K (rI CDivW fun i j => .int (i.fdiv j)) fdivE := om_int fun _ _ _ => .int _
theorem om_mod : OpM K (rI (fun _ j => j ≠ 0) fun i j => .int (i.fmod j)) modE := om_int fun _ _ _ => .int _
theorem om_pow : OpM K (rI CPow fun i j => .int (i ^ j.toNat)) powE := om_int fun _ _ _ => .int _
theorem om_sub : OpM K (rI0 fun i j => .int (i - j)) subE := om_int0 fun _ _ _ => .int _
def addE (x y : Ev) : Res Ev := match x, y with
 | .p (.int i), .p (.int j) => .ok (.p (.int (i + j)))
 | .p (.str i), .p (.str j) => if i.length + j.length ≤ 100000 then .ok (.p (.str (i ++ j))) else .bad
 | x, y => match lstOf x, lstOf y with
  | some ds, some es => if ds.length + es.length ≤ 100000 then .ok (.f (.list (ds ++ es))) else .bad
  | _, _ => .bad
theorem noX_add : NoX addE := by
 intro x y A h
 unfold addE at h
 split at h
 ·cases h
 ·split at h <;> cases h
 ·split at h
  ·split at h <;> cases h
  ·cases h
abbrev rAddA : R2 := rOr (rI0 fun i j => .int (i + j)) (rOr rStrCat rCatR)
theorem op_addA : OpR X (binaryOp .Add) rAddA := OpR.or' op_add (OpR.or' op_add_str op_catR)
theorem om_add : OpM K rAddA addE := by
 intro W G H v u x y Q gh hx hy hw
 unfold addE at hw
 split at hw
 ·rename_i i j e1 e2
  rw [e1] at hx; rw [e2] at hy
  cases hx; cases hy
  exact .inl ⟨i, j, rfl, rfl, hw G H _ (Step.refl gh) (.int _)⟩
 ·rename_i i j e1 e2
  rw [e1] at hx; rw [e2] at hy
  cases hx; cases hy
  split at hw
  ·rename_i hl
   exact .inr (.inl ⟨i, j, rfl, rfl, Nat.le_trans hl (by decide), hw G H _ (Step.refl gh) (.str _)⟩)
  ·exact hw.elim
 ·split at hw
  ·rename_i ds es e1 e2
   obtain ⟨a, xs, rfl, h1, h2⟩ := lst_at gh hx e1
   obtain ⟨b, ys, rfl, h3, h4⟩ := lst_at gh hy e2
   split at hw
   ·rename_i hl
    refine .inr (.inr ⟨a, b, xs, ys, rfl, rfl, h1, h3, by rw [h2.length, h4.length]; exact Nat.le_trans hl (by decide), fun p hp => ?_⟩)
    exact hw _ _ _ (Step.lay gh hp) ⟨p, _, rfl, hp, gh.free hp, upd_same, .lst (h2.append h4)⟩
   ·exact hw.elim
  ·exact hw.elim
theorem om_cmp {p : Int → Int → Bool} : OpM K (rI0 fun i j => .bl (p i j)) (intE0 fun i j => .bool (p i j)) := om_int0 fun _ _ _ => .bl _
mutual
theorem Rep.reads {P : Program} {w : World} {H : Hp} {h : Heap} (ok : HOk P w H h) : ∀ {v : V} {d : D}, Rep K H v d → d.canLay0 = true → ∀ {u : Value}, RelV v u → ∃ as, Reads h u d as
 | _, _, .non, _, _, e => by cases e; exact ⟨_, Reads.none⟩
 | _, _, .bl b, _, _, e => by cases e; exact ⟨_, Reads.bool b⟩
 | _, _, .int i, _, _, ⟨t, e⟩ => by subst e; exact ⟨_, Reads.int i t⟩
 | _, _, .str i, _, _, ⟨t, e⟩ => by subst e; exact ⟨_, Reads.str i t⟩
 | _, _, .tup hh r, hc, _, e => by
  have e : _ = Value.ref _ := e
  subst e
  obtain ⟨_, its, rv, o, ho, hcl, n, hd⟩ := (show ObjOk P w H h _ _ from ok _ _ hh)
  obtain ⟨as, q⟩ := Reps.reads ok r (by simpa [PyData.canLay0] using hc) rv
  exact ⟨as, reads_tuple_at ho hcl hd (by simpa using q)⟩
 | _, _, .lst hh r, hc, _, e => by
  have e : _ = Value.ref _ := e
  subst e
  obtain ⟨_, its, n, rv, ho⟩ := hh.ok ok
  obtain ⟨as, q⟩ := Reps.reads ok r (by simpa [PyData.canLay0] using hc) rv
  exact ⟨_, reads_list_at ho rfl rfl (by simpa using q)⟩
 | _, _, .dT _ _, hc, _, _ => by simp [PyData.canLay0] at hc
 | _, _, .dK _ _, hc, _, _ => by simp [PyData.canLay0] at hc
theorem Reps.reads {P : Program} {w : World} {H : Hp} {h : Heap} (ok : HOk P w H h) : ∀ {vs : List V} {ds : List D}, Reps K H vs ds → PyData.canLayAll0 ds = true → ∀ {us : List Value}, Vals vs us → ∃ as, ReadsAll h us ds as
 | _, _, .nil, _, _, .nil => ⟨_, ReadsAll.nil⟩
 | _, _, .cons hd r, hc, _, .cons rv rt => by
  simp only [PyData.canLayAll0, Bool.and_eq_true] at hc
  obtain ⟨as, q⟩ := Rep.reads ok hd hc.1 rv
  obtain ⟨bs, p⟩ := Reps.reads ok r hc.2 rt
  exact ⟨_, ReadsAll.cons q p⟩
end
def rEqP (K : PySem.W.Frag) (ng : Bool) : R2 := fun x y H Q => ∃ d e, Rep K H x d ∧ Rep K H y e ∧ SeqAt.shaped d = true ∧ SeqAt.shaped e = true ∧ Q (.bl (if ng then !PyData.eqv d e else PyData.eqv d e)) H
theorem op_eqP {K : PySem.W.Frag} (hu : X.A.units + 64 < cLine) : OpR X (compareOp .Eq) (rEqP K false) := by
 intro pins s σ H x y v u Q I rx ry h
 obtain ⟨d, e, h1, h2, o1, o2, q⟩ := h
 obtain ⟨as, r1⟩ := h1.reads I.hok (Bool.and_eq_true_iff.mp o1).1 rx
 obtain ⟨bs, r2⟩ := h2.reads I.hok (Bool.and_eq_true_iff.mp o2).1 ry
 exact eq_dataH r1 r2 o1 o2 hu ⟨.bl _, H, I, rfl, q⟩
theorem op_neP {K : PySem.W.Frag} (hu : X.A.units + 64 < cLine) : OpR X (compareOp .NotEq) (rEqP K true) := by
 intro pins s σ H x y v u Q I rx ry h
 obtain ⟨d, e, h1, h2, o1, o2, q⟩ := h
 obtain ⟨as, r1⟩ := h1.reads I.hok (Bool.and_eq_true_iff.mp o1).1 rx
 obtain ⟨bs, r2⟩ := h2.reads I.hok (Bool.and_eq_true_iff.mp o2).1 ry
 exact ne_dataH r1 r2 o1 o2 hu ⟨.bl _, H, I, rfl, q⟩
def eqE (ng : Bool) (x y : Ev) : Res Ev := match dat x, dat y with
 | some d, some e => if SeqAt.shaped d = true ∧ SeqAt.shaped e = true then .ok (.p (.bool (if ng then !PyData.eqv d e else PyData.eqv d e))) else .bad
 | _, _ => .bad
theorem noX_eq {ng : Bool} : NoX (eqE ng) := by
 intro x y A h
 unfold eqE at h
 split at h
 ·split at h <;> cases h
 ·cases h
theorem om_eq {ng : Bool} : OpM K (rEqP K ng) (eqE ng) := by
 intro W G H v u x y Q gh hx hy hw
 unfold eqE at hw
 split at hw
 ·rename_i d e e1 e2
  split at hw
  ·rename_i hs
   exact ⟨d, e, hx.read gh e1, hy.read gh e2, hs.1, hs.2, hw G H _ (Step.refl gh) (.bl _)⟩
  ·exact hw.elim
 ·exact hw.elim
def mUn (op : Ev → Res Ev) (fa : En → Res Ev) : En → Res Ev := fun en => (fa en).bind fun x => op x.c
variable {E : L2.St → XK} {a b : Expr} {fa fb : En → Res Ev} {pos : Pos}
def negE (x : Ev) : Res Ev := match x with
 | .p (.int i) => .ok (.p (.int (-i)))
 | _ => .bad
theorem de_neg (ha : DE X E a fa) : DE X E (.UnaryOp .USub a pos) (mUn negE fa) := by
 obtain ⟨t, p, m⟩ := ha.out
 refine DE.in ⟨_, pe_un un_neg p, fun B G0 G W H σ en Q hh hs hw => m B G0 G W H σ en _ hh hs (DE.go hw fun x G1 H1 v s1 e1 h1 => ?_)⟩
 unfold negE at h1
 split at h1
 ·rename_i i e
  rw [e] at e1
  cases e1
  exact ⟨i, rfl, h1 G1 H1 _ (Step.refl s1.gh) (.int _)⟩
 ·exact h1.elim
def seqOf : Ev → Option (List D)
 | .p (.list ds) => some ds
 | .b (.list ds) => some ds
 | .p (.tuple ds) => some ds
 | _ => none
def ixE (x y : Ev) : Res Ev := match y with
 | .p (.int i) => match seqOf x with
  | some ds => match atI ds i with
   | some d => .ok (.p d)
   | none => .bad
  | none => .bad
 | _ => .bad
theorem noX_ix : NoX ixE := by
 intro x y A h
 unfold ixE at h
 split at h
 ·split at h
  ·split at h <;> cases h
  ·cases h
 ·cases h
theorem reps_at {G : Hp} {xs : List V} {ds : List D} {i : Int} {d : D} (r : Reps K G xs ds) (h : atI ds i = some d) : ∃ x, atI xs i = some x ∧ Rep K G x d := by
 unfold atI at h ⊢
 rw [r.length]
 cases e : ixN ds.length i with
 | none => rw [e] at h; cases h
 | some j =>
  rw [e] at h
  exact r.get' h
def rIxA (K : PySem.W.Frag) : R2 := fun x y H Q => rIxL K x y H Q ∨ rIxT K x y H Q
theorem ix_A : IxR X (rIxA X.K) := ix_list.or ix_tup
theorem om_ix : OpM K (rIxA K) ixE := by
 intro W G H v u x y Q gh hx hy hw
 unfold ixE at hw
 split at hw
 ·rename_i i ey
  rw [ey] at hy
  cases hy
  split at hw
  ·rename_i ds ed
   split at hw
   ·rename_i d ea
    cases ex : x.c with
    | p dd =>
     rw [ex] at ed hx
     cases dd with
     | list es =>
      cases ed
      cases hx with
      | @lst a xs _ h1 h2 =>
       obtain ⟨z, h3, h4⟩ := reps_at h2 ea
       exact .inl ⟨a, xs, i, z, rfl, rfl, .inl (rd_mono gh h1), h3, hw G H _ (Step.refl gh) h4⟩
     | tuple es =>
      cases ed
      cases hx with
      | @tup a xs _ h1 h2 =>
       obtain ⟨z, h3, h4⟩ := reps_at h2 ea
       exact .inr ⟨a, xs, i, z, rfl, rfl, SqT.of (gh _ _ h1), h3, hw G H _ (Step.refl gh) h4⟩
     | _ => cases ed
    | b dd =>
     rw [ex] at ed hx
     cases dd with
     | list es =>
      cases ed
      obtain ⟨a, k, o, rfl, h1, h2, h3⟩ := hx
      cases h3 with
      | @lst xs _ h4 =>
       obtain ⟨z, h5, h6⟩ := reps_at h4 ea
       exact .inl ⟨a, xs, i, z, rfl, rfl, .inl (.inl h2), h5, hw G H _ (Step.refl gh) h6⟩
     | _ => cases ed
    | f dd => rw [ex] at ed; cases ed
    | x C => rw [ex] at ed; cases ed
   ·exact hw.elim
  ·exact hw.elim
 ·exact hw.elim
theorem de_ix (ha : DE X E a fa) (hb : DE X E b fb) (hs : PlainIx b) : DE X E (.Subscript a b pos) (mBin ixE fa fb) := by
 obtain ⟨ta, pa, ma⟩ := ha.out
 obtain ⟨tb, pb, mb⟩ := hb.out
 exact DE.in ⟨_, pe_ix ix_A pa pb hs, op_core ma mb om_ix noX_ix⟩
def lenE (rs : List Ev) : Res Ev := match rs with
 | [x] => match seqOf x with
  | some ds => .ok (.p (.int ds.length))
  | none => .bad
 | _ => .bad
theorem noX_len : NoXs lenE := by
 intro rs C h
 unfold lenE at h
 split at h
 ·split at h <;> cases h
 ·cases h
theorem cm_len : CallM K (fun xs H Q => ∃ p ys, xs = [.ref p] ∧ (SqL K H p ys ∨ SqT K H p ys) ∧ Q (.int ys.length) H) lenE := by
 intro W Hs G H vs rs Q gh he hw
 unfold lenE at hw
 split at hw
 ·rename_i x
  match vs, he with
  | [v], ⟨h1, _⟩ =>
   split at hw
   ·rename_i ds ed
    cases x with
    | p dd =>
     cases dd with
     | list es =>
      cases ed
      cases h1 with
      | @lst a xs _ k1 k2 => exact ⟨a, xs, rfl, .inl (.inl (rd_mono gh k1)), by rw [k2.length]; exact hw G H _ (Step.refl gh) (.int _)⟩
     | tuple es =>
      cases ed
      cases h1 with
      | @tup a xs _ k1 k2 => exact ⟨a, xs, rfl, .inr (SqT.of (gh _ _ k1)), by rw [k2.length]; exact hw G H _ (Step.refl gh) (.int _)⟩
     | _ => cases ed
    | b dd =>
     cases dd with
     | list es =>
      cases ed
      obtain ⟨a, k, o, rfl, k1, k2, k3⟩ := h1
      cases k3 with
      | @lst xs _ k4 => exact ⟨a, xs, rfl, .inl (.inl (.inl k2)), by rw [k4.length]; exact hw G H _ (Step.refl gh) (.int _)⟩
     | _ => cases ed
    | f dd => cases ed
    | x C => cases ed
   ·exact hw.elim
 ·exact hw.elim
def absE (rs : List Ev) : Res Ev := match rs with
 | [.p (.int i)] => .ok (.p (.int (if i < 0 then -i else i)))
 | _ => .bad
theorem noX_abs : NoXs absE := by
 intro rs C h
 unfold absE at h
 split at h <;> cases h
theorem cm_abs : CallM K (fun xs H Q => ∃ i, xs = [.int i] ∧ Q (.int (if i < 0 then -i else i)) H) absE := by
 intro W Hs G H vs rs Q gh he hw
 unfold absE at hw
 split at hw
 ·rename_i i
  match vs, he with
  | [v], ⟨h1, _⟩ => cases h1; exact ⟨i, rfl, hw G H _ (Step.refl gh) (.int _)⟩
 ·exact hw.elim
def listE (rs : List Ev) : Res Ev := match rs with
 | [x] => match seqOf x with
  | some ds => .ok (.f (.list ds))
  | none => .bad
 | _ => .bad
theorem noX_list : NoXs listE := by
 intro rs C h
 unfold listE at h
 split at h
 ·split at h <;> cases h
 ·cases h
theorem cm_list : CallM K (fun xs H Q => ∃ p ys, xs = [.ref p] ∧ (SqL K H p ys ∨ SqT K H p ys) ∧ ∀ l, H l = none → Q (.ref l) (upd H l (.lst ys))) listE := by
 intro W Hs G H vs rs Q gh he hw
 unfold listE at hw
 split at hw
 ·rename_i x
  match vs, he with
  | [v], ⟨h1, _⟩ =>
   split at hw
   ·rename_i ds ed
    have fin : ∀ {xs : List V}, Reps K G xs ds → ∀ l, H l = none → Q (.ref l) (upd H l (.lst xs)) := fun r l hl =>
     hw _ _ _ (Step.lay gh hl) ⟨l, _, rfl, hl, gh.free hl, upd_same, .lst r⟩
    cases x with
    | p dd =>
     cases dd with
     | list es =>
      cases ed
      cases h1 with
      | @lst a xs _ k1 k2 => exact ⟨a, xs, rfl, .inl (.inl (rd_mono gh k1)), fin k2⟩
     | tuple es =>
      cases ed
      cases h1 with
      | @tup a xs _ k1 k2 => exact ⟨a, xs, rfl, .inr (SqT.of (gh _ _ k1)), fin k2⟩
     | _ => cases ed
    | b dd =>
     cases dd with
     | list es =>
      cases ed
      obtain ⟨a, k, o, rfl, k1, k2, k3⟩ := h1
      cases k3 with
      | @lst xs _ k4 => exact ⟨a, xs, rfl, .inl (.inl (.inl k2)), fin k4⟩
     | _ => cases ed
    | f dd => cases ed
    | x C => cases ed
   ·exact hw.elim
 ·exact hw.elim
def tyD : D → String
 | .none => "NoneType"
 | .bool _ => "bool"
 | .int _ => "int"
 | .str _ => "str"
 | .list _ => "list"
 | .tuple _ => "tuple"
 | .dict _ => "dict"
def isiE (K : PySem.W.Frag) (c : Value) (x : Ev) : Res Ev := match dat x with
 | some d => match PySem.W.kitOne K (.type (tyD d)) c with
  | some b => .ok (.p (.bool b))
  | none => .bad
 | none => .bad
open Classical in
noncomputable def isiXE (K : PySem.W.Frag) (c : Value) (x : Ev) : Res Ev := match x with
 | .x C => if PySem.W.ExcK K C then match PySem.W.kitOne K (.ref C) c with
   | some b => .ok (.p (.bool b))
   | none => .bad
  else .bad
 | _ => .bad
theorem rep_ty {H : Hp} {v : V} {d : D} (h : Rep K H v d) : TyOf K H v (.type (tyD d)) := by
 cases h with
 | non => exact .non
 | bl b => exact .bl b
 | int i => exact .int i
 | str i => exact .str i
 | tup h _ => exact .tup h
 | lst h _ =>
  rcases h with h | ⟨o, h⟩
  ·exact .lst h
  ·exact .frz h
 | dT h _ => exact .dT h
 | dK h _ => exact .dK h
theorem de_isi {e c : Expr} {v : V} {cv : Value} {p : Pos} (hg : Gl X "isinstance") (hm : X.mg "isinstance" = none) (hv : (∃ n, v = .ty n) ∨ ∃ a, v = .ref a) (hr : RelV v cv) (he : DE X E e fa) (hc : PE X c (tC v))
  (h1 : starEach [e, c] X.env = (false, eval e X.env) :: starEach [c] X.env := by rfl) (h2 : (backTo pos (starEach [c] X.env)).any (·.1) = false := by rfl) (h3 : starEach [c] X.env = (false, eval c X.env) :: starEach [] X.env := by rfl) :
  DE X E (.Call (.Name "isinstance" p) [e, c] [] pos) (mUn (isiE X.K cv) fa) := by
 obtain ⟨t, q, m⟩ := he.out
 refine DE.in ⟨_, pe_isi hg hm q hc h1 h2 h3, fun B G0 G W H σ en Q hh hs hw => m B G0 G W H σ en _ hh hs (DE.go hw fun x G1 H1 u s1 e1 k1 => ?_)⟩
 unfold isiE at k1
 split at k1
 ·rename_i d ed
  split at k1
  ·rename_i b eb
   exact ⟨u, v, .type (tyD d), cv, b, rfl, hv, .plain (rep_ty (EOk.read s1.gh e1 ed)), hr, eb, k1 G1 H1 _ (Step.refl s1.gh) (.bl _)⟩
  ·exact k1.elim
 ·exact k1.elim
theorem de_isiX {e c : Expr} {v : V} {cv : Value} {p : Pos} (hg : Gl X "isinstance") (hm : X.mg "isinstance" = none) (hv : (∃ n, v = .ty n) ∨ ∃ a, v = .ref a) (hr : RelV v cv) (he : DE X E e fa) (hc : PE X c (tC v))
  (h1 : starEach [e, c] X.env = (false, eval e X.env) :: starEach [c] X.env := by rfl) (h2 : (backTo pos (starEach [c] X.env)).any (·.1) = false := by rfl) (h3 : starEach [c] X.env = (false, eval c X.env) :: starEach [] X.env := by rfl) :
  DE X E (.Call (.Name "isinstance" p) [e, c] [] pos) (mUn (isiXE X.K cv) fa) := by
 obtain ⟨t, q, m⟩ := he.out
 refine DE.in ⟨_, pe_isi hg hm q hc h1 h2 h3, fun B G0 G W H σ en Q hh hs hw => m B G0 G W H σ en _ hh hs (DE.go hw fun x G1 H1 u s1 e1 k1 => ?_)⟩
 unfold isiXE at k1
 split at k1
 ·rename_i C ed
  split at k1
  ·rename_i hex
   split at k1
   ·rename_i b eb
    rw [ed] at e1
    obtain ⟨ea, rfl, z⟩ := e1
    exact ⟨_, v, .ref C, cv, b, rfl, hv, .exc (s1.gh _ _ z) hex, hr, eb, k1 G1 H1 _ (Step.refl s1.gh) (.bl _)⟩
   ·exact k1.elim
  ·exact k1.elim
 ·exact k1.elim
end
section
variable {P : Program} {w : World} {K : PySem.W.Frag} {mg : Str → Option Value} {base : Heap}
structure Def (K : PySem.W.Frag) (mg : Str → Option Value) (x : Str) (ps : List Str) (st : Stmt) : Prop where
 ex : ∃ f fd, Fun K x x st f fd ∧ Binds K fd ps [] ∧ PySem.W.keepIn K (.ref f) = true ∧ mg x = some (.ref f)
structure Cal (P : Program) (w : World) (K : PySem.W.Frag) (mg : Str → Option Value) (base : Heap) (k : Nat) (x : Str) (n : Nat) (m : List L → Res L) : Prop where
 ex : ∃ f fd ps, FnOk P w K mg base (CXr P w) k f fd ps (spM K n m) ∧ Binds K fd ps [] ∧ PySem.W.keepIn K (.ref f) = true ∧ mg x = some (.ref f)
structure CalQ (P : Program) (w : World) (K : PySem.W.Frag) (mg : Str → Option Value) (base : Heap) (k : Nat) (x : Str) (n : Nat) (m : List L → Res L) : Prop where
 ex : ∃ f fd ps, FnOkQ P w K mg base k f fd ps (spM K n m) ∧ Binds K fd ps [] ∧ PySem.W.keepIn K (.ref f) = true ∧ mg x = some (.ref f)
theorem calM {x : Str} {st : Stmt} {N ps : List Str} {k n : Nat} {m : List L → Res L} (Df : Def K mg x ps st) (S : FnScope N ps (defScope st)) (hn : n = ps.length)
  (hbody : ∀ (f : Addr) (cdv : Value) (A : Around) (outer : List Env) (s : Shared) (H : Hp) (E : XK), Room k (A.deeper (envOfC x (defScope st) s.heap.objs.size f cdv)) →
   ∃ fm, DSs (cxOf (CXr P w) P w K mg base N x (defScope st) f cdv A outer s H E) (fun _ => E) (defBody st) fm ∧ ∀ ls, m ls = .bad ∨ runF N.length fm ls = m ls) : Cal P w K mg base (k + 1) x n m := by
 obtain ⟨f, fd, F, b, kp, h⟩ := Df.ex
 exact ⟨f, fd, ps, fnM F S hn fun cdv A outer s H E hr => hbody f cdv A outer s H E hr, b, kp, h⟩
theorem calMQ {x : Str} {st : Stmt} {N ps : List Str} {k n : Nat} {m : List L → Res L} (Df : Def K mg x ps st) (S : FnScope N ps (defScope st)) (hn : n = ps.length)
  (hbody : ∀ (f : Addr) (cdv : Value) (A : Around) (outer : List Env) (s : Shared) (H : Hp), RoomQ k (A.deeper (envOfC x (defScope st) s.heap.objs.size f cdv)) →
   ∃ fm, DSs (cxOf CX0 P w K mg base N x (defScope st) f cdv A outer s H E0).quiet (fun _ => E0) (defBody st) fm ∧ ∀ ls, m ls = .bad ∨ runF N.length fm ls = m ls) : CalQ P w K mg base (k + 1) x n m := by
 obtain ⟨f, fd, F, b, kp, h⟩ := Df.ex
 exact ⟨f, fd, ps, fnMQ F S hn fun cdv A outer s H hr => hbody f cdv A outer s H hr, b, kp, h⟩
end
section
variable {X : Cx} {E : L2.St → XK} {k j : Nat} {x : Str} {p pos : Pos} {e : Expr} {es : List Expr} {fr : En → Res (List Ev)} {n : Nat} {m : List L → Res L}
theorem de_callC (c : Cal X.prog X.w X.K X.mg X.base j x n m) (hr : Room k X.A) (hx : PassesS (CXr X.prog X.w) X E) (ha : DA X E (e :: es) fr) (hg : Gl X x := by rfl) (hjk : j ≤ k := by decide) (hdb : (x == ("__debug__" : Str)) = false := by decide)
  (he : starEach (e :: es) X.env = (false, eval e X.env) :: starEach es X.env := by rfl) (hpl : (backTo pos (starEach es X.env)).any (·.1) = false := by rfl) :
  DE X E (.Call (.Name x p) (e :: es) [] pos) (mCall n m fr) := by
 obtain ⟨f, fd, ps, F, b, kp, h⟩ := c.ex
 exact de_call (F.mono hjk) hr hg h kp b hx ha hdb he hpl
theorem de_callCQ (c : CalQ X.prog X.w X.K X.mg X.base k x n m) (hr : RoomQ k X.A) (ha : DA X (fun _ => E0) (e :: es) fr) (hg : Gl X x := by rfl) (hdb : (x == ("__debug__" : Str)) = false := by decide)
  (he : starEach (e :: es) X.env = (false, eval e X.env) :: starEach es X.env := by rfl) (hpl : (backTo pos (starEach es X.env)).any (·.1) = false := by rfl) :
  DE X (fun _ => E0) (.Call (.Name x p) (e :: es) [] pos) (mCall n m fr) := by
 obtain ⟨f, fd, ps, F, b, kp, h⟩ := c.ex
 exact de_callQ F hr hg h kp b ha hdb he hpl
theorem dv (i : Nat) (hN : X.N[i]? = some x := by rfl) (hv : Vis X.env.scope x := by first | exact Or.inl rfl | exact Or.inr (Or.inl rfl) | exact Or.inr (Or.inr rfl)) (hd : (x == ("__debug__" : Str)) = false := by decide) (hcd : (x == ("__classdict__" : Str)) = false := by decide) :
  DE X E (.Name x pos) (mVar i) := de_var hN hv hd hcd
theorem u64 {A : Around} (hr : Room k A) : A.units + 64 < cLine := by have := hr.un; omega
theorem u1 {A : Around} (hr : Room k A) : A.units + 1 < cLine := by have := hr.un; omega
theorem cap_nil {scope : Scope} {cl : List (Str × Addr)} : CapOk X scope cl [] [] := ⟨rfl, fun i y j h _ => by simp at h⟩
theorem cap_cons {scope : Scope} {cl : List (Str × Addr)} {y : Str} {ys : List Str} {j : Nat} {js : List Nat} (h : X.N[j]? = some y ∧ (X.env.kindOf y = some .cell ∨ X.env.kindOf y = some .free) ∧ ((relabel scope X.env).names.lookup y = some .cell ∨ (relabel scope X.env).names.lookup y = some .free) ∧ (X.env.cells.lookup y).isSome = true ∧ cl.lookup y = X.env.cells.lookup y)
  (t : CapOk X scope cl ys js) : CapOk X scope cl (y :: ys) (j :: js) :=
 ⟨by rw [List.length_cons, List.length_cons, t.len], fun i z q e1 e2 => by
  cases i with
  | zero => simp at e1 e2; subst e1 e2; exact h
  | succ i => exact t.at_ i z q (by simpa using e1) (by simpa using e2)⟩
theorem cl_ok {scope : Scope} {cl : List (Str × Addr)} {ys : List Str} {js : List Nat} (clos : closureFor scope X.env = pure cl) (sub : ∀ q ∈ cl, X.env.cells.lookup q.1 = some q.2) (cap : CapOk X scope cl ys js) (hcell : ∀ y ∈ scope.names, y.2 ≠ .cell) (hfree : ∀ q ∈ scope.names, q.2 = .free → q.1 ∈ ys) : ClOk X scope cl := by
 refine ⟨clos, fun y c h => sub _ (PySem.mem_of_lookup h), fun y hy => ?_⟩
 have hm : y ∈ ys := by
  rcases hy with hy | hy
  ·have m := PySem.mem_of_lookup hy
   obtain ⟨⟨n0, k0⟩, m0, e0⟩ := List.mem_map.mp m
   dsimp only at e0
   split at e0
   ·rename_i z
    injection e0 with e1 e2
    subst e1
    have : k0 = .free := by
     cases k0 <;> simp at z ⊢
    exact hfree _ m0 this
   ·injection e0 with e1 e2
    exact absurd e2 (hcell _ m0)
  ·have m := PySem.mem_of_lookup hy
   obtain ⟨⟨n0, k0⟩, m0, e0⟩ := List.mem_map.mp m
   dsimp only at e0
   split at e0
   ·injection e0 with e1 e2
    cases e2
   ·injection e0 with e1 e2
    subst e1
    exact hfree _ m0 e2
 obtain ⟨i, hi, e⟩ := List.mem_iff_getElem.mp hm
 have hj : i < js.length := by rw [← cap.len]; exact hi
 obtain ⟨_, _, _, h4, h5⟩ := cap.at_ i y js[i] (by rw [List.getElem?_eq_getElem hi, e]) (List.getElem?_eq_getElem hj)
 rw [h5]
 exact Option.isSome_iff_exists.mp h4
theorem write_ok {K : PySem.W.Frag} {B G0 G H : Hp} {W : Addr → Option Nat} {σ : L2.St} {en : En} {i : Nat} {a : Addr} {o' : HO} {d' : D} (hh : SimH B G0 G W H) (hs : SimS K W G H σ en) (hW : W a = some i) (hv : σ[i]? = some (some (.ref a))) (hc : Cont K G o' d') :
  SimH B G0 G W (upd H a o') ∧ SimS K W G (upd H a o') σ (en.set i (some (.o d'))) := by
 obtain ⟨g1, g2, g3⟩ := hh.wf a i hW
 refine ⟨⟨fun b o e => ?_, fun b o e => ?_, hh.g0, hh.gb, fun b j e => ?_⟩, by rw [List.length_set]; exact hs.1, fun j l e => ?_⟩
 ·rw [upd_ne (ne_of_none e g1)]; exact hh.gh b o e
 ·rw [upd_ne (ne_of_none e g2)]; exact hh.bh b o e
 ·obtain ⟨k1, k2, o, k3, k4⟩ := hh.wf b j e
  refine ⟨k1, k2, ?_⟩
  by_cases z : b = a
  ·rw [z, upd_same]; exact ⟨_, rfl, hc.mut⟩
  ·rw [upd_ne z]; exact ⟨o, k3, k4⟩
 ·rw [List.getElem?_set] at e
  by_cases hj : i = j
  ·subst hj
   rw [if_pos rfl] at e
   split at e
   ·cases e
    exact ⟨_, hv, a, o', rfl, hW, upd_same, hc⟩
   ·cases e
  ·rw [if_neg hj] at e
   obtain ⟨v, e1, e2⟩ := hs.2 j l e
   refine ⟨v, e1, ?_⟩
   cases l with
   | p d => exact e2
   | x C => exact e2
   | h a => exact e2
   | o d =>
    obtain ⟨b, ob, h1, h2, h3, h4⟩ := e2
    refine ⟨b, ob, h1, h2, ?_, h4⟩
    rw [upd_ne (fun z => by rw [z, hW] at h2; exact hj (Option.some.inj h2))]
    exact h3
def mAppend (i : Nat) (fe : En → Res Ev) : MS := fun en => match en[i]? with
 | some (some (.o (.list ds))) => match fe en with
  | .ok r => match r.c with
   | .p d => if ds.length ≤ 100000 then some (.nx (en.set i (some (.o (.list (ds ++ [d])))))) else none
   | _ => none
  | .exc C => some (.ex C en)
  | .bad => none
 | _ => none
theorem ds_append {i : Nat} {fe : En → Res Ev} {st : Stmt} (he : DE X E e fe) (hp : ∀ t, PE X e t → PS X st (tDrop (tBM X.K "list" rAppend (tVar i) (tCons t tNil)))) : DS X E st (mAppend i fe) := by
 obtain ⟨t, q, mm⟩ := he.out
 refine DS.in ⟨_, hp t q, fun B G0 G W H σ en Dn hh hs hw => ?_⟩
 unfold mAppend at hw
 split at hw
 ·rename_i ds ei
  obtain ⟨v, e1, a, o, rfl, e2, e3, e4⟩ := hs.2 i _ ei
  cases e4 with
  | @lst xs _ rp =>
  refine ⟨_, e1, .inl ⟨rfl, _, SqL.of e3⟩, mm B G0 G W H σ en _ hh hs ?_⟩
  cases ef : fe en with
  | bad => rw [ef] at hw; exact hw
  | exc C => rw [ef] at hw; exact fun G1 H1 s => hw G1 W H1 σ (hh.step s) (hs.step s)
  | ok r =>
   rw [ef] at hw
   intro G1 H1 y s ey
   obtain ⟨G2, s2, ey2⟩ := ey.c s
   dsimp only at hw
   cases er : r.c with
   | p d =>
    rw [er] at hw ey2
    dsimp only at hw
    split at hw
    ·rename_i hl
     have hx := s2.h _ _ e3
     refine ⟨a, xs, y, rfl, rfl, hx, Nat.lt_of_le_of_lt (by rw [rp.length]; exact hl) (by decide), ?_⟩
     obtain ⟨w1, w2⟩ := write_ok (o' := .lst (xs ++ [y])) (d' := .list (ds ++ [d])) (hh.step s2) (hs.step s2) e2 e1 (.lst ((rp.mono s2.g).append (.cons ey2 .nil)))
     exact hw _ _ _ _ w1 w2
    ·exact hw.elim
   | f d => rw [er] at hw; exact hw.elim
   | b d => rw [er] at hw; exact hw.elim
   | x C => rw [er] at hw; exact hw.elim
 ·exact hw.elim
end
section
variable {X : Cx} {K : PySem.W.Frag} {E : L2.St → XK} {a b : Expr} {fa fb : En → Res Ev} {pos : Pos}
def keyK : D → Option Key
 | .int i => some (.inl i)
 | .str x => some (.inr x)
 | _ => none
def keysK : List D → Option (List Key)
 | [] => some []
 | d :: ds => match keyK d with
  | none => none
  | some k => match keysK ds with
   | none => none
   | some ks => some (k :: ks)
def keyT : D → Option (List Key)
 | .tuple ds => keysK ds
 | _ => none
theorem keyK_eq {d : D} {k : Key} (h : keyK d = some k) : d = kD k := by
 cases d <;> first | (cases h; rfl) | cases h
theorem keyK_kD (k : Key) : keyK (kD k) = some k := by cases k <;> rfl
theorem keysK_eq : ∀ {ds : List D} {ks : List Key}, keysK ds = some ks → ds = ks.map kD
 | [], _, h => by cases h; rfl
 | d :: ds, ks, h => by
  unfold keysK at h
  cases e : keyK d with
  | none => rw [e] at h; cases h
  | some k =>
   rw [e] at h
   cases e2 : keysK ds with
   | none => rw [e2] at h; cases h
   | some ks' =>
    rw [e2] at h
    cases h
    rw [keyK_eq e, keysK_eq e2]
    rfl
theorem keysK_kD : ∀ ks : List Key, keysK (ks.map kD) = some ks
 | [] => rfl
 | k :: ks => by
  show (match keyK (kD k) with | none => none | some k => match keysK (ks.map kD) with | none => none | some ks => some (k :: ks)) = _
  rw [keyK_kD, keysK_kD ks]
theorem keyT_eq {d : D} {ks : List Key} (h : keyT d = some ks) : d = tkD ks := by
 cases d with
 | tuple ds => unfold tkD; rw [← keysK_eq h]
 | _ => cases h
theorem keyT_tkD (ks : List Key) : keyT (tkD ks) = some ks := keysK_kD ks
theorem tkD_inj {k k' : List Key} (h : tkD k = tkD k') : k = k' := by
 have := keyT_tkD k
 rw [h, keyT_tkD] at this
 exact (Option.some.inj this).symm
theorem kD_inj {k k' : Key} (h : kD k = kD k') : k = k' := by
 have := keyK_kD k
 rw [h, keyK_kD] at this
 exact (Option.some.inj this).symm
theorem reps_kV {G : Hp} : ∀ {ks : List Key} {xs : List V}, Reps K G xs (ks.map kD) → xs = ks.map kV
 | [], _, .nil => rfl
 | k :: ks, _, .cons r t => by
  rw [reps_kV t]
  cases k with
  | inl i => cases r; rfl
  | inr x => cases r; rfl
theorem key_at {G : Hp} {v : V} {d : D} {ks : List Key} (h : Rep K G v d) (e : keyT d = some ks) : ∃ b, v = .ref b ∧ G b = some (.tup (ks.map kV)) := by
 have := keyT_eq e
 subst this
 cases h with
 | @tup b xs _ h1 h2 =>
  rw [reps_kV h2] at h1
  exact ⟨b, rfl, h1⟩
theorem key_atK {G : Hp} {v : V} {d : D} {k : Key} (h : Rep K G v d) (e : keyK d = some k) : v = kV k := by
 have := keyK_eq e
 subst this
 cases k with
 | inl i => cases h; rfl
 | inr x => cases h; rfl
open Classical in
noncomputable def kget : List (D × D) → D → Option D
 | [], _ => none
 | p :: r, k => if p.1 = k then some p.2 else kget r k
open Classical in
noncomputable def kset (k v : D) : List (D × D) → List (D × D)
 | [] => []
 | p :: r => (if p.1 = k then (p.1, v) else p) :: kset k v r
open Classical in
noncomputable def kput (kvs : List (D × D)) (k v : D) : List (D × D) := if (kget kvs k).isSome = true then kset k v kvs else kvs ++ [(k, v)]
theorem getT {G : Hp} (ks : List Key) : ∀ {kv : List (List Key × V)} {kvs : List (D × D)}, RepT K G kv kvs → (kget kvs (tkD ks) = none ∧ valV kv ks = none) ∨ ∃ d v, kget kvs (tkD ks) = some d ∧ valV kv ks = some v ∧ Rep K G v d
 | _, _, .nil => .inl ⟨rfl, rfl⟩
 | _, _, .cons (k := k) (x := x) (d := d) r t => by
  by_cases e : k = ks
  ·subst e
   refine .inr ⟨d, x, ?_, valV_pos (p := (k, x)) rfl, r⟩
   unfold kget
   rw [if_pos rfl]
  ·have e2 : tkD k ≠ tkD ks := fun z => e (tkD_inj z)
   unfold kget
   rw [if_neg e2, valV_neg (p := (k, x)) e]
   exact getT ks t
theorem getK {G : Hp} (ks : Key) : ∀ {kv : List (Key × V)} {kvs : List (D × D)}, RepK K G kv kvs → (kget kvs (kD ks) = none ∧ valV kv ks = none) ∨ ∃ d v, kget kvs (kD ks) = some d ∧ valV kv ks = some v ∧ Rep K G v d
 | _, _, .nil => .inl ⟨rfl, rfl⟩
 | _, _, .cons (k := k) (x := x) (d := d) r t => by
  by_cases e : k = ks
  ·subst e
   refine .inr ⟨d, x, ?_, valV_pos (p := (k, x)) rfl, r⟩
   unfold kget
   rw [if_pos rfl]
  ·have e2 : kD k ≠ kD ks := fun z => e (kD_inj z)
   unfold kget
   rw [if_neg e2, valV_neg (p := (k, x)) e]
   exact getK ks t
theorem setT {G : Hp} {ks : List Key} {v : V} {d : D} (h : Rep K G v d) : ∀ {kv : List (List Key × V)} {kvs : List (D × D)}, RepT K G kv kvs → RepT K G (kv.map fun p => if p.1 = ks then (p.1, v) else p) (kset (tkD ks) d kvs)
 | _, _, .nil => .nil
 | _, _, .cons (k := k) (x := x) (d := d0) r t => by
  unfold kset
  rw [List.map_cons]
  by_cases e : k = ks
  ·subst e
   rw [if_pos rfl, if_pos rfl]
   exact .cons h (setT h t)
  ·have e2 : tkD k ≠ tkD ks := fun z => e (tkD_inj z)
   rw [if_neg e, if_neg e2]
   exact .cons r (setT h t)
theorem setK {G : Hp} {ks : Key} {v : V} {d : D} (h : Rep K G v d) : ∀ {kv : List (Key × V)} {kvs : List (D × D)}, RepK K G kv kvs → RepK K G (kv.map fun p => if p.1 = ks then (p.1, v) else p) (kset (kD ks) d kvs)
 | _, _, .nil => .nil
 | _, _, .cons (k := k) (x := x) (d := d0) r t => by
  unfold kset
  rw [List.map_cons]
  by_cases e : k = ks
  ·subst e
   rw [if_pos rfl, if_pos rfl]
   exact .cons h (setK h t)
  ·have e2 : kD k ≠ kD ks := fun z => e (kD_inj z)
   rw [if_neg e, if_neg e2]
   exact .cons r (setK h t)
theorem RepT.app {G : Hp} : ∀ {kv kv' : List (List Key × V)} {kvs kvs' : List (D × D)}, RepT K G kv kvs → RepT K G kv' kvs' → RepT K G (kv ++ kv') (kvs ++ kvs')
 | _, _, _, _, .nil, r => r
 | _, _, _, _, .cons h t, r => .cons h (RepT.app t r)
theorem RepK.app {G : Hp} : ∀ {kv kv' : List (Key × V)} {kvs kvs' : List (D × D)}, RepK K G kv kvs → RepK K G kv' kvs' → RepK K G (kv ++ kv') (kvs ++ kvs')
 | _, _, _, _, .nil, r => r
 | _, _, _, _, .cons h t, r => .cons h (RepK.app t r)
theorem RepT.len {G : Hp} : ∀ {kv : List (List Key × V)} {kvs : List (D × D)}, RepT K G kv kvs → kv.length = kvs.length
 | _, _, .nil => rfl
 | _, _, .cons _ r => by rw [List.length_cons, List.length_cons, RepT.len r]
theorem RepK.len {G : Hp} : ∀ {kv : List (Key × V)} {kvs : List (D × D)}, RepK K G kv kvs → kv.length = kvs.length
 | _, _, .nil => rfl
 | _, _, .cons _ r => by rw [List.length_cons, List.length_cons, RepK.len r]
theorem putT {G : Hp} {ks : List Key} {v : V} {d : D} (h : Rep K G v d) {kv : List (List Key × V)} {kvs : List (D × D)} (r : RepT K G kv kvs) : RepT K G (putK kv ks v) (kput kvs (tkD ks) d) := by
 unfold putK kput
 rw [valV_any]
 rcases getT ks r with ⟨e1, e2⟩ | ⟨d0, v0, e1, e2, _⟩
 ·rw [e1, e2, if_neg (by simp), if_neg (by simp)]
  exact r.app (.cons h .nil)
 ·rw [e1, e2, if_pos (show (some v0).isSome = true from rfl), if_pos (show (some d0).isSome = true from rfl)]
  exact setT h r
theorem putKK {G : Hp} {ks : Key} {v : V} {d : D} (h : Rep K G v d) {kv : List (Key × V)} {kvs : List (D × D)} (r : RepK K G kv kvs) : RepK K G (putK kv ks v) (kput kvs (kD ks) d) := by
 unfold putK kput
 rw [valV_any]
 rcases getK ks r with ⟨e1, e2⟩ | ⟨d0, v0, e1, e2, _⟩
 ·rw [e1, e2, if_neg (by simp), if_neg (by simp)]
  exact r.app (.cons h .nil)
 ·rw [e1, e2, if_pos (show (some v0).isSome = true from rfl), if_pos (show (some d0).isSome = true from rfl)]
  exact setK h r
def dsp (kvs : List (D × D)) : Bool × List (D × D) := match kvs with
 | (.none, .none) :: r => (true, r)
 | r => (false, r)
theorem dsp_T {G : Hp} {kv : List (List Key × V)} {kvs : List (D × D)} (r : RepT K G kv kvs) : dsp kvs = (false, kvs) := by
 cases r with
 | nil => rfl
 | cons _ _ => rfl
def dctOf : Ev → Option (List (D × D))
 | .p (.dict kvs) => some kvs
 | .b (.dict kvs) => some kvs
 | _ => none
noncomputable def dlook (kvs : List (D × D)) (k : D) : Option (Option D) := match dsp kvs with
 | (true, r) => if (keyK k).isSome = true then some (kget r k) else none
 | (false, r) => if (keyT k).isSome = true then some (kget r k) else none
theorem dct_at {W : Addr → Option Nat} {Hs G H : Hp} {v : V} {r : Ev} {kvs : List (D × D)} (gh : Same G H) (h : EOk K W Hs G H v r) (e : dctOf r = some kvs) :
  ∃ a, v = .ref a ∧ ((∃ kv, H a = some (.dT kv) ∧ RepT K G kv kvs) ∨ ∃ kv r, kvs = (.none, .none) :: r ∧ H a = some (.dK kv) ∧ RepK K G kv r) := by
 cases r with
 | p d =>
  cases d with
  | dict es =>
   cases e
   cases h with
   | @dT a kv _ h1 h2 => exact ⟨a, rfl, .inl ⟨kv, gh _ _ h1, h2⟩⟩
   | @dK a kv r h1 h2 => exact ⟨a, rfl, .inr ⟨kv, r, rfl, gh _ _ h1, h2⟩⟩
  | _ => cases e
 | b d =>
  cases d with
  | dict es =>
   cases e
   obtain ⟨a, i, o, rfl, h1, h2, h3⟩ := h
   cases h3 with
   | @dT kv _ h4 => exact ⟨a, rfl, .inl ⟨kv, h2, h4⟩⟩
   | @dK kv r h4 => exact ⟨a, rfl, .inr ⟨kv, r, rfl, h2, h4⟩⟩
  | _ => cases e
 | f d => cases e
 | x C => cases e
def LookR (K : PySem.W.Frag) (G : Hp) : Option D → Option V → Prop
 | none, w => w = none
 | some d, w => ∃ x, w = some x ∧ Rep K G x d
theorem look_at {W : Addr → Option Nat} {Hs Hs' G H : Hp} {v u : V} {r : Ev} {k : D} {kvs : List (D × D)} {o : Option D} (gh : Same G H) (h : EOk K W Hs G H v r) (e : dctOf r = some kvs) (hk : Rep K G u k) (el : dlook kvs k = some o) :
  ∃ a w, v = .ref a ∧ DGet H a u w ∧ LookR K G o w := by
 obtain ⟨a, rfl, hh⟩ := dct_at gh h e
 rcases hh with ⟨kv, h1, h2⟩ | ⟨kv, r, rfl, h1, h2⟩
 ·unfold dlook at el
  rw [dsp_T h2] at el
  dsimp only at el
  split at el
  ·rename_i z
   obtain ⟨ks, ek⟩ := Option.isSome_iff_exists.mp z
   obtain ⟨b, rfl, hb⟩ := key_at hk ek
   have := keyT_eq ek
   subst this
   cases el
   refine ⟨a, valV kv ks, rfl, .t h1 (gh _ _ hb), ?_⟩
   rcases getT ks h2 with ⟨e1, e2⟩ | ⟨d0, v0, e1, e2, e3⟩
   ·rw [e1, e2]; exact rfl
   ·rw [e1, e2]; exact ⟨v0, rfl, e3⟩
  ·cases el
 ·unfold dlook at el
  dsimp only [dsp] at el
  split at el
  ·rename_i z
   obtain ⟨ks, ek⟩ := Option.isSome_iff_exists.mp z
   have hb := key_atK hk ek
   subst hb
   have := keyK_eq ek
   subst this
   cases el
   refine ⟨a, valV kv ks, rfl, .k h1, ?_⟩
   rcases getK ks h2 with ⟨e1, e2⟩ | ⟨d0, v0, e1, e2, e3⟩
   ·rw [e1, e2]; exact rfl
   ·rw [e1, e2]; exact ⟨v0, rfl, e3⟩
  ·cases el
noncomputable def dgetE (x y : Ev) : Res Ev := match y with
 | .p k => match dctOf x with
  | some kvs => match dlook kvs k with
   | some (some d) => .ok (.p d)
   | _ => .bad
  | none => .bad
 | _ => .bad
noncomputable def dinE (ng : Bool) (y x : Ev) : Res Ev := match y with
 | .p k => match dctOf x with
  | some kvs => match dlook kvs k with
   | some o => .ok (.p (.bool (if ng then !o.isSome else o.isSome)))
   | none => .bad
  | none => .bad
 | _ => .bad
theorem de_dget (hu : X.A.units + 1 < cLine) (ha : DE X E a fa) (hb : DE X E b fb) (hs : NoSl b) : DE X E (.Subscript a b pos) (mBin dgetE fa fb) := by
 obtain ⟨ta, pa, ma⟩ := ha.out
 obtain ⟨tb, pb, mb⟩ := hb.out
 refine DE.in ⟨_, pe_dget hu pa pb hs, fun B G0 G W H σ en Q hh hs hw => ma B G0 G W H σ en _ hh hs (DE.go hw fun x G1 H1 v s1 e1 h1 => ?_)⟩
 refine mb B G0 G1 W H1 σ en _ (hh.step s1) (hs.step s1) (DE.go h1 fun y G2 H2 u s2 e2 h2 => ?_)
 unfold dgetE at h2
 split at h2
 ·rename_i k ey
  rw [ey] at e2
  split at h2
  ·rename_i kvs ed
   split at h2
   ·rename_i d el
    obtain ⟨a, w, rfl, hg, x, rfl, hx⟩ := look_at (Hs' := H1) s2.gh (e1.step (Hs' := H1) s2) ed e2 el
    exact ⟨a, x, rfl, hg, h2 G2 H2 _ (Step.refl s2.gh) hx⟩
   ·exact h2.elim
  ·exact h2.elim
 ·exact h2.elim
theorem din_core {ta tb : TE} {ng : Bool} (ma : ∀ B G0 G W H σ en Q, SimH B G0 G W H → SimS X.K W G H σ en → wpR (fa en) (PostE X.K W G H Q) (PostX (E σ) G H) → ta σ H Q)
  (mb : ∀ B G0 G W H σ en Q, SimH B G0 G W H → SimS X.K W G H σ en → wpR (fb en) (PostE X.K W G H Q) (PostX (E σ) G H) → tb σ H Q) :
  ∀ B G0 G W H σ en Q, SimH B G0 G W H → SimS X.K W G H σ en → wpR (mBin (dinE ng) fa fb en) (PostE X.K W G H Q) (PostX (E σ) G H) →
   ta σ H fun y H1 => tb σ H1 fun x H2 => ∃ a o, x = .ref a ∧ DGet H2 a y o ∧ Q (.bl (if ng then !o.isSome else o.isSome)) H2 := by
 intro B G0 G W H σ en Q hh hs hw
 refine ma B G0 G W H σ en _ hh hs (DE.go hw fun y G1 H1 u s1 e1 h1 => ?_)
 refine mb B G0 G1 W H1 σ en _ (hh.step s1) (hs.step s1) (DE.go h1 fun x G2 H2 v s2 e2 h2 => ?_)
 have e1' := e1.step (Hs' := H1) s2
 unfold dinE at h2
 split at h2
 ·rename_i k ey
  rw [ey] at e1'
  split at h2
  ·rename_i kvs ed
   split at h2
   ·rename_i o el
    obtain ⟨a, w, rfl, hg, hx⟩ := look_at (Hs' := H1) s2.gh e2 ed e1' el
    refine ⟨a, w, rfl, hg, ?_⟩
    have z := h2 G2 H2 _ (Step.refl s2.gh) (.bl _)
    cases o with
    | none => rw [show w = none from hx]; exact z
    | some d => obtain ⟨x', rfl, _⟩ := hx; exact z
   ·exact h2.elim
  ·exact h2.elim
 ·exact h2.elim
theorem dt_dnotin (hu : X.A.units + 1 < cLine) (ha : DE X E a fa) (hb : DE X E b fb) (hk : behindInMarks .NotIn b = false := by with_unfolding_all rfl) : DT X E (.Compare a [.NotIn] [b] pos) (mTru (mBin (dinE true) fa fb)) := by
 obtain ⟨ta, pa, ma⟩ := ha.out
 obtain ⟨tb, pb, mb⟩ := hb.out
 exact DT.in ⟨_, pt_cmp (pc_dnotin hu pa pb) hk, tru_core (t := tDNotIn ta tb) (din_core (ng := true) ma mb)⟩
def mDK : En → Res Ev := fun _ => .ok (.f (.dict [(.none, .none)]))
theorem de_dnewK : DE X E (.Dict [] [] pos) mDK :=
 DE.in ⟨_, pe_dnewK, fun B G0 G W H σ en Q hh hs hw p hp => hw _ _ _ (Step.lay hh.gh hp) ⟨p, _, rfl, hp, hh.gh.free hp, upd_same, .dK .nil⟩⟩
noncomputable def dputD (kvs : List (D × D)) (k v : D) : Option (List (D × D)) := match dsp kvs with
 | (true, r) => if (keyK k).isSome = true ∧ r.length ≤ 100000 then some ((.none, .none) :: kput r k v) else none
 | (false, r) => if (keyT k).isSome = true ∧ r.length ≤ 100000 then some (kput r k v) else none
noncomputable def mDput (i : Nat) (fk fv : En → Res Ev) : MS := fun en => match en[i]? with
 | some (some (.o (.dict kvs))) => match fv en with
  | .exc C => some (.ex C en)
  | .bad => none
  | .ok rv => match fk en with
   | .exc C => some (.ex C en)
   | .bad => none
   | .ok rk => match rv.c with
    | .p v => match rk.c with
     | .p k => match dputD kvs k v with
      | some kvs' => some (.nx (en.set i (some (.o (.dict kvs')))))
      | none => none
     | _ => none
    | _ => none
 | _ => none
theorem ds_dput {i : Nat} {x : Str} {pos' np : Pos} {ek ev : Expr} {fk fv : En → Res Ev} (hu : X.A.units + 1 < cLine) (hd : PE X (.Name x np) (tVar i)) (hk : DE X E ek fk) (hv : DE X E ev fv) (hs : swapsWith ev (some (.Subscript (.Name x np) ek pos')) pos.line X.env = pure false) :
  DS X E (.Assign [.Subscript (.Name x np) ek pos'] ev pos) (mDput i fk fv) := by
 obtain ⟨tk, pk, mk⟩ := hk.out
 obtain ⟨tv, pv', mv⟩ := hv.out
 refine DS.in ⟨_, ps_dput hu hd pk pv' hs, fun B G0 G W H σ en Dn hh hs hw => mv B G0 G W H σ en _ hh hs ?_⟩
 unfold mDput at hw
 split at hw
 ·rename_i kvs ei
  obtain ⟨v0, f1, a, o, rfl, f2, f3, f4⟩ := hs.2 i _ ei
  cases ev' : fv en with
  | bad => rw [ev'] at hw; exact hw
  | exc C => rw [ev'] at hw; exact fun G1 H1 s => hw G1 W H1 σ (hh.step s) (hs.step s)
  | ok rv =>
   rw [ev'] at hw
   intro G1 H1 v s1 e1
   obtain ⟨G2, s2, e2⟩ := e1.c s1
   dsimp only at hw
   refine ⟨_, f1, mk B G0 G2 W H1 σ en _ (hh.step s2) (hs.step s2) ?_⟩
   cases ek' : fk en with
   | bad => rw [ek'] at hw; exact hw
   | exc C => rw [ek'] at hw; exact fun G3 H3 s => hw G3 W H3 σ ((hh.step s2).step s) ((hs.step s2).step s)
   | ok rk =>
    rw [ek'] at hw
    intro G3 H3 u s3 e3
    obtain ⟨G4, s4, e4⟩ := e3.c s3
    have e2' := e2.step (Hs' := H1) s4
    have s24 := s2.trans s4
    dsimp only at hw
    split at hw
    ·rename_i vd erv
     rw [erv] at e2'
     split at hw
     ·rename_i kd erk
      rw [erk] at e4
      split at hw
      ·rename_i kvs' ep
       have hx := s24.h _ _ f3
       refine ⟨a, ?_⟩
       unfold dputD at ep
       have f5 := f4.mono s24.g
       cases f5 with
       | @dT kv _ rT =>
        rw [dsp_T rT] at ep
        dsimp only at ep
        split at ep
        ·rename_i hz
         cases ep
         obtain ⟨ks, ek⟩ := Option.isSome_iff_exists.mp hz.1
         obtain ⟨b, rfl, hb⟩ := key_at e4 ek
         have := keyT_eq ek
         subst this
         obtain ⟨w1, w2⟩ := write_ok (o' := .dT (putK kv ks v)) (d' := .dict (kput kvs (tkD ks) vd)) (hh.step s24) (hs.step s24) f2 f1 (.dT (putT e2' rT))
         exact ⟨_, rfl, .t hx (s4.gh _ _ hb) (Nat.lt_of_le_of_lt (by rw [rT.len]; exact hz.2) (by decide)), hw _ _ _ _ w1 w2⟩
        ·cases ep
       | @dK kv r rK =>
        dsimp only [dsp] at ep
        split at ep
        ·rename_i hz
         cases ep
         obtain ⟨ks, ek⟩ := Option.isSome_iff_exists.mp hz.1
         have hb := key_atK e4 ek
         subst hb
         have := keyK_eq ek
         subst this
         obtain ⟨w1, w2⟩ := write_ok (o' := .dK (putK kv ks v)) (d' := .dict ((.none, .none) :: kput r (kD ks) vd)) (hh.step s24) (hs.step s24) f2 f1 (.dK (putKK e2' rK))
         exact ⟨_, rfl, .k hx (Nat.lt_of_le_of_lt (by rw [rK.len]; exact hz.2) (by decide)), hw _ _ _ _ w1 w2⟩
        ·cases ep
      ·exact hw.elim
     ·exact hw.elim
    ·exact hw.elim
 ·exact hw.elim
def flatD : D → Bool
 | .none => true
 | .bool _ => true
 | .int _ => true
 | .str _ => true
 | _ => false
theorem flat_V {G : Hp} {v : V} {d : D} (h : Rep K G v d) (f : flatD d = true) : flatV v = true := by
 cases h <;> first | rfl | exact absurd f Bool.false_ne_true
theorem eqV_eqv {G : Hp} {v u : V} {d e : D} (h : Rep K G v d) (h2 : Rep K G u e) (f : flatD d = true) (f2 : flatD e = true) : eqV v u = PyData.eqv d e := by
 cases h <;> cases h2 <;> first | rfl | exact absurd f Bool.false_ne_true | exact absurd f2 Bool.false_ne_true | simp only [eqV, PyData.eqv]
def inE (ng : Bool) (x y : Ev) : Res Ev := match x with
 | .p d => match seqOf y with
  | some ds => if flatD d = true ∧ ds.all flatD = true then .ok (.p (.bool (if ng then !ds.any (fun e => PyData.eqv e d) else ds.any fun e => PyData.eqv e d))) else .bad
  | none => .bad
 | _ => .bad
theorem noX_in {ng : Bool} : NoX (inE ng) := by
 intro x y A h
 unfold inE at h
 split at h
 ·split at h
  ·split at h <;> cases h
  ·cases h
 ·cases h
theorem in_flat {G : Hp} {v : V} {d : D} (h : Rep K G v d) (f : flatD d = true) : ∀ {xs : List V} {ds : List D}, Reps K G xs ds → ds.all flatD = true → xs.all flatV = true ∧ inV v xs = ds.any (fun e => PyData.eqv e d)
 | _, _, .nil, _ => ⟨rfl, rfl⟩
 | _, _, .cons r t, hf => by
  rw [List.all_cons, Bool.and_eq_true] at hf
  obtain ⟨i1, i2⟩ := in_flat h f t hf.2
  unfold inV at i2 ⊢
  rw [List.all_cons, List.any_cons, List.any_cons, flat_V r hf.1, i1, i2, eqV_eqv r h hf.1 f]
  exact ⟨rfl, rfl⟩
theorem op_inE {K : PySem.W.Frag} (h : X.K = K) : OpR X (compareOp .In) (rIn K false) := h ▸ op_in_seq
theorem om_in {ng : Bool} : OpM K (rIn K ng) (inE ng) := by
 intro W G H v u x y Q gh hx hy hw
 unfold inE at hw
 split at hw
 ·rename_i d ex
  rw [ex] at hx
  split at hw
  ·rename_i ds ed
   split at hw
   ·rename_i hf
    have hx : Rep K G v d := hx
    have fin : ∀ {xs : List V}, Reps K G xs ds → xs.all flatV = true ∧ Q (.bl (if ng then !inV v xs else inV v xs)) H := fun r => by
     obtain ⟨i1, i2⟩ := in_flat hx hf.1 r hf.2
     rw [i2]
     exact ⟨i1, hw G H _ (Step.refl gh) (.bl _)⟩
    cases ey : y.c with
    | p dd =>
     rw [ey] at ed hy
     cases dd with
     | list es =>
      cases ed
      cases hy with
      | @lst a xs _ h1 h2 => exact ⟨a, xs, rfl, .inl (.inl (rd_mono gh h1)), flat_V hx hf.1, fin h2⟩
     | tuple es =>
      cases ed
      cases hy with
      | @tup a xs _ h1 h2 => exact ⟨a, xs, rfl, .inr (SqT.of (gh _ _ h1)), flat_V hx hf.1, fin h2⟩
     | _ => cases ed
    | b dd =>
     rw [ey] at ed hy
     cases dd with
     | list es =>
      cases ed
      obtain ⟨a, k, o, rfl, h1, h2, h3⟩ := hy
      cases h3 with
      | @lst xs _ h4 => exact ⟨a, xs, rfl, .inl (.inl (.inl h2)), flat_V hx hf.1, fin h4⟩
     | _ => cases ed
    | f dd => rw [ey] at ed; cases ed
    | x C => rw [ey] at ed; cases ed
   ·exact hw.elim
  ·exact hw.elim
 ·exact hw.elim
end
end M

namespace SRT
open PySem PySem.W PyProof.Rows
structure Ord (lt : Nat → Nat → Bool) : Prop where
 as : ∀ i j, lt i j = true → lt j i = false
 tr : ∀ i j k, lt j i = false → lt k j = false → lt k i = false
section
variable {lt : Nat → Nat → Bool} {n : Nat} {cmp : Nat → Nat → (Bool → Shared → Prop) → Shared → Prop} {s : Shared}
def le (lt : Nat → Nat → Bool) (a b : Nat) : Prop := lt b a = false
variable (hc : ∀ i j C, i < n → j < n → C (lt i j) s → cmp i j C s) (hn : 0 < n) (o : Ord lt)
include hc hn
include o
omit hc hn in
omit hc hn in
omit hc hn in
omit hc hn in
omit hc hn in
end
end SRT

namespace SRT
open PySem PySem.W PyProof.Rows L2
section
variable {prog : Program} {w : World} {A : Around} {E : Value → Shared → Prop} {s : Shared}
theorem sorted_keep {h : Heap} {a : Addr} {vs : List Value} {out : Array Value} {b : Addr} {o : Obj} (hb : b ≠ a) (e : h.get? b = some o) : (sortedHeap h a vs out).get? b = some o := by
 unfold sortedHeap
 rw [Heap.get?_update_ne _ _ _ _ hb]
 refine Heap.get?_push_of_some _ (Heap.get?_push_of_some _ ?_)
 rw [Heap.get?_update_ne _ _ _ _ hb]
 exact e
theorem sorted_here {h : Heap} {a : Addr} {vs : List Value} {n : Nat} {out : Array Value} (e : h.get? a = some (seqObj "list" vs.toArray n)) : ∃ c, (sortedHeap h a vs out).get? a = some (seqObj "list" out c) := by
 obtain ⟨e1, ho1⟩ : ∃ e1, (h.update a (Obj.mapSeq fun _ => (#[] : Array Value))).get? a = some (seqObj "list" #[] e1) := ⟨_, get?_update_seq e (fun _ => #[])⟩
 exact ⟨_, get?_update_seq (Heap.get?_push_of_some _ (Heap.get?_push_of_some _ ho1)) fun _ => out⟩
end
section
variable {X : Cx}
end
end SRT

namespace M
open PySem PySem.Spec PyProof.Rows L2 SRT
section
variable {X : Cx} {K : PySem.W.Frag}
end
end M

namespace L2
open PySem PySem.Spec PyProof.Rows
def Ite (K : PySem.W.Frag) (a : Addr) : It :=
 ⟨fun i H => ∃ xs x, SqL K H a xs ∧ xs[i]? = some x, fun i H v H' => ∃ p x, H p = none ∧ v = .ref p ∧ (∀ xs, SqL K H a xs → xs[i]? = some x) ∧ H' = upd H p (.tup [.int i, x]), fun i H => ∃ xs, SqL K H a xs ∧ xs.length ≤ i⟩
theorem turn_enum {P : Program} {w : World} {K : PySem.W.Frag} {elts : List Expr} {x1} {tp : Pos} (a e it : Addr) (hne : e ≠ it) : Turn P w K (.Tuple elts x1 tp) (Ite K a) [e, it] e (fun i h => (∃ old, IsEnum h e it ((i : Nat) : Int) old) ∧ h.IsListIter it a i) where
 mem := by simp
 obj := fun i h st b hb => by
  rcases List.mem_cons.mp hb with rfl | hb
  ·obtain ⟨⟨old, q⟩, _⟩ := st
   exact ⟨_, q, fun v z => nomatch z⟩
  ·have : b = it := by simpa using hb
   subst this
   obtain ⟨_, o, q, c, d⟩ := st
   exact ⟨o, q, fun v z => by rw [d] at z; cases z⟩
 keep := fun i h h' st k => ⟨let ⟨old, q⟩ := st.1; ⟨old, k e (by simp) _ q⟩, st.2.at fun o q => k it (by simp) o q⟩
 item := by
  intro X hP hw hK hc i pins s σ H E I hf st hg
  subst hP hw hK
  obtain ⟨⟨old, he⟩, hit⟩ := st
  obtain ⟨xs, x, hq, hx⟩ := hg
  obtain ⟨its, rv, p, hz⟩ := I.list hq
  obtain ⟨u, hu, ru⟩ := rv.get hx
  obtain ⟨f0, f1, f2, f3, f4, f5⟩ := hf e (by simp)
  obtain ⟨g0, g1, g2, g3, g4, g5⟩ := hf it (by simp)
  refine wpAny_pyNext_enum_item he hit p.isList (x := u) (by simpa using hu) hne fun h₁ heo hit₁ ht₁ hz₁ hk₁ => ?_
  refine ⟨_, rfl, wpAny_letOwnedTupleGo_enum heo fun h₂ he₂ hs₂ => ?_⟩
  have hs₂ : Heap.SameBut e h₁ h₂ := hs₂
  have hn : H s.heap.objs.size = none := I.fresh
  have nn : ∀ b o, H b = some o → b ≠ s.heap.objs.size := fun b o q => ne_of_none q hn
  have eE : e < s.heap.objs.size := Heap.lt_size he
  have keep : ∀ b o, b ∉ [e, it] → s.heap.get? b = some o → h₂.get? b = some o := fun b o hb q => by
   have b1 : b ≠ e := fun z => hb (by simp [z])
   have b2 : b ≠ it := fun z => hb (by simp [z])
   exact (hs₂.2 b b1).trans (hk₁ b o b1 b2 q)
  have trk : ∀ b o, H b = some o → b ∉ [e, it] := fun b o q hb => by
   rcases List.mem_cons.mp hb with z | hb
   ·rw [z, f0] at q; cases q
   ·rw [List.mem_singleton.mp hb, g0] at q; cases q
  refine ⟨.ref s.heap.objs.size, upd H s.heap.objs.size (.tup [.int i, x]), ?_, rfl, ⟨_, x, hn, rfl, fun ys hy => by rw [I.list_inj hy hq]; exact hx, rfl⟩, ⟨⟨u, ?_⟩, ?_⟩, fun b hb => ?_⟩
  ·refine Inv.step (X := X) (pins := pins) (σ := σ) (H := H) (s := s) (H' := upd H s.heap.objs.size (.tup [.int i, x])) (h' := h₂) (g' := s.gens) (d' := s.drawn) (t' := s.toks + 1) (ch := [e, it]) I (fun b hb => ?_) (fun b o _ _ hb q _ => keep b o hb q) (fun b o _ _ hb q _ => ⟨o.slots, keep b o hb q⟩) (fun b o _ q n => ?_) (fun b o hb q => ⟨o, keep b o hb q⟩)
    (fun b ys q => ?_) (fun b o v q => ?_) (fun b ps q => ⟨#[], ?_⟩) (fun m hm => ?_) (fun b v q => ?_) I.bare
   ·rcases List.mem_cons.mp hb with z | hb
    ·subst z; exact ⟨f3, f1, f4, f5⟩
    ·have z := List.mem_singleton.mp hb
     subst z; exact ⟨g3, g1, g4, g5⟩
   ·rw [upd_ne (Nat.ne_of_lt (Heap.lt_size q))]; exact n
   ·rw [upd_ne (nn b _ q)]; exact q
   ·rw [upd_ne (nn b _ q)]; exact q
   ·rw [upd_ne (nn b _ q), q]; simp
   ·obtain ⟨o, es, ep, ho, r⟩ := hm
    exact ⟨o, es, ep, keep _ o (fun z => by
     rcases List.mem_cons.mp z with y | y
     ·exact f1 y.symm
     ·exact g1 (List.mem_singleton.mp y).symm) ho, r⟩
   ·by_cases hb : b = s.heap.objs.size
    ·subst hb
     rw [upd_same] at q
     cases q
     refine ⟨by show 2 ≤ sizeLine; decide, [.int i s.toks, u], .cons ⟨_, rfl⟩ (.cons ru .nil), _, (hs₂.2 _ (Nat.ne_of_gt eE)).trans ht₁, rfl, _, rfl⟩
    ·rw [upd_ne hb] at q
     refine (I.hok b v q).stay (fun c w' hc q' => keep c w' ?_ q') (fun c q' => ?_) fun c ys q' => ?_
     ·rcases hc with z | z
      ·rw [z]; exact trk b v q
      ·exact trk c _ z
     ·rw [upd_ne (nn c _ q')]; exact q'
     ·rw [upd_ne (nn c _ q')]; exact q'
  ·have : (((i + 1 : Nat)) : Int) = (i : Int) + 1 := by push_cast; rfl
   rw [this]; exact he₂
  ·exact hit₁.at fun o q => (hs₂.2 it (Ne.symm hne)).trans q
  ·have hb' := (hf b hb).1
   have : b ≠ s.heap.objs.size := by
    rcases List.mem_cons.mp hb with z | z
    ·rw [z]; exact Nat.ne_of_lt eE
    ·rw [List.mem_singleton.mp z]
     obtain ⟨o, q, _⟩ := id hit
     exact Nat.ne_of_lt (Heap.lt_size q)
   rw [upd_ne this]; exact hb'
 done := by
  intro X hP hw hK hc i pins s σ H E I hf st hg
  subst hP hw hK
  obtain ⟨⟨old, he⟩, hit⟩ := st
  obtain ⟨xs, hq, hx⟩ := hg
  obtain ⟨its, rv, p, hz⟩ := I.list hq
  obtain ⟨g0, g1, g2, g3, g4, g5⟩ := hf it (by simp)
  have hl := rv.length
  exact wpAny_pyNext_enum_end (I.ok.hd hc) he hit p.isList (by simp; omega) fun h' eb => ⟨rfl, I.turned (t' := s.toks) (fun b o hb q => eb b o hb q) g0 g1 g3 g4 g5⟩
 self := fun _ _ _ _ _ st h => let ⟨_, q⟩ := st.1; wpAny_pyIter_enum q h
section
variable {X : Cx}
def iEnum (K : PySem.W.Frag) (ta : TA) : TI := fun σ H R => ta σ H fun vs H1 => ∃ a xs, vs = [.ref a] ∧ Rd H1 a (.lst xs) ∧ R (Ite K a) H1
theorem boot_enum : bootBuiltins "enumerate" = some (.type "enumerate") := by decide +kernel
theorem pi_enum {a : Expr} {ta : TA} {p pos tp : Pos} {elts : List Expr} {x1} (hg : Gl X "enumerate") (hm : X.mg "enumerate" = none) (ha : PA X [a] ta) (hs : starEach [a] X.env = [(false, eval a X.env)] := by rfl) : PI X (.Tuple elts x1 tp) (.Call (.Name "enumerate" p) [a] [] pos) (iEnum X.K ta) := by
 intro pins s σ H R I h
 refine Call_ (ld_blt I hg hm boot_enum (PyProof.Rows.callWith_type1 (thn (ha pos pins s σ H _ I h) fun us s1 ⟨vs, H1, I1, r1, q1⟩ => ?_) hs rfl))
 obtain ⟨a, xs, rfl, hr, q⟩ := q1
 obtain ⟨u, rfl, ru⟩ := vals1 r1
 cases (show u = Value.ref a from ru)
 obtain ⟨_, its, n, rv, ho⟩ := hr.ok I1.hok
 refine call_enumerate_1 ho fun h' he hit hz hk => ?_
 refine wpAny_pyIter_enum (s := { s1 with heap := h' }) he ?_
 refine ⟨s1.heap.objs.size + 1, [s1.heap.objs.size + 1, s1.heap.objs.size], _, _, H1, rfl, I1.kept (t' := s1.toks) hk, turn_enum a _ _ (Nat.ne_of_gt (Nat.lt_succ_self _)), ⟨⟨_, he⟩, hit⟩, fun b hb => ?_, q⟩
 have hle : s1.heap.objs.size ≤ b := by
  rcases List.mem_cons.mp hb with z | z
  ·rw [z]; exact Nat.le_succ _
  ·rw [List.mem_singleton.mp z]; exact Nat.le_refl _
 exact I1.fpOk hle (I1.hok.fresh hle)
end
end L2
namespace M
open PySem PySem.Spec PyProof.Rows L2
def enumL (k : Nat) : List D → List D
 | [] => []
 | d :: ds => .tuple [.int (k : Int), d] :: enumL (k + 1) ds
theorem enumL_len : ∀ (ds : List D) (k : Nat), (enumL k ds).length = ds.length
 | [], _ => rfl
 | _ :: ds, k => by unfold enumL; rw [List.length_cons, List.length_cons, enumL_len ds]
theorem enumL_get : ∀ (ds : List D) (k i : Nat), (enumL k ds)[i]? = (ds[i]?).map fun d => .tuple [.int ((k + i : Nat) : Int), d]
 | [], _, _ => by simp [enumL]
 | d :: ds, k, 0 => by simp [enumL]
 | d :: ds, k, i + 1 => by
  unfold enumL
  rw [List.getElem?_cons_succ, List.getElem?_cons_succ, enumL_get ds (k + 1) i]
  have : k + 1 + i = k + (i + 1) := by omega
  rw [this]
def enumR (rs : List Ev) : Res (List D) := match rs with
 | [.p (.list ds)] => .ok (enumL 0 ds)
 | _ => .bad
theorem di_enum {X : Cx} {E : L2.St → XK} {a : Expr} {fr : En → Res (List Ev)} {p pos tp : Pos} {elts : List Expr} {x1} (hg : Gl X "enumerate") (hm : X.mg "enumerate" = none) (ha : DA X E [a] fr) (hs : starEach [a] X.env = [(false, eval a X.env)] := by rfl) :
  DI X E (.Tuple elts x1 tp) (.Call (.Name "enumerate" p) [a] [] pos) (mItA enumR fr) := by
 obtain ⟨t, q, m⟩ := ha.out
 refine DI.in ⟨_, pi_enum hg hm q hs, fun B G0 G W H σ en R hh hs hw => m B G0 G W H σ en _ hh hs ?_⟩
 have hw : wpR ((fr en).bind _) _ _ := hw
 rw [wpR_bind] at hw
 refine wpR_mono hw (fun rs hr G1 H1 vs s e => ?_) fun C h => h
 unfold enumR at hr
 split at hr
 ·rename_i ds
  match vs, e with
  | [v], ⟨e1, _⟩ =>
   cases e1 with
   | @lst a xs _ h1 h2 =>
    refine ⟨a, xs, rfl, rd_mono s.gh h1, hr G1 H1 _ s fun G3 H3 k1 k2 => ⟨fun i d ed => ?_, ?_⟩⟩
    ·rw [enumL_get, Option.map_eq_some_iff] at ed
     obtain ⟨d', ed, rfl⟩ := ed
     obtain ⟨x, ex, rx⟩ := h2.get' ed
     have sq : SqL X.K H3 a xs := .inl (rd_mono (k1.trans k2) h1)
     refine ⟨⟨xs, x, sq, ex⟩, fun v H' hy => ?_⟩
     obtain ⟨p, x', hp, rfl, hy, rfl⟩ := hy
     have := hy xs sq
     rw [ex] at this
     cases this
     have st := Step.put (o := .tup [.int i, x]) k2 hp
     refine ⟨_, st, .tup upd_same (.cons ?_ (.cons (rx.mono (k1.trans st.g)) .nil))⟩
     have : ((0 + i : Nat) : Int) = (i : Int) := by simp
     rw [this]
     exact .int _
    ·refine ⟨xs, .inl (rd_mono (k1.trans k2) h1), ?_⟩
     rw [enumL_len, h2.length]
     exact Nat.le_refl _
 ·exact hr.elim
section
variable {X : Cx} {E : L2.St → XK}
def mMeth (i : Nat) (g : List D → Option (List D)) : MS := fun en => match en[i]? with
 | some (some (.o (.list ds))) => match g ds with
  | some es => some (.nx (en.set i (some (.o (.list es)))))
  | none => none
 | _ => none
theorem ds_meth {i : Nat} {st : Stmt} {r : V → List V → Hp → VK → Prop} {g : List D → Option (List D)} (hp : PS X st (tDrop (tBM0 X.K "list" r (tVar i))))
  (hg : ∀ (G H : Hp) (a : Addr) (xs : List V) (ds es : List D) (Q : VK), H a = some (.lst xs) → Reps X.K G xs ds → g ds = some es → (∀ u ys, Reps X.K G ys es → Q u (upd H a (.lst ys))) → r (.ref a) [] H Q) : DS X E st (mMeth i g) := by
 refine DS.in ⟨_, hp, fun B G0 G W H σ en Dn hh hs hw => ?_⟩
 unfold mMeth at hw
 split at hw
 ·rename_i ds ei
  obtain ⟨v, e1, a, o, rfl, e2, e3, e4⟩ := hs.2 i _ ei
  cases e4 with
  | @lst xs _ rp =>
  cases eg : g ds with
  | none => rw [eg] at hw; exact hw.elim
  | some es =>
   rw [eg] at hw
   refine ⟨_, e1, .inl ⟨rfl, _, SqL.of e3⟩, hg G H a xs ds es _ e3 rp eg fun u ys ry => ?_⟩
   obtain ⟨w1, w2⟩ := write_ok (o' := .lst ys) (d' := .list es) hh hs e2 e1 (.lst ry)
   exact hw _ _ _ _ w1 w2
 ·exact hw.elim
theorem Reps.rev {K : PySem.W.Frag} {G : Hp} : ∀ {xs : List V} {ds : List D}, Reps K G xs ds → Reps K G xs.reverse ds.reverse
 | _, _, .nil => .nil
 | _, _, .cons h r => by
  rw [List.reverse_cons, List.reverse_cons]
  exact (Reps.rev r).append (.cons h .nil)
def mClear (i : Nat) : MS := mMeth i fun _ => some []
def mReverse (i : Nat) : MS := mMeth i fun ds => some ds.reverse
theorem ds_clear {i : Nat} {st : Stmt} (hp : PS X st (tDrop (tBM0 X.K "list" rClear (tVar i)))) : DS X E st (mClear i) :=
 ds_meth hp fun G H a xs ds es Q h rp e q => by
  cases e
  exact ⟨a, xs, rfl, rfl, h, q _ _ .nil⟩
theorem ds_reverse {i : Nat} {st : Stmt} (hp : PS X st (tDrop (tBM0 X.K "list" rReverse (tVar i)))) : DS X E st (mReverse i) :=
 ds_meth hp fun G H a xs ds es Q h rp e q => by
  cases e
  exact ⟨a, xs, rfl, rfl, h, q _ _ rp.rev⟩
def cutD (ds : List D) (lo hi : Option Int) : List D := (ds.drop (HT.sIx ds.length 0 lo)).take (HT.sIx ds.length ds.length hi - HT.sIx ds.length 0 lo)
theorem Reps.cut {K : PySem.W.Frag} {G : Hp} {xs : List V} {ds : List D} (r : Reps K G xs ds) (lo hi : Option Int) : Reps K G (cutV xs lo hi) (cutD ds lo hi) := by
 unfold cutV cutD
 rw [r.length]
 exact (r.drop _).take _
def mNoP : En → Res (Option Int) := fun _ => .ok none
def mPt (fe : En → Res Ev) : En → Res (Option Int) := fun en => (fe en).bind fun x => match x.c with
 | .p (.int i) => .ok (some i)
 | _ => .bad
def tP (K : PySem.W.Frag) (E : L2.St → XK) (f : En → Res (Option Int)) : TO := fun σ H R => ∃ B G0 G W en, SimH B G0 G W H ∧ SimS K W G H σ en ∧ wpR (f en) (fun k => ∀ G' H', Step G H G' H' → R k H') (PostX (E σ) G H)
def DP (X : Cx) (E : L2.St → XK) (o : Option Expr) (f : En → Res (Option Int)) : Prop := PO X o (tP X.K E f)
theorem dp_none : DP X E none mNoP := fun pins s σ H R I ⟨B, G0, G, W, en, hh, hs, hw⟩ => po_none pins s σ H R I (hw G H (Step.refl hh.gh))
theorem dp_some {e : Expr} {fe : En → Res Ev} (he : DE X E e fe) : DP X E (some e) (mPt fe) := fun pins s σ H R I ⟨B, G0, G, W, en, hh, hs, hw⟩ => by
 obtain ⟨t, p, m⟩ := he.out
 refine po_some p pins s σ H R I (m B G0 G W H σ en _ hh hs ?_)
 unfold mPt at hw
 rw [wpR_bind] at hw
 refine wpR_mono hw (fun x hx G1 H1 v s1 e1 => ?_) fun C h => h
 obtain ⟨G2, s2, e2⟩ := e1.c s1
 cases ex : x.c with
 | p d =>
  rw [ex] at hx e2
  cases d with
  | int i => cases e2; exact ⟨i, rfl, hx G2 H1 s2⟩
  | _ => exact hx.elim
 | f d => rw [ex] at hx; exact hx.elim
 | b d => rw [ex] at hx; exact hx.elim
 | x C => rw [ex] at hx; exact hx.elim
def mSl (fe : En → Res Ev) (fl fh : En → Res (Option Int)) : En → Res Ev := fun en => (fe en).bind fun x => (fl en).bind fun l => (fh en).bind fun u => match lstOf x.c with
 | some ds => .ok (.f (.list (cutD ds l u)))
 | none => .bad
theorem de_sl {e : Expr} {lo hi : Option Expr} {fe : En → Res Ev} {fl fh : En → Res (Option Int)} {p2 pos : Pos} (he : DE X E e fe) (hl : DP X E lo fl) (hu : DP X E hi fh) : DE X E (.Subscript e (.Slice lo hi none p2) pos) (mSl fe fl fh) := by
 obtain ⟨t, p, m⟩ := he.out
 refine DE.in ⟨_, pe_slice sl_list p hl hu, fun B G0 G W H σ en Q hh hs hw => ?_⟩
 unfold mSl at hw
 refine m B G0 G W H σ en _ hh hs (DE.go hw fun x G1 H1 v s1 e1 h1 => ?_)
 refine ⟨B, G0, G1, W, en, hh.step s1, hs.step s1, ?_⟩
 rw [wpR_bind] at h1
 refine wpR_mono h1 (fun l hx G2 H2 s2 => ?_) fun C h => h
 refine ⟨B, G0, G2, W, en, (hh.step s1).step s2, (hs.step s1).step s2, ?_⟩
 have hx' := wpR_mono hx (fun r h => h.step s2) (fun C h => h.step s2)
 rw [wpR_bind] at hx'
 refine wpR_mono hx' (fun u hy G3 H3 s3 => ?_) fun C h => h
 cases ex : lstOf x.c with
 | none => rw [ex] at hy; exact hy.elim
 | some ds =>
  rw [ex] at hy
  obtain ⟨a, xs, rfl, rd, rp⟩ := lst_at (Hs := H) s3.gh (e1.step (s2.trans s3)) ex
  exact ⟨a, xs, rfl, .inl rd, fun p hp => hy _ _ _ (s3.trans (Step.lay s3.gh hp)) ⟨p, _, rfl, s3.h.free hp, s3.gh.free hp, upd_same, .lst (rp.cut l u)⟩⟩
end
section
variable {K : PySem.W.Frag}
end
end M

namespace L2
open PySem PySem.Spec PyProof.Rows
section
variable {X : Cx}
end
end L2
namespace M
open PySem PySem.Spec PyProof.Rows L2
end M

namespace L2
open PySem PySem.Spec PyProof.Rows
section
variable {X : Cx}
end
end L2
namespace M
open PySem PySem.Spec PyProof.Rows L2
variable {K : PySem.W.Frag}
end M

namespace M
open PySem PySem.Spec PyProof.Rows L2
section
variable {X : Cx} {E : L2.St → XK} {e : Expr}
end
section
variable {X : Cx} {K : PySem.W.Frag}
end
end M

namespace L2
open PySem PySem.Spec PyProof.Rows
section
variable {X : Cx}
end
end L2
namespace M
open PySem PySem.Spec PyProof.Rows L2
end M

namespace L2
open PySem PySem.Spec PyProof.Rows
section
variable {X : Cx}
end
end L2
namespace M
open PySem PySem.Spec PyProof.Rows L2
variable {K : PySem.W.Frag}
def intsOf : List D → Option (List Int)
 | [] => some []
 | .int b :: ds => match intsOf ds with
  | some bs => some (b :: bs)
  | none => none
 | _ => none
theorem intsOf_map : ∀ is : List Int, intsOf (is.map .int) = some is
 | [] => rfl
 | i :: is => by
  show (match intsOf (is.map .int) with | some bs => some (i :: bs) | none => none) = _
  rw [intsOf_map is]
theorem ints_reps {G : Hp} : ∀ {ds : List D} {bs : List Int} {xs : List V}, intsOf ds = some bs → Reps K G xs ds → xs = bs.map V.int
 | [], _, _, h, .nil => by cases h; rfl
 | d :: ds, bs, _, h, .cons r t => by
  cases d with
  | int b =>
   unfold intsOf at h
   cases e : intsOf ds with
   | none => rw [e] at h; cases h
   | some bs' =>
    rw [e] at h
    cases h
    cases r
    rw [ints_reps e t]
    rfl
  | _ => cases h
end M

namespace L2
open PySem PySem.Spec PyProof.Rows
section
variable {X : Cx} {tg : Expr}
end
end L2
namespace M
open PySem PySem.Spec PyProof.Rows L2
section
variable {X : Cx} {E : L2.St → XK} {pos : Pos}
end
def insI (k : Int) : List Int → List Int
 | [] => [k]
 | x :: r => if k ≤ x then k :: x :: r else x :: insI k r
def sortI : List Int → List Int
 | [] => []
 | k :: ks => insI k (sortI ks)
theorem insI_perm (k : Int) : ∀ l, (insI k l).Perm (k :: l)
 | [] => .refl _
 | x :: r => by
  unfold insI
  split
  ·exact .refl _
  ·exact ((insI_perm k r).cons x).trans (List.Perm.swap k x r)
theorem sortI_perm : ∀ l, (sortI l).Perm l
 | [] => .refl _
 | k :: ks => (insI_perm k _).trans ((sortI_perm ks).cons k)
theorem insI_sorted (k : Int) : ∀ l : List Int, l.Pairwise (· ≤ ·) → (insI k l).Pairwise (· ≤ ·)
 | [], _ => List.pairwise_singleton _ _
 | x :: r, h => by
  unfold insI
  obtain ⟨h1, h2⟩ := List.pairwise_cons.mp h
  split
  ·rename_i e
   exact List.pairwise_cons.mpr ⟨fun y hy => by
    rcases List.mem_cons.mp hy with z | z
    ·rw [z]; exact e
    ·exact Int.le_trans e (h1 y z), h⟩
  ·rename_i e
   refine List.pairwise_cons.mpr ⟨fun y hy => ?_, insI_sorted k r h2⟩
   rcases List.mem_cons.mp ((insI_perm k r).mem_iff.mp hy) with z | z
   ·rw [z]; omega
   ·exact h1 y z
theorem sortI_sorted : ∀ l, (sortI l).Pairwise (· ≤ ·)
 | [] => .nil
 | k :: ks => insI_sorted k _ (sortI_sorted ks)
theorem sortI_uniq : ∀ {a b : List Int}, a.Perm b → a.Pairwise (· ≤ ·) → b.Pairwise (· ≤ ·) → a = b
 | [], b, p, _, _ => (List.Perm.nil_eq p)
 | x :: a, [], p, _, _ => absurd p.length_eq (by simp)
 | x :: a, y :: b, p, ha, hb => by
  obtain ⟨a1, a2⟩ := List.pairwise_cons.mp ha
  obtain ⟨b1, b2⟩ := List.pairwise_cons.mp hb
  have hx : x ∈ y :: b := p.mem_iff.mp (.head _)
  have hy : y ∈ x :: a := p.mem_iff.mpr (.head _)
  have e : x = y := by
   rcases List.mem_cons.mp hx with e | hx
   ·exact e
   ·rcases List.mem_cons.mp hy with e | hy
    ·exact e.symm
    ·exact Int.le_antisymm (a1 y hy) (b1 x hx)
  subst e
  rw [sortI_uniq (List.Perm.cons_inv p) a2 b2]
end M
namespace L2
open PySem PySem.Spec PyProof.Rows M
section
variable {X : Cx}
def rSortI (K : PySem.W.Frag) : List V → Hp → VK → Prop := fun xs H Q => ∃ a ns, xs = [.ref a] ∧ SqL K H a (ns.map V.int) ∧ ns.length < 64 ∧ ∀ l, H l = none → Q (.ref l) (upd H l (.lst ((sortI ns).map V.int)))
theorem ints_are : ∀ {ns : List Int} {us : List Value}, Vals (ns.map V.int) us → IntsAre us ns
 | [], _, .nil => .nil
 | n :: ns, _, .cons r t => by
  obtain ⟨tk, rfl⟩ := r
  exact .cons _ _ (ints_are t)
theorem are_ints : ∀ {ns : List Int} {us : List Value}, IntsAre us ns → Vals (ns.map V.int) us
 | [], _, .nil => .nil
 | _ :: _, _, .cons _ _ t => .cons ⟨_, rfl⟩ (are_ints t)
theorem call_sortI {K : PySem.W.Frag} (hK : X.K = K) : CallR X (.builtin "sorted") (rSortI K) := by
 subst hK
 intro pins s σ H xs us Q I r h
 obtain ⟨a, ns, rfl, hq, h64, q⟩ := h
 obtain ⟨u, rfl, ru⟩ := vals1 r
 cases ru
 obtain ⟨its, rv, p, hz⟩ := I.list hq
 have hlen := rv.length
 rw [List.length_map] at hlen
 refine sorted_ints p.isList (ints_are rv) (by omega) fun out ns' a1 a2 a3 => ?_
 obtain ⟨e, he⟩ := sortedAll_at s.heap its out
 have es : ns' = sortI ns := sortI_uniq (a2.trans (sortI_perm ns).symm) a3 (sortI_sorted ns)
 subst es
 refine ⟨.ref (s.heap.objs.size + 1), _, I.laid (a := s.heap.objs.size + 1) (o := .lst ((sortI ns).map V.int)) (t' := s.toks) (fun _ _ => sortedAll_old) (Nat.le_succ _) ⟨?_, out.toList, e, are_ints a1, he⟩, rfl, q _ (I.hok.fresh (Nat.le_succ _))⟩
 rw [List.length_map, (sortI_perm ns).length_eq, sizeLine_eq]
 omega
end
end L2
namespace M
open PySem PySem.Spec PyProof.Rows L2
variable {K : PySem.W.Frag}
def sortIE (rs : List Ev) : Res Ev := match rs with
 | [x] => match lstOf x with
  | some ds => match intsOf ds with
   | some ns => if ns.length < 64 then .ok (.f (.list ((sortI ns).map .int))) else .bad
   | none => .bad
  | none => .bad
 | _ => .bad
theorem noX_sortI : NoXs sortIE := by
 intro rs C h
 unfold sortIE at h
 split at h
 ·split at h
  ·split at h
   ·split at h <;> cases h
   ·cases h
  ·cases h
 ·cases h
theorem ints_rep {G : Hp} : ∀ ns : List Int, Reps K G (ns.map V.int) (ns.map .int)
 | [] => .nil
 | _ :: ns => .cons (.int _) (ints_rep ns)
theorem cm_sortI : CallM K (rSortI K) sortIE := by
 intro W Hs G H vs rs Q gh he hw
 unfold sortIE at hw
 split at hw
 ·rename_i x
  match vs, he with
  | [v], ⟨h1, _⟩ =>
   split at hw
   ·rename_i ds ed
    obtain ⟨a, xs, rfl, k1, k2⟩ := lst_at gh h1 ed
    split at hw
    ·rename_i ns eb
     split at hw
     ·rename_i hl
      have := ints_reps eb k2
      subst this
      refine ⟨a, ns, rfl, .inl k1, hl, fun l hl => ?_⟩
      exact hw _ _ _ (Step.lay gh hl) ⟨l, _, rfl, hl, gh.free hl, upd_same, .lst (ints_rep _)⟩
     ·exact hw.elim
    ·exact hw.elim
   ·exact hw.elim
 ·exact hw.elim
end M

namespace L2
open PySem PySem.Spec PyProof.Rows
end L2
namespace M
open PySem PySem.Spec PyProof.Rows L2
section
variable {X : Cx} {E : L2.St → XK}
end
variable {K : PySem.W.Frag}
end M

namespace L2
open PySem PySem.Spec PyProof.Rows M
section
variable {X : Cx}
def rListK : List V → Hp → VK → Prop := fun xs H Q => ∃ (a : Addr) (kv : List (Key × V)) (ns : List Int), xs = [.ref a] ∧ Rd H a (.dK kv) ∧ kv.map (·.1) = ns.map Sum.inl ∧ ∀ l, H l = none → Q (.ref l) (upd H l (.lst (ns.map V.int)))
theorem vals_keys {kv : List (Key × V)} {vs : List (Key × Value)} {ns : List Int} (r : KV kv vs) (hk : kv.map (·.1) = ns.map Sum.inl) {us : List Value} (hl : us.length = vs.length) (hu : ∀ (j : Nat) (u : Value), us[j]? = some u → ∃ k x, vs[j]? = some (k, x) ∧ keyIs k u = true) : Vals (ns.map V.int) us := by
 induction r generalizing ns us with
 | nil =>
  cases ns with
  | nil =>
   cases us with
   | nil => exact .nil
   | cons u t => cases hl
  | cons n t => cases hk
 | @cons p q ps qs h t ih =>
  cases ns with
  | nil => cases hk
  | cons n ns =>
   cases us with
   | nil => cases hl
   | cons u us =>
    rw [List.map_cons, List.map_cons] at hk
    injection hk with hk1 hk2
    obtain ⟨k, x, e1, e2⟩ := hu 0 u rfl
    cases e1
    have hq : k = Sum.inl n := h.1.symm.trans hk1
    refine .cons ?_ (ih hk2 (Nat.succ.inj hl) fun j v e => hu (j + 1) v e)
    rw [hq] at e2
    exact Value.isInt_shape e2
theorem call_list_dK (hc : X.calm = true) : CallR X (.type "list") rListK := by
 intro pins s σ H xs us Q I r h
 obtain ⟨a, kv, ns, rfl, ha, hk, q⟩ := h
 obtain ⟨u, rfl, ru⟩ := vals1 r
 cases (show u = Value.ref a from ru)
 obtain ⟨hz, lo, vs, rel, hd⟩ := dk_rd I.hok ha
 obtain ⟨ep, hat⟩ := hd.dictAt
 have len1 : kv.length = vs.length := Paired.length rel
 refine PySem.W.kdl_call (PySem.W.kdl_dict (knd := mixKind X.prog X.w) (kvs := vs) (ep := ep) lo) (I.ok.hd hc) hat (by omega) fun h' tk acc c' kp e it => ?_
 have rv : Vals (ns.map V.int) acc.toList := vals_keys rel hk (by rw [Array.length_toList]; exact it.1) fun j v e => by
  obtain ⟨k, x, e1, e2⟩ := it.2 j v (by rw [← Array.getElem?_toList]; exact e)
  exact ⟨k, x, e1, e2⟩
 have hn : ns.length = kv.length := by
  have := congrArg List.length hk
  rw [List.length_map, List.length_map] at this
  exact this.symm
 refine ⟨.ref s.heap.objs.size, _, I.laid (a := s.heap.objs.size) (o := .lst (ns.map V.int)) (t' := tk) kp (Nat.le_refl _) ⟨by rw [List.length_map]; omega, acc.toList, c', rv, e⟩, rfl, q _ (I.hok.fresh (Nat.le_refl _))⟩
end
end L2
namespace M
open PySem PySem.Spec PyProof.Rows L2
variable {K : PySem.W.Frag}
def listKE (rs : List Ev) : Res Ev := match rs with
 | [x] => match dctOf x with
  | some ((.none, .none) :: kvs) => match intsOf (kvs.map (·.1)) with
   | some ns => .ok (.f (.list (ns.map .int)))
   | none => .bad
  | _ => .bad
 | _ => .bad
theorem noX_listK : NoXs listKE := by
 intro rs C h
 unfold listKE at h
 split at h
 ·split at h
  ·split at h <;> cases h
  ·cases h
 ·cases h
theorem repK_ints {G : Hp} : ∀ {kv : List (Key × V)} {kvs : List (D × D)} {ns : List Int}, RepK K G kv kvs → intsOf (kvs.map (·.1)) = some ns → kv.map (·.1) = ns.map Sum.inl
 | [], _, _, .nil, h => by cases h; rfl
 | (k, x) :: kv, _, ns, .cons (kvs := kvs) r t, h => by
  rw [List.map_cons] at h
  cases k with
  | inl i =>
   have h : (match intsOf (kvs.map (·.1)) with | some bs => some (i :: bs) | none => none) = some ns := h
   cases e : intsOf (kvs.map (·.1)) with
   | none => rw [e] at h; cases h
   | some bs =>
    rw [e] at h
    cases h
    rw [List.map_cons, List.map_cons, repK_ints t e]
  | inr y => cases h
theorem cm_listK : CallM K rListK listKE := by
 intro W Hs G H vs rs Q gh he hw
 unfold listKE at hw
 split at hw
 ·rename_i x
  match vs, he with
  | [v], ⟨h1, _⟩ =>
   split at hw
   ·rename_i kvs ed
    obtain ⟨a, rfl, hd⟩ := dct_at gh h1 ed
    split at hw
    ·rename_i ns eb
     rcases hd with ⟨kv, k1, k2⟩ | ⟨kv, r, er, k1, k2⟩
     ·cases k2
     ·cases er
      refine ⟨a, kv, ns, rfl, .inl k1, repK_ints k2 eb, fun l hl => ?_⟩
      exact hw _ _ _ (Step.lay gh hl) ⟨l, _, rfl, hl, gh.free hl, upd_same, .lst (ints_rep _)⟩
    ·exact hw.elim
   ·exact hw.elim
 ·exact hw.elim
end M

namespace L2
open PySem PySem.Spec PyProof.Rows
def CMulX (i j : Int) : Prop := CMulW i j ∨ CMul i j
theorem op_mulX {X : Cx} : OpR X (binaryOp .Mult) (rI CMulX fun i j => .int (i * j)) := opI fun _ _ _ _ _ _ _ hc q => mul_int q (hc.elim CMulW.ok CMul.ok)
end L2
namespace M
open PySem PySem.Spec PyProof.Rows L2
variable {K : PySem.W.Frag}
noncomputable abbrev mulXE : Ev → Ev → Res Ev := intE CMulX fun i j => .int (i * j)
theorem om_mulX : OpM K (rI CMulX fun i j => .int (i * j)) mulXE := om_int fun _ _ _ => .int _
theorem mulX_ok {i j : Int} (h : CMulX i j) : mulXE (.p (.int i)) (.p (.int j)) = .ok (.p (.int (i * j))) := by simp [intE, h]
theorem mulX_r {i j : Int} (h1 : -(2 ^ 64) < j) (h2 : j < 2 ^ 64) : mulXE (.p (.int i)) (.p (.int j)) = .ok (.p (.int (i * j))) := mulX_ok (.inr (.inr ⟨h1, h2⟩))
end M

namespace L2
open PySem PySem.Spec PyProof.Rows M SRT
section
variable {prog : Program} {w : World} {A : Around} {E : Value → Shared → Prop} {s : Shared}
theorem sorted_col {r : Addr} {Q : Value → Shared → Prop} {Ok : List Value → Prop} (hcol : ∀ R : List Value → Shared → Prop, (∀ h' tk vs, (∀ b o, s.heap.get? b = some o → h'.get? b = some o) → Ok vs → R vs { s with heap := h', toks := tk }) → wpAny (model prog w) A.in1 (collect (.ref r)) R E s)
  (ns : List Int) (hok : ∀ vs, Ok vs → IntsAre vs ns ∧ vs.length < 64)
  (h : ∀ (h' hf : Heap) (tk c : Nat) (out : Array Value) (ns' : List Int), (∀ b o, s.heap.get? b = some o → h'.get? b = some o) → (∀ b o, h'.get? b = some o → hf.get? b = some o) → IntsAre out.toList ns' → ns'.Perm ns → ns'.Pairwise (· ≤ ·) →
   hf.get? h'.objs.size = some (seqObj "list" out c) → Q (.ref h'.objs.size) { s with heap := hf, toks := tk }) :
  wpAny (model prog w) A (call (.builtin "sorted") [.ref r]) Q E s := by
 refine Calls.call_function_entry kind_sorted plain_sorted entry_sorted (args_sorted1 _) ?_
 unfold Builtin.«sorted»
 refine wpAny_bind (m := checkCount "sorted" 1 1 _) (wpAny_pure ?_)
 refine wpAny_bind (hcol _ fun h' tk vs keep ov => ?_)
 obtain ⟨hI, h64⟩ := hok vs ov
 refine wpAny_bind (wpAny_newList ?_ (by rw [sizeLine_eq]; omega))
 have hoL : (h'.push (seqObj "list" vs.toArray 0)).get? h'.objs.size = some (seqObj "list" vs.toArray 0) := Heap.get?_push_size _ rfl
 refine wpAny_bind (wpAny_holding (wpAny_call_entry slot_list_sort ⟨_, hoL, rfl⟩ entry_list_sort (list_sort_tree (s := { s with heap := h'.push (seqObj "list" vs.toArray 0), toks := tk }) hoL hI h64 fun out ns' a1 a2 a3 => ⟨_, rfl, ?_⟩) (args_list_sort _)))
 obtain ⟨c, hc⟩ := sorted_here (out := out) hoL
 exact wpAny_pure ⟨_, rfl, h h' _ tk c out ns' keep (fun b o e => sorted_keep (Nat.ne_of_lt (Heap.lt_size e)) (Heap.get?_push_of_some _ e)) a1 a2 a3 hc⟩
end
section
variable {X : Cx}
def rSortDK : List V → Hp → VK → Prop := fun xs H Q => ∃ (a : Addr) (kv : List (Key × V)) (ns : List Int), xs = [.ref a] ∧ Rd H a (.dK kv) ∧ kv.map (·.1) = ns.map Sum.inl ∧ ns.length < 64 ∧ ∀ l, H l = none → Q (.ref l) (upd H l (.lst ((sortI ns).map V.int)))
theorem call_sort_dK (hc : X.calm = true) : CallR X (.builtin "sorted") rSortDK := by
 intro pins s σ H xs us Q I r h
 obtain ⟨a, kv, ns, rfl, ha, hk, h64, q⟩ := h
 obtain ⟨u, rfl, ru⟩ := vals1 r
 cases (show u = Value.ref a from ru)
 obtain ⟨hz, lo, vs, rel, hd⟩ := dk_rd I.hok ha
 obtain ⟨ep, hat⟩ := hd.dictAt
 have len1 : kv.length = vs.length := Paired.length rel
 have hn : ns.length = kv.length := by
  have := congrArg List.length hk
  rw [List.length_map, List.length_map] at this
  exact this.symm
 refine sorted_col (Ok := fun us => us.length = vs.length ∧ ∀ (j : Nat) v, us[j]? = some v → ∃ k x, vs[j]? = some (k, x) ∧ keyIs k v = true) (fun R hR => ?_) ns (fun us e => ⟨ints_are (vals_keys rel hk e.1 e.2), by omega⟩) fun h' hf tk c out ns' k1 k2 a1 a2 a3 hc => ?_
 ·refine PySem.W.kdu_collect (A := X.A.in1) (PySem.W.kdl_dict (knd := mixKind X.prog X.w) (kvs := vs) (ep := ep) lo) (I.ok.hd hc) hat (by omega) fun h' tk acc hk' hacc => hR h' tk _ hk' ⟨by rw [Array.length_toList]; exact hacc.1, fun j v e => ?_⟩
  obtain ⟨k, x, e1, e2⟩ := hacc.2 j v (by rw [← Array.getElem?_toList]; exact e)
  exact ⟨k, x, e1, e2⟩
 ·have es : ns' = sortI ns := sortI_uniq (a2.trans (sortI_perm ns).symm) a3 (sortI_sorted ns)
  subst es
  have I1 : Inv X pins σ H { s with heap := h', toks := tk } := I.kept (t' := tk) k1
  refine ⟨.ref h'.objs.size, _, I1.laid (a := h'.objs.size) (o := .lst ((sortI ns).map V.int)) (t' := tk) k2 (Nat.le_refl _) ⟨?_, out.toList, c, are_ints a1, hc⟩, rfl, q _ (I1.hok.fresh (Nat.le_refl _))⟩
  rw [List.length_map, (sortI_perm ns).length_eq, sizeLine_eq]
  omega
end
end L2
namespace M
open PySem PySem.Spec PyProof.Rows L2 SRT
variable {K : PySem.W.Frag}
def sortDKE (rs : List Ev) : Res Ev := match rs with
 | [x] => match dctOf x with
  | some ((.none, .none) :: kvs) => match intsOf (kvs.map (·.1)) with
   | some ns => if ns.length < 64 then .ok (.f (.list ((sortI ns).map .int))) else .bad
   | none => .bad
  | _ => .bad
 | _ => .bad
theorem noX_sortDK : NoXs sortDKE := by
 intro rs C h
 unfold sortDKE at h
 split at h
 ·split at h
  ·split at h
   ·split at h <;> cases h
   ·cases h
  ·cases h
 ·cases h
theorem cm_sortDK : CallM K rSortDK sortDKE := by
 intro W Hs G H vs rs Q gh he hw
 unfold sortDKE at hw
 split at hw
 ·rename_i x
  match vs, he with
  | [v], ⟨h1, _⟩ =>
   split at hw
   ·rename_i kvs ed
    obtain ⟨a, rfl, hd⟩ := dct_at gh h1 ed
    split at hw
    ·rename_i ns eb
     split at hw
     ·rename_i hl
      rcases hd with ⟨kv, k1, k2⟩ | ⟨kv, r, er, k1, k2⟩
      ·cases k2
      ·cases er
       refine ⟨a, kv, ns, rfl, .inl k1, repK_ints k2 eb, hl, fun l hl => ?_⟩
       exact hw _ _ _ (Step.lay gh hl) ⟨l, _, rfl, hl, gh.free hl, upd_same, .lst (ints_rep _)⟩
     ·exact hw.elim
    ·exact hw.elim
   ·exact hw.elim
 ·exact hw.elim
end M

namespace L2
open PySem PySem.Spec PyProof.Rows
section
variable {X : Cx} {CX : CXT} {k : Nat} {f : Addr} {fd : FuncData} {ps : List Str} {sp : Sp} {E : St → XK} {x : Str} {p pos : Pos}
theorem pe_callS0 (F : FnOk X.prog X.w X.K X.mg X.base CX k f fd ps sp) (hr : Room k X.A) (hg : Gl X x) (hm : X.mg x = some (.ref f)) (hk : PySem.W.keepIn X.K (.ref f) = true) (hb : Binds X.K fd ps []) (hx : PassesS CX X E)
  (hdb : (x == ("__debug__" : Str)) = false := by decide) : PE X (.Call (.Name x p) [] [] pos) (tCallS sp E tNil) := by
 intro pins s σ H Q I h
 refine wpAny_Call_Name_kw (ld_glob I hg hm ?_ hdb)
 refine PySem.W.callWith_K0 I.kIn hk ?_
 have hl : ([] : List Value).length = ps.length := F.len _ _ _ _ h
 have hb' := hb s [] I.kIn (by rw [List.append_nil]; exact hl)
 rw [List.append_nil] at hb'
 refine wpAny_call (codeAny_mono (F.run X.A X.stack s H ⟨[], []⟩ [] [] Q (E σ) hr I.env0 hb' .nil h) fun rr s' hq => ?_)
 cases rr with
 | error e' => exact hx pins σ H s e' s' I hq
 | ok fl =>
  cases fl with
  | ret u => exact I.after hq
  | next => exact False.elim hq
  | brk => exact False.elim hq
  | cont => exact False.elim hq
end
end L2
namespace M
open PySem PySem.Spec PyProof.Rows L2
section
variable {X : Cx} {E : L2.St → XK} {k j : Nat} {x : Str} {p pos : Pos} {n : Nat} {m : List L → Res L}
theorem de_callC0 (c : Cal X.prog X.w X.K X.mg X.base j x n m) (hr : Room k X.A) (hx : PassesS (CXr X.prog X.w) X E) (hg : Gl X x := by rfl) (hjk : j ≤ k := by decide) (hdb : (x == ("__debug__" : Str)) = false := by decide) :
  DE X E (.Call (.Name x p) [] [] pos) (mCall n m mNil) := by
 obtain ⟨f, fd, ps, F, b, kp, h⟩ := c.ex
 refine DE.in ⟨_, pe_callS0 (F.mono hjk) hr hg h kp b hx hdb, fun B G0 G W H σ en Q hh hs hw => ?_⟩
 have hw : wpR ((mNil en).bind _) _ _ := hw
 rw [wpR_bind] at hw
 exact call_core (rs := []) hh (Step.refl hh.gh) trivial hw
end
end M

namespace L2
open PySem PySem.Spec PyProof.Rows
section
variable {X : Cx} {pos : Pos}
end
end L2
namespace M
open PySem PySem.Spec PyProof.Rows L2
section
variable {X : Cx} {E : L2.St → XK} {pos : Pos}
end
end M

namespace N
open PySem PySem.Spec PyProof.Rows L2 M
def frD (x : Int × Int) : D := .tuple [.int x.1, .int x.2]
abbrev Pl := Int × Int × (Int × Int)
def plD (p : Pl) : D := .tuple [.int p.1, .int p.2.1, frD p.2.2]
theorem at0 {α : Type} (x : α) (r : List α) : atI (x :: r) 0 = some x := atI_nat (j := 0) rfl
theorem at1 {α : Type} (x y : α) (r : List α) : atI (x :: y :: r) 1 = some y := atI_nat (j := 1) rfl
theorem at2 {α : Type} (x y z : α) (r : List α) : atI (x :: y :: z :: r) 2 = some z := atI_nat (j := 2) rfl
theorem eqv_ii (i j : Int) : PyData.eqv (.int i) (.int j) = (i == j) := by simp [PyData.eqv]
theorem sh_int (i : Int) : SeqAt.shaped (.int i) = true := by simp [SeqAt.shaped, PyData.canLay0, PyData.depth]
def decL {α : Type} (f : D → Option α) : List D → Option (List α)
 | [] => some []
 | d :: r => match f d with
  | none => none
  | some a => match decL f r with
   | none => none
   | some as => some (a :: as)
theorem decL_map {α : Type} {f : D → Option α} {enc : α → D} (h : ∀ a, f (enc a) = some a) : ∀ xs : List α, decL f (xs.map enc) = some xs
 | [] => rfl
 | x :: xs => by
  show (match f (enc x) with | none => none | some a => match decL f (xs.map enc) with | none => none | some as => some (a :: as)) = _
  rw [h x, decL_map h xs]
def frOf : D → Option (Int × Int)
 | .tuple [.int a, .int b] => some (a, b)
 | _ => none
theorem frOf_frD (x : Int × Int) : frOf (frD x) = some x := rfl
theorem mapO_map {α : Type} {g : D → Option (Option D)} {enc : α → D} {out : α → D} : ∀ xs : List α, (∀ x ∈ xs, g (enc x) = some (some (out x))) → mapO g (xs.map enc) = some (xs.map out)
 | [], _ => rfl
 | x :: xs, h => by
  show (match g (enc x) with | none => none | some o => match mapO g (xs.map enc) with | none => none | some r => some (match o with | some y => y :: r | none => r)) = _
  rw [h x (.head _), mapO_map xs fun y hy => h y (.tail _ hy)]
  rfl
def ltF (x y : Int × Int) : Bool := decide (x.1 * y.2 < y.1 * x.2)
def best (b : Int × Int) : List (Int × Int) → Int × Int
 | [] => b
 | x :: r => best (if ltF b x = true then x else b) r
def FSz (n : Nat) (x : Int × Int) : Prop := Sz n x.1 ∧ Sz n x.2
def Good (n : Nat) (x : Int × Int) : Prop := 1 ≤ x.2 ∧ Sz n x.1 ∧ Sz n x.2
theorem Good.fsz {n : Nat} {x : Int × Int} (h : Good n x) : FSz n x := h.2
theorem Good.mono {m n : Nat} {x : Int × Int} (h : Good m x) (l : m ≤ n) : Good n x := ⟨h.1, h.2.1.mono l, h.2.2.mono l⟩
theorem mk_good {n : Nat} {t b : Int} (ht : Sz n t) (hb : Sz n b) (h0 : b ≠ 0) : Good n (FR.mk t b) := ⟨(FR.mk_fr h0).1.pos, Sz.le ht (natAbs_fdiv_le _ _), Sz.le hb (natAbs_fdiv_le _ _)⟩
def hT (i : Int) (x : Int × Int) : Int × Int := FR.mk (i * x.1) (1 * x.2)
def hP (x y : Int × Int) : Int × Int := FR.mk (x.1 * y.2 + y.1 * x.2) (x.2 * y.2)
theorem good_T {m n : Nat} {i : Int} {x : Int × Int} (hi : Sz m i) (hx : Good n x) : Good (m + n) (hT i x) :=
 mk_good (Sz.mul hi hx.2.1) (by rw [Int.one_mul]; exact hx.2.2.mono (Nat.le_add_left _ _)) (by have := hx.1; omega)
theorem good_P {m n : Nat} {x y : Int × Int} (hx : Good m x) (hy : Good n y) : Good (m + n + 1) (hP x y) :=
 mk_good (Sz.add (Sz.mul hx.2.1 hy.2.2) ((Sz.mul hy.2.1 hx.2.2).mono (by omega))) ((Sz.mul hx.2.2 hy.2.2).mono (by omega)) (fun z => by
  rcases Int.mul_eq_zero.mp z with q | q
  ·have := hx.1; omega
  ·have := hy.1; omega)
theorem Good.ne {m n : Nat} {x y : Int × Int} (hx : Good m x) (hy : Good n y) : x.2 * y.2 ≠ 0 := fun z => by
 rcases Int.mul_eq_zero.mp z with q | q
 ·have := hx.1; omega
 ·have := hy.1; omega
theorem sz_one : Sz 2000 (1 : Int) := by unfold Sz; exact Nat.one_lt_two_pow (by decide)
open Classical in
noncomputable def mOf {α : Type} (enc : α → List L) (P : α → Prop) (g : α → Res L) (ls : List L) : Res L := if h : ∃ a, enc a = ls ∧ P a then g h.choose else .bad
theorem mOf_at {α : Type} {enc : α → List L} {P : α → Prop} {g : α → Res L} (inj : ∀ a b, enc a = enc b → a = b) {a : α} (h : P a) : mOf enc P g (enc a) = g a := by
 have hx : ∃ b, enc b = enc a ∧ P b := ⟨a, rfl, h⟩
 unfold mOf
 rw [dif_pos hx, inj _ _ hx.choose_spec.1]
theorem mOf_eq {α : Type} {enc : α → List L} {P : α → Prop} {g : α → Res L} {n : Nat} {f : MS} (h : ∀ a, P a → runF n f (enc a) = g a) : ∀ ls, mOf enc P g ls = .bad ∨ runF n f ls = mOf enc P g ls := by
 intro ls
 unfold mOf
 by_cases hx : ∃ a, enc a = ls ∧ P a
 ·rw [dif_pos hx]
  exact .inr ((congrArg _ hx.choose_spec.1.symm).trans (h _ hx.choose_spec.2))
 ·exact .inl (dif_neg hx)
theorem frI {a b : Int × Int} (h : frD a = frD b) : a = b := Option.some.inj (congrArg frOf h)
theorem ix_t0 (a : D) (r : List D) : ixE (.p (.tuple (a :: r))) (.p (.int 0)) = .ok (.p a) := by simp [ixE, seqOf, at0]
theorem ix_t1 (a b : D) (r : List D) : ixE (.p (.tuple (a :: b :: r))) (.p (.int 1)) = .ok (.p b) := by simp [ixE, seqOf, at1]
theorem ix_t2 (a b d : D) (r : List D) : ixE (.p (.tuple (a :: b :: d :: r))) (.p (.int 2)) = .ok (.p d) := by simp [ixE, seqOf, at2]
theorem ix_pl0 (p : Pl) : ixE (.p (plD p)) (.p (.int 0)) = .ok (.p (.int p.1)) := ix_t0 _ _
theorem ix_pl1 (p : Pl) : ixE (.p (plD p)) (.p (.int 1)) = .ok (.p (.int p.2.1)) := ix_t1 _ _ _
theorem ix_pl2 (p : Pl) : ixE (.p (plD p)) (.p (.int 2)) = .ok (.p (frD p.2.2)) := ix_t2 _ _ _ _
theorem ix_fr0 (p : Int × Int) : ixE (.p (frD p)) (.p (.int 0)) = .ok (.p (.int p.1)) := ix_t0 _ _
theorem ix_fr1 (p : Int × Int) : ixE (.p (frD p)) (.p (.int 1)) = .ok (.p (.int p.2)) := ix_t1 _ _ _
section
variable {κ α : Type} [DecidableEq κ]
def aget : List (κ × α) → κ → Option α
 | [], _ => none
 | p :: r, k => if p.1 = k then some p.2 else aget r k
def aset (k : κ) (v : α) : List (κ × α) → List (κ × α)
 | [] => []
 | p :: r => (if p.1 = k then (p.1, v) else p) :: aset k v r
def aput (m : List (κ × α)) (k : κ) (v : α) : List (κ × α) := if (aget m k).isSome = true then aset k v m else m ++ [(k, v)]
def encM (ek : κ → D) (ev : α → D) (m : List (κ × α)) : List (D × D) := m.map fun p => (ek p.1, ev p.2)
variable {ek : κ → D} {ev : α → D} (inj : ∀ a b, ek a = ek b → a = b)
include inj
theorem kget_enc (k : κ) : ∀ m : List (κ × α), kget (encM ek ev m) (ek k) = (aget m k).map ev
 | [] => rfl
 | p :: r => by
  unfold encM
  rw [List.map_cons]
  unfold kget aget
  by_cases e : p.1 = k
  ·rw [if_pos (by rw [e]), if_pos e]; rfl
  ·rw [if_neg (fun z => e (inj _ _ z)), if_neg e]
   exact kget_enc k r
theorem kset_enc (k : κ) (v : α) : ∀ m : List (κ × α), kset (ek k) (ev v) (encM ek ev m) = encM ek ev (aset k v m)
 | [] => rfl
 | p :: r => by
  have ih := kset_enc k v r
  unfold encM at ih ⊢
  rw [List.map_cons]
  unfold kset aset
  rw [List.map_cons, ih]
  by_cases e : p.1 = k
  ·rw [if_pos (by rw [e]), if_pos e]
  ·rw [if_neg (fun z => e (inj _ _ z)), if_neg e]
theorem kput_enc (k : κ) (v : α) (m : List (κ × α)) : kput (encM ek ev m) (ek k) (ev v) = encM ek ev (aput m k v) := by
 unfold kput aput
 rw [kget_enc inj]
 cases e : aget m k with
 | none =>
  rw [if_neg (by simp), if_neg (by simp)]
  unfold encM
  rw [List.map_append]
  rfl
 | some x =>
  rw [if_pos (by rfl), if_pos (by rfl)]
  exact kset_enc inj k v m
end
theorem len_aset {α κ : Type} [DecidableEq κ] (k : κ) (v : α) : ∀ m : List (κ × α), (aset k v m).length = m.length
 | [] => rfl
 | _ :: r => by unfold aset; rw [List.length_cons, List.length_cons, len_aset k v r]
theorem len_aput {α κ : Type} [DecidableEq κ] (m : List (κ × α)) (k : κ) (v : α) : (aput m k v).length ≤ m.length + 1 := by
 unfold aput
 split
 ·rw [len_aset]; exact Nat.le_succ _
 ·rw [List.length_append]; exact Nat.le_refl _
theorem aget_aset {α κ : Type} [DecidableEq κ] (k : κ) (v : α) (j : κ) : ∀ m : List (κ × α), aget (aset k v m) j = if j = k then (aget m k).map (fun _ => v) else aget m j
 | [] => by unfold aset aget; split <;> rfl
 | p :: r => by
  have ih := aget_aset k v j r
  unfold aset aget
  by_cases e : p.1 = k
  ·rw [if_pos e]
   by_cases e2 : p.1 = j
   ·have : j = k := by rw [← e2, e]
    rw [if_pos e2, if_pos this, if_pos e]; rfl
   ·have : j ≠ k := fun z => e2 (by rw [e, z])
    rw [if_neg e2, if_neg this, if_neg e2]
    rw [if_neg this] at ih
    exact ih
  ·rw [if_neg e]
   by_cases e2 : p.1 = j
   ·have : j ≠ k := fun z => e (by rw [e2, z])
    rw [if_pos e2, if_neg this, if_pos e2]
   ·rw [if_neg e2, ih]
    by_cases e3 : j = k
    ·rw [if_pos e3, if_pos e3, if_neg e]
    ·rw [if_neg e3, if_neg e3, if_neg e2]
theorem aget_app {α κ : Type} [DecidableEq κ] (j : κ) (l : List (κ × α)) : ∀ m : List (κ × α), aget (m ++ l) j = match aget m j with
  | some x => some x
  | none => aget l j
 | [] => rfl
 | p :: r => by
  have ih := aget_app j l r
  rw [List.cons_append]
  show (if p.1 = j then some p.2 else aget (r ++ l) j) = match (if p.1 = j then some p.2 else aget r j) with
   | some x => some x
   | none => aget l j
  by_cases e : p.1 = j
  ·rw [if_pos e, if_pos e]
  ·rw [if_neg e, if_neg e]; exact ih
theorem aget_aput {α κ : Type} [DecidableEq κ] (m : List (κ × α)) (k : κ) (v : α) (j : κ) : aget (aput m k v) j = if j = k then some v else aget m j := by
 unfold aput
 cases e : aget m k with
 | none =>
  rw [if_neg (by simp), aget_app]
  by_cases ej : j = k
  ·subst ej; rw [e, if_pos rfl]; unfold aget; rw [if_pos rfl]
  ·rw [if_neg ej]
   cases e2 : aget m j with
   | some x => rfl
   | none => unfold aget; rw [if_neg (fun z => ej z.symm)]; rfl
 | some x =>
  rw [if_pos (by rfl), aget_aset]
  by_cases ej : j = k
  ·rw [if_pos ej, if_pos ej, e]; rfl
  ·rw [if_neg ej, if_neg ej]
theorem aget_mem {α κ : Type} [DecidableEq κ] : ∀ {m : List (κ × α)} {e : κ × α}, e ∈ m → ∃ v, aget m e.1 = some v
 | p :: r, e, h => by
  unfold aget
  by_cases q : p.1 = e.1
  ·rw [if_pos q]; exact ⟨_, rfl⟩
  ·rw [if_neg q]
   rcases List.mem_cons.mp h with z | z
   ·exact absurd (by rw [z]) q
   ·exact aget_mem z
theorem fmod_pos {a b : Int} (hb : 0 < b) : 0 ≤ a.fmod b ∧ a.fmod b < b := by
 rw [Int.fmod_eq_emod_of_nonneg a (Int.le_of_lt hb)]
 exact ⟨Int.emod_nonneg a (by omega), Int.emod_lt_of_pos a hb⟩
theorem seq_nx {f g : MS} {en e1 : En} (h : f en = some (.nx e1)) : mSeq f g en = g e1 := by unfold mSeq; rw [h]
theorem seq_rt {f g : MS} {en : En} {l : L} (h : f en = some (.rt l)) : mSeq f g en = some (.rt l) := by unfold mSeq; rw [h]
theorem set_p {i : Nat} {fe : En → Res Ev} {en : En} {d : D} (h : fe en = .ok (.p d)) : mSet i fe en = some (.nx (en.set i (some (.p d)))) := by unfold mSet; rw [h]
theorem set_f {i : Nat} {fe : En → Res Ev} {en : En} {d : D} (h : fe en = .ok (.f d)) : mSet i fe en = some (.nx (en.set i (some (.o d)))) := by unfold mSet; rw [h]
theorem if_t {ft : En → Res Bool} {f g : MS} {en : En} (h : ft en = .ok true) : mIfS ft f g en = f en := by unfold mIfS; rw [h]; rfl
theorem if_f {ft : En → Res Bool} {f g : MS} {en : En} (h : ft en = .ok false) : mIfS ft f g en = g en := by unfold mIfS; rw [h]; rfl
theorem run_rt {n : Nat} {f : MS} {ls : List L} {l : L} (h : f (startE n ls) = some (.rt l)) : runF n f ls = .ok l := by unfold runF; rw [h]
theorem can_all {α : Type} (f : α → D) (h : ∀ a, PyData.canLay0 (f a) = true) : ∀ xs : List α, PyData.canLayAll0 (xs.map f) = true
 | [] => rfl
 | x :: xs => by rw [List.map_cons, PyData.canLayAll0, h x, can_all f h xs]; rfl
theorem dep_all {α : Type} (f : α → D) (n : Nat) (h : ∀ a, PyData.depth (f a) ≤ n) : ∀ xs : List α, PyData.depthAll (xs.map f) ≤ n
 | [] => Nat.zero_le _
 | x :: xs => by
  rw [List.map_cons, PyData.depthAll]
  exact Nat.max_le.mpr ⟨h x, dep_all f n h xs⟩
theorem sh_list {α : Type} (f : α → D) (h1 : ∀ a, PyData.canLay0 (f a) = true) (h2 : ∀ a, PyData.depth (f a) ≤ 9) (xs : List α) : SeqAt.shaped (.list (xs.map f)) = true := by
 have a : PyData.canLay0 (.list (xs.map f)) = true := by rw [PyData.canLay0]; exact can_all f h1 xs
 have b : PyData.depth (.list (xs.map f)) ≤ 64 := by
  rw [PyData.depth]
  have := dep_all f 9 h2 xs
  omega
 unfold SeqAt.shaped
 rw [a, decide_eq_true b]
 rfl
theorem eqE_same {x y : Ev} {d : D} (h1 : dat x = some d) (h2 : dat y = some d) (hs : SeqAt.shaped d = true) (ng : Bool) : eqE ng x y = .ok (.p (.bool (!ng))) := by
 have hc : PyData.canLay0 d = true := by
  unfold SeqAt.shaped at hs
  exact (Bool.and_eq_true_iff.mp hs).1
 unfold eqE
 rw [h1, h2]
 dsimp only
 rw [if_pos ⟨hs, hs⟩, SeqAt.eqv_refl d hc]
 cases ng <;> rfl
theorem sh_fr (x : Int × Int) : SeqAt.shaped (frD x) = true := by simp [SeqAt.shaped, frD, PyData.canLay0, PyData.canLayAll0, PyData.depth, PyData.depthAll]
theorem for_l {fi : En → Res (List D)} {tg : D → En → Option En} {f : MS} {en : En} {ds : List D} (h : fi en = .ok ds) : mFor fi tg f en = mLoop tg f ds en := by unfold mFor; rw [h]
theorem lfA_map {α : Type} (f : α → D) (h : ∀ a, lfD (f a) = true) : ∀ xs : List α, lfA (xs.map f) = true
 | [] => by simp [lfA]
 | x :: xs => by rw [List.map_cons]; unfold lfA; rw [h x, lfA_map f h xs]; rfl
theorem lf_fr (x : Int × Int) : lfD (frD x) = true := by simp [frD, lfD, lfA]
theorem sz_fmod {n : Nat} {a b : Int} (h : 0 < b) (hb : Sz n b) : Sz n (a.fmod b) := by
 have := fmod_pos (a := a) h
 exact Sz.le hb (by omega)
theorem cm2 {m n : Nat} {i j : Int} (h1 : Sz m i) (h2 : Sz n j) (hm : m ≤ 60000) (hn : n ≤ 60000) : CMulW i j := ⟨h1.mono hm, h2.mono hn⟩
theorem cd2 {m : Nat} {j : Int} (i : Int) (h0 : j ≠ 0) (h1 : Sz m j) (hm : m ≤ 8000) : CDivW i j := ⟨h0, h1.mono hm⟩
theorem mul_ok {i j : Int} (h : CMulW i j) : mulE (.p (.int i)) (.p (.int j)) = .ok (.p (.int (i * j))) := by simp [mulE, intE, h]
theorem fdiv_ok {i j : Int} (h : CDivW i j) : fdivE (.p (.int i)) (.p (.int j)) = .ok (.p (.int (i.fdiv j))) := by simp [fdivE, intE, h]
theorem mod_ok {i j : Int} (h : j ≠ 0) : modE (.p (.int i)) (.p (.int j)) = .ok (.p (.int (i.fmod j))) := by simp [modE, intE, h]
theorem pow_ok {i j : Int} (h : CPow i j) : powE (.p (.int i)) (.p (.int j)) = .ok (.p (.int (i ^ j.toNat))) := by simp [powE, intE, h]
def eII (a : Int × Int) : List L := [.p (.int a.1), .p (.int a.2)]
theorem eII_inj (a b : Int × Int) (h : eII a = eII b) : a = b := by
 unfold eII at h
 injection h with h1 h2
 injection h2 with h2 _
 injection h1 with h1
 injection h2 with h2
 injection h1 with h1
 injection h2 with h2
 exact Prod.ext h1 h2
theorem frsI {a b : List (Int × Int)} (h : a.map frD = b.map frD) : a = b := by
 have e := congrArg (decL frOf) h
 rw [decL_map frOf_frD, decL_map frOf_frD] at e
 exact Option.some.inj e
def eFs (hs : List (Int × Int)) : List L := [.p (.list (hs.map frD))]
theorem eFs_inj (a b : List (Int × Int)) (h : eFs a = eFs b) : a = b := by
 unfold eFs at h
 injection h with h _
 injection h with h
 injection h with h
 exact frsI h
def eFF (a : (Int × Int) × (Int × Int)) : List L := [.p (frD a.1), .p (frD a.2)]
theorem eFF_inj (a b : (Int × Int) × (Int × Int)) (h : eFF a = eFF b) : a = b := by
 unfold eFF at h
 injection h with h1 h2
 injection h2 with h2 _
 injection h1 with h1
 injection h2 with h2
 exact Prod.ext (frI h1) (frI h2)
theorem bind_ok {α β : Type} (a : α) (f : α → Res β) : (Res.ok a).bind f = f a := rfl
theorem ret_f {fe : En → Res Ev} {en : En} {d : D} (h : fe en = .ok (.f d)) : mRet fe en = some (.rt (.o d)) := by unfold mRet; rw [h]; rfl
theorem ret_p {fe : En → Res Ev} {en : En} {d : D} (h : fe en = .ok (.p d)) : mRet fe en = some (.rt (.p d)) := by unfold mRet; rw [h]; rfl
theorem comp_l {n : Nat} {js : List Nat} {fi : En → Res (List D)} {tg : D → En → Option En} {ft : En → Res Bool} {fe : En → Res Ev} {en : En} {ds es : List D} (h1 : fi en = .ok ds) (h2 : ds.length ≤ 100000) (h3 : mapO (compItem n js tg ft fe en) ds = some es) : mComp n js fi tg ft fe en = .ok (.f (.list es)) := by
 unfold mComp
 rw [h1, bind_ok]
 unfold compR
 rw [if_pos h2, h3]
def leF (x y : Int × Int) : Prop := x.1 * y.2 ≤ y.1 * x.2
theorem leF_refl (x : Int × Int) : leF x x := Int.le_refl _
theorem leF_of {x y : Int × Int} (h : ltF y x = false) : leF x y := by
 unfold ltF at h
 have := of_decide_eq_false h
 unfold leF
 omega
theorem leF_lt {x y : Int × Int} (h : ltF x y = true) : leF x y := by
 unfold ltF at h
 have := of_decide_eq_true h
 unfold leF
 omega
theorem leF_trans {x y z : Int × Int} (hx : 1 ≤ x.2) (hy : 1 ≤ y.2) (hz : 1 ≤ z.2) (h1 : leF x y) (h2 : leF y z) : leF x z := by
 unfold leF at *
 have a := Int.mul_le_mul_of_nonneg_right h1 (show 0 ≤ z.2 by omega)
 have b := Int.mul_le_mul_of_nonneg_right h2 (show 0 ≤ x.2 by omega)
 refine Int.le_of_mul_le_mul_right (a := y.2) ?_ (by omega)
 have e1 : x.1 * z.2 * y.2 = x.1 * y.2 * z.2 := by ac_rfl
 have e2 : z.1 * x.2 * y.2 = z.1 * y.2 * x.2 := by ac_rfl
 have e3 : y.1 * x.2 * z.2 = y.1 * z.2 * x.2 := by ac_rfl
 omega
theorem dvd_low {a b d : Int} (h : d ∣ a * b) (g : Int.gcd a d = 1) : d ∣ b := by
 have h1 : d.natAbs ∣ a.natAbs * b.natAbs := by
  rw [← Int.natAbs_mul]
  exact Int.natAbs_dvd_natAbs.mpr h
 have c : Nat.Coprime d.natAbs a.natAbs := by
  show Nat.gcd d.natAbs a.natAbs = 1
  rw [Nat.gcd_comm]
  exact g
 exact Int.natAbs_dvd_natAbs.mp (Nat.Coprime.dvd_of_dvd_mul_left c h1)
theorem leF_eq {x y : Int × Int} (hx : FR.Fr x) (hy : FR.Fr y) (h1 : leF x y) (h2 : leF y x) : x = y := by
 have e : x.1 * y.2 = y.1 * x.2 := Int.le_antisymm h1 h2
 have p1 := hx.pos
 have p2 := hy.pos
 have d1 : x.2 ∣ y.2 := by
  have : x.2 ∣ x.1 * y.2 := ⟨y.1, by rw [e]; ac_rfl⟩
  exact dvd_low this hx.low
 have d2 : y.2 ∣ x.2 := by
  have : y.2 ∣ y.1 * x.2 := ⟨x.1, by rw [← e]; ac_rfl⟩
  exact dvd_low this hy.low
 have eb : x.2 = y.2 := Int.dvd_antisymm (by omega) (by omega) d1 d2
 have et : x.1 = y.1 := by
  rw [eb] at e
  exact Int.eq_of_mul_eq_mul_right (by omega) e
 exact Prod.ext et eb
theorem best_mem : ∀ (xs : List (Int × Int)) (b : Int × Int), best b xs = b ∨ best b xs ∈ xs
 | [], b => .inl rfl
 | x :: xs, b => by
  show best (if ltF b x = true then x else b) xs = b ∨ best (if ltF b x = true then x else b) xs ∈ x :: xs
  rcases best_mem xs (if ltF b x = true then x else b) with h | h
  ·rw [h]
   split
   ·exact .inr (.head _)
   ·exact .inl rfl
  ·exact .inr (.tail _ h)
theorem best_ge : ∀ (xs : List (Int × Int)) (b : Int × Int), 1 ≤ b.2 → (∀ x ∈ xs, 1 ≤ x.2) → leF b (best b xs) ∧ (∀ x ∈ xs, leF x (best b xs)) ∧ 1 ≤ (best b xs).2
 | [], b, h, _ => ⟨leF_refl b, (fun _ z => nomatch z), h⟩
 | x :: xs, b, h, hx => by
  have hx0 := hx x (.head _)
  have hb2 : 1 ≤ (if ltF b x = true then x else b).2 := by split <;> assumption
  have g : best b (x :: xs) = best (if ltF b x = true then x else b) xs := rfl
  obtain ⟨i1, i2, i3⟩ := best_ge xs (if ltF b x = true then x else b) hb2 fun y hy => hx y (.tail _ hy)
  rw [g]
  have l1 : leF b (if ltF b x = true then x else b) := by
   split
   ·rename_i z; exact leF_lt z
   ·exact leF_refl b
  have l2 : leF x (if ltF b x = true then x else b) := by
   split
   ·exact leF_refl x
   ·rename_i z; exact leF_of (by simpa using z)
  refine ⟨leF_trans h hb2 i3 l1 i1, fun y hy => ?_, i3⟩
  rcases List.mem_cons.mp hy with z | z
  ·rw [z]; exact leF_trans hx0 hb2 i3 l2 i1
  ·exact i2 y z
structure AF (x y : Int × Int) : Prop where
 a : 1 ≤ x.2
 b : 1 ≤ y.2
 e : x.1 * y.2 = y.1 * x.2
theorem AF.refl {x : Int × Int} (h : 1 ≤ x.2) : AF x x := ⟨h, h, rfl⟩
theorem pos_mul {x y : Int} (hx : 1 ≤ x) (hy : 1 ≤ y) : 1 ≤ x * y := by
 have := Int.mul_pos (show 0 < x by omega) (show 0 < y by omega)
 omega
theorem af_mk {t b : Int} {y : Int × Int} (hb : 1 ≤ b) (hy : 1 ≤ y.2) (h : t * y.2 = y.1 * b) : AF (FR.mk t b) y := by
 obtain ⟨f1, e1⟩ := FR.mk_fr (t := t) (b := b) (by omega)
 refine ⟨f1.pos, hy, ?_⟩
 have h2 : (FR.mk t b).1 * y.2 * b = y.1 * (FR.mk t b).2 * b := by
  have e3 : (FR.mk t b).1 * y.2 * b = (FR.mk t b).1 * b * y.2 := by ac_rfl
  rw [e3, e1]
  have e4 : t * (FR.mk t b).2 * y.2 = t * y.2 * (FR.mk t b).2 := by ac_rfl
  rw [e4, h]
  ac_rfl
 exact Int.eq_of_mul_eq_mul_right (by omega) h2
theorem af_T {i : Int} {x x' : Int × Int} (h : AF x x') : AF (hT i x) (i * x'.1, x'.2) := by
 obtain ⟨a, b, e⟩ := h
 refine af_mk (by omega) b ?_
 show i * x.1 * x'.2 = i * x'.1 * (1 * x.2)
 rw [Int.mul_assoc, e, Int.one_mul, Int.mul_assoc]
abbrev R2 := Int × Int
abbrev R3 := Int × Int × Int
def hM (x y : Int × Int) : Int × Int := FR.mk (x.1 * y.2 - y.1 * x.2) (x.2 * y.2)
def hO (x y : Int × Int) : Int × Int := FR.mk (x.1 * y.2) (x.2 * y.1)
theorem head_mem {α : Type} {xs : List α} (d : α) (h : xs ≠ []) : xs.headD d ∈ xs := by
 cases xs with
 | nil => exact absurd rfl h
 | cons p r => exact .head _
def lowHigh (l h : R3) : R2 := (l.2.1 * h.1 - h.2.1 * l.1, l.2.1 * h.2.2 - h.2.1 * l.2.2)
def elimK (rows : List R3) : List R2 := (rows.filter fun r => decide (r.2.1 = 0)).map fun r => (r.1, r.2.2)
def elimH (rows : List R3) : List R3 := rows.filter fun r => decide (r.2.1 < 0)
def elimS (highs : List R3) (k : List R2) (l : R3) : List R2 := if 0 < l.2.1 then k ++ highs.map (lowHigh l) else k
def elim (rows : List R3) : List R2 := rows.foldl (elimS (elimH rows)) (elimK rows)
end N

namespace N
theorem mk_fr1 {t b : Int} (h : 1 ≤ b) : FR.Fr (FR.mk t b) := (FR.mk_fr (by omega)).1
theorem hP_fr {x y : Int × Int} (hx : 1 ≤ x.2) (hy : 1 ≤ y.2) : FR.Fr (hP x y) := mk_fr1 (pos_mul hx hy)
def ng (x : Int × Int) : Int × Int := hM (0, 1) x
def Pos (ps : List Pl) : Prop := ∀ p ∈ ps, 1 ≤ p.2.2.2
end N

namespace My
open PySem PySem.Spec PyProof.Rows L2 M N
def top (i : Nat) : Stmt := PySem.Challenge.pw_creasecurve_k13_line_roofs_made.main.body.getD i (.Pass ⟨0, 0, 0, 0⟩)
abbrev s_greatest_divisor : Stmt := top 13
abbrev s_fraction : Stmt := top 14
abbrev s_plus : Stmt := top 15
abbrev s_times : Stmt := top 16
abbrev s_less : Stmt := top 17
abbrev s_greatest : Stmt := top 18
abbrev s_highest_by_slope : Stmt := top 20
abbrev s_line_of : Stmt := top 22
abbrev s_line_height : Stmt := top 23
abbrev s__law_whole : Stmt := top 25
abbrev s__law_cell_at : Stmt := top 26
abbrev s__law_mix : Stmt := top 27
abbrev s__law_lowest : Stmt := top 28
abbrev s__law_sum : Stmt := top 29
abbrev s__law_product : Stmt := top 30
abbrev s__law_before : Stmt := top 31
abbrev s__law_is_fraction : Stmt := top 32
abbrev s__law_number : Stmt := top 33
abbrev s__law_rows : Stmt := top 34
abbrev s__law_line : Stmt := top 35
abbrev s__law_value : Stmt := top 36
abbrev s__law_highest : Stmt := top 37
abbrev s__law_is_line : Stmt := top 38
abbrev s__law_marks : Stmt := top 39
abbrev s__law_only : Stmt := top 40
abbrev s__law_refused : Stmt := top 41
abbrev s_law : Stmt := top 42
theorem bT_ValueError : bootBuiltins "ValueError" = some (.type "ValueError") := by decide +kernel
theorem bB_abs : bootBuiltins "abs" = some (.builtin "abs") := by decide +kernel
theorem bT_bool : bootBuiltins "bool" = some (.type "bool") := by decide +kernel
theorem bT_int : bootBuiltins "int" = some (.type "int") := by decide +kernel
theorem bT_list : bootBuiltins "list" = some (.type "list") := by decide +kernel
theorem bB_sorted : bootBuiltins "sorted" = some (.builtin "sorted") := by decide +kernel
theorem bT_tuple : bootBuiltins "tuple" = some (.type "tuple") := by decide +kernel
structure Blt (mg : Str → Option Value) : Prop where
 ValueError_ : mg "ValueError" = none
 abs_ : mg "abs" = none
 bool_ : mg "bool" = none
 enumerate_ : mg "enumerate" = none
 int_ : mg "int" = none
 isinstance_ : mg "isinstance" = none
 len_ : mg "len" = none
 list_ : mg "list" = none
 range_ : mg "range" = none
 sorted_ : mg "sorted" = none
 tuple_ : mg "tuple" = none
structure Cls where
 RoofError : Addr
 NoFraction : Addr
 NoRoof : Addr
 TooSteep : Addr
 TooMany : Addr
 NoNumber : Addr
 NoCorner : Addr
 NoDealing : Addr
 NoRow : Addr
 NoText : Addr
 NoName : Addr
structure ClsM (mg : Str → Option Value) (c : Cls) : Prop where
 mRoofError : mg "RoofError" = some (.ref c.RoofError)
 mNoFraction : mg "NoFraction" = some (.ref c.NoFraction)
 mNoRoof : mg "NoRoof" = some (.ref c.NoRoof)
 mTooSteep : mg "TooSteep" = some (.ref c.TooSteep)
 mTooMany : mg "TooMany" = some (.ref c.TooMany)
 mNoNumber : mg "NoNumber" = some (.ref c.NoNumber)
 mNoCorner : mg "NoCorner" = some (.ref c.NoCorner)
 mNoDealing : mg "NoDealing" = some (.ref c.NoDealing)
 mNoRow : mg "NoRow" = some (.ref c.NoRow)
 mNoText : mg "NoText" = some (.ref c.NoText)
 mNoName : mg "NoName" = some (.ref c.NoName)
structure ClsO (mg : Str → Option Value) (base : Heap) (c : Cls) : Prop where
 NoFraction : PyProof.Rows.OwnCls "NoFraction" c.NoFraction [.type "ValueError", .type "Exception", .type "BaseException", .type "object"] "ValueError.__new__" mg base
 NoRoof : PyProof.Rows.OwnCls "NoRoof" c.NoRoof [.type "ValueError", .type "Exception", .type "BaseException", .type "object"] "ValueError.__new__" mg base
noncomputable def m_greatest_divisor (K : PySem.W.Frag) (c : Cls) : List L → Res L := mOf eII (fun _ => True) fun a => .ok (.p (.int (Int.gcd a.1 a.2 : Nat)))
noncomputable def f_greatest_divisor_c1 (K : PySem.W.Frag) (c : Cls) : En → Res Bool := (mTru (mBin (eqE true) (mVar 3) (mC (.int 0))))
noncomputable def f_greatest_divisor_b2 (K : PySem.W.Frag) (c : Cls) : MS := (mSeq (mSet 4 (mBin modE (mVar 2) (mVar 3))) (mSeq (mSet 2 (mVar 3)) (mSet 3 (mVar 4))))
noncomputable def f_greatest_divisor (K : PySem.W.Frag) (c : Cls) : MS := (mSeq (mSet 2 (mCallB absE (mCons (mVar 0) mNil))) (mSeq (mSet 3 (mCallB absE (mCons (mVar 1) mNil))) (mSeq (mWhile (f_greatest_divisor_c1 K c) (f_greatest_divisor_b2 K c)) (mRet (mVar 2)))))
theorem wh_gd (K : PySem.W.Frag) (c : Cls) (A B : Option L) : ∀ (n : Nat) (l s : Int) (r : Option L), 0 ≤ l → 0 ≤ s → s.toNat ≤ n → ∃ r', mWh (f_greatest_divisor_c1 K c) (f_greatest_divisor_b2 K c) (n + 1) [A, B, some (.p (.int l)), some (.p (.int s)), r] = some (.nx [A, B, some (.p (.int (Int.gcd l s : Nat))), some (.p (.int 0)), r']) := by
 intro n
 have hc : ∀ (l s : Int) (r : Option L), f_greatest_divisor_c1 K c [A, B, some (.p (.int l)), some (.p (.int s)), r] = .ok (!(s == 0)) := fun l s r => by
  simp only [f_greatest_divisor_c1, mTru, mBin, mVar, mC, List.getElem?_cons_zero, List.getElem?_cons_succ, List.set_cons_zero, List.set_cons_succ, List.length_cons, List.length_nil, List.length_map, List.length_append, if_true, if_false, ite_true, ite_false, decide_true, decide_false, Bool.false_eq_true, Nat.zero_add, Nat.reduceAdd, Nat.reduceEqDiff, Nat.reduceLeDiff, reduceIte, List.map_append, List.map_cons, List.map_nil, Res.bind, Ev.c, eqE, dat, sh_int, eqv_ii, truthR]
  rfl
 have done : ∀ (n : Nat) (l : Int) (r : Option L), 0 ≤ l → mWh (f_greatest_divisor_c1 K c) (f_greatest_divisor_b2 K c) (n + 1) [A, B, some (.p (.int l)), some (.p (.int 0)), r] = some (.nx [A, B, some (.p (.int (Int.gcd l 0 : Nat))), some (.p (.int 0)), r]) := fun n l r hl => by
  unfold mWh
  rw [hc, FR.gcd_end hl]
  rfl
 induction n with
 | zero =>
  intro l s r hl hs hn
  have : s = 0 := by omega
  subst this
  exact ⟨r, done 0 l r hl⟩
 | succ n ih =>
  intro l s r hl hs hn
  by_cases h0 : s = 0
  ·subst h0
   exact ⟨r, done _ l r hl⟩
  ·have em : l.fmod s = l % s := Int.fmod_eq_emod_of_nonneg l hs
   have m0 := Int.emod_nonneg l h0
   have m1 := Int.emod_lt_of_pos l (show 0 < s by omega)
   obtain ⟨r', ih⟩ := ih s (l.fmod s) (some (.p (.int (l.fmod s)))) hs (by omega) (by omega)
   refine ⟨r', ?_⟩
   rw [em, FR.gcd_turn hl hs] at ih
   have hb : f_greatest_divisor_b2 K c [A, B, some (.p (.int l)), some (.p (.int s)), r] = some (.nx [A, B, some (.p (.int s)), some (.p (.int (l % s))), some (.p (.int (l % s)))]) := by
    simp (disch := assumption) only [f_greatest_divisor_b2, mBin, mVar, mC, mSeq, mSet, List.getElem?_cons_zero, List.getElem?_cons_succ, List.set_cons_zero, List.set_cons_succ, List.length_cons, List.length_nil, List.length_map, List.length_append, if_true, if_false, ite_true, ite_false, decide_true, decide_false, Bool.false_eq_true, Nat.zero_add, Nat.reduceAdd, Nat.reduceEqDiff, Nat.reduceLeDiff, reduceIte, List.map_append, List.map_cons, List.map_nil, Res.bind, Ev.c, mod_ok, em]
   have ht : f_greatest_divisor_c1 K c [A, B, some (.p (.int l)), some (.p (.int s)), r] = .ok true := by rw [hc, beq_false_of_ne h0]; rfl
   unfold mWh
   rw [ht]
   dsimp only
   rw [hb]
   exact ih
theorem eq_greatest_divisor (K : PySem.W.Frag) (c : Cls) : ∀ ls, m_greatest_divisor K c ls = .bad ∨ runF 5 (f_greatest_divisor K c) ls = m_greatest_divisor K c ls := mOf_eq fun x _ => by
 obtain ⟨a, b⟩ := x
 obtain ⟨r', h⟩ := wh_gd K c (some (.p (.int a))) (some (.p (.int b))) _ (if a < 0 then -a else a) (if b < 0 then -b else b) none (by split <;> omega) (by split <;> omega) (Nat.le_refl _)
 have h := mWhile_of h
 rw [FR.gcd_abs] at h
 refine run_rt ?_
 rw [show startE 5 (eII (a, b)) = [some (.p (.int a)), some (.p (.int b)), none, none, none] from rfl]
 refine (seq_nx (set_p (d := .int (if a < 0 then -a else a)) rfl)).trans ((seq_nx (set_p (d := .int (if b < 0 then -b else b)) rfl)).trans ((seq_nx h).trans ?_))
 rfl
theorem gcd_good (K : PySem.W.Frag) (c : Cls) (a b : Int) : m_greatest_divisor K c [.p (.int a), .p (.int b)] = .ok (.p (.int (Int.gcd a b : Nat))) := mOf_at (a := (a, b)) eII_inj trivial
theorem cdivW {b : Int} (t : Int) (hb : b ≠ 0) (hz : Sz 8000 b) : CDivW t ((Int.gcd t b : Nat) : Int) ∧ CDivW t (-((Int.gcd t b : Nat) : Int)) := by
 have g0 := FR.gcd_pos (t := t) hb
 have gle : Int.gcd t b ≤ b.natAbs := Nat.le_of_dvd (by omega) (Int.gcd_dvd_natAbs_right t b)
 refine ⟨⟨by omega, Sz.le hz (by rw [Int.natAbs_natCast]; exact gle)⟩, by omega, Sz.le hz (by rw [Int.natAbs_neg, Int.natAbs_natCast]; exact gle)⟩
open Classical in
noncomputable def m_fraction (K : PySem.W.Frag) (c : Cls) : List L → Res L := mOf eII (fun a => Sz 8000 a.2) fun a => if a.2 = 0 then .exc c.NoFraction else .ok (.p (frD (FR.mk a.1 a.2)))
noncomputable def f_fraction (K : PySem.W.Frag) (c : Cls) : MS := (mSeq (mIfS (mTru (mBin (eqE false) (mVar 1) (mC (.int 0)))) (mRaise c.NoFraction (mCons (mC (.str "nothing is divided by 0")) mNil)) mNext) (mSeq (mSet 2 (mCall 2 (m_greatest_divisor K c) (mCons (mVar 0) (mCons (mVar 1) mNil)))) (mSeq (mIfS (mTru (mBin ltE (mVar 1) (mC (.int 0)))) (mSet 2 (mUn negE (mVar 2))) mNext) (mRet (mCallB tupR' (mCons (mBin fdivE (mVar 0) (mVar 2)) (mCons (mBin fdivE (mVar 1) (mVar 2)) mNil)))))))
theorem eq_fraction (K : PySem.W.Frag) (c : Cls) : ∀ ls, m_fraction K c ls = .bad ∨ runF 3 (f_fraction K c) ls = m_fraction K c ls := mOf_eq fun x hz => by
 obtain ⟨t, b⟩ := x
 have hz : Sz 8000 b := hz
 show runF 3 (f_fraction K c) (eII (t, b)) = if b = 0 then .exc c.NoFraction else .ok (.p (frD (FR.mk t b)))
 have t0 : mTru (mBin (eqE false) (mVar 1) (mC (.int 0))) [some (.p (.int t)), some (.p (.int b)), none] = .ok (b == 0) := by
  simp only [mTru, mBin, mVar, mC, List.getElem?_cons_zero, List.getElem?_cons_succ, List.set_cons_zero, List.set_cons_succ, List.length_cons, List.length_nil, List.length_map, List.length_append, if_true, if_false, ite_true, ite_false, decide_true, decide_false, Bool.false_eq_true, Nat.zero_add, Nat.reduceAdd, Nat.reduceEqDiff, Nat.reduceLeDiff, reduceIte, List.map_append, List.map_cons, List.map_nil, Res.bind, Ev.c, eqE, dat, sh_int, eqv_ii, truthR]
  rfl
 by_cases hb : b = 0
 ·rw [if_pos hb]
  have t0 : mTru (mBin (eqE false) (mVar 1) (mC (.int 0))) [some (.p (.int t)), some (.p (.int b)), none] = .ok true := by rw [t0, hb]; rfl
  have e : f_fraction K c (startE 3 (eII (t, b))) = some (.ex c.NoFraction [some (.p (.int t)), some (.p (.int b)), none]) := by
   unfold f_fraction mSeq
   rw [show startE 3 (eII (t, b)) = [some (.p (.int t)), some (.p (.int b)), none] from rfl, if_t t0]
   rfl
  unfold runF
  rw [e]
 ·rw [if_neg hb]
  rw [beq_false_of_ne hb] at t0
  obtain ⟨q1, q2⟩ := cdivW t hb hz
  have q1' : CDivW b ((Int.gcd t b : Nat) : Int) := q1
  have q2' : CDivW b (-((Int.gcd t b : Nat) : Int)) := q2
  have g := gcd_good K c t b
  have e1 : (mCall 2 (m_greatest_divisor K c) (mCons (mVar 0) (mCons (mVar 1) mNil))) [some (.p (.int t)), some (.p (.int b)), none] = .ok (.p (.int (Int.gcd t b : Nat))) := by
   simp only [mCall, mCons, mNil, mVar, List.getElem?_cons_zero, List.getElem?_cons_succ, List.set_cons_zero, List.set_cons_succ, List.length_cons, List.length_nil, List.length_map, List.length_append, if_true, if_false, ite_true, ite_false, decide_true, decide_false, Bool.false_eq_true, Nat.zero_add, Nat.reduceAdd, Nat.reduceEqDiff, Nat.reduceLeDiff, reduceIte, List.map_append, List.map_cons, List.map_nil, Res.bind, Ev.c, callR, argsL, argL, g, retE]
  refine run_rt ?_
  rw [show startE 3 (eII (t, b)) = [some (.p (.int t)), some (.p (.int b)), none] from rfl]
  unfold f_fraction
  refine (seq_nx (if_f t0)).trans ((seq_nx (set_p e1)).trans ?_)
  have t1 : mTru (mBin ltE (mVar 1) (mC (.int 0))) [some (.p (.int t)), some (.p (.int b)), some (.p (.int (Int.gcd t b : Nat)))] = .ok (decide (b < 0)) := by
   simp only [mTru, mBin, mVar, mC, List.getElem?_cons_zero, List.getElem?_cons_succ, List.set_cons_zero, List.set_cons_succ, List.length_cons, List.length_nil, List.length_map, List.length_append, if_true, if_false, ite_true, ite_false, decide_true, decide_false, Bool.false_eq_true, Nat.zero_add, Nat.reduceAdd, Nat.reduceEqDiff, Nat.reduceLeDiff, reduceIte, List.map_append, List.map_cons, List.map_nil, Res.bind, Ev.c, intE0, truthR]
  by_cases hn : b < 0
  ·rw [decide_eq_true hn] at t1
   have es : FR.mk t b = (t.fdiv (-((Int.gcd t b : Nat) : Int)), b.fdiv (-((Int.gcd t b : Nat) : Int))) := by unfold FR.mk FR.sgn; rw [if_pos hn]
   refine (seq_nx ((if_t t1).trans (set_p (d := .int (-((Int.gcd t b : Nat) : Int))) rfl))).trans (ret_p ?_)
   rw [es]
   simp (disch := assumption) only [mSeq, mSet, mRet, mIfS, mVar, mC, mBin, mUn, mCons, mNil, mCall, callR, argsL, argL, argB, Res.bind, Ev.c, retL, retE, mCallB, tupR', lstR', pureL, mTru, truthR, mAnd, mOr, mNot, mAndV, mOrV, mNotV, mRaise, mNext, addE, intE0, negE, lstOf, dat, lenE, eqE, sh_int, eqv_ii, ix_pl2, ix_pl0, ix_pl1, ix_fr0, ix_fr1, ix_t0, ix_t1, ix_t2, mul_ok, fdiv_ok, mod_ok, pow_ok, List.getElem?_cons_zero, List.getElem?_cons_succ, List.set_cons_zero, List.set_cons_succ, List.length_cons, List.length_nil, List.length_map, List.length_append, if_true, if_false, ite_true, ite_false, decide_true, decide_false, Bool.false_eq_true, Nat.zero_add, Nat.reduceAdd, Nat.reduceEqDiff, Nat.reduceLeDiff, reduceIte, List.map_append, List.map_cons, List.map_nil, frD]
  ·rw [decide_eq_false hn] at t1
   have es : FR.mk t b = (t.fdiv ((Int.gcd t b : Nat) : Int), b.fdiv ((Int.gcd t b : Nat) : Int)) := by unfold FR.mk FR.sgn; rw [if_neg hn]
   refine (seq_nx (if_f t1)).trans (ret_p ?_)
   rw [es]
   simp (disch := assumption) only [mSeq, mSet, mRet, mIfS, mVar, mC, mBin, mUn, mCons, mNil, mCall, callR, argsL, argL, argB, Res.bind, Ev.c, retL, retE, mCallB, tupR', lstR', pureL, mTru, truthR, mAnd, mOr, mNot, mAndV, mOrV, mNotV, mRaise, mNext, addE, intE0, negE, lstOf, dat, lenE, eqE, sh_int, eqv_ii, ix_pl2, ix_pl0, ix_pl1, ix_fr0, ix_fr1, ix_t0, ix_t1, ix_t2, mul_ok, fdiv_ok, mod_ok, pow_ok, List.getElem?_cons_zero, List.getElem?_cons_succ, List.set_cons_zero, List.set_cons_succ, List.length_cons, List.length_nil, List.length_map, List.length_append, if_true, if_false, ite_true, ite_false, decide_true, decide_false, Bool.false_eq_true, Nat.zero_add, Nat.reduceAdd, Nat.reduceEqDiff, Nat.reduceLeDiff, reduceIte, List.map_append, List.map_cons, List.map_nil, frD]
theorem frac_ok (K : PySem.W.Frag) (c : Cls) {t b : Int} (h0 : b ≠ 0) (h1 : Sz 8000 b) : m_fraction K c [.p (.int t), .p (.int b)] = .ok (.p (frD (FR.mk t b))) := (mOf_at (a := (t, b)) eII_inj h1).trans (if_neg h0)
noncomputable def m_plus (K : PySem.W.Frag) (c : Cls) : List L → Res L := mOf eFF (fun a => FSz 2000 a.1 ∧ FSz 2000 a.2 ∧ a.1.2 * a.2.2 ≠ 0) fun a => .ok (.p (frD (FR.mk (a.1.1 * a.2.2 + a.2.1 * a.1.2) (a.1.2 * a.2.2))))
noncomputable def f_plus (K : PySem.W.Frag) (c : Cls) : MS := (mRet (mCall 2 (m_fraction K c) (mCons (mBin addE (mBin mulE (mBin ixE (mVar 0) (mC (.int 0))) (mBin ixE (mVar 1) (mC (.int 1)))) (mBin mulE (mBin ixE (mVar 1) (mC (.int 0))) (mBin ixE (mVar 0) (mC (.int 1))))) (mCons (mBin mulE (mBin ixE (mVar 0) (mC (.int 1))) (mBin ixE (mVar 1) (mC (.int 1)))) mNil))))
theorem eq_plus (K : PySem.W.Frag) (c : Cls) : ∀ ls, m_plus K c ls = .bad ∨ runF 2 (f_plus K c) ls = m_plus K c ls := mOf_eq fun a h => by
 obtain ⟨x, y⟩ := a
 obtain ⟨⟨x1, x2⟩, ⟨y1, y2⟩, hb⟩ := h
 dsimp only at x1 x2 y1 y2 hb ⊢
 have f := frac_ok K c (t := x.1 * y.2 + y.1 * x.2) hb ((Sz.mul x2 y2).mono (by decide))
 refine run_rt ?_
 rw [show startE 2 (eFF (x, y)) = [some (.p (frD x)), some (.p (frD y))] from rfl]
 unfold f_plus
 refine ret_p ?_
 simp (disch := (first | assumption | (first | apply N.cm2 | apply N.cd2) <;> (first | decide | omega | (repeat (first | assumption | apply L2.Sz.mul | apply N.Sz.addM | apply N.Sz.subM | apply L2.Sz.neg | apply N.sz_fdiv | (apply N.sz_fmod; (first | decide | omega)) | exact N.sz_lit4 (by decide) | exact N.sz_lit (by decide) | exact N.sz_lit70 (by decide) | exact N.sz_big (by decide)))) | decide | omega)) only [mSeq, mSet, mRet, mIfS, mVar, mC, mBin, mUn, mCons, mNil, mCall, callR, argsL, argL, argB, Res.bind, Ev.c, retL, retE, mCallB, tupR', lstR', pureL, mTru, truthR, mAnd, mOr, mNot, mAndV, mOrV, mNotV, mRaise, mNext, addE, intE0, negE, lstOf, dat, lenE, eqE, sh_int, eqv_ii, ix_pl2, ix_pl0, ix_pl1, ix_fr0, ix_fr1, ix_t0, ix_t1, ix_t2, mul_ok, fdiv_ok, mod_ok, pow_ok, List.getElem?_cons_zero, List.getElem?_cons_succ, List.set_cons_zero, List.set_cons_succ, List.length_cons, List.length_nil, List.length_map, List.length_append, if_true, if_false, ite_true, ite_false, decide_true, decide_false, Bool.false_eq_true, Nat.zero_add, Nat.reduceAdd, Nat.reduceEqDiff, Nat.reduceLeDiff, reduceIte, List.map_append, List.map_cons, List.map_nil, f]
theorem ok2_plus (K : PySem.W.Frag) (c : Cls) {x y : Int × Int} (h1 : FSz 2000 x) (h2 : FSz 2000 y) (h3 : x.2 * y.2 ≠ 0) : m_plus K c [.p (frD x), .p (frD y)] = .ok (.p (frD (FR.mk (x.1 * y.2 + y.1 * x.2) (x.2 * y.2)))) := mOf_at (a := (x, y)) eFF_inj ⟨h1, h2, h3⟩
theorem plus_good (K : PySem.W.Frag) (c : Cls) {m n : Nat} {x y : Int × Int} (hx : Good m x) (hy : Good n y) (hm : m ≤ 2000) (hn : n ≤ 2000) : m_plus K c [.p (frD x), .p (frD y)] = .ok (.p (frD (hP x y))) := ok2_plus K c (hx.mono hm).fsz (hy.mono hn).fsz (hx.ne hy)
noncomputable def m_times (K : PySem.W.Frag) (c : Cls) : List L → Res L := mOf eFF (fun a => FSz 2000 a.1 ∧ FSz 2000 a.2 ∧ a.1.2 * a.2.2 ≠ 0) fun a => .ok (.p (frD (FR.mk (a.1.1 * a.2.1) (a.1.2 * a.2.2))))
noncomputable def f_times (K : PySem.W.Frag) (c : Cls) : MS := (mRet (mCall 2 (m_fraction K c) (mCons (mBin mulE (mBin ixE (mVar 0) (mC (.int 0))) (mBin ixE (mVar 1) (mC (.int 0)))) (mCons (mBin mulE (mBin ixE (mVar 0) (mC (.int 1))) (mBin ixE (mVar 1) (mC (.int 1)))) mNil))))
theorem eq_times (K : PySem.W.Frag) (c : Cls) : ∀ ls, m_times K c ls = .bad ∨ runF 2 (f_times K c) ls = m_times K c ls := mOf_eq fun a h => by
 obtain ⟨x, y⟩ := a
 obtain ⟨⟨x1, x2⟩, ⟨y1, y2⟩, hb⟩ := h
 dsimp only at x1 x2 y1 y2 hb ⊢
 have f := frac_ok K c (t := x.1 * y.1) hb ((Sz.mul x2 y2).mono (by decide))
 refine run_rt ?_
 rw [show startE 2 (eFF (x, y)) = [some (.p (frD x)), some (.p (frD y))] from rfl]
 unfold f_times
 refine ret_p ?_
 simp (disch := (first | assumption | (first | apply N.cm2 | apply N.cd2) <;> (first | decide | omega | (repeat (first | assumption | apply L2.Sz.mul | apply N.Sz.addM | apply N.Sz.subM | apply L2.Sz.neg | apply N.sz_fdiv | (apply N.sz_fmod; (first | decide | omega)) | exact N.sz_lit4 (by decide) | exact N.sz_lit (by decide) | exact N.sz_lit70 (by decide) | exact N.sz_big (by decide)))) | decide | omega)) only [mSeq, mSet, mRet, mIfS, mVar, mC, mBin, mUn, mCons, mNil, mCall, callR, argsL, argL, argB, Res.bind, Ev.c, retL, retE, mCallB, tupR', lstR', pureL, mTru, truthR, mAnd, mOr, mNot, mAndV, mOrV, mNotV, mRaise, mNext, addE, intE0, negE, lstOf, dat, lenE, eqE, sh_int, eqv_ii, ix_pl2, ix_pl0, ix_pl1, ix_fr0, ix_fr1, ix_t0, ix_t1, ix_t2, mul_ok, fdiv_ok, mod_ok, pow_ok, List.getElem?_cons_zero, List.getElem?_cons_succ, List.set_cons_zero, List.set_cons_succ, List.length_cons, List.length_nil, List.length_map, List.length_append, if_true, if_false, ite_true, ite_false, decide_true, decide_false, Bool.false_eq_true, Nat.zero_add, Nat.reduceAdd, Nat.reduceEqDiff, Nat.reduceLeDiff, reduceIte, List.map_append, List.map_cons, List.map_nil, f]
theorem ok2_times (K : PySem.W.Frag) (c : Cls) {x y : Int × Int} (h1 : FSz 2000 x) (h2 : FSz 2000 y) (h3 : x.2 * y.2 ≠ 0) : m_times K c [.p (frD x), .p (frD y)] = .ok (.p (frD (FR.mk (x.1 * y.1) (x.2 * y.2)))) := mOf_at (a := (x, y)) eFF_inj ⟨h1, h2, h3⟩
theorem times_good (K : PySem.W.Frag) (c : Cls) {n : Nat} {i : Int} {x : Int × Int} (hi : Sz 2000 i) (hx : Good n x) (hn : n ≤ 2000) : m_times K c [.p (.tuple [.int i, .int 1]), .p (frD x)] = .ok (.p (frD (hT i x))) := ok2_times K c (x := (i, 1)) ⟨hi, sz_one⟩ (hx.mono hn).fsz (by have := hx.1; show 1 * x.2 ≠ 0; omega)
noncomputable def m_less (K : PySem.W.Frag) (c : Cls) : List L → Res L := mOf eFF (fun a => FSz 2000 a.1 ∧ FSz 2000 a.2) fun a => .ok (.p (.bool (ltF a.1 a.2)))
noncomputable def f_less (K : PySem.W.Frag) (c : Cls) : MS := (mRet (mBin ltE (mBin mulE (mBin ixE (mVar 0) (mC (.int 0))) (mBin ixE (mVar 1) (mC (.int 1)))) (mBin mulE (mBin ixE (mVar 1) (mC (.int 0))) (mBin ixE (mVar 0) (mC (.int 1))))))
theorem eq_less (K : PySem.W.Frag) (c : Cls) : ∀ ls, m_less K c ls = .bad ∨ runF 2 (f_less K c) ls = m_less K c ls := mOf_eq fun a h => by
 obtain ⟨x, y⟩ := a
 obtain ⟨⟨x1, x2⟩, ⟨y1, y2⟩⟩ := h
 dsimp only at x1 x2 y1 y2 ⊢
 refine run_rt ?_
 rw [show startE 2 (eFF (x, y)) = [some (.p (frD x)), some (.p (frD y))] from rfl]
 unfold f_less
 refine ret_p ?_
 simp (disch := (first | assumption | (first | apply N.cm2 | apply N.cd2) <;> (first | decide | omega | (repeat (first | assumption | apply L2.Sz.mul | apply N.Sz.addM | apply N.Sz.subM | apply L2.Sz.neg | apply N.sz_fdiv | (apply N.sz_fmod; (first | decide | omega)) | exact N.sz_lit4 (by decide) | exact N.sz_lit (by decide) | exact N.sz_lit70 (by decide) | exact N.sz_big (by decide)))) | decide | omega)) only [mSeq, mSet, mRet, mIfS, mVar, mC, mBin, mUn, mCons, mNil, mCall, callR, argsL, argL, argB, Res.bind, Ev.c, retL, retE, mCallB, tupR', lstR', pureL, mTru, truthR, mAnd, mOr, mNot, mAndV, mOrV, mNotV, mRaise, mNext, addE, intE0, negE, lstOf, dat, lenE, eqE, sh_int, eqv_ii, ix_pl2, ix_pl0, ix_pl1, ix_fr0, ix_fr1, ix_t0, ix_t1, ix_t2, mul_ok, fdiv_ok, mod_ok, pow_ok, List.getElem?_cons_zero, List.getElem?_cons_succ, List.set_cons_zero, List.set_cons_succ, List.length_cons, List.length_nil, List.length_map, List.length_append, if_true, if_false, ite_true, ite_false, decide_true, decide_false, Bool.false_eq_true, Nat.zero_add, Nat.reduceAdd, Nat.reduceEqDiff, Nat.reduceLeDiff, reduceIte, List.map_append, List.map_cons, List.map_nil]
 rfl
theorem less_good (K : PySem.W.Frag) (c : Cls) {x y : Int × Int} (hx : FSz 2000 x) (hy : FSz 2000 y) : m_less K c [.p (frD x), .p (frD y)] = .ok (.p (.bool (ltF x y))) := mOf_at (a := (x, y)) eFF_inj ⟨hx, hy⟩
noncomputable def m_greatest (K : PySem.W.Frag) (c : Cls) : List L → Res L := mOf eFs (fun xs => xs ≠ [] ∧ ∀ y ∈ xs, FSz 2000 y) fun xs => .ok (.p (frD (best (xs.headD (0, 1)) xs)))
noncomputable def f_greatest_b1 (K : PySem.W.Frag) (c : Cls) : MS := (mIfS (mTru (mCall 2 (m_less K c) (mCons (mVar 1) (mCons (mVar 2) mNil)))) (mSet 1 (mVar 2)) mNext)
noncomputable def f_greatest (K : PySem.W.Frag) (c : Cls) : MS := (mSeq (mSet 1 (mBin ixE (mVar 0) (mC (.int 0)))) (mSeq (mFor (mItL (mVar 0)) (mgName 2) (f_greatest_b1 K c)) (mRet (mVar 1))))
theorem loop_greatest (K : PySem.W.Frag) (c : Cls) (Z : Option L) : ∀ (xs : List (Int × Int)) (b : Int × Int) (r : Option L), FSz 2000 b → (∀ y ∈ xs, FSz 2000 y) → ∃ r', mLoop (mgName 2) (f_greatest_b1 K c) (xs.map frD) [Z, some (.p (frD b)), r] = some (.nx [Z, some (.p (frD (best b xs))), r'])
 | [], b, r, _, _ => ⟨r, rfl⟩
 | x :: xs, b, r, hb, h => by
  have hx := h x (.head _)
  have hl := less_good K c hb hx
  have hb1 : f_greatest_b1 K c [Z, some (.p (frD b)), some (.p (frD x))] = some (.nx [Z, some (.p (frD (if ltF b x = true then x else b))), some (.p (frD x))]) := by
   unfold f_greatest_b1
   cases e : ltF b x <;> rw [e] at hl <;> simp only [mSeq, mSet, mRet, mIfS, mVar, mC, mBin, mUn, mCons, mNil, mCall, callR, argsL, argL, argB, Res.bind, Ev.c, retL, retE, mCallB, tupR', lstR', pureL, mTru, truthR, mAnd, mOr, mNot, mAndV, mOrV, mNotV, mRaise, mNext, addE, intE0, negE, lstOf, dat, lenE, eqE, sh_int, eqv_ii, ix_pl2, ix_pl0, ix_pl1, ix_fr0, ix_fr1, ix_t0, ix_t1, ix_t2, List.getElem?_cons_zero, List.getElem?_cons_succ, List.set_cons_zero, List.set_cons_succ, List.length_cons, List.length_nil, List.length_map, List.length_append, if_true, if_false, ite_true, ite_false, decide_true, decide_false, Bool.false_eq_true, Nat.zero_add, Nat.reduceAdd, Nat.reduceEqDiff, Nat.reduceLeDiff, reduceIte, List.map_append, List.map_cons, List.map_nil, hl]
  obtain ⟨r', ih⟩ := loop_greatest K c Z xs (if ltF b x = true then x else b) (some (.p (frD x))) (by split; exact hx; exact hb) fun y hy => h y (.tail _ hy)
  refine ⟨r', ?_⟩
  rw [List.map_cons]
  unfold mLoop
  simp only [mgName, List.set_cons_succ, List.set_cons_zero]
  rw [hb1]
  exact ih
theorem eq_greatest (K : PySem.W.Frag) (c : Cls) : ∀ ls, m_greatest K c ls = .bad ∨ runF 3 (f_greatest K c) ls = m_greatest K c ls := mOf_eq fun xs h => by
 obtain ⟨h0, hz⟩ := h
 obtain ⟨r', h⟩ := loop_greatest K c (some (.p (.list (xs.map frD)))) xs (xs.headD (0, 1)) none (hz _ (head_mem _ h0)) hz
 have e1 : (mBin ixE (mVar 0) (mC (.int 0))) [some (.p (.list (xs.map frD))), none, none] = .ok (.p (frD (xs.headD (0, 1)))) := by
  cases xs with
  | nil => exact absurd rfl h0
  | cons x r => simp only [mBin, mVar, mC, List.getElem?_cons_zero, List.getElem?_cons_succ, List.set_cons_zero, List.set_cons_succ, List.length_cons, List.length_nil, List.length_map, List.length_append, if_true, if_false, ite_true, ite_false, decide_true, decide_false, Bool.false_eq_true, Nat.zero_add, Nat.reduceAdd, Nat.reduceEqDiff, Nat.reduceLeDiff, reduceIte, List.map_append, List.map_cons, List.map_nil, Res.bind, Ev.c, ixE, seqOf, at0, List.headD_cons]
 refine run_rt ?_
 rw [show startE 3 (eFs xs) = [some (.p (.list (xs.map frD))), none, none] from rfl]
 refine (seq_nx (set_p e1)).trans ((seq_nx ((for_l (ds := xs.map frD) rfl).trans h)).trans ?_)
 rfl
theorem greatest_good (K : PySem.W.Frag) (c : Cls) (xs : List (Int × Int)) (h0 : xs ≠ []) (h : ∀ y ∈ xs, FSz 2000 y) : m_greatest K c [.p (.list (xs.map frD))] = .ok (.p (frD (best (xs.headD (0, 1)) xs))) := mOf_at (a := xs) eFs_inj ⟨h0, h⟩
abbrev Rw := Int × (Int × Int)
def lrD (r : Rw) : D := .tuple [.int r.1, frD r.2]
theorem lrI {a b : Rw} (h : lrD a = lrD b) : a = b := by
 unfold lrD at h
 injection h with h
 injection h with h1 h2
 injection h2 with h2 _
 injection h1 with h1
 exact Prod.ext h1 (frI h2)
theorem lrsI {a b : List Rw} (h : a.map lrD = b.map lrD) : a = b := List.map_inj_right (fun _ _ e => lrI e) |>.mp h
def eLs (rs : List Rw) : List L := [.p (.list (rs.map lrD))]
theorem eLs_inj (a b : List Rw) (h : eLs a = eLs b) : a = b := by
 unfold eLs at h
 injection h with h _
 injection h with h
 injection h with h
 exact lrsI h
def eLT (a : List Rw × (Int × Int)) : List L := [.p (.list (a.1.map lrD)), .p (frD a.2)]
theorem eLT_inj (a b : List Rw × (Int × Int)) (h : eLT a = eLT b) : a = b := by
 unfold eLT at h
 injection h with h1 h2
 injection h2 with h2 _
 injection h1 with h1
 injection h1 with h1
 injection h2 with h2
 exact Prod.ext (lrsI h1) (frI h2)
def lh (t : Int × Int) (r : Rw) : Int × Int := hP (hT r.1 t) r.2
def topL (rs : List Rw) (t : Int × Int) : Int × Int := best (lh t (rs.headD (0, (0, 1)))) (rs.map (lh t))
noncomputable def m_line_height (K : PySem.W.Frag) (c : Cls) : List L → Res L := mOf eLT (fun a => a.1 ≠ [] ∧ a.1.length ≤ 1000 ∧ Good 800 a.2 ∧ ∀ r ∈ a.1, Sz 100 r.1 ∧ Good 900 r.2) fun a => .ok (.p (frD (topL a.1 a.2)))
noncomputable def f_line_height_e1 (K : PySem.W.Frag) (c : Cls) : En → Res Ev := (mCall 2 (m_plus K c) (mCons (mCall 2 (m_times K c) (mCons (mCallB tupR' (mCons (mVar 0) (mCons (mC (.int 1)) mNil))) (mCons (mVar 2) mNil))) (mCons (mVar 1) mNil)))
noncomputable def f_line_height (K : PySem.W.Frag) (c : Cls) : MS := (mRet (mCall 1 (m_greatest K c) (mCons (mComp 2 [1] (mItL (mVar 0)) (mgTup 2 (mgCons (mgName 0) (mgCons (mgName 1) mgNil))) mYes (f_line_height_e1 K c)) mNil)))
theorem eq_line_height (K : PySem.W.Frag) (c : Cls) : ∀ ls, m_line_height K c ls = .bad ∨ runF 2 (f_line_height K c) ls = m_line_height K c ls := mOf_eq fun a h => by
 obtain ⟨rs, t⟩ := a
 obtain ⟨h0, hl, ht, hz⟩ := h
 dsimp only at h0 hl ht hz ⊢
 have hm : mapO (compItem 2 [1] (mgTup 2 (mgCons (mgName 0) (mgCons (mgName 1) mgNil))) mYes (f_line_height_e1 K c) [some (.p (.list (rs.map lrD))), some (.p (frD t))]) (rs.map lrD) = some (rs.map fun r => frD (lh t r)) := by
  refine mapO_map _ fun r hr => ?_
  obtain ⟨z1, z2⟩ := hz r hr
  have t1 := times_good K c (z1.mono (show 100 ≤ 2000 by decide)) ht (by decide)
  have p1 := plus_good K c (good_T z1 ht) z2 (by decide) (by decide)
  have he : f_line_height_e1 K c [some (.p (.int r.1)), some (.p (frD r.2)), some (.p (frD t))] = .ok (.p (frD (lh t r))) := by
   simp only [f_line_height_e1, mSeq, mSet, mRet, mIfS, mVar, mC, mBin, mUn, mCons, mNil, mCall, callR, argsL, argL, argB, Res.bind, Ev.c, retL, retE, mCallB, tupR', lstR', pureL, mTru, truthR, mAnd, mOr, mNot, mAndV, mOrV, mNotV, mRaise, mNext, addE, intE0, negE, lstOf, dat, lenE, eqE, sh_int, eqv_ii, ix_pl2, ix_pl0, ix_pl1, ix_fr0, ix_fr1, ix_t0, ix_t1, ix_t2, List.getElem?_cons_zero, List.getElem?_cons_succ, List.set_cons_zero, List.set_cons_succ, List.length_cons, List.length_nil, List.length_map, List.length_append, if_true, if_false, ite_true, ite_false, decide_true, decide_false, Bool.false_eq_true, Nat.zero_add, Nat.reduceAdd, Nat.reduceEqDiff, Nat.reduceLeDiff, reduceIte, List.map_append, List.map_cons, List.map_nil, t1, p1]
   rfl
  simp [compItem, mgTup, mgCons, mgNil, mgName, capE, capO, mYes, he, Ev.c, lrD]
 have hc := comp_l (n := 2) (js := [1]) (fi := mItL (mVar 0)) (tg := mgTup 2 (mgCons (mgName 0) (mgCons (mgName 1) mgNil))) (ft := mYes) (fe := f_line_height_e1 K c) (en := [some (.p (.list (rs.map lrD))), some (.p (frD t))]) (ds := rs.map lrD) rfl (by rw [List.length_map]; omega) hm
 have e1 : (rs.map fun r => frD (lh t r)) = (rs.map (lh t)).map frD := by rw [List.map_map]; rfl
 have hg := greatest_good K c (rs.map (lh t)) (by simpa using h0) (fun y hy => by
  obtain ⟨r, hr, rfl⟩ := List.mem_map.mp hy
  exact ((good_P (good_T (hz r hr).1 ht) (hz r hr).2).mono (by decide)).fsz)
 rw [← e1] at hg
 have eh : (rs.map (lh t)).headD (0, 1) = lh t (rs.headD (0, (0, 1))) := by
  cases rs with
  | nil => exact absurd rfl h0
  | cons p r => rfl
 rw [eh] at hg
 refine run_rt ?_
 rw [show startE 2 (eLT (rs, t)) = [some (.p (.list (rs.map lrD))), some (.p (frD t))] from rfl]
 unfold f_line_height
 refine ret_p ?_
 simp only [mCall, mCons, mNil, hc, List.getElem?_cons_zero, List.getElem?_cons_succ, List.set_cons_zero, List.set_cons_succ, List.length_cons, List.length_nil, List.length_map, List.length_append, if_true, if_false, ite_true, ite_false, decide_true, decide_false, Bool.false_eq_true, Nat.zero_add, Nat.reduceAdd, Nat.reduceEqDiff, Nat.reduceLeDiff, reduceIte, List.map_append, List.map_cons, List.map_nil, Res.bind, Ev.c, callR, argsL, argL, hg, retE]
 rfl
theorem lh_good (K : PySem.W.Frag) (c : Cls) {rs : List Rw} {t : Int × Int} (h0 : rs ≠ []) (hl : rs.length ≤ 1000) (ht : Good 800 t) (hz : ∀ r ∈ rs, Sz 100 r.1 ∧ Good 900 r.2) : m_line_height K c [.p (.list (rs.map lrD)), .p (frD t)] = .ok (.p (frD (topL rs t))) := mOf_at (a := (rs, t)) eLT_inj ⟨h0, hl, ht, hz⟩
structure KitF (K : PySem.W.Frag) (c : Cls) : Prop where
 ii : PySem.W.kitOne K (.type "int") (.type "int") = some true
 ib : PySem.W.kitOne K (.type "int") (.type "bool") = some false
 tt : PySem.W.kitOne K (.type "tuple") (.type "tuple") = some true
 ll : PySem.W.kitOne K (.type "list") (.type "list") = some true
 nx : PySem.W.ExcK K c.NoRoof
 nr : PySem.W.exmOne K (.ref c.NoRoof) (.ref c.RoofError) = some true
 nv : PySem.W.kitOne K (.ref c.NoRoof) (.type "ValueError") = some true
 nn : PySem.W.kitOne K (.ref c.NoRoof) (.ref c.NoRoof) = some true
 n0 : PySem.W.kitOne K (.ref c.NoRoof) (.ref c.NoFraction) = some false
 n1 : PySem.W.kitOne K (.ref c.NoRoof) (.ref c.TooSteep) = some false
 n2 : PySem.W.kitOne K (.ref c.NoRoof) (.ref c.TooMany) = some false
 n3 : PySem.W.kitOne K (.ref c.NoRoof) (.ref c.NoNumber) = some false
 n4 : PySem.W.kitOne K (.ref c.NoRoof) (.ref c.NoCorner) = some false
 n5 : PySem.W.kitOne K (.ref c.NoRoof) (.ref c.NoDealing) = some false
 n6 : PySem.W.kitOne K (.ref c.NoRoof) (.ref c.NoRow) = some false
 n7 : PySem.W.kitOne K (.ref c.NoRoof) (.ref c.NoText) = some false
 n8 : PySem.W.kitOne K (.ref c.NoRoof) (.ref c.NoName) = some false
noncomputable def f__law_cell_at (K : PySem.W.Frag) (c : Cls) : MS := (mSeq (mIfS (mTru (mBin ltE (mVar 1) (mCallB lenE (mCons (mVar 0) mNil)))) (mRet (mBin ixE (mVar 0) (mVar 1))) mNext) (mRet (mC (.int 0))))
noncomputable def m__law_cell_at (K : PySem.W.Frag) (c : Cls) (ls : List L) : Res L := runF 2 (f__law_cell_at K c) ls
theorem eq__law_cell_at (K : PySem.W.Frag) (c : Cls) : ∀ ls, m__law_cell_at K c ls = .bad ∨ runF 2 (f__law_cell_at K c) ls = m__law_cell_at K c ls := fun _ => .inr rfl
theorem at_nat {ns : List Int} {k : Nat} (h : k < ns.length) : atI (ns.map PyData.int) (k : Int) = some (.int (ns.getD k 0)) := by
 have : ns.getD k 0 = ns[k] := by simp [List.getD, h]
 rw [this]
 exact atI_nat (by rw [List.getElem?_map, List.getElem?_eq_getElem h]; rfl)
theorem cell_ok (K : PySem.W.Frag) (c : Cls) (ns : List Int) (k : Nat) : m__law_cell_at K c [.p (.list (ns.map .int)), .p (.int (k : Int))] = .ok (.p (.int (ns.getD k 0))) := by
 have hlen : lenE [.p (.list (ns.map .int))] = .ok (.p (.int (ns.length : Nat))) := by simp [lenE, seqOf]
 unfold m__law_cell_at
 refine run_rt ?_
 rw [show startE 2 [.p (.list (ns.map .int)), .p (.int (k : Int))] = [some (.p (.list (ns.map .int))), some (.p (.int (k : Int)))] from rfl]
 have ht : mTru (mBin ltE (mVar 1) (mCallB lenE (mCons (mVar 0) mNil))) [some (.p (.list (ns.map .int))), some (.p (.int (k : Int)))] = .ok (decide (k < ns.length)) := by
  simp [mTru, mBin, mVar, mCallB, mCons, mNil, Res.bind, Ev.c, hlen, intE0, truthR]
 by_cases hk : k < ns.length
 ·rw [decide_eq_true hk] at ht
  refine (seq_rt ((if_t ht).trans ?_))
  simp [mRet, mBin, mVar, Res.bind, Ev.c, ixE, seqOf, at_nat hk, retL]
 ·rw [decide_eq_false hk] at ht
  refine (seq_nx (if_f ht)).trans ?_
  have : ns.getD k 0 = 0 := by simp [List.getD, Nat.le_of_not_lt hk]
  rw [this]
  rfl
noncomputable def m__law_whole (K : PySem.W.Frag) (c : Cls) : List L → Res L := mOf (fun i : Int => [.p (.int i)]) (fun _ => True) fun _ => .ok (.p (.bool true))
noncomputable def f__law_whole (K : PySem.W.Frag) (c : Cls) : MS := (mRet (mAndV (mUn (isiE K (.type "int")) (mVar 0)) (mNotV (mUn (isiE K (.type "bool")) (mVar 0)))))
theorem eq__law_whole (K : PySem.W.Frag) (c : Cls) (hk : KitF K c) : ∀ ls, m__law_whole K c ls = .bad ∨ runF 1 (f__law_whole K c) ls = m__law_whole K c ls := mOf_eq fun i _ => by
 unfold runF
 rw [show startE 1 [.p (.int i)] = [some (.p (.int i))] from rfl]
 simp [f__law_whole, mSeq, mSet, mRet, mIfS, mVar, mC, mBin, mUn, mCons, mNil, mCall, callR, argsL, argL, argB, Res.bind, Ev.c, retL, retE, mCallB, tupR', lstR', pureL, mTru, truthR, mAnd, mOr, mNot, mAndV, mOrV, mNotV, mRaise, mNext, addE, intE0, negE, lstOf, dat, lenE, eqE, sh_int, eqv_ii, ix_pl2, ix_pl0, ix_pl1, ix_fr0, ix_fr1, ix_t0, ix_t1, ix_t2, isiE, tyD, hk.ii, hk.ib]
theorem whole_ok (K : PySem.W.Frag) (c : Cls) (i : Int) : m__law_whole K c [.p (.int i)] = .ok (.p (.bool true)) := mOf_at (a := i) (fun a b h => by injection h with h _; injection h with h; injection h) trivial
noncomputable def m__law_lowest (K : PySem.W.Frag) (c : Cls) : List L → Res L := mOf eII (fun a => a.2 ≠ 0 ∧ Sz 8000 a.2) fun a => .ok (.p (frD (FR.mk a.1 a.2)))
noncomputable def f__law_lowest_c1 (K : PySem.W.Frag) (c : Cls) : En → Res Bool := (mTru (mBin (eqE true) (mVar 3) (mC (.int 0))))
noncomputable def f__law_lowest_b2 (K : PySem.W.Frag) (c : Cls) : MS := (mSeq (mSet 4 (mBin modE (mVar 2) (mVar 3))) (mSeq (mSet 2 (mVar 3)) (mSet 3 (mVar 4))))
noncomputable def f__law_lowest (K : PySem.W.Frag) (c : Cls) : MS := (mSeq (mSet 2 (mCallB absE (mCons (mVar 0) mNil))) (mSeq (mSet 3 (mCallB absE (mCons (mVar 1) mNil))) (mSeq (mWhile (f__law_lowest_c1 K c) (f__law_lowest_b2 K c)) (mSeq (mIfS (mTru (mBin ltE (mVar 1) (mC (.int 0)))) (mSet 2 (mUn negE (mVar 2))) mNext) (mRet (mCallB tupR' (mCons (mBin fdivE (mVar 0) (mVar 2)) (mCons (mBin fdivE (mVar 1) (mVar 2)) mNil))))))))
theorem eq__law_lowest (K : PySem.W.Frag) (c : Cls) : ∀ ls, m__law_lowest K c ls = .bad ∨ runF 5 (f__law_lowest K c) ls = m__law_lowest K c ls := mOf_eq fun x h => by
 obtain ⟨t, b⟩ := x
 obtain ⟨hb, hz⟩ := h
 dsimp only at hb hz ⊢
 obtain ⟨r', h⟩ := wh_gd K c (some (.p (.int t))) (some (.p (.int b))) _ (if t < 0 then -t else t) (if b < 0 then -b else b) none (by split <;> omega) (by split <;> omega) (Nat.le_refl _)
 have h := mWhile_of h
 rw [FR.gcd_abs] at h
 have h : mWhile (f__law_lowest_c1 K c) (f__law_lowest_b2 K c) _ = _ := h
 obtain ⟨q1, q2⟩ := cdivW t hb hz
 have q1' : CDivW b ((Int.gcd t b : Nat) : Int) := q1
 have q2' : CDivW b (-((Int.gcd t b : Nat) : Int)) := q2
 refine run_rt ?_
 rw [show startE 5 (eII (t, b)) = [some (.p (.int t)), some (.p (.int b)), none, none, none] from rfl]
 unfold f__law_lowest
 refine (seq_nx (set_p (d := .int (if t < 0 then -t else t)) rfl)).trans ((seq_nx (set_p (d := .int (if b < 0 then -b else b)) rfl)).trans ((seq_nx h).trans ?_))
 have t1 : mTru (mBin ltE (mVar 1) (mC (.int 0))) [some (.p (.int t)), some (.p (.int b)), some (.p (.int (Int.gcd t b : Nat))), some (.p (.int 0)), r'] = .ok (decide (b < 0)) := by
  simp only [mTru, mBin, mVar, mC, List.getElem?_cons_zero, List.getElem?_cons_succ, List.set_cons_zero, List.set_cons_succ, List.length_cons, List.length_nil, List.length_map, List.length_append, if_true, if_false, ite_true, ite_false, decide_true, decide_false, Bool.false_eq_true, Nat.zero_add, Nat.reduceAdd, Nat.reduceEqDiff, Nat.reduceLeDiff, reduceIte, List.map_append, List.map_cons, List.map_nil, Res.bind, Ev.c, intE0, truthR]
 by_cases hn : b < 0
 ·rw [decide_eq_true hn] at t1
  have es : FR.mk t b = (t.fdiv (-((Int.gcd t b : Nat) : Int)), b.fdiv (-((Int.gcd t b : Nat) : Int))) := by unfold FR.mk FR.sgn; rw [if_pos hn]
  refine (seq_nx ((if_t t1).trans (set_p (d := .int (-((Int.gcd t b : Nat) : Int))) rfl))).trans (ret_p ?_)
  rw [es]
  simp (disch := assumption) only [mSeq, mSet, mRet, mIfS, mVar, mC, mBin, mUn, mCons, mNil, mCall, callR, argsL, argL, argB, Res.bind, Ev.c, retL, retE, mCallB, tupR', lstR', pureL, mTru, truthR, mAnd, mOr, mNot, mAndV, mOrV, mNotV, mRaise, mNext, addE, intE0, negE, lstOf, dat, lenE, eqE, sh_int, eqv_ii, ix_pl2, ix_pl0, ix_pl1, ix_fr0, ix_fr1, ix_t0, ix_t1, ix_t2, mul_ok, fdiv_ok, mod_ok, pow_ok, List.getElem?_cons_zero, List.getElem?_cons_succ, List.set_cons_zero, List.set_cons_succ, List.length_cons, List.length_nil, List.length_map, List.length_append, if_true, if_false, ite_true, ite_false, decide_true, decide_false, Bool.false_eq_true, Nat.zero_add, Nat.reduceAdd, Nat.reduceEqDiff, Nat.reduceLeDiff, reduceIte, List.map_append, List.map_cons, List.map_nil, frD]
 ·rw [decide_eq_false hn] at t1
  have es : FR.mk t b = (t.fdiv ((Int.gcd t b : Nat) : Int), b.fdiv ((Int.gcd t b : Nat) : Int)) := by unfold FR.mk FR.sgn; rw [if_neg hn]
  refine (seq_nx (if_f t1)).trans (ret_p ?_)
  rw [es]
  simp (disch := assumption) only [mSeq, mSet, mRet, mIfS, mVar, mC, mBin, mUn, mCons, mNil, mCall, callR, argsL, argL, argB, Res.bind, Ev.c, retL, retE, mCallB, tupR', lstR', pureL, mTru, truthR, mAnd, mOr, mNot, mAndV, mOrV, mNotV, mRaise, mNext, addE, intE0, negE, lstOf, dat, lenE, eqE, sh_int, eqv_ii, ix_pl2, ix_pl0, ix_pl1, ix_fr0, ix_fr1, ix_t0, ix_t1, ix_t2, mul_ok, fdiv_ok, mod_ok, pow_ok, List.getElem?_cons_zero, List.getElem?_cons_succ, List.set_cons_zero, List.set_cons_succ, List.length_cons, List.length_nil, List.length_map, List.length_append, if_true, if_false, ite_true, ite_false, decide_true, decide_false, Bool.false_eq_true, Nat.zero_add, Nat.reduceAdd, Nat.reduceEqDiff, Nat.reduceLeDiff, reduceIte, List.map_append, List.map_cons, List.map_nil, frD]
theorem low_ok (K : PySem.W.Frag) (c : Cls) {t b : Int} (h0 : b ≠ 0) (h1 : Sz 8000 b) : m__law_lowest K c [.p (.int t), .p (.int b)] = .ok (.p (frD (FR.mk t b))) := mOf_at (a := (t, b)) eII_inj ⟨h0, h1⟩
noncomputable def m__law_before (K : PySem.W.Frag) (c : Cls) : List L → Res L := mOf eFF (fun a => FSz 2000 a.1 ∧ FSz 2000 a.2) fun a => .ok (.p (.bool (ltF a.1 a.2)))
noncomputable def f__law_before (K : PySem.W.Frag) (c : Cls) : MS := (mRet (mBin ltE (mBin mulE (mBin ixE (mVar 0) (mC (.int 0))) (mBin ixE (mVar 1) (mC (.int 1)))) (mBin mulE (mBin ixE (mVar 1) (mC (.int 0))) (mBin ixE (mVar 0) (mC (.int 1))))))
theorem eq__law_before (K : PySem.W.Frag) (c : Cls) : ∀ ls, m__law_before K c ls = .bad ∨ runF 2 (f__law_before K c) ls = m__law_before K c ls := mOf_eq fun a h => by
 obtain ⟨x, y⟩ := a
 obtain ⟨⟨x1, x2⟩, ⟨y1, y2⟩⟩ := h
 dsimp only at x1 x2 y1 y2 ⊢
 refine run_rt ?_
 rw [show startE 2 (eFF (x, y)) = [some (.p (frD x)), some (.p (frD y))] from rfl]
 unfold f__law_before
 simp (disch := (first | assumption | (first | apply N.cm2 | apply N.cd2) <;> (first | decide | omega | (repeat (first | assumption | apply L2.Sz.mul | apply N.Sz.addM | apply N.Sz.subM | apply L2.Sz.neg | apply N.sz_fdiv | (apply N.sz_fmod; (first | decide | omega)) | exact N.sz_lit4 (by decide) | exact N.sz_lit (by decide) | exact N.sz_lit70 (by decide) | exact N.sz_big (by decide)))) | decide | omega)) only [mSeq, mSet, mRet, mIfS, mVar, mC, mBin, mUn, mCons, mNil, mCall, callR, argsL, argL, argB, Res.bind, Ev.c, retL, retE, mCallB, tupR', lstR', pureL, mTru, truthR, mAnd, mOr, mNot, mAndV, mOrV, mNotV, mRaise, mNext, addE, intE0, negE, lstOf, dat, lenE, eqE, sh_int, eqv_ii, ix_pl2, ix_pl0, ix_pl1, ix_fr0, ix_fr1, ix_t0, ix_t1, ix_t2, mul_ok, fdiv_ok, mod_ok, pow_ok, List.getElem?_cons_zero, List.getElem?_cons_succ, List.set_cons_zero, List.set_cons_succ, List.length_cons, List.length_nil, List.length_map, List.length_append, if_true, if_false, ite_true, ite_false, decide_true, decide_false, Bool.false_eq_true, Nat.zero_add, Nat.reduceAdd, Nat.reduceEqDiff, Nat.reduceLeDiff, reduceIte, List.map_append, List.map_cons, List.map_nil]
 rfl
theorem before_ok (K : PySem.W.Frag) (c : Cls) {x y : Int × Int} (hx : FSz 2000 x) (hy : FSz 2000 y) : m__law_before K c [.p (frD x), .p (frD y)] = .ok (.p (.bool (ltF x y))) := mOf_at (a := (x, y)) eFF_inj ⟨hx, hy⟩
theorem mk_self {x : Int × Int} (h : FR.Fr x) : FR.mk x.1 x.2 = x := by
 have p := h.pos
 obtain ⟨f, e⟩ := FR.mk_fr (t := x.1) (b := x.2) (by omega)
 exact leF_eq f h (Int.le_of_eq e) (Int.le_of_eq e.symm)
def eF1 (x : Int × Int) : List L := [.p (frD x)]
theorem eF1_inj (a b : Int × Int) (h : eF1 a = eF1 b) : a = b := by
 unfold eF1 at h
 injection h with h _
 injection h with h
 exact frI h
noncomputable def m__law_is_fraction (K : PySem.W.Frag) (c : Cls) : List L → Res L := mOf eF1 (fun x => FR.Fr x ∧ Sz 8000 x.2) fun _ => .ok (.p (.bool true))
noncomputable def f__law_is_fraction (K : PySem.W.Frag) (c : Cls) : MS := (mSeq (mIfS (mOr (mNot (mTru (mUn (isiE K (.type "tuple")) (mVar 0)))) (mOr (mTru (mBin (eqE true) (mCallB lenE (mCons (mVar 0) mNil)) (mC (.int 2)))) (mOr (mNot (mTru (mCall 1 (m__law_whole K c) (mCons (mBin ixE (mVar 0) (mC (.int 0))) mNil)))) (mNot (mTru (mCall 1 (m__law_whole K c) (mCons (mBin ixE (mVar 0) (mC (.int 1))) mNil))))))) (mRet (mC (.bool false))) mNext) (mRet (mAndV (mBin gtE (mBin ixE (mVar 0) (mC (.int 1))) (mC (.int 0))) (mBin (eqE false) (mCall 2 (m__law_lowest K c) (mCons (mBin ixE (mVar 0) (mC (.int 0))) (mCons (mBin ixE (mVar 0) (mC (.int 1))) mNil))) (mVar 0)))))
theorem eq__law_is_fraction (K : PySem.W.Frag) (c : Cls) (hk : KitF K c) : ∀ ls, m__law_is_fraction K c ls = .bad ∨ runF 1 (f__law_is_fraction K c) ls = m__law_is_fraction K c ls := mOf_eq fun x h => by
 obtain ⟨hf, hz⟩ := h
 have p := hf.pos
 have l := low_ok K c (t := x.1) (b := x.2) (by omega) hz
 rw [mk_self hf] at l
 have w1 := whole_ok K c x.1
 have w2 := whole_ok K c x.2
 have i1 : isiE K (.type "tuple") (.p (frD x)) = .ok (.p (.bool true)) := by simp [isiE, dat, frD, tyD, hk.tt]
 have e1 : lenE [.p (frD x)] = .ok (.p (.int 2)) := by simp [lenE, seqOf, frD]
 have e2 : eqE true (.p (.int 2)) (.p (.int 2)) = .ok (.p (.bool false)) := by simp [eqE, dat, sh_int, eqv_ii]
 have e3 : eqE false (.p (frD x)) (.p (frD x)) = .ok (.p (.bool true)) := eqE_same rfl rfl (sh_fr x) false
 refine run_rt ?_
 rw [show startE 1 (eF1 x) = [some (.p (frD x))] from rfl]
 unfold f__law_is_fraction
 have t1 : (mOr (mNot (mTru (mUn (isiE K (.type "tuple")) (mVar 0)))) (mOr (mTru (mBin (eqE true) (mCallB lenE (mCons (mVar 0) mNil)) (mC (.int 2)))) (mOr (mNot (mTru (mCall 1 (m__law_whole K c) (mCons (mBin ixE (mVar 0) (mC (.int 0))) mNil)))) (mNot (mTru (mCall 1 (m__law_whole K c) (mCons (mBin ixE (mVar 0) (mC (.int 1))) mNil))))))) [some (.p (frD x))] = .ok false := by
  simp only [mOr, mNot, mTru, mUn, mBin, mCall, mCallB, mCons, mNil, mVar, mC, callR, argsL, argL, List.getElem?_cons_zero, List.getElem?_cons_succ, List.set_cons_zero, List.set_cons_succ, List.length_cons, List.length_nil, List.length_map, List.length_append, if_true, if_false, ite_true, ite_false, decide_true, decide_false, Bool.false_eq_true, Nat.zero_add, Nat.reduceAdd, Nat.reduceEqDiff, Nat.reduceLeDiff, reduceIte, List.map_append, List.map_cons, List.map_nil, Res.bind, Ev.c, i1, e1, e2, ix_fr0, ix_fr1, w1, w2, retE, truthR, Bool.not_true]
 refine (seq_nx (if_f t1)).trans (ret_p ?_)
 simp only [mAndV, mBin, mCall, mCons, mNil, mVar, mC, intE0, callR, argsL, argL, List.getElem?_cons_zero, List.getElem?_cons_succ, List.set_cons_zero, List.set_cons_succ, List.length_cons, List.length_nil, List.length_map, List.length_append, if_true, if_false, ite_true, ite_false, decide_true, decide_false, Bool.false_eq_true, Nat.zero_add, Nat.reduceAdd, Nat.reduceEqDiff, Nat.reduceLeDiff, reduceIte, List.map_append, List.map_cons, List.map_nil, Res.bind, Ev.c, ix_fr0, ix_fr1, l, retE, e3, decide_eq_true (show 0 < x.2 by omega)]
theorem isf_ok (K : PySem.W.Frag) (c : Cls) {x : Int × Int} (h : FR.Fr x) (hz : Sz 8000 x.2) : m__law_is_fraction K c [.p (frD x)] = .ok (.p (.bool true)) := mOf_at (a := x) eF1_inj ⟨h, hz⟩
noncomputable def m__law_sum (K : PySem.W.Frag) (c : Cls) : List L → Res L := mOf eFF (fun a => Good 2000 a.1 ∧ Good 2000 a.2) fun a => .ok (.p (frD (hP a.1 a.2)))
noncomputable def f__law_sum (K : PySem.W.Frag) (c : Cls) : MS := (mRet (mCall 2 (m__law_lowest K c) (mCons (mBin addE (mBin mulE (mBin ixE (mVar 0) (mC (.int 0))) (mBin ixE (mVar 1) (mC (.int 1)))) (mBin mulE (mBin ixE (mVar 1) (mC (.int 0))) (mBin ixE (mVar 0) (mC (.int 1))))) (mCons (mBin mulE (mBin ixE (mVar 0) (mC (.int 1))) (mBin ixE (mVar 1) (mC (.int 1)))) mNil))))
theorem eq__law_sum (K : PySem.W.Frag) (c : Cls) : ∀ ls, m__law_sum K c ls = .bad ∨ runF 2 (f__law_sum K c) ls = m__law_sum K c ls := mOf_eq fun a h => by
 obtain ⟨x, y⟩ := a
 obtain ⟨g1, g2⟩ := h
 obtain ⟨x0, x1, x2⟩ := id g1
 obtain ⟨y0, y1, y2⟩ := id g2
 dsimp only at g1 g2 x0 x1 x2 y0 y1 y2 ⊢
 have l := low_ok K c (t := x.1 * y.2 + y.1 * x.2) (b := x.2 * y.2) (g1.ne g2) ((Sz.mul x2 y2).mono (by decide))
 refine run_rt ?_
 rw [show startE 2 (eFF (x, y)) = [some (.p (frD x)), some (.p (frD y))] from rfl]
 unfold f__law_sum
 refine ret_p ?_
 simp (disch := (first | assumption | (first | apply N.cm2 | apply N.cd2) <;> (first | decide | omega | (repeat (first | assumption | apply L2.Sz.mul | apply N.Sz.addM | apply N.Sz.subM | apply L2.Sz.neg | apply N.sz_fdiv | (apply N.sz_fmod; (first | decide | omega)) | exact N.sz_lit4 (by decide) | exact N.sz_lit (by decide) | exact N.sz_lit70 (by decide) | exact N.sz_big (by decide)))) | decide | omega)) only [mSeq, mSet, mRet, mIfS, mVar, mC, mBin, mUn, mCons, mNil, mCall, callR, argsL, argL, argB, Res.bind, Ev.c, retL, retE, mCallB, tupR', lstR', pureL, mTru, truthR, mAnd, mOr, mNot, mAndV, mOrV, mNotV, mRaise, mNext, addE, intE0, negE, lstOf, dat, lenE, eqE, sh_int, eqv_ii, ix_pl2, ix_pl0, ix_pl1, ix_fr0, ix_fr1, ix_t0, ix_t1, ix_t2, mul_ok, fdiv_ok, mod_ok, pow_ok, List.getElem?_cons_zero, List.getElem?_cons_succ, List.set_cons_zero, List.set_cons_succ, List.length_cons, List.length_nil, List.length_map, List.length_append, if_true, if_false, ite_true, ite_false, decide_true, decide_false, Bool.false_eq_true, Nat.zero_add, Nat.reduceAdd, Nat.reduceEqDiff, Nat.reduceLeDiff, reduceIte, List.map_append, List.map_cons, List.map_nil, l]
 rfl
theorem lsum_ok (K : PySem.W.Frag) (c : Cls) {m n : Nat} {x y : Int × Int} (hx : Good m x) (hy : Good n y) (h1 : m ≤ 2000) (h2 : n ≤ 2000) : m__law_sum K c [.p (frD x), .p (frD y)] = .ok (.p (frD (hP x y))) := mOf_at (a := (x, y)) eFF_inj ⟨hx.mono h1, hy.mono h2⟩
noncomputable def m__law_product (K : PySem.W.Frag) (c : Cls) : List L → Res L := mOf eFF (fun a => Good 2000 a.1 ∧ Good 2000 a.2) fun a => .ok (.p (frD (FR.mk (a.1.1 * a.2.1) (a.1.2 * a.2.2))))
noncomputable def f__law_product (K : PySem.W.Frag) (c : Cls) : MS := (mRet (mCall 2 (m__law_lowest K c) (mCons (mBin mulE (mBin ixE (mVar 0) (mC (.int 0))) (mBin ixE (mVar 1) (mC (.int 0)))) (mCons (mBin mulE (mBin ixE (mVar 0) (mC (.int 1))) (mBin ixE (mVar 1) (mC (.int 1)))) mNil))))
theorem eq__law_product (K : PySem.W.Frag) (c : Cls) : ∀ ls, m__law_product K c ls = .bad ∨ runF 2 (f__law_product K c) ls = m__law_product K c ls := mOf_eq fun a h => by
 obtain ⟨x, y⟩ := a
 obtain ⟨g1, g2⟩ := h
 obtain ⟨x0, x1, x2⟩ := id g1
 obtain ⟨y0, y1, y2⟩ := id g2
 dsimp only at g1 g2 x0 x1 x2 y0 y1 y2 ⊢
 have l := low_ok K c (t := x.1 * y.1) (b := x.2 * y.2) (g1.ne g2) ((Sz.mul x2 y2).mono (by decide))
 refine run_rt ?_
 rw [show startE 2 (eFF (x, y)) = [some (.p (frD x)), some (.p (frD y))] from rfl]
 unfold f__law_product
 refine ret_p ?_
 simp (disch := (first | assumption | (first | apply N.cm2 | apply N.cd2) <;> (first | decide | omega | (repeat (first | assumption | apply L2.Sz.mul | apply N.Sz.addM | apply N.Sz.subM | apply L2.Sz.neg | apply N.sz_fdiv | (apply N.sz_fmod; (first | decide | omega)) | exact N.sz_lit4 (by decide) | exact N.sz_lit (by decide) | exact N.sz_lit70 (by decide) | exact N.sz_big (by decide)))) | decide | omega)) only [mSeq, mSet, mRet, mIfS, mVar, mC, mBin, mUn, mCons, mNil, mCall, callR, argsL, argL, argB, Res.bind, Ev.c, retL, retE, mCallB, tupR', lstR', pureL, mTru, truthR, mAnd, mOr, mNot, mAndV, mOrV, mNotV, mRaise, mNext, addE, intE0, negE, lstOf, dat, lenE, eqE, sh_int, eqv_ii, ix_pl2, ix_pl0, ix_pl1, ix_fr0, ix_fr1, ix_t0, ix_t1, ix_t2, mul_ok, fdiv_ok, mod_ok, pow_ok, List.getElem?_cons_zero, List.getElem?_cons_succ, List.set_cons_zero, List.set_cons_succ, List.length_cons, List.length_nil, List.length_map, List.length_append, if_true, if_false, ite_true, ite_false, decide_true, decide_false, Bool.false_eq_true, Nat.zero_add, Nat.reduceAdd, Nat.reduceEqDiff, Nat.reduceLeDiff, reduceIte, List.map_append, List.map_cons, List.map_nil, l]
theorem lprod_ok (K : PySem.W.Frag) (c : Cls) {n : Nat} {i : Int} {y : Int × Int} (hi : Sz 2000 i) (hy : Good n y) (h2 : n ≤ 2000) : m__law_product K c [.p (.tuple [.int i, .int 1]), .p (frD y)] = .ok (.p (frD (FR.mk (i * y.1) (1 * y.2)))) := mOf_at (a := ((i, 1), y)) eFF_inj ⟨⟨Int.le_refl 1, hi, sz_one⟩, hy.mono h2⟩
noncomputable def f__law_mix (K : PySem.W.Frag) (c : Cls) : MS := (mSeq (mSet 2 (mBin addE (mBin addE (mBin mulE (mBin modE (mVar 0) (mBin powE (mC (.int 10)) (mC (.int 18)))) (mBin addE (mBin mulE (mC (.int 2)) (mVar 1)) (mC (.int 48271)))) (mBin mulE (mBin mulE (mC (.int 7919)) (mVar 1)) (mVar 1))) (mVar 1))) (mRet (mBin modE (mBin mulE (mBin modE (mVar 2) (mC (.int 2147483647))) (mC (.int 69621))) (mC (.int 2147483629)))))
noncomputable def m__law_mix (K : PySem.W.Frag) (c : Cls) (ls : List L) : Res L := runF 3 (f__law_mix K c) ls
theorem eq__law_mix (K : PySem.W.Frag) (c : Cls) : ∀ ls, m__law_mix K c ls = .bad ∨ runF 3 (f__law_mix K c) ls = m__law_mix K c ls := fun _ => .inr rfl
theorem mix_ok (K : PySem.W.Frag) (c : Cls) (cell : Int) {k : Int} (k0 : 0 ≤ k) (k1 : k ≤ 100) : ∃ v : Int, 0 ≤ v ∧ v < 2147483629 ∧ m__law_mix K c [.p (.int cell), .p (.int k)] = .ok (.p (.int v)) := by
 have p18 : CPow 10 18 := ⟨by decide, by decide, by decide⟩
 have kz : Sz 20 k := by unfold Sz; omega
 have pn : (10 : Int) ^ Int.toNat 18 ≠ 0 := by decide
 have cz : Sz 100 (cell.fmod (10 ^ Int.toNat 18)) := sz_fmod (by decide) (by unfold Sz; decide)
 generalize hC : cell.fmod (10 ^ Int.toNat 18) = C at cz
 refine ⟨(((C * (2 * k + 48271) + 7919 * k * k + k).fmod 2147483647) * 69621).fmod 2147483629, (fmod_pos (by decide)).1, (fmod_pos (by decide)).2, ?_⟩
 have z1 : Sz 40 ((C * (2 * k + 48271) + 7919 * k * k + k).fmod 2147483647) := sz_fmod (by decide) (by unfold Sz; decide)
 have sl : ∀ {x : Int}, Sz 50 x → Sz 60000 x := fun h => h.mono (by decide)
 have q1 : CMulW 2 k := ⟨sl (by unfold Sz; decide), kz.mono (by decide)⟩
 have q2 : CMulW C (2 * k + 48271) := ⟨cz.mono (by decide), sl (by unfold Sz; omega)⟩
 have q3 : CMulW 7919 k := ⟨sl (by unfold Sz; decide), kz.mono (by decide)⟩
 have q4 : CMulW (7919 * k) k := ⟨sl (by unfold Sz; omega), kz.mono (by decide)⟩
 have q5 : CMulW ((C * (2 * k + 48271) + 7919 * k * k + k).fmod 2147483647) 69621 := ⟨z1.mono (by decide), sl (by unfold Sz; decide)⟩
 have n1 : (2147483647 : Int) ≠ 0 := by decide
 have n2 : (2147483629 : Int) ≠ 0 := by decide
 unfold m__law_mix
 refine run_rt ?_
 rw [show startE 3 [.p (.int cell), .p (.int k)] = [some (.p (.int cell)), some (.p (.int k)), none] from rfl]
 unfold f__law_mix
 refine (seq_nx (set_p (d := .int (C * (2 * k + 48271) + 7919 * k * k + k)) ?_)).trans (ret_p ?_)
 ·simp (disch := assumption) only [mSeq, mSet, mRet, mIfS, mVar, mC, mBin, mUn, mCons, mNil, mCall, callR, argsL, argL, argB, Res.bind, Ev.c, retL, retE, mCallB, tupR', lstR', pureL, mTru, truthR, mAnd, mOr, mNot, mAndV, mOrV, mNotV, mRaise, mNext, addE, intE0, negE, lstOf, dat, lenE, eqE, sh_int, eqv_ii, ix_pl2, ix_pl0, ix_pl1, ix_fr0, ix_fr1, ix_t0, ix_t1, ix_t2, mul_ok, fdiv_ok, mod_ok, pow_ok, List.getElem?_cons_zero, List.getElem?_cons_succ, List.set_cons_zero, List.set_cons_succ, List.length_cons, List.length_nil, List.length_map, List.length_append, if_true, if_false, ite_true, ite_false, decide_true, decide_false, Bool.false_eq_true, Nat.zero_add, Nat.reduceAdd, Nat.reduceEqDiff, Nat.reduceLeDiff, reduceIte, List.map_append, List.map_cons, List.map_nil, hC]
 ·simp (disch := assumption) only [mSeq, mSet, mRet, mIfS, mVar, mC, mBin, mUn, mCons, mNil, mCall, callR, argsL, argL, argB, Res.bind, Ev.c, retL, retE, mCallB, tupR', lstR', pureL, mTru, truthR, mAnd, mOr, mNot, mAndV, mOrV, mNotV, mRaise, mNext, addE, intE0, negE, lstOf, dat, lenE, eqE, sh_int, eqv_ii, ix_pl2, ix_pl0, ix_pl1, ix_fr0, ix_fr1, ix_t0, ix_t1, ix_t2, mul_ok, fdiv_ok, mod_ok, pow_ok, List.getElem?_cons_zero, List.getElem?_cons_succ, List.set_cons_zero, List.set_cons_succ, List.length_cons, List.length_nil, List.length_map, List.length_append, if_true, if_false, ite_true, ite_false, decide_true, decide_false, Bool.false_eq_true, Nat.zero_add, Nat.reduceAdd, Nat.reduceEqDiff, Nat.reduceLeDiff, reduceIte, List.map_append, List.map_cons, List.map_nil]
noncomputable def f__law_number (K : PySem.W.Frag) (c : Cls) : MS := (mSeq (mSet 2 (mBin modE (mCall 2 (m__law_mix K c) (mCons (mVar 0) (mCons (mVar 1) mNil))) (mC (.int 5)))) (mSeq (mIfS (mTru (mBin (eqE false) (mVar 2) (mC (.int 0)))) (mRet (mCall 2 (m__law_lowest K c) (mCons (mBin subE (mBin modE (mBin addE (mBin mulXE (mVar 0) (mC (.int 48271))) (mVar 1)) (mBin addE (mBin mulXE (mC (.int 2)) (mBin powE (mC (.int 10)) (mC (.int 20)))) (mC (.int 1)))) (mBin powE (mC (.int 10)) (mC (.int 20)))) (mCons (mBin addE (mC (.int 1)) (mBin modE (mCall 2 (m__law_mix K c) (mCons (mVar 0) (mCons (mBin addE (mVar 1) (mC (.int 1))) mNil))) (mC (.int 12)))) mNil)))) mNext) (mSeq (mIfS (mTru (mBin (eqE false) (mVar 2) (mC (.int 1)))) (mRet (mCall 2 (m__law_lowest K c) (mCons (mBin subE (mBin modE (mCall 2 (m__law_mix K c) (mCons (mVar 0) (mCons (mBin addE (mVar 1) (mC (.int 2))) mNil))) (mC (.int 41))) (mC (.int 20))) (mCons (mBin addE (mC (.int 1)) (mBin modE (mCall 2 (m__law_mix K c) (mCons (mVar 0) (mCons (mBin addE (mVar 1) (mC (.int 3))) mNil))) (mC (.int 6)))) mNil)))) mNext) (mRet (mCallB tupR' (mCons (mBin subE (mBin modE (mCall 2 (m__law_mix K c) (mCons (mVar 0) (mCons (mBin addE (mVar 1) (mC (.int 4))) mNil))) (mC (.int 5))) (mC (.int 2))) (mCons (mC (.int 1)) mNil)))))))
noncomputable def m__law_number (K : PySem.W.Frag) (c : Cls) (ls : List L) : Res L := runF 3 (f__law_number K c) ls
theorem eq__law_number (K : PySem.W.Frag) (c : Cls) : ∀ ls, m__law_number K c ls = .bad ∨ runF 3 (f__law_number K c) ls = m__law_number K c ls := fun _ => .inr rfl
structure GN (h : Int × Int) : Prop where
 f : FR.Fr h
 t : Sz 80 h.1
 b : Sz 6 h.2
theorem gn_one {t : Int} (ht : Sz 80 t) : GN (t, 1) := ⟨⟨Int.le_refl 1, Int.gcd_one⟩, ht, (show Sz 6 (1 : Int) by unfold Sz; decide)⟩
theorem gn_mk {t b : Int} (h0 : b ≠ 0) (ht : Sz 80 t) (hb : Sz 6 b) : GN (FR.mk t b) := ⟨(FR.mk_fr h0).1, Sz.le ht (natAbs_fdiv_le _ _), Sz.le hb (natAbs_fdiv_le _ _)⟩
theorem GN.good {h : Int × Int} (g : GN h) : Good 80 h := ⟨g.f.pos, g.t, g.b.mono (by decide)⟩
theorem number_ok (K : PySem.W.Frag) (c : Cls) (cell : Int) {k : Int} (k0 : 0 ≤ k) (k1 : k ≤ 90) : ∃ x, GN x ∧ m__law_number K c [.p (.int cell), .p (.int k)] = .ok (.p (frD x)) := by
 obtain ⟨v0, a0, b0, e0⟩ := mix_ok K c cell (k := k) k0 (by omega)
 obtain ⟨v1, a1, b1, e1⟩ := mix_ok K c cell (k := k + 1) (by omega) (by omega)
 obtain ⟨v2, a2, b2, e2⟩ := mix_ok K c cell (k := k + 2) (by omega) (by omega)
 obtain ⟨v3, a3, b3, e3⟩ := mix_ok K c cell (k := k + 3) (by omega) (by omega)
 obtain ⟨v4, a4, b4, e4⟩ := mix_ok K c cell (k := k + 4) (by omega) (by omega)
 have p20 : CPow 10 20 := ⟨by decide, by decide, by decide⟩
 have m12 := fmod_pos (a := v1) (b := 12) (by decide)
 have m41 := fmod_pos (a := v2) (b := 41) (by decide)
 have m6 := fmod_pos (a := v3) (b := 6) (by decide)
 have m5 := fmod_pos (a := v4) (b := 5) (by decide)
 have x1 : mulXE (.p (.int cell)) (.p (.int 48271)) = .ok (.p (.int (cell * 48271))) := mulX_r (by decide) (by decide)
 have x2 : mulXE (.p (.int 2)) (.p (.int (10 ^ Int.toNat 20))) = .ok (.p (.int (2 * 10 ^ Int.toNat 20))) := mulX_ok (.inr (.inl ⟨by decide, by decide⟩))
 have n1 : (2 * 10 ^ Int.toNat 20 + 1 : Int) ≠ 0 := by decide
 have mm := fmod_pos (a := cell * 48271 + k) (b := 2 * 10 ^ Int.toNat 20 + 1) (by decide)
 have pw : (10 : Int) ^ Int.toNat 20 = 100000000000000000000 := by decide
 have l0 := low_ok K c (t := (cell * 48271 + k).fmod (2 * 10 ^ Int.toNat 20 + 1) - 10 ^ Int.toNat 20) (b := 1 + v1.fmod 12) (by omega) (by unfold Sz; omega)
 have l1 := low_ok K c (t := v2.fmod 41 - 20) (b := 1 + v3.fmod 6) (by omega) (by unfold Sz; omega)
 have d5 : (5 : Int) ≠ 0 := by decide
 have d12 : (12 : Int) ≠ 0 := by decide
 have d41 : (41 : Int) ≠ 0 := by decide
 have d6 : (6 : Int) ≠ 0 := by decide
 unfold m__law_number
 suffices h : ∃ x, GN x ∧ f__law_number K c (startE 3 [.p (.int cell), .p (.int k)]) = some (.rt (.p (frD x))) from let ⟨x, g, e⟩ := h; ⟨x, g, run_rt e⟩
 rw [show startE 3 [.p (.int cell), .p (.int k)] = [some (.p (.int cell)), some (.p (.int k)), none] from rfl]
 unfold f__law_number
 have s0 : (mBin modE (mCall 2 (m__law_mix K c) (mCons (mVar 0) (mCons (mVar 1) mNil))) (mC (.int 5))) [some (.p (.int cell)), some (.p (.int k)), none] = .ok (.p (.int (v0.fmod 5))) := by
  simp (disch := assumption) only [mSeq, mSet, mRet, mIfS, mVar, mC, mBin, mUn, mCons, mNil, mCall, callR, argsL, argL, argB, Res.bind, Ev.c, retL, retE, mCallB, tupR', lstR', pureL, mTru, truthR, mAnd, mOr, mNot, mAndV, mOrV, mNotV, mRaise, mNext, addE, intE0, negE, lstOf, dat, lenE, eqE, sh_int, eqv_ii, ix_pl2, ix_pl0, ix_pl1, ix_fr0, ix_fr1, ix_t0, ix_t1, ix_t2, mul_ok, fdiv_ok, mod_ok, pow_ok, List.getElem?_cons_zero, List.getElem?_cons_succ, List.set_cons_zero, List.set_cons_succ, List.length_cons, List.length_nil, List.length_map, List.length_append, if_true, if_false, ite_true, ite_false, decide_true, decide_false, Bool.false_eq_true, Nat.zero_add, Nat.reduceAdd, Nat.reduceEqDiff, Nat.reduceLeDiff, reduceIte, List.map_append, List.map_cons, List.map_nil, e0]
 have tt : ∀ (w n : Int), mTru (mBin (eqE false) (mVar 2) (mC (.int n))) [some (.p (.int cell)), some (.p (.int k)), some (.p (.int w))] = .ok (w == n) := fun w n => by
  simp only [mTru, mBin, mVar, mC, List.getElem?_cons_zero, List.getElem?_cons_succ, List.set_cons_zero, List.set_cons_succ, List.length_cons, List.length_nil, List.length_map, List.length_append, if_true, if_false, ite_true, ite_false, decide_true, decide_false, Bool.false_eq_true, Nat.zero_add, Nat.reduceAdd, Nat.reduceEqDiff, Nat.reduceLeDiff, reduceIte, List.map_append, List.map_cons, List.map_nil, Res.bind, Ev.c, eqE, dat, sh_int, eqv_ii, truthR]
  rfl
 generalize v0.fmod 5 = w at s0
 by_cases h0 : (w == 0) = true
 ·have t0 := tt w 0
  rw [h0] at t0
  refine ⟨_, gn_mk (t := (cell * 48271 + k).fmod (2 * 10 ^ Int.toNat 20 + 1) - 10 ^ Int.toNat 20) (b := 1 + v1.fmod 12) (by omega) (by unfold Sz; omega) (by unfold Sz; omega), (seq_nx (set_p s0)).trans (seq_rt ((if_t t0).trans (ret_p ?_)))⟩
  simp (disch := assumption) only [mSeq, mSet, mRet, mIfS, mVar, mC, mBin, mUn, mCons, mNil, mCall, callR, argsL, argL, argB, Res.bind, Ev.c, retL, retE, mCallB, tupR', lstR', pureL, mTru, truthR, mAnd, mOr, mNot, mAndV, mOrV, mNotV, mRaise, mNext, addE, intE0, negE, lstOf, dat, lenE, eqE, sh_int, eqv_ii, ix_pl2, ix_pl0, ix_pl1, ix_fr0, ix_fr1, ix_t0, ix_t1, ix_t2, mul_ok, fdiv_ok, mod_ok, pow_ok, List.getElem?_cons_zero, List.getElem?_cons_succ, List.set_cons_zero, List.set_cons_succ, List.length_cons, List.length_nil, List.length_map, List.length_append, if_true, if_false, ite_true, ite_false, decide_true, decide_false, Bool.false_eq_true, Nat.zero_add, Nat.reduceAdd, Nat.reduceEqDiff, Nat.reduceLeDiff, reduceIte, List.map_append, List.map_cons, List.map_nil, e1, x1, x2, l0]
 ·have t0 := tt w 0
  rw [Bool.eq_false_iff.mpr h0] at t0
  by_cases h1 : (w == 1) = true
  ·have t1 := tt w 1
   rw [h1] at t1
   refine ⟨_, gn_mk (t := v2.fmod 41 - 20) (b := 1 + v3.fmod 6) (by omega) (by unfold Sz; omega) (by unfold Sz; omega), (seq_nx (set_p s0)).trans ((seq_nx (if_f t0)).trans (seq_rt ((if_t t1).trans (ret_p ?_))))⟩
   simp (disch := assumption) only [mSeq, mSet, mRet, mIfS, mVar, mC, mBin, mUn, mCons, mNil, mCall, callR, argsL, argL, argB, Res.bind, Ev.c, retL, retE, mCallB, tupR', lstR', pureL, mTru, truthR, mAnd, mOr, mNot, mAndV, mOrV, mNotV, mRaise, mNext, addE, intE0, negE, lstOf, dat, lenE, eqE, sh_int, eqv_ii, ix_pl2, ix_pl0, ix_pl1, ix_fr0, ix_fr1, ix_t0, ix_t1, ix_t2, mul_ok, fdiv_ok, mod_ok, pow_ok, List.getElem?_cons_zero, List.getElem?_cons_succ, List.set_cons_zero, List.set_cons_succ, List.length_cons, List.length_nil, List.length_map, List.length_append, if_true, if_false, ite_true, ite_false, decide_true, decide_false, Bool.false_eq_true, Nat.zero_add, Nat.reduceAdd, Nat.reduceEqDiff, Nat.reduceLeDiff, reduceIte, List.map_append, List.map_cons, List.map_nil, e2, e3, l1]
  ·have t1 := tt w 1
   rw [Bool.eq_false_iff.mpr h1] at t1
   refine ⟨(v4.fmod 5 - 2, 1), gn_one (by unfold Sz; omega), (seq_nx (set_p s0)).trans ((seq_nx (if_f t0)).trans ((seq_nx (if_f t1)).trans (ret_p ?_)))⟩
   simp (disch := assumption) only [mSeq, mSet, mRet, mIfS, mVar, mC, mBin, mUn, mCons, mNil, mCall, callR, argsL, argL, argB, Res.bind, Ev.c, retL, retE, mCallB, tupR', lstR', pureL, mTru, truthR, mAnd, mOr, mNot, mAndV, mOrV, mNotV, mRaise, mNext, addE, intE0, negE, lstOf, dat, lenE, eqE, sh_int, eqv_ii, ix_pl2, ix_pl0, ix_pl1, ix_fr0, ix_fr1, ix_t0, ix_t1, ix_t2, mul_ok, fdiv_ok, mod_ok, pow_ok, List.getElem?_cons_zero, List.getElem?_cons_succ, List.set_cons_zero, List.set_cons_succ, List.length_cons, List.length_nil, List.length_map, List.length_append, if_true, if_false, ite_true, ite_false, decide_true, decide_false, Bool.false_eq_true, Nat.zero_add, Nat.reduceAdd, Nat.reduceEqDiff, Nat.reduceLeDiff, reduceIte, List.map_append, List.map_cons, List.map_nil, e4]
   rfl
noncomputable def f__law_rows_b1 (K : PySem.W.Frag) (c : Cls) : MS := (mSeq (mSet 4 (mBin addE (mVar 3) (mBin mulXE (mC (.int 7368787)) (mVar 2)))) (mSeq (mSet 5 (mBin subE (mBin modE (mCall 2 (m__law_mix K c) (mCons (mVar 4) (mCons (mC (.int 11)) mNil))) (mC (.int 9))) (mC (.int 4)))) (mSeq (mIfS (mTru (mBin (eqE false) (mBin modE (mCall 2 (m__law_mix K c) (mCons (mVar 4) (mCons (mC (.int 12)) mNil))) (mC (.int 6))) (mC (.int 0)))) (mSet 5 (mBin subE (mBin modE (mBin addE (mBin mulXE (mVar 4) (mC (.int 69621))) (mC (.int 5))) (mBin addE (mBin mulXE (mC (.int 2)) (mBin powE (mC (.int 10)) (mC (.int 15)))) (mC (.int 1)))) (mBin powE (mC (.int 10)) (mC (.int 15))))) mNext) (mAppend 1 (mCallB tupR' (mCons (mVar 5) (mCons (mCall 2 (m__law_number K c) (mCons (mVar 4) (mCons (mC (.int 20)) mNil))) mNil)))))))
noncomputable def f__law_rows (K : PySem.W.Frag) (c : Cls) : MS := (mSeq (mSet 1 (mCallB lstR' mNil)) (mSeq (mFor (mItA enumR (mCons (mVar 0) mNil)) (mgTup 2 (mgCons (mgName 2) (mgCons (mgName 3) mgNil))) (f__law_rows_b1 K c)) (mRet (mVar 1))))
noncomputable def m__law_rows (K : PySem.W.Frag) (c : Cls) (ls : List L) : Res L := runF 6 (f__law_rows K c) ls
theorem eq__law_rows (K : PySem.W.Frag) (c : Cls) : ∀ ls, m__law_rows K c ls = .bad ∨ runF 6 (f__law_rows K c) ls = m__law_rows K c ls := fun _ => .inr rfl
def GRw (r : Rw) : Prop := Sz 60 r.1 ∧ GN r.2
theorem rows_b (K : PySem.W.Frag) (c : Cls) (Z : Option L) (n : Int) {k : Int} (k0 : 0 ≤ k) (k1 : k ≤ 100) (acc : List Rw) (hl : acc.length ≤ 1000) (r4 r5 : Option L) : ∃ r q4 q5, GRw r ∧ f__law_rows_b1 K c [Z, some (.o (.list (acc.map lrD))), some (.p (.int k)), some (.p (.int n)), r4, r5] = some (.nx [Z, some (.o (.list ((acc ++ [r]).map lrD))), some (.p (.int k)), some (.p (.int n)), q4, q5]) := by
 have x1 : mulXE (.p (.int 7368787)) (.p (.int k)) = .ok (.p (.int (7368787 * k))) := mulX_ok (.inr (.inl ⟨by decide, by decide⟩))
 generalize hc : n + 7368787 * k = cell
 obtain ⟨v1, a1, b1, e1⟩ := mix_ok K c cell (k := 11) (by decide) (by decide)
 obtain ⟨v2, a2, b2, e2⟩ := mix_ok K c cell (k := 12) (by decide) (by decide)
 obtain ⟨x, gx, ex⟩ := number_ok K c cell (k := 20) (by decide) (by decide)
 have p15 : CPow 10 15 := ⟨by decide, by decide, by decide⟩
 have x2 : mulXE (.p (.int cell)) (.p (.int 69621)) = .ok (.p (.int (cell * 69621))) := mulX_r (by decide) (by decide)
 have x3 : mulXE (.p (.int 2)) (.p (.int (10 ^ Int.toNat 15))) = .ok (.p (.int (2 * 10 ^ Int.toNat 15))) := mulX_ok (.inr (.inl ⟨by decide, by decide⟩))
 have d9 : (9 : Int) ≠ 0 := by decide
 have d6 : (6 : Int) ≠ 0 := by decide
 have dn : (2 * 10 ^ Int.toNat 15 + 1 : Int) ≠ 0 := by decide
 have m9 := fmod_pos (a := v1) (b := 9) (by decide)
 have mm := fmod_pos (a := cell * 69621 + 5) (b := 2 * 10 ^ Int.toNat 15 + 1) (by decide)
 have pw : (10 : Int) ^ Int.toNat 15 = 1000000000000000 := by decide
 have s1 : (mBin addE (mVar 3) (mBin mulXE (mC (.int 7368787)) (mVar 2))) [Z, some (.o (.list (acc.map lrD))), some (.p (.int k)), some (.p (.int n)), r4, r5] = .ok (.p (.int cell)) := by
  simp only [mSeq, mSet, mRet, mIfS, mVar, mC, mBin, mUn, mCons, mNil, mCall, callR, argsL, argL, argB, Res.bind, Ev.c, retL, retE, mCallB, tupR', lstR', pureL, mTru, truthR, mAnd, mOr, mNot, mAndV, mOrV, mNotV, mRaise, mNext, addE, intE0, negE, lstOf, dat, lenE, eqE, sh_int, eqv_ii, ix_pl2, ix_pl0, ix_pl1, ix_fr0, ix_fr1, ix_t0, ix_t1, ix_t2, List.getElem?_cons_zero, List.getElem?_cons_succ, List.set_cons_zero, List.set_cons_succ, List.length_cons, List.length_nil, List.length_map, List.length_append, if_true, if_false, ite_true, ite_false, decide_true, decide_false, Bool.false_eq_true, Nat.zero_add, Nat.reduceAdd, Nat.reduceEqDiff, Nat.reduceLeDiff, reduceIte, List.map_append, List.map_cons, List.map_nil, x1, hc]
 have s2 : (mBin subE (mBin modE (mCall 2 (m__law_mix K c) (mCons (mVar 4) (mCons (mC (.int 11)) mNil))) (mC (.int 9))) (mC (.int 4))) [Z, some (.o (.list (acc.map lrD))), some (.p (.int k)), some (.p (.int n)), some (.p (.int cell)), r5] = .ok (.p (.int (v1.fmod 9 - 4))) := by
  simp (disch := assumption) only [mSeq, mSet, mRet, mIfS, mVar, mC, mBin, mUn, mCons, mNil, mCall, callR, argsL, argL, argB, Res.bind, Ev.c, retL, retE, mCallB, tupR', lstR', pureL, mTru, truthR, mAnd, mOr, mNot, mAndV, mOrV, mNotV, mRaise, mNext, addE, intE0, negE, lstOf, dat, lenE, eqE, sh_int, eqv_ii, ix_pl2, ix_pl0, ix_pl1, ix_fr0, ix_fr1, ix_t0, ix_t1, ix_t2, mul_ok, fdiv_ok, mod_ok, pow_ok, List.getElem?_cons_zero, List.getElem?_cons_succ, List.set_cons_zero, List.set_cons_succ, List.length_cons, List.length_nil, List.length_map, List.length_append, if_true, if_false, ite_true, ite_false, decide_true, decide_false, Bool.false_eq_true, Nat.zero_add, Nat.reduceAdd, Nat.reduceEqDiff, Nat.reduceLeDiff, reduceIte, List.map_append, List.map_cons, List.map_nil, e1]
 have t3 : ∀ y : Option L, mTru (mBin (eqE false) (mBin modE (mCall 2 (m__law_mix K c) (mCons (mVar 4) (mCons (mC (.int 12)) mNil))) (mC (.int 6))) (mC (.int 0))) [Z, some (.o (.list (acc.map lrD))), some (.p (.int k)), some (.p (.int n)), some (.p (.int cell)), y] = .ok (v2.fmod 6 == 0) := fun y => by
  simp (disch := assumption) only [mSeq, mSet, mRet, mIfS, mVar, mC, mBin, mUn, mCons, mNil, mCall, callR, argsL, argL, argB, Res.bind, Ev.c, retL, retE, mCallB, tupR', lstR', pureL, mTru, truthR, mAnd, mOr, mNot, mAndV, mOrV, mNotV, mRaise, mNext, addE, intE0, negE, lstOf, dat, lenE, eqE, sh_int, eqv_ii, ix_pl2, ix_pl0, ix_pl1, ix_fr0, ix_fr1, ix_t0, ix_t1, ix_t2, mul_ok, fdiv_ok, mod_ok, pow_ok, List.getElem?_cons_zero, List.getElem?_cons_succ, List.set_cons_zero, List.set_cons_succ, List.length_cons, List.length_nil, List.length_map, List.length_append, if_true, if_false, ite_true, ite_false, decide_true, decide_false, Bool.false_eq_true, Nat.zero_add, Nat.reduceAdd, Nat.reduceEqDiff, Nat.reduceLeDiff, reduceIte, List.map_append, List.map_cons, List.map_nil, e2]
  rfl
 obtain ⟨s, sz, e3⟩ : ∃ s : Int, Sz 60 s ∧ (mIfS (mTru (mBin (eqE false) (mBin modE (mCall 2 (m__law_mix K c) (mCons (mVar 4) (mCons (mC (.int 12)) mNil))) (mC (.int 6))) (mC (.int 0)))) (mSet 5 (mBin subE (mBin modE (mBin addE (mBin mulXE (mVar 4) (mC (.int 69621))) (mC (.int 5))) (mBin addE (mBin mulXE (mC (.int 2)) (mBin powE (mC (.int 10)) (mC (.int 15)))) (mC (.int 1)))) (mBin powE (mC (.int 10)) (mC (.int 15))))) mNext) [Z, some (.o (.list (acc.map lrD))), some (.p (.int k)), some (.p (.int n)), some (.p (.int cell)), some (.p (.int (v1.fmod 9 - 4)))] = some (.nx [Z, some (.o (.list (acc.map lrD))), some (.p (.int k)), some (.p (.int n)), some (.p (.int cell)), some (.p (.int s))]) := by
  have t := t3 (some (.p (.int (v1.fmod 9 - 4))))
  cases h : (v2.fmod 6 == 0) with
  | true =>
   rw [h] at t
   refine ⟨(cell * 69621 + 5).fmod (2 * 10 ^ Int.toNat 15 + 1) - 10 ^ Int.toNat 15, by unfold Sz; omega, (if_t t).trans (set_p ?_)⟩
   simp (disch := assumption) only [mSeq, mSet, mRet, mIfS, mVar, mC, mBin, mUn, mCons, mNil, mCall, callR, argsL, argL, argB, Res.bind, Ev.c, retL, retE, mCallB, tupR', lstR', pureL, mTru, truthR, mAnd, mOr, mNot, mAndV, mOrV, mNotV, mRaise, mNext, addE, intE0, negE, lstOf, dat, lenE, eqE, sh_int, eqv_ii, ix_pl2, ix_pl0, ix_pl1, ix_fr0, ix_fr1, ix_t0, ix_t1, ix_t2, mul_ok, fdiv_ok, mod_ok, pow_ok, List.getElem?_cons_zero, List.getElem?_cons_succ, List.set_cons_zero, List.set_cons_succ, List.length_cons, List.length_nil, List.length_map, List.length_append, if_true, if_false, ite_true, ite_false, decide_true, decide_false, Bool.false_eq_true, Nat.zero_add, Nat.reduceAdd, Nat.reduceEqDiff, Nat.reduceLeDiff, reduceIte, List.map_append, List.map_cons, List.map_nil, x2, x3]
  | false =>
   rw [h] at t
   exact ⟨v1.fmod 9 - 4, by unfold Sz; omega, if_f t⟩
 refine ⟨(s, x), some (.p (.int cell)), some (.p (.int s)), ⟨sz, gx⟩, ?_⟩
 unfold f__law_rows_b1
 refine (seq_nx (set_p s1)).trans ((seq_nx (set_p s2)).trans ((seq_nx e3).trans ?_))
 have ev : (mCallB tupR' (mCons (mVar 5) (mCons (mCall 2 (m__law_number K c) (mCons (mVar 4) (mCons (mC (.int 20)) mNil))) mNil))) [Z, some (.o (.list (acc.map lrD))), some (.p (.int k)), some (.p (.int n)), some (.p (.int cell)), some (.p (.int s))] = .ok (.p (lrD (s, x))) := by
  simp only [mSeq, mSet, mRet, mIfS, mVar, mC, mBin, mUn, mCons, mNil, mCall, callR, argsL, argL, argB, Res.bind, Ev.c, retL, retE, mCallB, tupR', lstR', pureL, mTru, truthR, mAnd, mOr, mNot, mAndV, mOrV, mNotV, mRaise, mNext, addE, intE0, negE, lstOf, dat, lenE, eqE, sh_int, eqv_ii, ix_pl2, ix_pl0, ix_pl1, ix_fr0, ix_fr1, ix_t0, ix_t1, ix_t2, List.getElem?_cons_zero, List.getElem?_cons_succ, List.set_cons_zero, List.set_cons_succ, List.length_cons, List.length_nil, List.length_map, List.length_append, if_true, if_false, ite_true, ite_false, decide_true, decide_false, Bool.false_eq_true, Nat.zero_add, Nat.reduceAdd, Nat.reduceEqDiff, Nat.reduceLeDiff, reduceIte, List.map_append, List.map_cons, List.map_nil, ex]
  rfl
 unfold mAppend
 simp only [List.set_cons_succ, List.set_cons_zero, List.getElem?_cons_succ, List.getElem?_cons_zero, ev, Ev.c]
 rw [if_pos (by rw [List.length_map]; omega), List.map_append]
 rfl
theorem rows_loop (K : PySem.W.Frag) (c : Cls) (Z : Option L) : ∀ (ns : List Int) (k : Nat) (acc : List Rw) (r2 r3 r4 r5 : Option L), k + ns.length ≤ 100 → acc.length ≤ k → (∀ r ∈ acc, GRw r) → ∃ (rs : List Rw) (q2 q3 q4 q5 : Option L), (∀ r ∈ rs, GRw r) ∧ rs.length = acc.length + ns.length ∧ mLoop (mgTup 2 (mgCons (mgName 2) (mgCons (mgName 3) mgNil))) (f__law_rows_b1 K c) (enumL k (ns.map .int)) [Z, some (.o (.list (acc.map lrD))), r2, r3, r4, r5] = some (.nx [Z, some (.o (.list (rs.map lrD))), q2, q3, q4, q5])
 | [], k, acc, r2, r3, r4, r5, _, _, ha => ⟨acc, r2, r3, r4, r5, ha, rfl, rfl⟩
 | n :: ns, k, acc, r2, r3, r4, r5, hk, hl, ha => by
  rw [List.length_cons] at hk
  obtain ⟨r, q4, q5, gr, hb⟩ := rows_b K c Z n (k := (k : Int)) (by omega) (by omega) acc (by omega) r4 r5
  obtain ⟨rs, p2, p3, p4, p5, g1, g2, ih⟩ := rows_loop K c Z ns (k + 1) (acc ++ [r]) (some (.p (.int (k : Int)))) (some (.p (.int n))) q4 q5 (by omega) (by rw [List.length_append, List.length_singleton]; omega) (fun x hx => by
   rcases List.mem_append.mp hx with z | z
   ·exact ha x z
   ·rw [List.mem_singleton.mp z]; exact gr)
  refine ⟨rs, p2, p3, p4, p5, g1, by rw [g2, List.length_append, List.length_singleton, List.length_cons]; omega, ?_⟩
  rw [List.map_cons]
  show mLoop (mgTup 2 (mgCons (mgName 2) (mgCons (mgName 3) mgNil))) (f__law_rows_b1 K c) (.tuple [.int (k : Int), .int n] :: enumL (k + 1) (ns.map .int)) _ = _
  unfold mLoop
  have et : mgTup 2 (mgCons (mgName 2) (mgCons (mgName 3) mgNil)) (.tuple [.int (k : Int), .int n]) [Z, some (.o (.list (acc.map lrD))), r2, r3, r4, r5] = some [Z, some (.o (.list (acc.map lrD))), some (.p (.int (k : Int))), some (.p (.int n)), r4, r5] := rfl
  rw [et]
  dsimp only
  rw [hb]
  exact ih
theorem rows_ok (K : PySem.W.Frag) (c : Cls) (ns : List Int) (hn : ns.length ≤ 90) : ∃ rs : List Rw, (∀ r ∈ rs, GRw r) ∧ rs.length = ns.length ∧ m__law_rows K c [.p (.list (ns.map .int))] = .ok (.o (.list (rs.map lrD))) := by
 obtain ⟨rs, q2, q3, q4, q5, g1, g2, hlp⟩ := rows_loop K c (some (.p (.list (ns.map .int)))) ns 0 [] none none none none (by omega) (Nat.le_refl _) (fun _ h => nomatch h)
 refine ⟨rs, g1, by rw [g2, List.length_nil, Nat.zero_add], ?_⟩
 unfold m__law_rows
 refine run_rt ?_
 rw [show startE 6 [.p (.list (ns.map .int))] = [some (.p (.list (ns.map .int))), none, none, none, none, none] from rfl]
 unfold f__law_rows
 have hit : (mItA enumR (mCons (mVar 0) mNil)) [some (.p (.list (ns.map .int))), some (.o (.list [])), none, none, none, none] = .ok (enumL 0 (ns.map .int)) := rfl
 refine (seq_nx (set_f (d := .list []) rfl)).trans ((seq_nx ((for_l hit).trans hlp)).trans ?_)
 rfl
theorem keys_aset {α κ : Type} [DecidableEq κ] (k : κ) (v : α) : ∀ m : List (κ × α), (aset k v m).map (·.1) = m.map (·.1)
 | [] => rfl
 | p :: r => by
  unfold aset
  rw [List.map_cons, List.map_cons, keys_aset k v r]
  split <;> rfl
theorem aget_none {α κ : Type} [DecidableEq κ] {k : κ} : ∀ {m : List (κ × α)}, aget m k = none → k ∉ m.map (·.1)
 | [], _ => fun h => nomatch h
 | p :: r, e => by
  unfold aget at e
  split at e
  ·cases e
  ·rename_i z
   rw [List.map_cons, List.mem_cons]
   rintro (q | q)
   ·exact z q.symm
   ·exact aget_none e q
theorem nd_aput {α κ : Type} [DecidableEq κ] {m : List (κ × α)} (h : (m.map (·.1)).Nodup) (k : κ) (v : α) : ((aput m k v).map (·.1)).Nodup := by
 unfold aput
 cases e : aget m k with
 | none =>
  rw [if_neg (by simp), List.map_append]
  refine List.nodup_append.mpr ⟨h, List.pairwise_singleton _ _, fun a ha b hb z => ?_⟩
  have : b = k := by simpa using hb
  rw [z, this] at ha
  exact aget_none e ha
 | some x =>
  rw [if_pos (by rfl), keys_aset]
  exact h
abbrev Mi := List (Int × (Int × Int))
def mI (m : Mi) : List (D × D) := (.none, .none) :: N.encM PyData.int frD m
theorem intI (a b : Int) (h : PyData.int a = PyData.int b) : a = b := by injection h
theorem dlook_i (m : Mi) (k : Int) : dlook (mI m) (.int k) = some ((aget m k).map frD) := by
 show (if (keyK (.int k)).isSome = true then some (kget (N.encM PyData.int frD m) (.int k)) else none) = _
 rw [if_pos (show (keyK (.int k)).isSome = true from rfl), kget_enc intI]
theorem dput_i (m : Mi) (k : Int) (v : Int × Int) (h : m.length ≤ 100000) : dputD (mI m) (.int k) (frD v) = some (mI (aput m k v)) := by
 show (if (keyK (.int k)).isSome = true ∧ (N.encM PyData.int frD m).length ≤ 100000 then some ((PyData.none, PyData.none) :: kput (N.encM PyData.int frD m) (.int k) (frD v)) else none) = _
 rw [if_pos ⟨rfl, by unfold N.encM; rw [List.length_map]; exact h⟩, kput_enc intI]
 rfl
def tkI (o : Option (Int × Int)) (h : Int × Int) : Bool := match o with
 | none => true
 | some f => ltF f h
def hbI (m : Mi) (r : Rw) : Mi := if tkI (aget m r.1) r.2 = true then aput m r.1 r.2 else m
theorem hbI_len (m : Mi) (r : Rw) : (hbI m r).length ≤ m.length + 1 := by
 unfold hbI
 split
 ·exact len_aput _ _ _
 ·exact Nat.le_succ _
theorem hbI_ne (m : Mi) (r : Rw) : hbI m r ≠ [] := by
 unfold hbI
 split
 ·rename_i h
  unfold aput
  split
  ·rename_i z
   intro e
   have := congrArg List.length e
   rw [len_aset] at this
   rw [List.length_eq_zero_iff.mp this] at z
   cases z
  ·simp
 ·rename_i h
  intro e
  rw [e] at h
  exact h rfl
def GRl (r : Rw) : Prop := Sz 100 r.1 ∧ FR.Fr r.2 ∧ Sz 300 r.2.1 ∧ Sz 20 r.2.2
theorem GRl.fsz {r : Rw} (h : GRl r) : FSz 2000 r.2 := ⟨h.2.2.1.mono (by decide), h.2.2.2.mono (by decide)⟩
theorem GRl.pos {r : Rw} (h : GRl r) : 1 ≤ r.2.2 := h.2.1.pos
structure Gj (m : Mi) : Prop where
 nd : (m.map (·.1)).Nodup
 g : ∀ k h, aget m k = some h → GRl (k, h)
theorem Gj.step {m : Mi} (g : Gj m) {r : Rw} (hr : GRl r) : Gj (hbI m r) := by
 unfold hbI
 split
 ·refine ⟨nd_aput g.nd _ _, fun k h e => ?_⟩
  rw [aget_aput] at e
  split at e
  ·rename_i z; cases e; rw [z]; exact hr
  ·exact g.g k h e
 ·exact g
def hbF (rs : List Rw) : Mi := rs.foldl hbI []
theorem fold_ok : ∀ (rs : List Rw) (m : Mi), Gj m → (∀ r ∈ rs, GRl r) → Gj (rs.foldl hbI m) ∧ (rs.foldl hbI m).length ≤ m.length + rs.length ∧ (rs ≠ [] ∨ m ≠ [] → rs.foldl hbI m ≠ [])
 | [], m, g, _ => ⟨g, Nat.le_refl _, fun h => h.elim (fun z => absurd rfl z) id⟩
 | r :: rs, m, g, h => by
  obtain ⟨a, b, c⟩ := fold_ok rs (hbI m r) (g.step (h r (.head _))) fun x hx => h x (.tail _ hx)
  have := hbI_len m r
  rw [List.foldl_cons, List.length_cons]
  exact ⟨a, by omega, fun _ => c (.inr (hbI_ne m r))⟩
theorem gj_nil : Gj [] := ⟨List.Pairwise.nil, fun _ _ e => nomatch e⟩
def lineOf (m : Mi) : List Rw := (sortI (m.map (·.1))).map fun k => (k, (aget m k).getD (0, 1))
theorem line_in {m : Mi} : ∀ k ∈ sortI (m.map (·.1)), ∃ h, aget m k = some h := fun k hk => by
 have := (sortI_perm _).mem_iff.mp hk
 obtain ⟨e, he, rfl⟩ := List.mem_map.mp this
 exact aget_mem he
theorem sort_len (m : Mi) : (sortI (m.map (·.1))).length = m.length := by rw [(sortI_perm _).length_eq, List.length_map]
theorem lineOf_get {m : Mi} {r : Rw} (h : r ∈ lineOf m) : aget m r.1 = some r.2 := by
 unfold lineOf at h
 obtain ⟨k, hk, rfl⟩ := List.mem_map.mp h
 obtain ⟨v, e⟩ := line_in k hk
 show aget m k = some ((aget m k).getD (0, 1))
 rw [e]
 rfl
theorem aget_key {α κ : Type} [DecidableEq κ] {k : κ} {v : α} : ∀ {m : List (κ × α)}, aget m k = some v → k ∈ m.map (·.1)
 | [], e => nomatch e
 | p :: r, e => by
  unfold aget at e
  split at e
  ·rename_i z; rw [← z]; exact .head _
  ·exact .tail _ (aget_key e)
theorem lineOf_mem {m : Mi} {k : Int} {h : Int × Int} (e : aget m k = some h) : (k, h) ∈ lineOf m := by
 unfold lineOf
 refine List.mem_map.mpr ⟨k, (sortI_perm _).mem_iff.mpr (aget_key e), ?_⟩
 rw [e]
 rfl
theorem lineOf_ok {m : Mi} (g : Gj m) : (lineOf m).length = m.length ∧ (∀ r ∈ lineOf m, GRl r) ∧ (lineOf m).Pairwise (fun a b => a.1 < b.1) := by
 refine ⟨by unfold lineOf; rw [List.length_map, sort_len], fun r hr => g.g r.1 r.2 (lineOf_get hr), ?_⟩
 unfold lineOf
 rw [List.pairwise_map]
 have s1 := sortI_sorted (m.map (·.1))
 have s2 : (sortI (m.map (·.1))).Nodup := (sortI_perm _).nodup_iff.mpr g.nd
 exact (s1.and s2).imp fun ⟨a, b⟩ => by
  show _ < _
  omega
theorem hbI_up {m : Mi} {r : Rw} {k : Int} {h : Int × Int} (e : aget m k = some h) : ∃ h', aget (hbI m r) k = some h' ∧ leF h h' := by
 unfold hbI
 split
 ·rename_i z
  rw [aget_aput]
  split
  ·rename_i y
   rw [← y, e] at z
   exact ⟨r.2, rfl, leF_lt z⟩
  ·exact ⟨h, e, leF_refl _⟩
 ·exact ⟨h, e, leF_refl _⟩
theorem hbI_at (m : Mi) (r : Rw) : ∃ h', aget (hbI m r) r.1 = some h' ∧ leF r.2 h' := by
 unfold hbI
 split
 ·rw [aget_aput, if_pos rfl]
  exact ⟨r.2, rfl, leF_refl _⟩
 ·rename_i z
  cases e : aget m r.1 with
  | none => rw [e] at z; exact absurd rfl z
  | some f =>
   rw [e] at z
   exact ⟨f, rfl, leF_of (Bool.eq_false_iff.mpr z)⟩
theorem fold_up : ∀ (rs : List Rw) {m : Mi}, Gj m → (∀ r ∈ rs, GRl r) → ∀ {k : Int} {h : Int × Int}, aget m k = some h → ∃ h', aget (rs.foldl hbI m) k = some h' ∧ leF h h'
 | [], _, _, _, _, h, e => ⟨h, e, leF_refl _⟩
 | r :: rs, m, g, hr, k, h, e => by
  obtain ⟨h1, e1, l1⟩ := hbI_up (r := r) e
  have g1 := g.step (hr r (.head _))
  obtain ⟨h2, e2, l2⟩ := fold_up rs g1 (fun x hx => hr x (.tail _ hx)) e1
  have g2 := (fold_ok rs _ g1 fun x hx => hr x (.tail _ hx)).1
  exact ⟨h2, e2, leF_trans (g.g k h e).pos (g1.g k h1 e1).pos (g2.g k h2 e2).pos l1 l2⟩
theorem fold_at : ∀ (rs : List Rw) {m : Mi}, Gj m → (∀ r ∈ rs, GRl r) → ∀ r ∈ rs, ∃ h', aget (rs.foldl hbI m) r.1 = some h' ∧ leF r.2 h'
 | [], _, _, _, _, h => nomatch h
 | x :: rs, m, g, hr, r, h => by
  have g1 := g.step (hr x (.head _))
  rcases List.mem_cons.mp h with z | z
  ·subst z
   obtain ⟨h1, e1, l1⟩ := hbI_at m r
   obtain ⟨h2, e2, l2⟩ := fold_up rs g1 (fun x hx => hr x (.tail _ hx)) e1
   have g2 := (fold_ok rs _ g1 fun x hx => hr x (.tail _ hx)).1
   exact ⟨h2, e2, leF_trans (hr r (.head _)).pos (g1.g _ h1 e1).pos (g2.g _ h2 e2).pos l1 l2⟩
  ·exact fold_at rs g1 (fun x hx => hr x (.tail _ hx)) r z
theorem fold_from : ∀ (rs : List Rw) {m : Mi} {k : Int} {h : Int × Int}, aget (rs.foldl hbI m) k = some h → aget m k = some h ∨ (k, h) ∈ rs
 | [], _, _, _, e => .inl e
 | r :: rs, m, k, h, e => by
  rcases fold_from rs (m := hbI m r) e with z | z
  ·unfold hbI at z
   split at z
   ·rw [aget_aput] at z
    split at z
    ·rename_i y
     cases z
     rw [y]
     exact .inr (.head _)
    ·exact .inl z
   ·exact .inl z
  ·exact .inr (.tail _ z)
theorem keys_i (m : Mi) : (N.encM PyData.int frD m).map (·.1) = (m.map (·.1)).map .int := by unfold N.encM; rw [List.map_map, List.map_map]; rfl
theorem listK_i (m : Mi) : listKE [.p (.dict (mI m))] = .ok (.f (.list ((m.map (·.1)).map .int))) := by
 show (match intsOf ((N.encM PyData.int frD m).map (·.1)) with | some ns => Res.ok (Ev.f (.list (ns.map .int))) | none => Res.bad) = _
 rw [keys_i, intsOf_map]
theorem sortI_i (m : Mi) (h : m.length < 64) : sortIE [.p (.list ((m.map (·.1)).map .int))] = .ok (.f (.list ((sortI (m.map (·.1))).map .int))) := by
 show (match intsOf ((m.map (·.1)).map .int) with | some ns => if ns.length < 64 then Res.ok (Ev.f (.list ((sortI ns).map .int))) else Res.bad | none => Res.bad) = _
 rw [intsOf_map]
 dsimp only
 rw [if_pos (by rw [List.length_map]; exact h)]
theorem sortDK_i (m : Mi) (h : m.length < 64) : sortDKE [.p (.dict (mI m))] = .ok (.f (.list ((sortI (m.map (·.1))).map .int))) := by
 show (match intsOf ((N.encM PyData.int frD m).map (·.1)) with | some ns => if ns.length < 64 then Res.ok (Ev.f (.list ((sortI ns).map .int))) else Res.bad | none => Res.bad) = _
 rw [keys_i, intsOf_map]
 dsimp only
 rw [if_pos (by rw [List.length_map]; exact h)]
noncomputable def m_highest_by_slope (K : PySem.W.Frag) (c : Cls) : List L → Res L := mOf eLs (fun rs => rs.length ≤ 1000 ∧ ∀ r ∈ rs, GRl r) fun rs => .ok (.o (.dict (mI (hbF rs))))
noncomputable def f_highest_by_slope_b1 (K : PySem.W.Frag) (c : Cls) : MS := (mIfS (mOr (mTru (mBin (dinE true) (mVar 2) (mVar 1))) (mTru (mCall 2 (m_less K c) (mCons (mBin dgetE (mVar 1) (mVar 2)) (mCons (mVar 3) mNil))))) (mDput 1 (mVar 2) (mVar 3)) mNext)
noncomputable def f_highest_by_slope (K : PySem.W.Frag) (c : Cls) : MS := (mSeq (mSet 1 mDK) (mSeq (mFor (mItL (mVar 0)) (mgTup 2 (mgCons (mgName 2) (mgCons (mgName 3) mgNil))) (f_highest_by_slope_b1 K c)) (mRet (mVar 1))))
theorem hs_b (K : PySem.W.Frag) (c : Cls) (A : Option L) (m : Mi) (hm : m.length ≤ 2000) (gm : Gj m) (r : Rw) (hr : GRl r) : f_highest_by_slope_b1 K c [A, some (.o (.dict (mI m))), some (.p (.int r.1)), some (.p (frD r.2))] = some (.nx [A, some (.o (.dict (mI (hbI m r)))), some (.p (.int r.1)), some (.p (frD r.2))]) := by
 have hd := dlook_i m r.1
 have hp := dput_i m r.1 r.2 (by omega)
 have put : mDput 1 (mVar 2) (mVar 3) [A, some (.o (.dict (mI m))), some (.p (.int r.1)), some (.p (frD r.2))] = some (.nx [A, some (.o (.dict (mI (aput m r.1 r.2)))), some (.p (.int r.1)), some (.p (frD r.2))]) := by
  unfold mDput
  simp only [List.getElem?_cons_zero, List.getElem?_cons_succ, List.set_cons_zero, List.set_cons_succ, List.length_cons, List.length_nil, List.length_map, List.length_append, if_true, if_false, ite_true, ite_false, decide_true, decide_false, Bool.false_eq_true, Nat.zero_add, Nat.reduceAdd, Nat.reduceEqDiff, Nat.reduceLeDiff, reduceIte, List.map_append, List.map_cons, List.map_nil, mVar, Ev.c, hp]
 have tin : mTru (mBin (dinE true) (mVar 2) (mVar 1)) [A, some (.o (.dict (mI m))), some (.p (.int r.1)), some (.p (frD r.2))] = .ok (!(aget m r.1).isSome) := by
  simp only [mSeq, mSet, mRet, mIfS, mVar, mC, mBin, mUn, mCons, mNil, mCall, callR, argsL, argL, argB, Res.bind, Ev.c, retL, retE, mCallB, tupR', lstR', pureL, mTru, truthR, mAnd, mOr, mNot, mAndV, mOrV, mNotV, mRaise, mNext, addE, intE0, negE, lstOf, dat, lenE, eqE, sh_int, eqv_ii, ix_pl2, ix_pl0, ix_pl1, ix_fr0, ix_fr1, ix_t0, ix_t1, ix_t2, List.getElem?_cons_zero, List.getElem?_cons_succ, List.set_cons_zero, List.set_cons_succ, List.length_cons, List.length_nil, List.length_map, List.length_append, if_true, if_false, ite_true, ite_false, decide_true, decide_false, Bool.false_eq_true, Nat.zero_add, Nat.reduceAdd, Nat.reduceEqDiff, Nat.reduceLeDiff, reduceIte, List.map_append, List.map_cons, List.map_nil, dinE, dctOf, hd]
  simp
 unfold f_highest_by_slope_b1 hbI
 cases ea : aget m r.1 with
 | none =>
  rw [ea] at tin
  have t : (mOr (mTru (mBin (dinE true) (mVar 2) (mVar 1))) (mTru (mCall 2 (m_less K c) (mCons (mBin dgetE (mVar 1) (mVar 2)) (mCons (mVar 3) mNil))))) [A, some (.o (.dict (mI m))), some (.p (.int r.1)), some (.p (frD r.2))] = .ok true := by
   unfold mOr
   rw [tin]
   rfl
  exact (if_t t).trans put
 | some f =>
  rw [ea] at tin hd
  have ef : (mBin dgetE (mVar 1) (mVar 2)) [A, some (.o (.dict (mI m))), some (.p (.int r.1)), some (.p (frD r.2))] = .ok (.p (frD f)) := by
   simp only [mSeq, mSet, mRet, mIfS, mVar, mC, mBin, mUn, mCons, mNil, mCall, callR, argsL, argL, argB, Res.bind, Ev.c, retL, retE, mCallB, tupR', lstR', pureL, mTru, truthR, mAnd, mOr, mNot, mAndV, mOrV, mNotV, mRaise, mNext, addE, intE0, negE, lstOf, dat, lenE, eqE, sh_int, eqv_ii, ix_pl2, ix_pl0, ix_pl1, ix_fr0, ix_fr1, ix_t0, ix_t1, ix_t2, List.getElem?_cons_zero, List.getElem?_cons_succ, List.set_cons_zero, List.set_cons_succ, List.length_cons, List.length_nil, List.length_map, List.length_append, if_true, if_false, ite_true, ite_false, decide_true, decide_false, Bool.false_eq_true, Nat.zero_add, Nat.reduceAdd, Nat.reduceEqDiff, Nat.reduceLeDiff, reduceIte, List.map_append, List.map_cons, List.map_nil, dgetE, dctOf, hd, Option.map_some]
  have hl := less_good K c (gm.g _ f ea).fsz hr.fsz
  have tl : mTru (mCall 2 (m_less K c) (mCons (mBin dgetE (mVar 1) (mVar 2)) (mCons (mVar 3) mNil))) [A, some (.o (.dict (mI m))), some (.p (.int r.1)), some (.p (frD r.2))] = .ok (ltF f r.2) := by
   simp only [mTru, mCall, mCons, mNil, ef, mVar, List.getElem?_cons_zero, List.getElem?_cons_succ, List.set_cons_zero, List.set_cons_succ, List.length_cons, List.length_nil, List.length_map, List.length_append, if_true, if_false, ite_true, ite_false, decide_true, decide_false, Bool.false_eq_true, Nat.zero_add, Nat.reduceAdd, Nat.reduceEqDiff, Nat.reduceLeDiff, reduceIte, List.map_append, List.map_cons, List.map_nil, Res.bind, Ev.c, callR, argsL, argL, hl, retE, truthR]
  have t : (mOr (mTru (mBin (dinE true) (mVar 2) (mVar 1))) (mTru (mCall 2 (m_less K c) (mCons (mBin dgetE (mVar 1) (mVar 2)) (mCons (mVar 3) mNil))))) [A, some (.o (.dict (mI m))), some (.p (.int r.1)), some (.p (frD r.2))] = .ok (ltF f r.2) := by
   unfold mOr
   rw [tin, bind_ok]
   exact tl
  show _ = some (Out.nx [A, some (.o (.dict (mI (if ltF f r.2 = true then aput m r.1 r.2 else m)))), some (.p (.int r.1)), some (.p (frD r.2))])
  cases e : ltF f r.2 with
  | true => rw [e] at t; rw [if_pos rfl]; exact (if_t t).trans put
  | false => rw [e] at t; rw [if_neg (by decide)]; exact if_f t
theorem hs_loop (K : PySem.W.Frag) (c : Cls) (A : Option L) : ∀ (rs : List Rw) (m : Mi) (r2 r3 : Option L), m.length + rs.length ≤ 2000 → Gj m → (∀ r ∈ rs, GRl r) → ∃ (q2 q3 : Option L), mLoop (mgTup 2 (mgCons (mgName 2) (mgCons (mgName 3) mgNil))) (f_highest_by_slope_b1 K c) (rs.map lrD) [A, some (.o (.dict (mI m))), r2, r3] = some (.nx [A, some (.o (.dict (mI (rs.foldl hbI m)))), q2, q3])
 | [], m, r2, r3, _, gm, _ => ⟨r2, r3, rfl⟩
 | r :: rs, m, r2, r3, hl, gm, hr => by
  rw [List.length_cons] at hl
  have hb := hs_b K c A m (by omega) gm r (hr r (.head _))
  have hn := hbI_len m r
  obtain ⟨q2, q3, ih⟩ := hs_loop K c A rs (hbI m r) (some (.p (.int r.1))) (some (.p (frD r.2))) (by omega) (gm.step (hr r (.head _))) fun x hx => hr x (.tail _ hx)
  refine ⟨q2, q3, ?_⟩
  rw [List.map_cons]
  unfold mLoop
  have et : mgTup 2 (mgCons (mgName 2) (mgCons (mgName 3) mgNil)) (lrD r) [A, some (.o (.dict (mI m))), r2, r3] = some [A, some (.o (.dict (mI m))), some (.p (.int r.1)), some (.p (frD r.2))] := rfl
  rw [et]
  dsimp only
  rw [hb]
  exact ih
theorem eq_highest_by_slope (K : PySem.W.Frag) (c : Cls) : ∀ ls, m_highest_by_slope K c ls = .bad ∨ runF 4 (f_highest_by_slope K c) ls = m_highest_by_slope K c ls := mOf_eq fun rs h => by
 obtain ⟨hl, hz⟩ := h
 obtain ⟨q2, q3, hlp⟩ := hs_loop K c (some (.p (.list (rs.map lrD)))) rs [] none none (by rw [List.length_nil]; omega) gj_nil hz
 refine run_rt ?_
 rw [show startE 4 (eLs rs) = [some (.p (.list (rs.map lrD))), none, none, none] from rfl]
 unfold f_highest_by_slope
 refine (seq_nx (set_f (d := .dict (mI [])) rfl)).trans ((seq_nx ((for_l (ds := rs.map lrD) rfl).trans hlp)).trans ?_)
 rfl
theorem hs_good (K : PySem.W.Frag) (c : Cls) {rs : List Rw} (h1 : rs.length ≤ 1000) (h2 : ∀ r ∈ rs, GRl r) : m_highest_by_slope K c [.p (.list (rs.map lrD))] = .ok (.o (.dict (mI (hbF rs)))) := mOf_at (a := rs) eLs_inj ⟨h1, h2⟩
noncomputable def m_line_of (K : PySem.W.Frag) (c : Cls) : List L → Res L := mOf eLs (fun rs => rs.length < 64 ∧ ∀ r ∈ rs, GRl r) fun rs => if rs.isEmpty = true then .exc c.NoRoof else .ok (.o (.list ((lineOf (hbF rs)).map lrD)))
noncomputable def f_line_of_e1 (K : PySem.W.Frag) (c : Cls) : En → Res Ev := (mCallB tupR' (mCons (mVar 0) (mCons (mBin dgetE (mVar 1) (mVar 0)) mNil)))
noncomputable def f_line_of (K : PySem.W.Frag) (c : Cls) : MS := (mSeq (mIfS (mTru (mBin (eqE false) (mCallB lenE (mCons (mVar 0) mNil)) (mC (.int 0)))) (mRaise c.NoRoof (mCons (mC (.str "a line roof has one tuple or more")) mNil)) mNext) (mSeq (mSet 1 (mCall 1 (m_highest_by_slope K c) (mCons (mVar 0) mNil))) (fun en => (mRet (mComp 1 [1] (mItL (mCallB sortDKE (mCons (mVar 1) mNil))) (mgName 0) mYes (f_line_of_e1 K c))) (frz 1 en))))
theorem eq_line_of (K : PySem.W.Frag) (c : Cls) : ∀ ls, m_line_of K c ls = .bad ∨ runF 2 (f_line_of K c) ls = m_line_of K c ls := mOf_eq fun rs h => by
 obtain ⟨hl, hz⟩ := h
 by_cases h0 : rs = []
 ·subst h0
  have t : mTru (mBin (eqE false) (mCallB lenE (mCons (mVar 0) mNil)) (mC (.int 0))) [some (.p (.list [])), none] = .ok true := rfl
  have e : f_line_of K c (startE 2 (eLs [])) = some (.ex c.NoRoof [some (.p (.list [])), none]) := by
   unfold f_line_of mSeq
   rw [show startE 2 (eLs []) = [some (.p (.list [])), none] from rfl, if_t t]
   rfl
  unfold runF
  rw [e]
  rfl
 rw [if_neg (by rw [List.isEmpty_iff]; exact h0)]
 have hg := hs_good K c (rs := rs) (by omega) hz
 obtain ⟨g1, g2, g3⟩ := fold_ok rs [] gj_nil hz
 rw [List.length_nil, Nat.zero_add] at g2
 have hlen : lenE [.p (.list (rs.map lrD))] = .ok (.p (.int (rs.length : Nat))) := by simp [lenE, seqOf]
 have t : mTru (mBin (eqE false) (mCallB lenE (mCons (mVar 0) mNil)) (mC (.int 0))) [some (.p (.list (rs.map lrD))), none] = .ok false := by
  simp only [mTru, mBin, mCallB, mCons, mNil, mVar, mC, List.getElem?_cons_zero, List.getElem?_cons_succ, List.set_cons_zero, List.set_cons_succ, List.length_cons, List.length_nil, List.length_map, List.length_append, if_true, if_false, ite_true, ite_false, decide_true, decide_false, Bool.false_eq_true, Nat.zero_add, Nat.reduceAdd, Nat.reduceEqDiff, Nat.reduceLeDiff, reduceIte, List.map_append, List.map_cons, List.map_nil, Res.bind, Ev.c, hlen, eqE, dat, sh_int, eqv_ii, truthR]
  have : ((rs.length : Int) == 0) = false := by
   rw [beq_eq_false_iff_ne]
   have : rs.length ≠ 0 := fun z => h0 (List.length_eq_zero_iff.mp z)
   omega
  rw [this]
  rfl
 have e1 : (mCall 1 (m_highest_by_slope K c) (mCons (mVar 0) mNil)) [some (.p (.list (rs.map lrD))), none] = .ok (.f (.dict (mI (hbF rs)))) := by
  simp only [mCall, mCons, mNil, mVar, List.getElem?_cons_zero, List.getElem?_cons_succ, List.set_cons_zero, List.set_cons_succ, List.length_cons, List.length_nil, List.length_map, List.length_append, if_true, if_false, ite_true, ite_false, decide_true, decide_false, Bool.false_eq_true, Nat.zero_add, Nat.reduceAdd, Nat.reduceEqDiff, Nat.reduceLeDiff, reduceIte, List.map_append, List.map_cons, List.map_nil, Res.bind, Ev.c, callR, argsL, argL, hg, retE]
 refine run_rt ?_
 rw [show startE 2 (eLs rs) = [some (.p (.list (rs.map lrD))), none] from rfl]
 unfold f_line_of
 refine (seq_nx (if_f t)).trans ((seq_nx (set_f e1)).trans ?_)
 simp only [frz, List.getElem?_cons_succ, List.getElem?_cons_zero, List.set_cons_succ, List.set_cons_zero]
 have g2 : (hbF rs).length ≤ rs.length := g2
 generalize hbF rs = m at *
 have so := sortDK_i m (by omega)
 have hit : (mItL (mCallB sortDKE (mCons (mVar 1) mNil))) [some (.p (.list (rs.map lrD))), some (.p (.dict (mI m)))] = .ok ((sortI (m.map (·.1))).map .int) := by
  simp only [mItL, mCallB, mCons, mNil, mVar, List.getElem?_cons_succ, List.getElem?_cons_zero, Res.bind, Ev.c, so, listR]
 have hm : mapO (compItem 1 [1] (mgName 0) mYes (f_line_of_e1 K c) [some (.p (.list (rs.map lrD))), some (.p (.dict (mI m)))]) ((sortI (m.map (·.1))).map .int) = some ((sortI (m.map (·.1))).map fun k => lrD (k, (aget m k).getD (0, 1))) := by
  refine mapO_map _ fun k hk => ?_
  obtain ⟨h, e⟩ := line_in k hk
  have hd := dlook_i m k
  rw [e] at hd
  have he : f_line_of_e1 K c [some (.p (.int k)), some (.p (.dict (mI m)))] = .ok (.p (lrD (k, (aget m k).getD (0, 1)))) := by
   rw [e]
   simp only [f_line_of_e1, mSeq, mSet, mRet, mIfS, mVar, mC, mBin, mUn, mCons, mNil, mCall, callR, argsL, argL, argB, Res.bind, Ev.c, retL, retE, mCallB, tupR', lstR', pureL, mTru, truthR, mAnd, mOr, mNot, mAndV, mOrV, mNotV, mRaise, mNext, addE, intE0, negE, lstOf, dat, lenE, eqE, sh_int, eqv_ii, ix_pl2, ix_pl0, ix_pl1, ix_fr0, ix_fr1, ix_t0, ix_t1, ix_t2, List.getElem?_cons_zero, List.getElem?_cons_succ, List.set_cons_zero, List.set_cons_succ, List.length_cons, List.length_nil, List.length_map, List.length_append, if_true, if_false, ite_true, ite_false, decide_true, decide_false, Bool.false_eq_true, Nat.zero_add, Nat.reduceAdd, Nat.reduceEqDiff, Nat.reduceLeDiff, reduceIte, List.map_append, List.map_cons, List.map_nil, dgetE, dctOf, hd, Option.map_some]
   rfl
  simp [compItem, mgName, capE, capO, mYes, he, Ev.c]
 have hc := comp_l (n := 1) (js := [1]) (fi := mItL (mCallB sortDKE (mCons (mVar 1) mNil))) (tg := mgName 0) (ft := mYes) (fe := f_line_of_e1 K c) (en := [some (.p (.list (rs.map lrD))), some (.p (.dict (mI m)))]) hit (by rw [List.length_map, sort_len]; omega) hm
 refine ret_f ?_
 rw [hc]
 unfold lineOf
 rw [List.map_map]
 rfl
theorem lo_good (K : PySem.W.Frag) (c : Cls) {rs : List Rw} (h0 : rs ≠ []) (hl : rs.length < 64) (h : ∀ r ∈ rs, GRl r) : m_line_of K c [.p (.list (rs.map lrD))] = .ok (.o (.list ((lineOf (hbF rs)).map lrD))) := (mOf_at (a := rs) eLs_inj ⟨hl, h⟩).trans (if_neg (by rw [List.isEmpty_iff]; exact h0))
theorem lo_nil (K : PySem.W.Frag) (c : Cls) : m_line_of K c [.p (.list [])] = .exc c.NoRoof := mOf_at (a := []) eLs_inj ⟨by decide, fun _ h => nomatch h⟩
noncomputable def m__law_line (K : PySem.W.Frag) (c : Cls) : List L → Res L := mOf eLs (fun rs => rs.length < 64 ∧ ∀ r ∈ rs, GRl r) fun rs => .ok (.o (.list ((lineOf (hbF rs)).map lrD)))
noncomputable def f__law_line_e1 (K : PySem.W.Frag) (c : Cls) : En → Res Ev := (mCallB tupR' (mCons (mVar 0) (mCons (mBin dgetE (mVar 1) (mVar 0)) mNil)))
noncomputable def f__law_line_b2 (K : PySem.W.Frag) (c : Cls) : MS := (mIfS (mOr (mTru (mBin (dinE true) (mVar 2) (mVar 1))) (mTru (mCall 2 (m__law_before K c) (mCons (mBin dgetE (mVar 1) (mVar 2)) (mCons (mVar 3) mNil))))) (mDput 1 (mVar 2) (mVar 3)) mNext)
noncomputable def f__law_line (K : PySem.W.Frag) (c : Cls) : MS := (mSeq (mSet 1 mDK) (mSeq (mFor (mItL (mVar 0)) (mgTup 2 (mgCons (mgName 2) (mgCons (mgName 3) mgNil))) (f__law_line_b2 K c)) (fun en => (mRet (mComp 1 [1] (mItL (mCallB sortIE (mCons (mCallB listKE (mCons (mVar 1) mNil)) mNil))) (mgName 0) mYes (f__law_line_e1 K c))) (frz 1 en))))
theorem jr_b (K : PySem.W.Frag) (c : Cls) (A : Option L) (m : Mi) (hm : m.length ≤ 2000) (gm : Gj m) (r : Rw) (hr : GRl r) : f__law_line_b2 K c [A, some (.o (.dict (mI m))), some (.p (.int r.1)), some (.p (frD r.2))] = some (.nx [A, some (.o (.dict (mI (hbI m r)))), some (.p (.int r.1)), some (.p (frD r.2))]) := by
 have hd := dlook_i m r.1
 have hp := dput_i m r.1 r.2 (by omega)
 have put : mDput 1 (mVar 2) (mVar 3) [A, some (.o (.dict (mI m))), some (.p (.int r.1)), some (.p (frD r.2))] = some (.nx [A, some (.o (.dict (mI (aput m r.1 r.2)))), some (.p (.int r.1)), some (.p (frD r.2))]) := by
  unfold mDput
  simp only [List.getElem?_cons_zero, List.getElem?_cons_succ, List.set_cons_zero, List.set_cons_succ, List.length_cons, List.length_nil, List.length_map, List.length_append, if_true, if_false, ite_true, ite_false, decide_true, decide_false, Bool.false_eq_true, Nat.zero_add, Nat.reduceAdd, Nat.reduceEqDiff, Nat.reduceLeDiff, reduceIte, List.map_append, List.map_cons, List.map_nil, mVar, Ev.c, hp]
 have tin : mTru (mBin (dinE true) (mVar 2) (mVar 1)) [A, some (.o (.dict (mI m))), some (.p (.int r.1)), some (.p (frD r.2))] = .ok (!(aget m r.1).isSome) := by
  simp only [mSeq, mSet, mRet, mIfS, mVar, mC, mBin, mUn, mCons, mNil, mCall, callR, argsL, argL, argB, Res.bind, Ev.c, retL, retE, mCallB, tupR', lstR', pureL, mTru, truthR, mAnd, mOr, mNot, mAndV, mOrV, mNotV, mRaise, mNext, addE, intE0, negE, lstOf, dat, lenE, eqE, sh_int, eqv_ii, ix_pl2, ix_pl0, ix_pl1, ix_fr0, ix_fr1, ix_t0, ix_t1, ix_t2, List.getElem?_cons_zero, List.getElem?_cons_succ, List.set_cons_zero, List.set_cons_succ, List.length_cons, List.length_nil, List.length_map, List.length_append, if_true, if_false, ite_true, ite_false, decide_true, decide_false, Bool.false_eq_true, Nat.zero_add, Nat.reduceAdd, Nat.reduceEqDiff, Nat.reduceLeDiff, reduceIte, List.map_append, List.map_cons, List.map_nil, dinE, dctOf, hd]
  simp
 unfold f__law_line_b2 hbI
 cases ea : aget m r.1 with
 | none =>
  rw [ea] at tin
  have t : (mOr (mTru (mBin (dinE true) (mVar 2) (mVar 1))) (mTru (mCall 2 (m__law_before K c) (mCons (mBin dgetE (mVar 1) (mVar 2)) (mCons (mVar 3) mNil))))) [A, some (.o (.dict (mI m))), some (.p (.int r.1)), some (.p (frD r.2))] = .ok true := by
   unfold mOr
   rw [tin]
   rfl
  exact (if_t t).trans put
 | some f =>
  rw [ea] at tin hd
  have ef : (mBin dgetE (mVar 1) (mVar 2)) [A, some (.o (.dict (mI m))), some (.p (.int r.1)), some (.p (frD r.2))] = .ok (.p (frD f)) := by
   simp only [mSeq, mSet, mRet, mIfS, mVar, mC, mBin, mUn, mCons, mNil, mCall, callR, argsL, argL, argB, Res.bind, Ev.c, retL, retE, mCallB, tupR', lstR', pureL, mTru, truthR, mAnd, mOr, mNot, mAndV, mOrV, mNotV, mRaise, mNext, addE, intE0, negE, lstOf, dat, lenE, eqE, sh_int, eqv_ii, ix_pl2, ix_pl0, ix_pl1, ix_fr0, ix_fr1, ix_t0, ix_t1, ix_t2, List.getElem?_cons_zero, List.getElem?_cons_succ, List.set_cons_zero, List.set_cons_succ, List.length_cons, List.length_nil, List.length_map, List.length_append, if_true, if_false, ite_true, ite_false, decide_true, decide_false, Bool.false_eq_true, Nat.zero_add, Nat.reduceAdd, Nat.reduceEqDiff, Nat.reduceLeDiff, reduceIte, List.map_append, List.map_cons, List.map_nil, dgetE, dctOf, hd, Option.map_some]
  have hl := before_ok K c (gm.g _ f ea).fsz hr.fsz
  have tl : mTru (mCall 2 (m__law_before K c) (mCons (mBin dgetE (mVar 1) (mVar 2)) (mCons (mVar 3) mNil))) [A, some (.o (.dict (mI m))), some (.p (.int r.1)), some (.p (frD r.2))] = .ok (ltF f r.2) := by
   simp only [mTru, mCall, mCons, mNil, ef, mVar, List.getElem?_cons_zero, List.getElem?_cons_succ, List.set_cons_zero, List.set_cons_succ, List.length_cons, List.length_nil, List.length_map, List.length_append, if_true, if_false, ite_true, ite_false, decide_true, decide_false, Bool.false_eq_true, Nat.zero_add, Nat.reduceAdd, Nat.reduceEqDiff, Nat.reduceLeDiff, reduceIte, List.map_append, List.map_cons, List.map_nil, Res.bind, Ev.c, callR, argsL, argL, hl, retE, truthR]
  have t : (mOr (mTru (mBin (dinE true) (mVar 2) (mVar 1))) (mTru (mCall 2 (m__law_before K c) (mCons (mBin dgetE (mVar 1) (mVar 2)) (mCons (mVar 3) mNil))))) [A, some (.o (.dict (mI m))), some (.p (.int r.1)), some (.p (frD r.2))] = .ok (ltF f r.2) := by
   unfold mOr
   rw [tin, bind_ok]
   exact tl
  show _ = some (Out.nx [A, some (.o (.dict (mI (if ltF f r.2 = true then aput m r.1 r.2 else m)))), some (.p (.int r.1)), some (.p (frD r.2))])
  cases e : ltF f r.2 with
  | true => rw [e] at t; rw [if_pos rfl]; exact (if_t t).trans put
  | false => rw [e] at t; rw [if_neg (by decide)]; exact if_f t
theorem jr_loop (K : PySem.W.Frag) (c : Cls) (A : Option L) : ∀ (rs : List Rw) (m : Mi) (r2 r3 : Option L), m.length + rs.length ≤ 2000 → Gj m → (∀ r ∈ rs, GRl r) → ∃ (q2 q3 : Option L), mLoop (mgTup 2 (mgCons (mgName 2) (mgCons (mgName 3) mgNil))) (f__law_line_b2 K c) (rs.map lrD) [A, some (.o (.dict (mI m))), r2, r3] = some (.nx [A, some (.o (.dict (mI (rs.foldl hbI m)))), q2, q3])
 | [], m, r2, r3, _, gm, _ => ⟨r2, r3, rfl⟩
 | r :: rs, m, r2, r3, hl, gm, hr => by
  rw [List.length_cons] at hl
  have hb := jr_b K c A m (by omega) gm r (hr r (.head _))
  have hn := hbI_len m r
  obtain ⟨q2, q3, ih⟩ := jr_loop K c A rs (hbI m r) (some (.p (.int r.1))) (some (.p (frD r.2))) (by omega) (gm.step (hr r (.head _))) fun x hx => hr x (.tail _ hx)
  refine ⟨q2, q3, ?_⟩
  rw [List.map_cons]
  unfold mLoop
  have et : mgTup 2 (mgCons (mgName 2) (mgCons (mgName 3) mgNil)) (lrD r) [A, some (.o (.dict (mI m))), r2, r3] = some [A, some (.o (.dict (mI m))), some (.p (.int r.1)), some (.p (frD r.2))] := rfl
  rw [et]
  dsimp only
  rw [hb]
  exact ih
theorem eq__law_line (K : PySem.W.Frag) (c : Cls) : ∀ ls, m__law_line K c ls = .bad ∨ runF 4 (f__law_line K c) ls = m__law_line K c ls := mOf_eq fun rs h => by
 obtain ⟨hl, hz⟩ := h
 obtain ⟨g1, g2, g3⟩ := fold_ok rs [] gj_nil hz
 rw [List.length_nil, Nat.zero_add] at g2
 obtain ⟨q2, q3, hlp⟩ := jr_loop K c (some (.p (.list (rs.map lrD)))) rs [] none none (by rw [List.length_nil]; omega) gj_nil hz
 refine run_rt ?_
 rw [show startE 4 (eLs rs) = [some (.p (.list (rs.map lrD))), none, none, none] from rfl]
 unfold f__law_line
 refine (seq_nx (set_f (d := .dict (mI [])) rfl)).trans ((seq_nx ((for_l (ds := rs.map lrD) rfl).trans hlp)).trans ?_)
 simp only [frz, List.getElem?_cons_succ, List.getElem?_cons_zero, List.set_cons_succ, List.set_cons_zero]
 unfold hbF
 generalize rs.foldl hbI [] = m at *
 have lk := listK_i m
 have so := sortI_i m (by omega)
 have hit : (mItL (mCallB sortIE (mCons (mCallB listKE (mCons (mVar 1) mNil)) mNil))) [some (.p (.list (rs.map lrD))), some (.p (.dict (mI m))), q2, q3] = .ok ((sortI (m.map (·.1))).map .int) := by
  simp only [mItL, mCallB, mCons, mNil, mVar, List.getElem?_cons_succ, List.getElem?_cons_zero, Res.bind, Ev.c, lk, so, listR]
 have hm : mapO (compItem 1 [1] (mgName 0) mYes (f__law_line_e1 K c) [some (.p (.list (rs.map lrD))), some (.p (.dict (mI m))), q2, q3]) ((sortI (m.map (·.1))).map .int) = some ((sortI (m.map (·.1))).map fun k => lrD (k, (aget m k).getD (0, 1))) := by
  refine mapO_map _ fun k hk => ?_
  obtain ⟨h, e⟩ := line_in k hk
  have hd := dlook_i m k
  rw [e] at hd
  have he : f__law_line_e1 K c [some (.p (.int k)), some (.p (.dict (mI m)))] = .ok (.p (lrD (k, (aget m k).getD (0, 1)))) := by
   rw [e]
   simp only [f__law_line_e1, mSeq, mSet, mRet, mIfS, mVar, mC, mBin, mUn, mCons, mNil, mCall, callR, argsL, argL, argB, Res.bind, Ev.c, retL, retE, mCallB, tupR', lstR', pureL, mTru, truthR, mAnd, mOr, mNot, mAndV, mOrV, mNotV, mRaise, mNext, addE, intE0, negE, lstOf, dat, lenE, eqE, sh_int, eqv_ii, ix_pl2, ix_pl0, ix_pl1, ix_fr0, ix_fr1, ix_t0, ix_t1, ix_t2, List.getElem?_cons_zero, List.getElem?_cons_succ, List.set_cons_zero, List.set_cons_succ, List.length_cons, List.length_nil, List.length_map, List.length_append, if_true, if_false, ite_true, ite_false, decide_true, decide_false, Bool.false_eq_true, Nat.zero_add, Nat.reduceAdd, Nat.reduceEqDiff, Nat.reduceLeDiff, reduceIte, List.map_append, List.map_cons, List.map_nil, dgetE, dctOf, hd, Option.map_some]
   rfl
  simp [compItem, mgName, capE, capO, mYes, he, Ev.c]
 have hc := comp_l (n := 1) (js := [1]) (fi := mItL (mCallB sortIE (mCons (mCallB listKE (mCons (mVar 1) mNil)) mNil))) (tg := mgName 0) (ft := mYes) (fe := f__law_line_e1 K c) (en := [some (.p (.list (rs.map lrD))), some (.p (.dict (mI m))), q2, q3]) hit (by rw [List.length_map, sort_len]; omega) hm
 refine ret_f ?_
 rw [hc]
 unfold lineOf
 rw [List.map_map]
 rfl
theorem jr_good (K : PySem.W.Frag) (c : Cls) {rs : List Rw} (h1 : rs.length < 64) (h2 : ∀ r ∈ rs, GRl r) : m__law_line K c [.p (.list (rs.map lrD))] = .ok (.o (.list ((lineOf (hbF rs)).map lrD))) := mOf_at (a := rs) eLs_inj ⟨h1, h2⟩
def eRT (a : Rw × (Int × Int)) : List L := [.p (lrD a.1), .p (frD a.2)]
theorem eRT_inj (a b : Rw × (Int × Int)) (h : eRT a = eRT b) : a = b := by
 unfold eRT at h
 injection h with h1 h2
 injection h2 with h2 _
 injection h1 with h1
 injection h2 with h2
 exact Prod.ext (lrI h1) (frI h2)
theorem ix_lr0 (r : Rw) : ixE (.p (lrD r)) (.p (.int 0)) = .ok (.p (.int r.1)) := ix_t0 _ _
theorem ix_lr1 (r : Rw) : ixE (.p (lrD r)) (.p (.int 1)) = .ok (.p (frD r.2)) := ix_t1 _ _ _
noncomputable def m__law_value (K : PySem.W.Frag) (c : Cls) : List L → Res L := mOf eRT (fun a => Sz 100 a.1.1 ∧ Good 900 a.1.2 ∧ Good 900 a.2) fun a => .ok (.p (frD (lh a.2 a.1)))
noncomputable def f__law_value (K : PySem.W.Frag) (c : Cls) : MS := (mRet (mCall 2 (m__law_sum K c) (mCons (mCall 2 (m__law_product K c) (mCons (mCallB tupR' (mCons (mBin ixE (mVar 0) (mC (.int 0))) (mCons (mC (.int 1)) mNil))) (mCons (mVar 1) mNil))) (mCons (mBin ixE (mVar 0) (mC (.int 1))) mNil))))
theorem eq__law_value (K : PySem.W.Frag) (c : Cls) : ∀ ls, m__law_value K c ls = .bad ∨ runF 2 (f__law_value K c) ls = m__law_value K c ls := mOf_eq fun a h => by
 obtain ⟨r, t⟩ := a
 obtain ⟨h1, h2, h3⟩ := h
 dsimp only at h1 h2 h3 ⊢
 have p := lprod_ok K c (i := r.1) (h1.mono (by decide)) h3 (by decide)
 have g : Good 1000 (FR.mk (r.1 * t.1) (1 * t.2)) := good_T h1 h3
 have s := lsum_ok K c g h2 (by decide) (by decide)
 refine run_rt ?_
 rw [show startE 2 (eRT (r, t)) = [some (.p (lrD r)), some (.p (frD t))] from rfl]
 unfold f__law_value
 refine ret_p ?_
 simp only [mSeq, mSet, mRet, mIfS, mVar, mC, mBin, mUn, mCons, mNil, mCall, callR, argsL, argL, argB, Res.bind, Ev.c, retL, retE, mCallB, tupR', lstR', pureL, mTru, truthR, mAnd, mOr, mNot, mAndV, mOrV, mNotV, mRaise, mNext, addE, intE0, negE, lstOf, dat, lenE, eqE, sh_int, eqv_ii, ix_pl2, ix_pl0, ix_pl1, ix_fr0, ix_fr1, ix_t0, ix_t1, ix_t2, List.getElem?_cons_zero, List.getElem?_cons_succ, List.set_cons_zero, List.set_cons_succ, List.length_cons, List.length_nil, List.length_map, List.length_append, if_true, if_false, ite_true, ite_false, decide_true, decide_false, Bool.false_eq_true, Nat.zero_add, Nat.reduceAdd, Nat.reduceEqDiff, Nat.reduceLeDiff, reduceIte, List.map_append, List.map_cons, List.map_nil, ix_lr0, ix_lr1, p, s]
 rfl
theorem value_ok (K : PySem.W.Frag) (c : Cls) {r : Rw} {t : Int × Int} (h1 : Sz 100 r.1) (h2 : Good 900 r.2) (h3 : Good 900 t) : m__law_value K c [.p (lrD r), .p (frD t)] = .ok (.p (frD (lh t r))) := mOf_at (a := (r, t)) eRT_inj ⟨h1, h2, h3⟩
noncomputable def m__law_highest (K : PySem.W.Frag) (c : Cls) : List L → Res L := mOf eLT (fun a => a.1 ≠ [] ∧ a.1.length ≤ 1000 ∧ Good 900 a.2 ∧ ∀ r ∈ a.1, Sz 100 r.1 ∧ Good 900 r.2) fun a => .ok (.p (frD (topL a.1 a.2)))
noncomputable def f__law_highest_b1 (K : PySem.W.Frag) (c : Cls) : MS := (mSeq (mSet 4 (mCall 2 (m__law_value K c) (mCons (mVar 3) (mCons (mVar 1) mNil)))) (mIfS (mTru (mCall 2 (m__law_before K c) (mCons (mVar 2) (mCons (mVar 4) mNil)))) (mSet 2 (mVar 4)) mNext))
noncomputable def f__law_highest (K : PySem.W.Frag) (c : Cls) : MS := (mSeq (mSet 2 (mCall 2 (m__law_value K c) (mCons (mBin ixE (mVar 0) (mC (.int 0))) (mCons (mVar 1) mNil)))) (mSeq (mFor (mItL (mSl (mVar 0) (mPt (mC (.int 1))) mNoP)) (mgName 3) (f__law_highest_b1 K c)) (mRet (mVar 2))))
theorem hi_loop (K : PySem.W.Frag) (c : Cls) (A : Option L) {t : Int × Int} (ht : Good 900 t) : ∀ (rs : List Rw) (b : Int × Int) (r3 r4 : Option L), FSz 2000 b → (∀ r ∈ rs, Sz 100 r.1 ∧ Good 900 r.2) → ∃ q3 q4, mLoop (mgName 3) (f__law_highest_b1 K c) (rs.map lrD) [A, some (.p (frD t)), some (.p (frD b)), r3, r4] = some (.nx [A, some (.p (frD t)), some (.p (frD (best b (rs.map (lh t))))), q3, q4])
 | [], b, r3, r4, _, _ => ⟨r3, r4, rfl⟩
 | r :: rs, b, r3, r4, hb, hz => by
  obtain ⟨z1, z2⟩ := hz r (.head _)
  have v := value_ok K c z1 z2 ht
  have gv : FSz 2000 (lh t r) := ((good_P (good_T z1 ht) z2).mono (by decide)).fsz
  have bo := before_ok K c hb gv
  have e1 : (mCall 2 (m__law_value K c) (mCons (mVar 3) (mCons (mVar 1) mNil))) [A, some (.p (frD t)), some (.p (frD b)), some (.p (lrD r)), r4] = .ok (.p (frD (lh t r))) := by
   simp only [mCall, mCons, mNil, mVar, List.getElem?_cons_zero, List.getElem?_cons_succ, List.set_cons_zero, List.set_cons_succ, List.length_cons, List.length_nil, List.length_map, List.length_append, if_true, if_false, ite_true, ite_false, decide_true, decide_false, Bool.false_eq_true, Nat.zero_add, Nat.reduceAdd, Nat.reduceEqDiff, Nat.reduceLeDiff, reduceIte, List.map_append, List.map_cons, List.map_nil, Res.bind, Ev.c, callR, argsL, argL, v, retE]
  have t1 : mTru (mCall 2 (m__law_before K c) (mCons (mVar 2) (mCons (mVar 4) mNil))) [A, some (.p (frD t)), some (.p (frD b)), some (.p (lrD r)), some (.p (frD (lh t r)))] = .ok (ltF b (lh t r)) := by
   simp only [mTru, mCall, mCons, mNil, mVar, List.getElem?_cons_zero, List.getElem?_cons_succ, List.set_cons_zero, List.set_cons_succ, List.length_cons, List.length_nil, List.length_map, List.length_append, if_true, if_false, ite_true, ite_false, decide_true, decide_false, Bool.false_eq_true, Nat.zero_add, Nat.reduceAdd, Nat.reduceEqDiff, Nat.reduceLeDiff, reduceIte, List.map_append, List.map_cons, List.map_nil, Res.bind, Ev.c, callR, argsL, argL, bo, retE, truthR]
  have hb1 : f__law_highest_b1 K c [A, some (.p (frD t)), some (.p (frD b)), some (.p (lrD r)), r4] = some (.nx [A, some (.p (frD t)), some (.p (frD (if ltF b (lh t r) = true then lh t r else b))), some (.p (lrD r)), some (.p (frD (lh t r)))]) := by
   unfold f__law_highest_b1
   refine (seq_nx (set_p e1)).trans ?_
   simp only [List.set_cons_succ, List.set_cons_zero]
   cases e : ltF b (lh t r) with
   | true => rw [e] at t1; rw [if_pos rfl]; exact (if_t t1).trans rfl
   | false => rw [e] at t1; rw [if_neg (by decide)]; exact if_f t1
  obtain ⟨q3, q4, ih⟩ := hi_loop K c A ht rs (if ltF b (lh t r) = true then lh t r else b) (some (.p (lrD r))) (some (.p (frD (lh t r)))) (by split; exact gv; exact hb) fun x hx => hz x (.tail _ hx)
  refine ⟨q3, q4, ?_⟩
  rw [List.map_cons]
  unfold mLoop
  simp only [mgName, List.set_cons_succ, List.set_cons_zero]
  rw [hb1]
  exact ih
theorem cut_tail (x : D) (xs : List D) : M.cutD (x :: xs) (some 1) none = xs := by
 unfold M.cutD
 rw [show HT.sIx (x :: xs).length 0 (some 1) = min 1 (x :: xs).length from HT.sIx_nat _ _ 1, HT.sIx_none]
 have : min 1 (x :: xs).length = 1 := by rw [List.length_cons]; omega
 rw [this, List.length_cons]
 show xs.take (xs.length + 1 - 1) = xs
 rw [Nat.add_sub_cancel, List.take_length]
theorem eq__law_highest (K : PySem.W.Frag) (c : Cls) : ∀ ls, m__law_highest K c ls = .bad ∨ runF 5 (f__law_highest K c) ls = m__law_highest K c ls := mOf_eq fun a h => by
 obtain ⟨rs, t⟩ := a
 obtain ⟨h0, hl, ht, hz⟩ := h
 dsimp only at h0 hl ht hz ⊢
 cases rs with
 | nil => exact absurd rfl h0
 | cons r rs =>
  obtain ⟨z1, z2⟩ := hz r (.head _)
  have v := value_ok K c z1 z2 ht
  have gv : FSz 2000 (lh t r) := ((good_P (good_T z1 ht) z2).mono (by decide)).fsz
  obtain ⟨q3, q4, hlp⟩ := hi_loop K c (some (.p (.list ((r :: rs).map lrD)))) ht rs (lh t r) none none gv fun x hx => hz x (.tail _ hx)
  have eb : topL (r :: rs) t = best (lh t r) (rs.map (lh t)) := by
   show best (if ltF (lh t r) (lh t r) = true then lh t r else lh t r) (rs.map (lh t)) = _
   rw [ite_self]
  rw [eb]
  refine run_rt ?_
  rw [show startE 5 (eLT (r :: rs, t)) = [some (.p (.list ((r :: rs).map lrD))), some (.p (frD t)), none, none, none] from rfl]
  unfold f__law_highest
  have i0 : ixE (.p (.list ((r :: rs).map lrD))) (.p (.int 0)) = .ok (.p (lrD r)) := by simp [ixE, seqOf, at0]
  have e1 : (mCall 2 (m__law_value K c) (mCons (mBin ixE (mVar 0) (mC (.int 0))) (mCons (mVar 1) mNil))) [some (.p (.list ((r :: rs).map lrD))), some (.p (frD t)), none, none, none] = .ok (.p (frD (lh t r))) := by
   simp only [mCall, mCons, mNil, mBin, mVar, mC, List.getElem?_cons_succ, List.getElem?_cons_zero, Res.bind, Ev.c, i0, callR, argsL, argL, List.length_cons, List.length_nil]
   rw [if_pos (by decide), v]
   rfl
  have hit : (mItL (mSl (mVar 0) (mPt (mC (.int 1))) mNoP)) [some (.p (.list ((r :: rs).map lrD))), some (.p (frD t)), some (.p (frD (lh t r))), none, none] = .ok (rs.map lrD) := by
   have ct := cut_tail (lrD r) (rs.map lrD)
   simp only [mItL, mSl, mPt, mNoP, mVar, mC, List.getElem?_cons_succ, List.getElem?_cons_zero, Res.bind, Ev.c, lstOf, List.map_cons, ct, listR]
  refine (seq_nx (set_p e1)).trans ((seq_nx ((for_l hit).trans hlp)).trans ?_)
  rfl
theorem highest_ok (K : PySem.W.Frag) (c : Cls) {rs : List Rw} {t : Int × Int} (h0 : rs ≠ []) (hl : rs.length ≤ 1000) (ht : Good 900 t) (hz : ∀ r ∈ rs, Sz 100 r.1 ∧ Good 900 r.2) : m__law_highest K c [.p (.list (rs.map lrD)), .p (frD t)] = .ok (.p (frD (topL rs t))) := mOf_at (a := (rs, t)) eLT_inj ⟨h0, hl, ht, hz⟩
theorem can_lr (p : Rw) : PyData.canLay0 (lrD p) = true := by simp [lrD, frD, PyData.canLay0, PyData.canLayAll0]
theorem dep_lr (p : Rw) : PyData.depth (lrD p) ≤ 9 := by simp [lrD, frD, PyData.depth, PyData.depthAll]
theorem sh_lrs (ps : List Rw) : SeqAt.shaped (.list (ps.map lrD)) = true := sh_list lrD can_lr dep_lr ps
def eLL (a : List Rw × List Rw) : List L := [.p (.list (a.1.map lrD)), .p (.list (a.2.map lrD))]
theorem eLL_inj (a b : List Rw × List Rw) (h : eLL a = eLL b) : a = b := by
 unfold eLL at h
 injection h with h1 h2
 injection h2 with h2 _
 injection h1 with h1
 injection h1 with h1
 injection h2 with h2
 injection h2 with h2
 exact Prod.ext (lrsI h1) (lrsI h2)
noncomputable def m__law_is_line (K : PySem.W.Frag) (c : Cls) : List L → Res L := mOf eLL (fun a => a.1 = a.2 ∧ ∀ r ∈ a.1, FR.Fr r.2 ∧ Sz 8000 r.2.2) fun _ => .ok (.p (.bool true))
noncomputable def f__law_is_line_b1 (K : PySem.W.Frag) (c : Cls) : MS := (mIfS (mOr (mNot (mTru (mUn (isiE K (.type "tuple")) (mVar 2)))) (mOr (mNot (mTru (mCall 1 (m__law_whole K c) (mCons (mBin ixE (mVar 2) (mC (.int 0))) mNil)))) (mNot (mTru (mCall 1 (m__law_is_fraction K c) (mCons (mBin ixE (mVar 2) (mC (.int 1))) mNil)))))) (mRet (mC (.bool false))) mNext)
noncomputable def f__law_is_line (K : PySem.W.Frag) (c : Cls) : MS := (mSeq (mIfS (mOr (mNot (mTru (mUn (isiE K (.type "list")) (mVar 0)))) (mTru (mBin (eqE true) (mVar 0) (mVar 1)))) (mRet (mC (.bool false))) mNext) (mSeq (mFor (mItL (mVar 0)) (mgName 2) (f__law_is_line_b1 K c)) (mRet (mC (.bool true)))))
theorem il_loop (K : PySem.W.Frag) (c : Cls) (hk : KitF K c) (A B : Option L) : ∀ (rs : List Rw) (r : Option L), (∀ r ∈ rs, FR.Fr r.2 ∧ Sz 8000 r.2.2) → ∃ q, mLoop (mgName 2) (f__law_is_line_b1 K c) (rs.map lrD) [A, B, r] = some (.nx [A, B, q])
 | [], r, _ => ⟨r, rfl⟩
 | x :: rs, r, h => by
  obtain ⟨q, ih⟩ := il_loop K c hk A B rs (some (.p (lrD x))) fun y hy => h y (.tail _ hy)
  have l := isf_ok K c (h x (.head _)).1 (h x (.head _)).2
  have w := whole_ok K c x.1
  have i1 : isiE K (.type "tuple") (.p (lrD x)) = .ok (.p (.bool true)) := by simp [isiE, dat, lrD, tyD, hk.tt]
  have t : (mOr (mNot (mTru (mUn (isiE K (.type "tuple")) (mVar 2)))) (mOr (mNot (mTru (mCall 1 (m__law_whole K c) (mCons (mBin ixE (mVar 2) (mC (.int 0))) mNil)))) (mNot (mTru (mCall 1 (m__law_is_fraction K c) (mCons (mBin ixE (mVar 2) (mC (.int 1))) mNil)))))) [A, B, some (.p (lrD x))] = .ok false := by
   simp only [mOr, mNot, mTru, mUn, mBin, mCall, mCons, mNil, mVar, mC, callR, argsL, argL, List.getElem?_cons_zero, List.getElem?_cons_succ, List.set_cons_zero, List.set_cons_succ, List.length_cons, List.length_nil, List.length_map, List.length_append, if_true, if_false, ite_true, ite_false, decide_true, decide_false, Bool.false_eq_true, Nat.zero_add, Nat.reduceAdd, Nat.reduceEqDiff, Nat.reduceLeDiff, reduceIte, List.map_append, List.map_cons, List.map_nil, Res.bind, Ev.c, i1, ix_lr0, ix_lr1, w, l, retE, truthR, Bool.not_true]
  refine ⟨q, ?_⟩
  rw [List.map_cons]
  unfold mLoop
  simp only [mgName, List.set_cons_succ, List.set_cons_zero]
  rw [show f__law_is_line_b1 K c [A, B, some (.p (lrD x))] = some (.nx [A, B, some (.p (lrD x))]) from if_f t]
  exact ih
theorem eq__law_is_line (K : PySem.W.Frag) (c : Cls) (hk : KitF K c) : ∀ ls, m__law_is_line K c ls = .bad ∨ runF 3 (f__law_is_line K c) ls = m__law_is_line K c ls := mOf_eq fun a h => by
 obtain ⟨rs, ds⟩ := a
 obtain ⟨e, hz⟩ := h
 dsimp only at e hz ⊢
 subst e
 have i1 : isiE K (.type "list") (.p (.list (rs.map lrD))) = .ok (.p (.bool true)) := by simp [isiE, dat, tyD, hk.ll]
 have i2 : eqE true (.p (.list (rs.map lrD))) (.p (.list (rs.map lrD))) = .ok (.p (.bool false)) := eqE_same rfl rfl (sh_lrs _) true
 obtain ⟨q, hlp⟩ := il_loop K c hk (some (.p (.list (rs.map lrD)))) (some (.p (.list (rs.map lrD)))) rs none hz
 refine run_rt ?_
 rw [show startE 3 (eLL (rs, rs)) = [some (.p (.list (rs.map lrD))), some (.p (.list (rs.map lrD))), none] from rfl]
 have t1 : (mOr (mNot (mTru (mUn (isiE K (.type "list")) (mVar 0)))) (mTru (mBin (eqE true) (mVar 0) (mVar 1)))) [some (.p (.list (rs.map lrD))), some (.p (.list (rs.map lrD))), none] = .ok false := by
  simp only [mOr, mNot, mTru, mUn, mBin, mVar, List.getElem?_cons_zero, List.getElem?_cons_succ, List.set_cons_zero, List.set_cons_succ, List.length_cons, List.length_nil, List.length_map, List.length_append, if_true, if_false, ite_true, ite_false, decide_true, decide_false, Bool.false_eq_true, Nat.zero_add, Nat.reduceAdd, Nat.reduceEqDiff, Nat.reduceLeDiff, reduceIte, List.map_append, List.map_cons, List.map_nil, Res.bind, Ev.c, i1, i2, truthR, Bool.not_true]
 unfold f__law_is_line
 exact (seq_nx (if_f t1)).trans ((seq_nx ((for_l (ds := rs.map lrD) rfl).trans hlp)).trans (ret_p rfl))
theorem isl_ok (K : PySem.W.Frag) (c : Cls) {rs : List Rw} (hz : ∀ r ∈ rs, FR.Fr r.2 ∧ Sz 8000 r.2.2) : m__law_is_line K c [.p (.list (rs.map lrD)), .p (.list (rs.map lrD))] = .ok (.p (.bool true)) := mOf_at (a := (rs, rs)) eLL_inj ⟨rfl, hz⟩
def Rise (rs : List Rw) : Prop := rs.Pairwise fun a b => a.1 < b.1
theorem lh_fr {t : Int × Int} {r : Rw} (ht : 1 ≤ t.2) (hb : 1 ≤ r.2.2) : FR.Fr (lh t r) := hP_fr (af_T (i := r.1) (AF.refl ht)).a hb
structure IsT (rs : List Rw) (t h : Int × Int) : Prop where
 at' : ∃ r ∈ rs, lh t r = h
 le : ∀ r ∈ rs, leF (lh t r) h
theorem topL_is {rs : List Rw} {t : Int × Int} (h0 : rs ≠ []) (ht : 1 ≤ t.2) (hb : ∀ r ∈ rs, 1 ≤ r.2.2) : IsT rs t (topL rs t) := by
 have hh : rs.headD (0, (0, 1)) ∈ rs := head_mem _ h0
 refine ⟨?_, fun r hr => ?_⟩
 ·rcases N.best_mem (rs.map (lh t)) (lh t (rs.headD (0, (0, 1)))) with z | z
  ·exact ⟨_, hh, z.symm⟩
  ·obtain ⟨r, hr, e⟩ := List.mem_map.mp z
   exact ⟨r, hr, e⟩
 ·exact (best_ge (rs.map (lh t)) (lh t (rs.headD (0, (0, 1)))) (lh_fr ht (hb _ hh)).pos (fun x hx => by
   obtain ⟨r, hr, rfl⟩ := List.mem_map.mp hx
   exact (lh_fr ht (hb r hr)).pos)).2.1 _ (List.mem_map.mpr ⟨r, hr, rfl⟩)
theorem rise_ext : ∀ {fs gs : List Rw}, Rise fs → Rise gs → (∀ r, r ∈ fs ↔ r ∈ gs) → fs = gs
 | [], [], _, _, _ => rfl
 | [], g :: gs, _, _, h => nomatch (h g).mpr (.head _)
 | f :: fs, [], _, _, h => nomatch (h f).mp (.head _)
 | f :: fs, g :: gs, hf, hg, h => by
  obtain ⟨f1, f2⟩ := List.pairwise_cons.mp hf
  obtain ⟨g1, g2⟩ := List.pairwise_cons.mp hg
  have e : f = g := by
   rcases List.mem_cons.mp ((h f).mp (.head _)) with z | z
   ·exact z
   ·rcases List.mem_cons.mp ((h g).mpr (.head _)) with y | y
    ·exact y.symm
    ·have := g1 f z
     have := f1 g y
     omega
  subst e
  refine congrArg (f :: ·) (rise_ext f2 g2 fun r => ⟨fun hr => ?_, fun hr => ?_⟩)
  ·rcases List.mem_cons.mp ((h r).mp (.tail _ hr)) with z | z
   ·have := f1 r hr
    rw [z] at this
    omega
   ·exact z
  ·rcases List.mem_cons.mp ((h r).mpr (.tail _ hr)) with z | z
   ·have := g1 r hr
    rw [z] at this
    omega
   ·exact z
theorem line_half {rs gs : List Rw} (hz : ∀ r ∈ rs, GRl r) (hg : ∀ r ∈ gs, GRl r) (h : ∀ r, r ∈ rs ↔ r ∈ gs) {r : Rw} (hr : r ∈ lineOf (hbF rs)) : r ∈ lineOf (hbF gs) := by
 obtain ⟨o1, _, _⟩ := fold_ok rs [] gj_nil hz
 obtain ⟨p1, _, _⟩ := fold_ok gs [] gj_nil hg
 have e := lineOf_get hr
 have hm : (r.1, r.2) ∈ rs := (fold_from rs e).elim (fun z => nomatch z) id
 obtain ⟨h1, e1, l1⟩ := fold_at gs gj_nil hg (r.1, r.2) ((h _).mp hm)
 have hm1 : (r.1, h1) ∈ gs := (fold_from gs e1).elim (fun z => nomatch z) id
 obtain ⟨h2, e2, l2⟩ := fold_at rs gj_nil hz (r.1, h1) ((h _).mpr hm1)
 have e2' : aget (hbF rs) r.1 = some h2 := e2
 rw [e] at e2'
 cases e2'
 have : h1 = r.2 := leF_eq (p1.g _ _ e1).2.1 (o1.g _ _ e).2.1 l2 l1
 rw [this] at e1
 exact lineOf_mem e1
theorem line_perm {rs gs : List Rw} (hz : ∀ r ∈ rs, GRl r) (hg : ∀ r ∈ gs, GRl r) (h : ∀ r, r ∈ rs ↔ r ∈ gs) : lineOf (hbF rs) = lineOf (hbF gs) :=
 rise_ext (lineOf_ok (fold_ok rs [] gj_nil hz).1).2.2 (lineOf_ok (fold_ok gs [] gj_nil hg).1).2.2 fun _ => ⟨line_half hz hg h, line_half hg hz fun r => (h r).symm⟩
def onlyB (n : Nat) : List D := (List.range 11).map fun (k : Nat) => PyData.bool (decide (k = 0 ∨ k = n))
theorem sh_only (n : Nat) : SeqAt.shaped (.list (onlyB n)) = true := sh_list (fun (k : Nat) => PyData.bool (decide (k = 0 ∨ k = n))) (fun _ => rfl) (fun _ => Nat.zero_le _) _
noncomputable def m__law_marks (K : PySem.W.Frag) (c : Cls) : List L → Res L := mOf (fun _ : Unit => [.x c.NoRoof]) (fun _ => True) fun _ => .ok (.o (.list (onlyB 2)))
noncomputable def f__law_marks (K : PySem.W.Frag) (c : Cls) : MS := (mSeq (mSet 1 (mCallB lstR' (mCons (mUn (isiXE K (.type "ValueError")) (mVar 0)) (mCons (mUn (isiXE K (.ref c.NoFraction)) (mVar 0)) (mCons (mUn (isiXE K (.ref c.NoRoof)) (mVar 0)) (mCons (mUn (isiXE K (.ref c.TooSteep)) (mVar 0)) mNil)))))) (mSeq (mSet 1 (mBin addE (mVar 1) (mCallB lstR' (mCons (mUn (isiXE K (.ref c.TooMany)) (mVar 0)) (mCons (mUn (isiXE K (.ref c.NoNumber)) (mVar 0)) (mCons (mUn (isiXE K (.ref c.NoCorner)) (mVar 0)) mNil)))))) (mRet (mBin addE (mVar 1) (mCallB lstR' (mCons (mUn (isiXE K (.ref c.NoDealing)) (mVar 0)) (mCons (mUn (isiXE K (.ref c.NoRow)) (mVar 0)) (mCons (mUn (isiXE K (.ref c.NoText)) (mVar 0)) (mCons (mUn (isiXE K (.ref c.NoName)) (mVar 0)) mNil)))))))))
theorem isx {K : PySem.W.Frag} {C : Addr} {v : Value} {b : Bool} (h : PySem.W.ExcK K C) (e : PySem.W.kitOne K (.ref C) v = some b) : isiXE K v (.x C) = .ok (.p (.bool b)) := by
 unfold isiXE
 dsimp only
 rw [if_pos h, e]
theorem eq__law_marks (K : PySem.W.Frag) (c : Cls) (hk : KitF K c) : ∀ ls, m__law_marks K c ls = .bad ∨ runF 2 (f__law_marks K c) ls = m__law_marks K c ls := mOf_eq fun _ _ => by
 have a0 := isx hk.nx hk.nv
 have a1 := isx hk.nx hk.nn
 have b0 := isx hk.nx hk.n0
 have b1 := isx hk.nx hk.n1
 have b2 := isx hk.nx hk.n2
 have b3 := isx hk.nx hk.n3
 have b4 := isx hk.nx hk.n4
 have b5 := isx hk.nx hk.n5
 have b6 := isx hk.nx hk.n6
 have b7 := isx hk.nx hk.n7
 have b8 := isx hk.nx hk.n8
 refine run_rt ?_
 rw [show startE 2 [.x c.NoRoof] = [some (.x c.NoRoof), none] from rfl]
 unfold f__law_marks
 refine (seq_nx (set_f (d := .list [.bool true, .bool false, .bool true, .bool false]) ?_)).trans ((seq_nx (set_f (d := .list [.bool true, .bool false, .bool true, .bool false, .bool false, .bool false, .bool false]) ?_)).trans (ret_f (d := .list (onlyB 2)) ?_))
 ·simp only [mSeq, mSet, mRet, mIfS, mVar, mC, mBin, mUn, mCons, mNil, mCall, callR, argsL, argL, argB, Res.bind, Ev.c, retL, retE, mCallB, tupR', lstR', pureL, mTru, truthR, mAnd, mOr, mNot, mAndV, mOrV, mNotV, mRaise, mNext, addE, intE0, negE, lstOf, dat, lenE, eqE, sh_int, eqv_ii, ix_pl2, ix_pl0, ix_pl1, ix_fr0, ix_fr1, ix_t0, ix_t1, ix_t2, List.getElem?_cons_zero, List.getElem?_cons_succ, List.set_cons_zero, List.set_cons_succ, List.length_cons, List.length_nil, List.length_map, List.length_append, if_true, if_false, ite_true, ite_false, decide_true, decide_false, Bool.false_eq_true, Nat.zero_add, Nat.reduceAdd, Nat.reduceEqDiff, Nat.reduceLeDiff, reduceIte, List.map_append, List.map_cons, List.map_nil, a0, b0, a1, b1]
 ·simp only [mSeq, mSet, mRet, mIfS, mVar, mC, mBin, mUn, mCons, mNil, mCall, callR, argsL, argL, argB, Res.bind, Ev.c, retL, retE, mCallB, tupR', lstR', pureL, mTru, truthR, mAnd, mOr, mNot, mAndV, mOrV, mNotV, mRaise, mNext, addE, intE0, negE, lstOf, dat, lenE, eqE, sh_int, eqv_ii, ix_pl2, ix_pl0, ix_pl1, ix_fr0, ix_fr1, ix_t0, ix_t1, ix_t2, List.getElem?_cons_zero, List.getElem?_cons_succ, List.set_cons_zero, List.set_cons_succ, List.length_cons, List.length_nil, List.length_map, List.length_append, if_true, if_false, ite_true, ite_false, decide_true, decide_false, Bool.false_eq_true, Nat.zero_add, Nat.reduceAdd, Nat.reduceEqDiff, Nat.reduceLeDiff, reduceIte, List.map_append, List.map_cons, List.map_nil, b2, b3, b4]
  rfl
 ·simp only [mSeq, mSet, mRet, mIfS, mVar, mC, mBin, mUn, mCons, mNil, mCall, callR, argsL, argL, argB, Res.bind, Ev.c, retL, retE, mCallB, tupR', lstR', pureL, mTru, truthR, mAnd, mOr, mNot, mAndV, mOrV, mNotV, mRaise, mNext, addE, intE0, negE, lstOf, dat, lenE, eqE, sh_int, eqv_ii, ix_pl2, ix_pl0, ix_pl1, ix_fr0, ix_fr1, ix_t0, ix_t1, ix_t2, List.getElem?_cons_zero, List.getElem?_cons_succ, List.set_cons_zero, List.set_cons_succ, List.length_cons, List.length_nil, List.length_map, List.length_append, if_true, if_false, ite_true, ite_false, decide_true, decide_false, Bool.false_eq_true, Nat.zero_add, Nat.reduceAdd, Nat.reduceEqDiff, Nat.reduceLeDiff, reduceIte, List.map_append, List.map_cons, List.map_nil, b5, b6, b7, b8]
  rfl
theorem marks_ok (K : PySem.W.Frag) (c : Cls) : m__law_marks K c [.x c.NoRoof] = .ok (.o (.list (onlyB 2))) := mOf_at (a := ()) (fun _ _ _ => rfl) trivial
noncomputable def m__law_only (K : PySem.W.Frag) (c : Cls) : List L → Res L := mOf (fun i : Int => [.p (.int i)]) (fun i => i = 2) fun _ => .ok (.o (.list (onlyB 2)))
noncomputable def f__law_only_e1 (K : PySem.W.Frag) (c : Cls) : En → Res Ev := (mBin (inE false) (mVar 0) (mCallB tupR' (mCons (mC (.int 0)) (mCons (mVar 1) mNil))))
noncomputable def f__law_only (K : PySem.W.Frag) (c : Cls) : MS := (mRet (mComp 1 [0] (mItA rng1R (mCons (mC (.int 11)) mNil)) (mgName 0) mYes (f__law_only_e1 K c)))
theorem eq__law_only (K : PySem.W.Frag) (c : Cls) : ∀ ls, m__law_only K c ls = .bad ∨ runF 1 (f__law_only K c) ls = m__law_only K c ls := mOf_eq fun n h => by
 subst h
 have hm : mapO (compItem 1 [0] (mgName 0) mYes (f__law_only_e1 K c) [some (.p (.int 2))]) ((List.range 11).map fun (k : Nat) => PyData.int (0 + (k : Int))) = some ((List.range 11).map fun (k : Nat) => PyData.bool (decide (k = 0 ∨ k = 2))) := mapO_map (enc := fun (k : Nat) => PyData.int (0 + (k : Int))) (List.range 11) (fun k hk => by
  have e : (List.any [PyData.int 0, .int 2] fun e => PyData.eqv e (.int (0 + (k : Int)))) = decide (k = 0 ∨ k = 2) := by
   simp [eqv_ii]
   rw [Bool.eq_iff_iff]
   simp
   omega
  simp [compItem, mgName, capE, capO, mYes, f__law_only_e1, mBin, mVar, mC, mCallB, mCons, mNil, tupR', pureL, Res.bind, Ev.c, inE, seqOf, flatD]
  simp at e
  exact e)
 have hr : (mItA rng1R (mCons (mC (.int 11)) mNil)) [some (.p (.int 2))] = .ok ((List.range 11).map fun (k : Nat) => PyData.int (0 + (k : Int))) := rfl
 refine run_rt ?_
 rw [show startE 1 [.p (.int 2)] = [some (.p (.int 2))] from rfl]
 unfold f__law_only
 exact ret_f (comp_l (n := 1) (js := [0]) hr (by rw [List.length_map, List.length_range]; decide) hm)
theorem only_ok (K : PySem.W.Frag) (c : Cls) : m__law_only K c [.p (.int 2)] = .ok (.o (.list (onlyB 2))) := mOf_at (a := 2) (fun a b h => by injection h with h _; injection h with h; injection h) rfl
theorem try_ex {K : PySem.W.Frag} {RE C : Addr} {i : Nat} {f fh : MS} {en e e' : En} (h : f en = some (.ex C e)) (hr : PySem.W.exmOne K (.ref C) (.ref RE) = some true) (h2 : fh (e.set i (some (.x C))) = some (.nx e')) : mTry K RE i f fh en = some (.nx (e'.set i none)) := by
 unfold mTry
 rw [h]
 dsimp only
 rw [if_pos hr, h2]
noncomputable def m__law_refused (K : PySem.W.Frag) (c : Cls) : List L → Res L := mOf (fun _ : Unit => []) (fun _ => True) fun _ => .ok (.o (.list (onlyB 2)))
noncomputable def f__law_refused (K : PySem.W.Frag) (c : Cls) : MS := (mSeq (mSet 0 (mCallB lstR' mNil)) (mSeq (mTry K c.RoofError 1 (mDrop (mCall 1 (m_line_of K c) (mCons (mCallB lstR' mNil) mNil))) (mSet 0 (mCall 1 (m__law_marks K c) (mCons (mVar 1) mNil)))) (mRet (mVar 0))))
theorem eq__law_refused (K : PySem.W.Frag) (c : Cls) (hk : KitF K c) : ∀ ls, m__law_refused K c ls = .bad ∨ runF 2 (f__law_refused K c) ls = m__law_refused K c ls := mOf_eq fun _ _ => by
 have hn := lo_nil K c
 have hm := marks_ok K c
 have e1 : (mDrop (mCall 1 (m_line_of K c) (mCons (mCallB lstR' mNil) mNil))) [some (.o (.list [])), none] = some (.ex c.NoRoof [some (.o (.list [])), none]) := by
  simp only [mDrop, mCallB, lstR', pureL, mCall, mCons, mNil, mVar, mC, List.getElem?_cons_zero, List.getElem?_cons_succ, List.set_cons_zero, List.set_cons_succ, List.length_cons, List.length_nil, List.length_map, List.length_append, if_true, if_false, ite_true, ite_false, decide_true, decide_false, Bool.false_eq_true, Nat.zero_add, Nat.reduceAdd, Nat.reduceEqDiff, Nat.reduceLeDiff, reduceIte, List.map_append, List.map_cons, List.map_nil, Res.bind, Ev.c, callR, argsL, argL, argB, hn]
 have e2 : (mSet 0 (mCall 1 (m__law_marks K c) (mCons (mVar 1) mNil))) [some (.o (.list [])), some (.x c.NoRoof)] = some (.nx [some (.o (.list (onlyB 2))), some (.x c.NoRoof)]) := set_f (by simp only [mCall, mCons, mNil, mVar, mC, List.getElem?_cons_zero, List.getElem?_cons_succ, List.set_cons_zero, List.set_cons_succ, List.length_cons, List.length_nil, List.length_map, List.length_append, if_true, if_false, ite_true, ite_false, decide_true, decide_false, Bool.false_eq_true, Nat.zero_add, Nat.reduceAdd, Nat.reduceEqDiff, Nat.reduceLeDiff, reduceIte, List.map_append, List.map_cons, List.map_nil, Res.bind, Ev.c, callR, argsL, argL, argB, hm, retE])
 refine run_rt ?_
 rw [show startE 2 [] = [none, none] from rfl]
 unfold f__law_refused
 refine (seq_nx (set_f (d := .list []) rfl)).trans ((seq_nx (try_ex e1 hk.nr e2)).trans ?_)
 rfl
theorem refused_ok (K : PySem.W.Frag) (c : Cls) : m__law_refused K c [] = .ok (.o (.list (onlyB 2))) := mOf_at (a := ()) (fun _ _ _ => rfl) trivial
theorem cut_ints (vs : List Int) (a b : Nat) : ∃ cs : List Int, M.cutD (vs.map .int) (some (a : Int)) (some (b : Int)) = cs.map .int ∧ (∀ x ∈ cs, x ∈ vs) ∧ cs.length ≤ b := by
 refine ⟨(vs.drop (HT.sIx vs.length 0 (some (a : Int)))).take (HT.sIx vs.length vs.length (some (b : Int)) - HT.sIx vs.length 0 (some (a : Int))), ?_, fun x hx => List.mem_of_mem_drop (List.mem_of_mem_take hx), ?_⟩
 ·unfold M.cutD
  rw [List.length_map, List.map_take, List.map_drop]
 ·rw [List.length_take, HT.sIx_nat]
  omega
noncomputable def f_law (K : PySem.W.Frag) (c : Cls) : MS := (mSeq (mSet 1 (mCall 1 (m__law_rows K c) (mCons (mSl (mVar 0) (mPt (mC (.int 1))) (mPt (mC (.int 61)))) mNil))) (mSeq (mIfS (mTru (mBin (eqE true) (mCall 0 (m__law_refused K c) mNil) (mCall 1 (m__law_only K c) (mCons (mC (.int 2)) mNil)))) (mRet (mC (.bool false))) mNext) (mSeq (mIfS (mTru (mBin (eqE false) (mCallB lenE (mCons (mVar 1) mNil)) (mC (.int 0)))) (mSet 1 (mCallB lstR' (mCons (mCallB tupR' (mCons (mC (.int 3)) (mCons (mCall 2 (m__law_number K c) (mCons (mCall 2 (m__law_cell_at K c) (mCons (mVar 0) (mCons (mC (.int 0)) mNil))) (mCons (mC (.int 50)) mNil))) mNil))) mNil))) mNext) (mSeq (mSet 2 (mCall 1 (m__law_line K c) (mCons (mVar 1) mNil))) (mSeq (mSet 3 (mCallB listE (mCons (mVar 1) mNil))) (mSeq (mSet 4 (mCall 1 (m_line_of K c) (mCons (mVar 3) mNil))) (mSeq (mIfS (mOr (mNot (mTru (mCall 2 (m__law_is_line K c) (mCons (mVar 4) (mCons (mVar 2) mNil))))) (mTru (mBin (eqE true) (mVar 3) (mVar 1)))) (mRet (mC (.bool false))) mNext) (mSeq (mSet 5 (mCall 2 (m__law_number K c) (mCons (mCall 2 (m__law_cell_at K c) (mCons (mVar 0) (mCons (mC (.int 0)) mNil))) (mCons (mC (.int 40)) mNil)))) (mSeq (mSet 6 (mCall 2 (m_line_height K c) (mCons (mVar 4) (mCons (mVar 5) mNil)))) (mSeq (mIfS (mOr (mNot (mTru (mCall 1 (m__law_is_fraction K c) (mCons (mVar 6) mNil)))) (mOr (mTru (mBin (eqE true) (mVar 6) (mCall 2 (m__law_highest K c) (mCons (mVar 2) (mCons (mVar 5) mNil))))) (mTru (mBin (eqE true) (mVar 4) (mVar 2))))) (mRet (mC (.bool false))) mNext) (mSeq (mClear 4) (mSeq (mReverse 3) (mRet (mCall 2 (m__law_is_line K c) (mCons (mCall 1 (m_line_of K c) (mCons (mVar 3) mNil)) (mCons (mVar 2) mNil))))))))))))))))
noncomputable def m_law (K : PySem.W.Frag) (c : Cls) (ls : List L) : Res L := runF 7 (f_law K c) ls
theorem eq_law (K : PySem.W.Frag) (c : Cls) : ∀ ls, m_law K c ls = .bad ∨ runF 7 (f_law K c) ls = m_law K c ls := fun _ => .inr rfl
theorem fl_lrs (xs : List Rw) : flatL (.o (.list (xs.map lrD))) = true := by unfold flatL; exact lfA_map lrD (fun r => by simp [lrD, frD, lfD, lfA]) _
theorem call1f {m : List L → Res L} {f : En → Res Ev} {en : En} {a r : D} (h : f en = .ok (.f a)) (hm : m [.p a] = .ok (.o r)) : mCall 1 m (mCons f mNil) en = .ok (.f r) := by
 simp only [mCall, mCons, mNil, h, List.getElem?_cons_zero, List.getElem?_cons_succ, List.set_cons_zero, List.set_cons_succ, List.length_cons, List.length_nil, List.length_map, List.length_append, if_true, if_false, ite_true, ite_false, decide_true, decide_false, Bool.false_eq_true, Nat.zero_add, Nat.reduceAdd, Nat.reduceEqDiff, Nat.reduceLeDiff, reduceIte, List.map_append, List.map_cons, List.map_nil, Res.bind, Ev.c, callR, argsL, argL, hm, retE]
theorem grl_of {r : Rw} (h : GRw r) : GRl r := ⟨h.1.mono (by decide), h.2.f, h.2.t.mono (by decide), h.2.b.mono (by decide)⟩
theorem law_ok (K : PySem.W.Frag) (c : Cls) (hk : KitF K c) (ns : List Int) (hn : ns.length ≤ 63) : m_law K c [.p (.list (ns.map .int))] = .ok (.p (.bool true)) := by
 have c0 : m__law_cell_at K c [.p (.list (ns.map .int)), .p (.int 0)] = _ := cell_ok K c ns 0
 generalize ns.getD 0 0 = cell at c0
 obtain ⟨cs, hcs, hm, hcl⟩ := cut_ints ns 1 61
 have hcs' : M.cutD (ns.map .int) (some 1) (some 61) = cs.map .int := hcs
 obtain ⟨r0, gr, rl, hro⟩ := rows_ok K c cs (by omega)
 obtain ⟨x, gx, ex⟩ := number_ok K c cell (k := 50) (by decide) (by decide)
 obtain ⟨t, gt, et⟩ := number_ok K c cell (k := 40) (by decide) (by decide)
 have rf := refused_ok K c
 have on := only_ok K c
 have hfl := fl_lrs
 have hfb : ∀ x : Bool, flatL (.p (.bool x)) = true := fun x => by simp [flatL, lfD]
 have hff : ∀ x : Int × Int, flatL (.p (frD x)) = true := fun x => by simp [flatL, lf_fr]
 have eo : eqE true (.p (.list (onlyB 2))) (.p (.list (onlyB 2))) = .ok (.p (.bool false)) := eqE_same rfl rfl (sh_only 2) true
 have ebb : ∀ xs : List Rw, eqE true (.b (.list (xs.map lrD))) (.b (.list (xs.map lrD))) = .ok (.p (.bool false)) := fun xs => eqE_same rfl rfl (sh_lrs _) true
 have eqr : ∀ x : Int × Int, eqE true (.p (frD x)) (.p (frD x)) = .ok (.p (.bool false)) := fun x => eqE_same rfl rfl (sh_fr x) true
 unfold m_law
 refine run_rt ?_
 rw [show startE 7 [.p (.list (ns.map .int))] = [some (.p (.list (ns.map .int))), none, none, none, none, none, none] from rfl]
 unfold f_law
 have x1 : (mSl (mVar 0) (mPt (mC (.int 1))) (mPt (mC (.int 61)))) [some (.p (.list (ns.map .int))), none, none, none, none, none, none] = .ok (.f (.list (cs.map .int))) := by
  simp only [mSl, mPt, mVar, mC, List.getElem?_cons_zero, List.getElem?_cons_succ, List.set_cons_zero, List.set_cons_succ, List.length_cons, List.length_nil, List.length_map, List.length_append, if_true, if_false, ite_true, ite_false, decide_true, decide_false, Bool.false_eq_true, Nat.zero_add, Nat.reduceAdd, Nat.reduceEqDiff, Nat.reduceLeDiff, reduceIte, List.map_append, List.map_cons, List.map_nil, Res.bind, Ev.c, lstOf, hcs']
 refine (seq_nx (set_f (call1f x1 hro))).trans ?_
 simp only [List.set_cons_succ, List.set_cons_zero]
 have t1 : mTru (mBin (eqE true) (mCall 0 (m__law_refused K c) mNil) (mCall 1 (m__law_only K c) (mCons (mC (.int 2)) mNil))) [some (.p (.list (ns.map .int))), some (.o (.list (r0.map lrD))), none, none, none, none, none] = .ok false := by
  simp only [mTru, mBin, mCall, mCons, mNil, mVar, mC, List.getElem?_cons_zero, List.getElem?_cons_succ, List.set_cons_zero, List.set_cons_succ, List.length_cons, List.length_nil, List.length_map, List.length_append, if_true, if_false, ite_true, ite_false, decide_true, decide_false, Bool.false_eq_true, Nat.zero_add, Nat.reduceAdd, Nat.reduceEqDiff, Nat.reduceLeDiff, reduceIte, List.map_append, List.map_cons, List.map_nil, Res.bind, Ev.c, callR, argsL, argL, argB, rf, on, retE, eo, truthR]
 refine (seq_nx (if_f t1)).trans ?_
 obtain ⟨rs, n0, nl, ng, e2⟩ : ∃ rs : List Rw, rs ≠ [] ∧ rs.length < 64 ∧ (∀ r ∈ rs, GRl r) ∧ (mIfS (mTru (mBin (eqE false) (mCallB lenE (mCons (mVar 1) mNil)) (mC (.int 0)))) (mSet 1 (mCallB lstR' (mCons (mCallB tupR' (mCons (mC (.int 3)) (mCons (mCall 2 (m__law_number K c) (mCons (mCall 2 (m__law_cell_at K c) (mCons (mVar 0) (mCons (mC (.int 0)) mNil))) (mCons (mC (.int 50)) mNil))) mNil))) mNil))) mNext) [some (.p (.list (ns.map .int))), some (.o (.list (r0.map lrD))), none, none, none, none, none] = some (.nx [some (.p (.list (ns.map .int))), some (.o (.list (rs.map lrD))), none, none, none, none, none]) := by
  have hlen : lenE [.b (.list (r0.map lrD))] = .ok (.p (.int (r0.length : Nat))) := by simp [lenE, seqOf]
  have t2 : mTru (mBin (eqE false) (mCallB lenE (mCons (mVar 1) mNil)) (mC (.int 0))) [some (.p (.list (ns.map .int))), some (.o (.list (r0.map lrD))), none, none, none, none, none] = .ok ((r0.length : Int) == 0) := by
   simp only [mTru, mBin, mCallB, mCons, mNil, mVar, mC, List.getElem?_cons_zero, List.getElem?_cons_succ, List.set_cons_zero, List.set_cons_succ, List.length_cons, List.length_nil, List.length_map, List.length_append, if_true, if_false, ite_true, ite_false, decide_true, decide_false, Bool.false_eq_true, Nat.zero_add, Nat.reduceAdd, Nat.reduceEqDiff, Nat.reduceLeDiff, reduceIte, List.map_append, List.map_cons, List.map_nil, Res.bind, Ev.c, hlen, eqE, dat, sh_int, eqv_ii, truthR]
   rfl
  by_cases z : r0 = []
  ·subst z
   refine ⟨[(3, x)], List.cons_ne_nil _ _, by show 1 < 64; decide, fun r hr => ?_, (if_t t2).trans (set_f ?_)⟩
   ·rw [List.mem_singleton.mp hr]
    exact ⟨(show Sz 100 (3 : Int) by unfold Sz; decide), gx.f, gx.t.mono (by decide), gx.b.mono (by decide)⟩
   ·simp only [mSeq, mSet, mRet, mIfS, mVar, mC, mBin, mUn, mCons, mNil, mCall, callR, argsL, argL, argB, Res.bind, Ev.c, retL, retE, mCallB, tupR', lstR', pureL, mTru, truthR, mAnd, mOr, mNot, mAndV, mOrV, mNotV, mRaise, mNext, addE, intE0, negE, lstOf, dat, lenE, eqE, sh_int, eqv_ii, ix_pl2, ix_pl0, ix_pl1, ix_fr0, ix_fr1, ix_t0, ix_t1, ix_t2, List.getElem?_cons_zero, List.getElem?_cons_succ, List.set_cons_zero, List.set_cons_succ, List.length_cons, List.length_nil, List.length_map, List.length_append, if_true, if_false, ite_true, ite_false, decide_true, decide_false, Bool.false_eq_true, Nat.zero_add, Nat.reduceAdd, Nat.reduceEqDiff, Nat.reduceLeDiff, reduceIte, List.map_append, List.map_cons, List.map_nil, c0, ex]
    rfl
  ·have zl : ((r0.length : Int) == 0) = false := by
    rw [beq_eq_false_iff_ne]
    have : r0.length ≠ 0 := fun y => z (List.length_eq_zero_iff.mp y)
    omega
   rw [zl] at t2
   exact ⟨r0, z, by omega, fun r hr => grl_of (gr r hr), if_f t2⟩
 refine (seq_nx e2).trans ?_
 obtain ⟨g1, g2, g3⟩ := fold_ok rs [] gj_nil ng
 obtain ⟨o1, o2, o3⟩ := lineOf_ok (m := hbF rs) g1
 have l0 : lineOf (hbF rs) ≠ [] := fun z => by
  rw [z] at o1
  exact g3 (.inl n0) (List.length_eq_zero_iff.mp o1.symm)
 have ll : (lineOf (hbF rs)).length < 64 := by
  have : (hbF rs).length ≤ ([] : Mi).length + rs.length := g2
  rw [List.length_nil] at this
  omega
 have jr := jr_good K c nl ng
 have lo := lo_good K c n0 nl ng
 have lr := lo_good K c (rs := rs.reverse) (by simpa using n0) (by rw [List.length_reverse]; exact nl) (fun r hr => ng r (List.mem_reverse.mp hr))
 rw [line_perm (rs := rs.reverse) (gs := rs) (fun r hr => ng r (List.mem_reverse.mp hr)) ng (fun r => List.mem_reverse)] at lr
 generalize lineOf (hbF rs) = ln at *
 have lh := lh_good K c l0 (by omega) (gt.good.mono (show 80 ≤ 800 by decide)) (fun r hr => ⟨(o2 r hr).1, (o2 r hr).pos, (o2 r hr).2.2.1.mono (by decide), (o2 r hr).2.2.2.mono (by decide)⟩)
 have hi := highest_ok K c l0 (by omega) (gt.good.mono (show 80 ≤ 900 by decide)) (fun r hr => ⟨(o2 r hr).1, (o2 r hr).pos, (o2 r hr).2.2.1.mono (by decide), (o2 r hr).2.2.2.mono (by decide)⟩)
 have isl := isl_ok K c (rs := ln) (fun r hr => ⟨(o2 r hr).2.1, (o2 r hr).2.2.2.mono (by decide)⟩)
 obtain ⟨q, hq, eq⟩ := (topL_is l0 gt.f.pos (fun r hr => (o2 r hr).pos)).at'
 have isf : m__law_is_fraction K c [.p (frD (topL ln t))] = .ok (.p (.bool true)) := by
  rw [← eq]
  exact isf_ok K c (lh_fr gt.f.pos (o2 q hq).pos) ((good_P (good_T (o2 q hq).1 gt.good) (show Good 300 q.2 from ⟨(o2 q hq).pos, (o2 q hq).2.2.1, (o2 q hq).2.2.2.mono (by decide)⟩)).2.2.mono (by decide))
 have e3 : (mCall 1 (m__law_line K c) (mCons (mVar 1) mNil)) [some (.p (.list (ns.map .int))), some (.o (.list (rs.map lrD))), none, none, none, none, none] = .ok (.f (.list (ln.map lrD))) := by
  simp only [mCall, mCons, mNil, mVar, mC, List.getElem?_cons_zero, List.getElem?_cons_succ, List.set_cons_zero, List.set_cons_succ, List.length_cons, List.length_nil, List.length_map, List.length_append, if_true, if_false, ite_true, ite_false, decide_true, decide_false, Bool.false_eq_true, Nat.zero_add, Nat.reduceAdd, Nat.reduceEqDiff, Nat.reduceLeDiff, reduceIte, List.map_append, List.map_cons, List.map_nil, Res.bind, Ev.c, callR, argsL, argL, argB, jr, hfl, retE]
 refine (seq_nx (set_f e3)).trans ?_
 simp only [List.set_cons_succ, List.set_cons_zero]
 refine (seq_nx (set_f (d := .list (rs.map lrD)) (by simp only [mCallB, mCons, mNil, mVar, List.getElem?_cons_zero, List.getElem?_cons_succ, List.set_cons_zero, List.set_cons_succ, List.length_cons, List.length_nil, List.length_map, List.length_append, if_true, if_false, ite_true, ite_false, decide_true, decide_false, Bool.false_eq_true, Nat.zero_add, Nat.reduceAdd, Nat.reduceEqDiff, Nat.reduceLeDiff, reduceIte, List.map_append, List.map_cons, List.map_nil, Res.bind, Ev.c, listE, seqOf]))).trans ?_
 simp only [List.set_cons_succ, List.set_cons_zero]
 have e5 : (mCall 1 (m_line_of K c) (mCons (mVar 3) mNil)) [some (.p (.list (ns.map .int))), some (.o (.list (rs.map lrD))), some (.o (.list (ln.map lrD))), some (.o (.list (rs.map lrD))), none, none, none] = .ok (.f (.list (ln.map lrD))) := by
  simp only [mCall, mCons, mNil, mVar, mC, List.getElem?_cons_zero, List.getElem?_cons_succ, List.set_cons_zero, List.set_cons_succ, List.length_cons, List.length_nil, List.length_map, List.length_append, if_true, if_false, ite_true, ite_false, decide_true, decide_false, Bool.false_eq_true, Nat.zero_add, Nat.reduceAdd, Nat.reduceEqDiff, Nat.reduceLeDiff, reduceIte, List.map_append, List.map_cons, List.map_nil, Res.bind, Ev.c, callR, argsL, argL, argB, lo, hfl, retE]
 refine (seq_nx (set_f e5)).trans ?_
 simp only [List.set_cons_succ, List.set_cons_zero]
 have t6 : (mOr (mNot (mTru (mCall 2 (m__law_is_line K c) (mCons (mVar 4) (mCons (mVar 2) mNil))))) (mTru (mBin (eqE true) (mVar 3) (mVar 1)))) [some (.p (.list (ns.map .int))), some (.o (.list (rs.map lrD))), some (.o (.list (ln.map lrD))), some (.o (.list (rs.map lrD))), some (.o (.list (ln.map lrD))), none, none] = .ok false := by
  simp only [mOr, mNot, mTru, mBin, mUn, mCall, mCons, mNil, mVar, mC, List.getElem?_cons_zero, List.getElem?_cons_succ, List.set_cons_zero, List.set_cons_succ, List.length_cons, List.length_nil, List.length_map, List.length_append, if_true, if_false, ite_true, ite_false, decide_true, decide_false, Bool.false_eq_true, Nat.zero_add, Nat.reduceAdd, Nat.reduceEqDiff, Nat.reduceLeDiff, reduceIte, List.map_append, List.map_cons, List.map_nil, Res.bind, Ev.c, callR, argsL, argL, argB, retE, truthR, Bool.not_true, isl, ebb, hfb]
 refine (seq_nx (if_f t6)).trans ?_
 have e7 : (mCall 2 (m__law_number K c) (mCons (mCall 2 (m__law_cell_at K c) (mCons (mVar 0) (mCons (mC (.int 0)) mNil))) (mCons (mC (.int 40)) mNil))) [some (.p (.list (ns.map .int))), some (.o (.list (rs.map lrD))), some (.o (.list (ln.map lrD))), some (.o (.list (rs.map lrD))), some (.o (.list (ln.map lrD))), none, none] = .ok (.p (frD t)) := by
  simp only [mCall, mCons, mNil, mVar, mC, List.getElem?_cons_zero, List.getElem?_cons_succ, List.set_cons_zero, List.set_cons_succ, List.length_cons, List.length_nil, List.length_map, List.length_append, if_true, if_false, ite_true, ite_false, decide_true, decide_false, Bool.false_eq_true, Nat.zero_add, Nat.reduceAdd, Nat.reduceEqDiff, Nat.reduceLeDiff, reduceIte, List.map_append, List.map_cons, List.map_nil, Res.bind, Ev.c, callR, argsL, argL, argB, c0, et, retE]
 refine (seq_nx (set_p e7)).trans ?_
 simp only [List.set_cons_succ, List.set_cons_zero]
 have e8 : (mCall 2 (m_line_height K c) (mCons (mVar 4) (mCons (mVar 5) mNil))) [some (.p (.list (ns.map .int))), some (.o (.list (rs.map lrD))), some (.o (.list (ln.map lrD))), some (.o (.list (rs.map lrD))), some (.o (.list (ln.map lrD))), some (.p (frD t)), none] = .ok (.p (frD (topL ln t))) := by
  simp only [mCall, mCons, mNil, mVar, mC, List.getElem?_cons_zero, List.getElem?_cons_succ, List.set_cons_zero, List.set_cons_succ, List.length_cons, List.length_nil, List.length_map, List.length_append, if_true, if_false, ite_true, ite_false, decide_true, decide_false, Bool.false_eq_true, Nat.zero_add, Nat.reduceAdd, Nat.reduceEqDiff, Nat.reduceLeDiff, reduceIte, List.map_append, List.map_cons, List.map_nil, Res.bind, Ev.c, callR, argsL, argL, argB, lh, hff, retE]
 refine (seq_nx (set_p e8)).trans ?_
 simp only [List.set_cons_succ, List.set_cons_zero]
 have t9 : (mOr (mNot (mTru (mCall 1 (m__law_is_fraction K c) (mCons (mVar 6) mNil)))) (mOr (mTru (mBin (eqE true) (mVar 6) (mCall 2 (m__law_highest K c) (mCons (mVar 2) (mCons (mVar 5) mNil))))) (mTru (mBin (eqE true) (mVar 4) (mVar 2))))) [some (.p (.list (ns.map .int))), some (.o (.list (rs.map lrD))), some (.o (.list (ln.map lrD))), some (.o (.list (rs.map lrD))), some (.o (.list (ln.map lrD))), some (.p (frD t)), some (.p (frD (topL ln t)))] = .ok false := by
  simp only [mOr, mNot, mTru, mBin, mUn, mCall, mCons, mNil, mVar, mC, List.getElem?_cons_zero, List.getElem?_cons_succ, List.set_cons_zero, List.set_cons_succ, List.length_cons, List.length_nil, List.length_map, List.length_append, if_true, if_false, ite_true, ite_false, decide_true, decide_false, Bool.false_eq_true, Nat.zero_add, Nat.reduceAdd, Nat.reduceEqDiff, Nat.reduceLeDiff, reduceIte, List.map_append, List.map_cons, List.map_nil, Res.bind, Ev.c, callR, argsL, argL, argB, retE, truthR, Bool.not_true, isf, hi, eqr, ebb, hfb, hff]
 refine (seq_nx (if_f t9)).trans ?_
 refine (seq_nx (show mClear 4 [some (.p (.list (ns.map .int))), some (.o (.list (rs.map lrD))), some (.o (.list (ln.map lrD))), some (.o (.list (rs.map lrD))), some (.o (.list (ln.map lrD))), some (.p (frD t)), some (.p (frD (topL ln t)))] = some (.nx [some (.p (.list (ns.map .int))), some (.o (.list (rs.map lrD))), some (.o (.list (ln.map lrD))), some (.o (.list (rs.map lrD))), some (.o (.list [])), some (.p (frD t)), some (.p (frD (topL ln t)))]) from rfl)).trans ?_
 have rv : mReverse 3 [some (.p (.list (ns.map .int))), some (.o (.list (rs.map lrD))), some (.o (.list (ln.map lrD))), some (.o (.list (rs.map lrD))), some (.o (.list [])), some (.p (frD t)), some (.p (frD (topL ln t)))] = some (.nx [some (.p (.list (ns.map .int))), some (.o (.list (rs.map lrD))), some (.o (.list (ln.map lrD))), some (.o (.list (rs.reverse.map lrD))), some (.o (.list [])), some (.p (frD t)), some (.p (frD (topL ln t)))]) := by
  unfold mReverse mMeth
  simp only [List.getElem?_cons_succ, List.getElem?_cons_zero, List.set_cons_succ, List.set_cons_zero]
  rw [List.map_reverse]
 refine (seq_nx rv).trans (ret_p ?_)
 simp only [mCall, mCons, mNil, mVar, mC, List.getElem?_cons_zero, List.getElem?_cons_succ, List.set_cons_zero, List.set_cons_succ, List.length_cons, List.length_nil, List.length_map, List.length_append, if_true, if_false, ite_true, ite_false, decide_true, decide_false, Bool.false_eq_true, Nat.zero_add, Nat.reduceAdd, Nat.reduceEqDiff, Nat.reduceLeDiff, reduceIte, List.map_append, List.map_cons, List.map_nil, Res.bind, Ev.c, callR, argsL, argL, argB, lr, isl, hfl, hfb, retE]
theorem hotQ {j k : Nat} {A : Around} {e : Value} (hr : Room k A) (h : j ≤ k) : RoomQ j (A.mark e) := ⟨(hr.mono h).dp, (hr.mono h).un⟩
section
variable {P : Program} {w : World} {K : PySem.W.Frag} {mg : Str → Option Value} {base : Heap}
theorem sc_less : FnScope ["a", "b"] ["a", "b"] (defScope s_less) := ⟨rfl, rfl, rfl, by decide +kernel, rfl, by decide +kernel, by decide +kernel⟩
theorem ok_less {c : Cls} (Df : Def K mg "less" ["a", "b"] s_less) (B : Blt mg) (C : ClsM mg c) (O : ClsO mg base c) (hk : KitF K c) : Cal P w K mg base 1 "less" 2 (m_less K c) := by
 refine calM (k := 0) Df sc_less rfl (fun f cdv A outer s H E hr => ⟨f_less K c, ?_, eq_less K c⟩)
 exact (dss_one (ds_ret (de_cmp op_lt om_cmp noX_intE0 (de_op op_mulW om_mul noX_intE (de_ix (dv 0) de_int (fun _ _ => rfl)) (de_ix (dv 1) de_int (fun _ _ => rfl))) (de_op op_mulW om_mul noX_intE (de_ix (dv 1) de_int (fun _ _ => rfl)) (de_ix (dv 0) de_int (fun _ _ => rfl))) (nomark _))))
theorem sc__law_value : FnScope ["_law_row", "_law_t"] ["_law_row", "_law_t"] (defScope s__law_value) := ⟨rfl, rfl, rfl, by decide +kernel, rfl, by decide +kernel, by decide +kernel⟩
theorem ok__law_value {c : Cls} (Df : Def K mg "_law_value" ["_law_row", "_law_t"] s__law_value) (B : Blt mg) (C : ClsM mg c) (O : ClsO mg base c) (hk : KitF K c) (c__law_sum : Cal P w K mg base 2 "_law_sum" 2 (m__law_sum K c)) (c__law_product : Cal P w K mg base 2 "_law_product" 2 (m__law_product K c)) : Cal P w K mg base 3 "_law_value" 2 (m__law_value K c) := by
 refine calM (k := 2) Df sc__law_value rfl (fun f cdv A outer s H E hr => ⟨f__law_value K c, ?_, eq__law_value K c⟩)
 exact (dss_one (ds_ret (de_callC c__law_sum hr passS (da_cons (de_callC c__law_product hr passS (da_cons (de_tup (da_cons (de_ix (dv 0) de_int (fun _ _ => rfl)) (da_cons de_int da_nil))) (da_cons (dv 1) da_nil))) (da_cons (de_ix (dv 0) de_int (fun _ _ => rfl)) da_nil)))))
theorem sc_law : FnScope ["_law_script", "_law_rows_here", "_law_due", "_law_handed", "_law_found", "_law_t", "_law_told"] ["_law_script"] (defScope s_law) := ⟨rfl, rfl, rfl, by decide +kernel, rfl, by decide +kernel, by decide +kernel⟩
theorem ok_law {c : Cls} {f : Addr} {fd : FuncData} (F : Fun K "law" "law" s_law f fd) (B : Blt mg) (C : ClsM mg c) (O : ClsO mg base c) (hk : KitF K c) (c__law_is_line : Cal P w K mg base 3 "_law_is_line" 2 (m__law_is_line K c)) (c_line_of : Cal P w K mg base 3 "line_of" 1 (m_line_of K c)) (c__law_is_fraction : Cal P w K mg base 2 "_law_is_fraction" 1 (m__law_is_fraction K c)) (c__law_highest : Cal P w K mg base 4 "_law_highest" 2 (m__law_highest K c)) (c_line_height : Cal P w K mg base 4 "line_height" 2 (m_line_height K c)) (c__law_number : Cal P w K mg base 2 "_law_number" 2 (m__law_number K c)) (c__law_cell_at : Cal P w K mg base 1 "_law_cell_at" 2 (m__law_cell_at K c)) (c__law_line : Cal P w K mg base 2 "_law_line" 1 (m__law_line K c)) (c__law_refused : Cal P w K mg base 4 "_law_refused" 0 (m__law_refused K c)) (c__law_only : Cal P w K mg base 1 "_law_only" 1 (m__law_only K c)) (c__law_rows : Cal P w K mg base 3 "_law_rows" 1 (m__law_rows K c)) : FnOk P w K mg base (CXr P w) 5 f fd ["_law_script"] (spM K 1 (m_law K c)) := by
 refine fnM (k := 4) F sc_law rfl (fun cdv A outer s H E hr => ⟨f_law K c, ?_, eq_law K c⟩)
 exact (dss_cons (ds_set (i := 1) sc_law.nd rfl (Or.inl rfl) (de_callC c__law_rows hr passS (da_cons (de_sl (dv 0) (dp_some de_int) (dp_some de_int)) da_nil))) (dss_cons (ds_if (dt_cmp (op_neP (u64 hr)) om_eq noX_eq (de_callC0 c__law_refused hr passS) (de_callC c__law_only hr passS (da_cons de_int da_nil)) (nomark _)) (dss_one (ds_ret de_bl)) dss_nil) (dss_cons (ds_if (dt_cmp (op_eqP (u64 hr)) om_eq noX_eq (de_callB call_len_seq cm_len noX_len rfl B.len_ PySem.boot_len (da_cons (dv 1) da_nil)) de_int (nomark _)) (dss_one (ds_set (i := 1) sc_law.nd rfl (Or.inl rfl) (de_lst (da_cons (de_tup (da_cons de_int (da_cons (de_callC c__law_number hr passS (da_cons (de_callC c__law_cell_at hr passS (da_cons (dv 0) (da_cons de_int da_nil))) (da_cons de_int da_nil))) da_nil))) da_nil)))) dss_nil) (dss_cons (ds_set (i := 2) sc_law.nd rfl (Or.inl rfl) (de_callC c__law_line hr passS (da_cons (dv 1) da_nil))) (dss_cons (ds_set (i := 3) sc_law.nd rfl (Or.inl rfl) (de_callTy call_list_of cm_list noX_list rfl B.list_ bT_list (da_cons (dv 1) da_nil))) (dss_cons (ds_set (i := 4) sc_law.nd rfl (Or.inl rfl) (de_callC c_line_of hr passS (da_cons (dv 3) da_nil))) (dss_cons (ds_if (DW.t (dw_or (dt_not (dt_val (de_callC c__law_is_line hr passS (da_cons (dv 4) (da_cons (dv 2) da_nil))))) (dw_or1 (dt_cmp (op_neP (u64 hr)) om_eq noX_eq (dv 3) (dv 1) (nomark _))))) (dss_one (ds_ret de_bl)) dss_nil) (dss_cons (ds_set (i := 5) sc_law.nd rfl (Or.inl rfl) (de_callC c__law_number hr passS (da_cons (de_callC c__law_cell_at hr passS (da_cons (dv 0) (da_cons de_int da_nil))) (da_cons de_int da_nil)))) (dss_cons (ds_set (i := 6) sc_law.nd rfl (Or.inl rfl) (de_callC c_line_height hr passS (da_cons (dv 4) (da_cons (dv 5) da_nil)))) (dss_cons (ds_if (DW.t (dw_or (dt_not (dt_val (de_callC c__law_is_fraction hr passS (da_cons (dv 6) da_nil)))) (dw_or (dt_cmp (op_neP (u64 hr)) om_eq noX_eq (dv 6) (de_callC c__law_highest hr passS (da_cons (dv 2) (da_cons (dv 5) da_nil))) (nomark _)) (dw_or1 (dt_cmp (op_neP (u64 hr)) om_eq noX_eq (dv 4) (dv 2) (nomark _)))))) (dss_one (ds_ret de_bl)) dss_nil) (dss_cons (ds_clear (i := 4) (ps_expr (pe_bm0 PySem.F.plainAttrs_list PySem.F.slot_list_clear PySem.F.type_list_clear mt_clear (pv 4)))) (dss_cons (ds_reverse (i := 3) (ps_expr (pe_bm0 PySem.F.plainAttrs_list PySem.F.slot_list_reverse PySem.F.type_list_reverse mt_reverse (pv 3)))) (dss_one (ds_ret (de_callC c__law_is_line hr passS (da_cons (de_callC c_line_of hr passS (da_cons (dv 3) da_nil)) (da_cons (dv 2) da_nil)))))))))))))))))
end
section
variable {P : Program} {w : World} {K : PySem.W.Frag} {mg : Str → Option Value} {base : Heap}
theorem sc_greatest_divisor : FnScope ["a", "b", "larger", "smaller", "rest"] ["a", "b"] (defScope s_greatest_divisor) := ⟨rfl, rfl, rfl, by decide +kernel, rfl, by decide +kernel, by decide +kernel⟩
theorem ok_greatest_divisor {c : Cls} (Df : Def K mg "greatest_divisor" ["a", "b"] s_greatest_divisor) (B : Blt mg) (C : ClsM mg c) (O : ClsO mg base c) (hk : KitF K c) : Cal P w K mg base 1 "greatest_divisor" 2 (m_greatest_divisor K c) := by
 refine calM (k := 0) Df sc_greatest_divisor rfl (fun f cdv A outer s H E hr => ⟨f_greatest_divisor K c, ?_, eq_greatest_divisor K c⟩)
 exact (dss_cons (ds_set (i := 2) sc_greatest_divisor.nd rfl (Or.inl rfl) (de_callB call_abs cm_abs noX_abs rfl B.abs_ bB_abs (da_cons (dv 0) da_nil))) (dss_cons (ds_set (i := 3) sc_greatest_divisor.nd rfl (Or.inl rfl) (de_callB call_abs cm_abs noX_abs rfl B.abs_ bB_abs (da_cons (dv 1) da_nil))) (dss_cons (ds_while PassesOwn.leaving (dt_cmp (op_neP (u64 hr)) om_eq noX_eq (dv 3) de_int (nomark _)) (dss_cons (ds_set (i := 4) sc_greatest_divisor.nd rfl (Or.inl rfl) (de_op op_modN om_mod noX_intE (dv 2) (dv 3))) (dss_cons (ds_set (i := 2) sc_greatest_divisor.nd rfl (Or.inl rfl) (dv 3)) (dss_one (ds_set (i := 3) sc_greatest_divisor.nd rfl (Or.inl rfl) (dv 4)))))) (dss_one (ds_ret (dv 2))))))
theorem sc_times : FnScope ["a", "b"] ["a", "b"] (defScope s_times) := ⟨rfl, rfl, rfl, by decide +kernel, rfl, by decide +kernel, by decide +kernel⟩
theorem ok_times {c : Cls} (Df : Def K mg "times" ["a", "b"] s_times) (B : Blt mg) (C : ClsM mg c) (O : ClsO mg base c) (hk : KitF K c) (c_fraction : Cal P w K mg base 2 "fraction" 2 (m_fraction K c)) : Cal P w K mg base 3 "times" 2 (m_times K c) := by
 refine calM (k := 2) Df sc_times rfl (fun f cdv A outer s H E hr => ⟨f_times K c, ?_, eq_times K c⟩)
 exact (dss_one (ds_ret (de_callC c_fraction hr passS (da_cons (de_op op_mulW om_mul noX_intE (de_ix (dv 0) de_int (fun _ _ => rfl)) (de_ix (dv 1) de_int (fun _ _ => rfl))) (da_cons (de_op op_mulW om_mul noX_intE (de_ix (dv 0) de_int (fun _ _ => rfl)) (de_ix (dv 1) de_int (fun _ _ => rfl))) da_nil)))))
theorem sc__law_mix : FnScope ["_law_cell", "_law_k", "_law_blend"] ["_law_cell", "_law_k"] (defScope s__law_mix) := ⟨rfl, rfl, rfl, by decide +kernel, rfl, by decide +kernel, by decide +kernel⟩
theorem ok__law_mix {c : Cls} (Df : Def K mg "_law_mix" ["_law_cell", "_law_k"] s__law_mix) (B : Blt mg) (C : ClsM mg c) (O : ClsO mg base c) (hk : KitF K c) : Cal P w K mg base 1 "_law_mix" 2 (m__law_mix K c) := by
 refine calM (k := 0) Df sc__law_mix rfl (fun f cdv A outer s H E hr => ⟨f__law_mix K c, ?_, eq__law_mix K c⟩)
 exact (dss_cons (ds_set (i := 2) sc__law_mix.nd rfl (Or.inl rfl) (de_op op_addA om_add noX_add (de_op op_addA om_add noX_add (de_op op_mulW om_mul noX_intE (de_op op_modN om_mod noX_intE (dv 0) (de_op op_pow om_pow noX_intE de_int de_int)) (de_op op_addA om_add noX_add (de_op op_mulW om_mul noX_intE de_int (dv 1)) de_int)) (de_op op_mulW om_mul noX_intE (de_op op_mulW om_mul noX_intE de_int (dv 1)) (dv 1))) (dv 1))) (dss_one (ds_ret (de_op op_modN om_mod noX_intE (de_op op_mulW om_mul noX_intE (de_op op_modN om_mod noX_intE (dv 2) de_int) de_int) de_int))))
theorem sc__law_marks : FnScope ["_law_e", "_law_marks_here"] ["_law_e"] (defScope s__law_marks) := ⟨rfl, rfl, rfl, by decide +kernel, rfl, by decide +kernel, by decide +kernel⟩
theorem ok__law_marks {c : Cls} (Df : Def K mg "_law_marks" ["_law_e"] s__law_marks) (B : Blt mg) (C : ClsM mg c) (O : ClsO mg base c) (hk : KitF K c) : CalQ P w K mg base 1 "_law_marks" 1 (m__law_marks K c) := by
 refine calMQ (k := 0) Df sc__law_marks rfl (fun f cdv A outer s H hrq => ⟨f__law_marks K c, ?_, eq__law_marks K c hk⟩)
 exact (dss_cons (ds_set (i := 1) sc__law_marks.nd rfl (Or.inl rfl) (de_lst (da_cons (de_isiX (cv := .type "ValueError") rfl B.isinstance_ (.inl ⟨_, rfl⟩) rfl (dv 0) (pe_bltn (v := .ty "ValueError") rfl B.ValueError_ bT_ValueError rfl)) (da_cons (de_isiX (cv := .ref c.NoFraction) rfl B.isinstance_ (.inr ⟨_, rfl⟩) rfl (dv 0) (pe_glob (v := .ref c.NoFraction) rfl C.mNoFraction rfl)) (da_cons (de_isiX (cv := .ref c.NoRoof) rfl B.isinstance_ (.inr ⟨_, rfl⟩) rfl (dv 0) (pe_glob (v := .ref c.NoRoof) rfl C.mNoRoof rfl)) (da_cons (de_isiX (cv := .ref c.TooSteep) rfl B.isinstance_ (.inr ⟨_, rfl⟩) rfl (dv 0) (pe_glob (v := .ref c.TooSteep) rfl C.mTooSteep rfl)) da_nil)))))) (dss_cons (ds_set (i := 1) sc__law_marks.nd rfl (Or.inl rfl) (de_op op_addA om_add noX_add (dv 1) (de_lst (da_cons (de_isiX (cv := .ref c.TooMany) rfl B.isinstance_ (.inr ⟨_, rfl⟩) rfl (dv 0) (pe_glob (v := .ref c.TooMany) rfl C.mTooMany rfl)) (da_cons (de_isiX (cv := .ref c.NoNumber) rfl B.isinstance_ (.inr ⟨_, rfl⟩) rfl (dv 0) (pe_glob (v := .ref c.NoNumber) rfl C.mNoNumber rfl)) (da_cons (de_isiX (cv := .ref c.NoCorner) rfl B.isinstance_ (.inr ⟨_, rfl⟩) rfl (dv 0) (pe_glob (v := .ref c.NoCorner) rfl C.mNoCorner rfl)) da_nil)))))) (dss_one (ds_ret (de_op op_addA om_add noX_add (dv 1) (de_lst (da_cons (de_isiX (cv := .ref c.NoDealing) rfl B.isinstance_ (.inr ⟨_, rfl⟩) rfl (dv 0) (pe_glob (v := .ref c.NoDealing) rfl C.mNoDealing rfl)) (da_cons (de_isiX (cv := .ref c.NoRow) rfl B.isinstance_ (.inr ⟨_, rfl⟩) rfl (dv 0) (pe_glob (v := .ref c.NoRow) rfl C.mNoRow rfl)) (da_cons (de_isiX (cv := .ref c.NoText) rfl B.isinstance_ (.inr ⟨_, rfl⟩) rfl (dv 0) (pe_glob (v := .ref c.NoText) rfl C.mNoText rfl)) (da_cons (de_isiX (cv := .ref c.NoName) rfl B.isinstance_ (.inr ⟨_, rfl⟩) rfl (dv 0) (pe_glob (v := .ref c.NoName) rfl C.mNoName rfl)) da_nil))))))))))
end
section
variable {P : Program} {w : World} {K : PySem.W.Frag} {mg : Str → Option Value} {base : Heap}
theorem sc__law_cell_at : FnScope ["_law_script", "_law_k"] ["_law_script", "_law_k"] (defScope s__law_cell_at) := ⟨rfl, rfl, rfl, by decide +kernel, rfl, by decide +kernel, by decide +kernel⟩
theorem ok__law_cell_at {c : Cls} (Df : Def K mg "_law_cell_at" ["_law_script", "_law_k"] s__law_cell_at) (B : Blt mg) (C : ClsM mg c) (O : ClsO mg base c) (hk : KitF K c) : Cal P w K mg base 1 "_law_cell_at" 2 (m__law_cell_at K c) := by
 refine calM (k := 0) Df sc__law_cell_at rfl (fun f cdv A outer s H E hr => ⟨f__law_cell_at K c, ?_, eq__law_cell_at K c⟩)
 exact (dss_cons (ds_if (dt_cmp op_lt om_cmp noX_intE0 (dv 1) (de_callB call_len_seq cm_len noX_len rfl B.len_ PySem.boot_len (da_cons (dv 0) da_nil)) (nomark _)) (dss_one (ds_ret (de_ix (dv 0) (dv 1) (fun _ _ => rfl)))) dss_nil) (dss_one (ds_ret de_int)))
theorem sc__law_number : FnScope ["_law_cell", "_law_k", "_law_way"] ["_law_cell", "_law_k"] (defScope s__law_number) := ⟨rfl, rfl, rfl, by decide +kernel, rfl, by decide +kernel, by decide +kernel⟩
theorem ok__law_number {c : Cls} (Df : Def K mg "_law_number" ["_law_cell", "_law_k"] s__law_number) (B : Blt mg) (C : ClsM mg c) (O : ClsO mg base c) (hk : KitF K c) (c__law_mix : Cal P w K mg base 1 "_law_mix" 2 (m__law_mix K c)) (c__law_lowest : Cal P w K mg base 1 "_law_lowest" 2 (m__law_lowest K c)) : Cal P w K mg base 2 "_law_number" 2 (m__law_number K c) := by
 refine calM (k := 1) Df sc__law_number rfl (fun f cdv A outer s H E hr => ⟨f__law_number K c, ?_, eq__law_number K c⟩)
 exact (dss_cons (ds_set (i := 2) sc__law_number.nd rfl (Or.inl rfl) (de_op op_modN om_mod noX_intE (de_callC c__law_mix hr passS (da_cons (dv 0) (da_cons (dv 1) da_nil))) de_int)) (dss_cons (ds_if (dt_cmp (op_eqP (u64 hr)) om_eq noX_eq (dv 2) de_int (nomark _)) (dss_one (ds_ret (de_callC c__law_lowest hr passS (da_cons (de_op op_sub om_sub noX_intE0 (de_op op_modN om_mod noX_intE (de_op op_addA om_add noX_add (de_op op_mulX om_mulX noX_intE (dv 0) de_int) (dv 1)) (de_op op_addA om_add noX_add (de_op op_mulX om_mulX noX_intE de_int (de_op op_pow om_pow noX_intE de_int de_int)) de_int)) (de_op op_pow om_pow noX_intE de_int de_int)) (da_cons (de_op op_addA om_add noX_add de_int (de_op op_modN om_mod noX_intE (de_callC c__law_mix hr passS (da_cons (dv 0) (da_cons (de_op op_addA om_add noX_add (dv 1) de_int) da_nil))) de_int)) da_nil))))) dss_nil) (dss_cons (ds_if (dt_cmp (op_eqP (u64 hr)) om_eq noX_eq (dv 2) de_int (nomark _)) (dss_one (ds_ret (de_callC c__law_lowest hr passS (da_cons (de_op op_sub om_sub noX_intE0 (de_op op_modN om_mod noX_intE (de_callC c__law_mix hr passS (da_cons (dv 0) (da_cons (de_op op_addA om_add noX_add (dv 1) de_int) da_nil))) de_int) de_int) (da_cons (de_op op_addA om_add noX_add de_int (de_op op_modN om_mod noX_intE (de_callC c__law_mix hr passS (da_cons (dv 0) (da_cons (de_op op_addA om_add noX_add (dv 1) de_int) da_nil))) de_int)) da_nil))))) dss_nil) (dss_one (ds_ret (de_tup (da_cons (de_op op_sub om_sub noX_intE0 (de_op op_modN om_mod noX_intE (de_callC c__law_mix hr passS (da_cons (dv 0) (da_cons (de_op op_addA om_add noX_add (dv 1) de_int) da_nil))) de_int) de_int) (da_cons de_int da_nil))))))))
theorem sc__law_only : FnScope ["_law_at"] ["_law_at"] (defScope s__law_only) := ⟨rfl, rfl, rfl, by decide +kernel, rfl, by decide +kernel, by decide +kernel⟩
theorem ok__law_only {c : Cls} (Df : Def K mg "_law_only" ["_law_at"] s__law_only) (B : Blt mg) (C : ClsM mg c) (O : ClsO mg base c) (hk : KitF K c) : Cal P w K mg base 1 "_law_only" 1 (m__law_only K c) := by
 refine calM (k := 0) Df sc__law_only rfl (fun f cdv A outer s H E hr => ⟨f__law_only K c, ?_, eq__law_only K c⟩)
 exact (dss_one (ds_ret (de_comp (xs := ["_law_k"]) (ys := ["_law_at"]) (js := [0]) (cl := [("_law_at", s.heap.objs.size + 1)]) rfl (di_range1 rfl B.range_ (da_cons de_int da_nil)) (cl_ok (ys := ["_law_at"]) (js := [0]) rfl (List.forall_mem_cons.mpr ⟨rfl, (fun _ h => nomatch h)⟩) (cap_cons ⟨rfl, .inl rfl, .inl rfl, rfl, rfl⟩ cap_nil) (by decide +kernel) (by decide +kernel)) (cap_cons ⟨rfl, .inl rfl, .inl rfl, rfl, rfl⟩ cap_nil) (by decide +kernel) rfl (by decide +kernel) rfl (by decide) (fun C s₀ H₀ ex pn => (dg_name (i := 0) (show (["_law_k", "_law_at"] : List Str).Nodup by decide +kernel) rfl (Or.inl rfl))) (fun C s₀ H₀ ex pn => dts_nil) (fun C s₀ H₀ ex pn => (de_cmp (op_inE rfl) om_in noX_in (dv 0) (de_tup (da_cons de_int (da_cons (dv 1) da_nil))) (by with_unfolding_all rfl))))))
theorem sc__law_refused : FnScope ["_law_marks_here", "_law_e"] [] (defScope s__law_refused) := ⟨rfl, rfl, rfl, by decide +kernel, rfl, by decide +kernel, by decide +kernel⟩
theorem ok__law_refused {c : Cls} (Df : Def K mg "_law_refused" [] s__law_refused) (B : Blt mg) (C : ClsM mg c) (O : ClsO mg base c) (hk : KitF K c) (c_line_of : Cal P w K mg base 3 "line_of" 1 (m_line_of K c)) (c__law_marks : CalQ P w K mg base 1 "_law_marks" 1 (m__law_marks K c)) : Cal P w K mg base 4 "_law_refused" 0 (m__law_refused K c) := by
 refine calM (k := 3) Df sc__law_refused rfl (fun f cdv A outer s H E hr => ⟨f__law_refused K c, ?_, eq__law_refused K c hk⟩)
 exact (dss_cons (ds_set (i := 0) sc__law_refused.nd rfl (Or.inl rfl) (de_lst da_nil)) (dss_cons (ds_try (i := 1) rfl rfl sc__law_refused.nd rfl rfl rfl C.mRoofError (fun W pn E hx => (dss_one (ds_expr (de_callC c_line_of hr hx (da_cons (de_lst da_nil) da_nil))))) (fun e => (dss_one (ds_set (i := 0) sc__law_refused.nd rfl (Or.inl rfl) (de_callCQ c__law_marks (hotQ hr (by decide)) (da_cons (dv 1) da_nil)))))) (dss_one (ds_ret (dv 0)))))
end
section
variable {P : Program} {w : World} {K : PySem.W.Frag} {mg : Str → Option Value} {base : Heap}
theorem sc_greatest : FnScope ["numbers", "best", "number"] ["numbers"] (defScope s_greatest) := ⟨rfl, rfl, rfl, by decide +kernel, rfl, by decide +kernel, by decide +kernel⟩
theorem ok_greatest {c : Cls} (Df : Def K mg "greatest" ["numbers"] s_greatest) (B : Blt mg) (C : ClsM mg c) (O : ClsO mg base c) (hk : KitF K c) (c_less : Cal P w K mg base 1 "less" 2 (m_less K c)) : Cal P w K mg base 2 "greatest" 1 (m_greatest K c) := by
 refine calM (k := 1) Df sc_greatest rfl (fun f cdv A outer s H E hr => ⟨f_greatest K c, ?_, eq_greatest K c⟩)
 exact (dss_cons (ds_set (i := 1) sc_greatest.nd rfl (Or.inl rfl) (de_ix (dv 0) de_int (fun _ _ => rfl))) (dss_cons (ds_for PassesOwn.leaving rfl (di_list (dv 0)) (dg_name (i := 2) sc_greatest.nd rfl (Or.inl rfl)) (dss_one (ds_if (dt_val (de_callC c_less hr passS (da_cons (dv 1) (da_cons (dv 2) da_nil)))) (dss_one (ds_set (i := 1) sc_greatest.nd rfl (Or.inl rfl) (dv 2))) dss_nil))) (dss_one (ds_ret (dv 1)))))
theorem sc__law_before : FnScope ["_law_a", "_law_b"] ["_law_a", "_law_b"] (defScope s__law_before) := ⟨rfl, rfl, rfl, by decide +kernel, rfl, by decide +kernel, by decide +kernel⟩
theorem ok__law_before {c : Cls} (Df : Def K mg "_law_before" ["_law_a", "_law_b"] s__law_before) (B : Blt mg) (C : ClsM mg c) (O : ClsO mg base c) (hk : KitF K c) : Cal P w K mg base 1 "_law_before" 2 (m__law_before K c) := by
 refine calM (k := 0) Df sc__law_before rfl (fun f cdv A outer s H E hr => ⟨f__law_before K c, ?_, eq__law_before K c⟩)
 exact (dss_one (ds_ret (de_cmp op_lt om_cmp noX_intE0 (de_op op_mulW om_mul noX_intE (de_ix (dv 0) de_int (fun _ _ => rfl)) (de_ix (dv 1) de_int (fun _ _ => rfl))) (de_op op_mulW om_mul noX_intE (de_ix (dv 1) de_int (fun _ _ => rfl)) (de_ix (dv 0) de_int (fun _ _ => rfl))) (nomark _))))
theorem sc__law_rows : FnScope ["_law_cells", "_law_rows_here", "_law_k", "_law_number_here", "_law_cell", "_law_slope"] ["_law_cells"] (defScope s__law_rows) := ⟨rfl, rfl, rfl, by decide +kernel, rfl, by decide +kernel, by decide +kernel⟩
theorem ok__law_rows {c : Cls} (Df : Def K mg "_law_rows" ["_law_cells"] s__law_rows) (B : Blt mg) (C : ClsM mg c) (O : ClsO mg base c) (hk : KitF K c) (c__law_number : Cal P w K mg base 2 "_law_number" 2 (m__law_number K c)) (c__law_mix : Cal P w K mg base 1 "_law_mix" 2 (m__law_mix K c)) : Cal P w K mg base 3 "_law_rows" 1 (m__law_rows K c) := by
 refine calM (k := 2) Df sc__law_rows rfl (fun f cdv A outer s H E hr => ⟨f__law_rows K c, ?_, eq__law_rows K c⟩)
 exact (dss_cons (ds_set (i := 1) sc__law_rows.nd rfl (Or.inl rfl) (de_lst da_nil)) (dss_cons (ds_for PassesOwn.leaving rfl (di_enum rfl B.enumerate_ (da_cons (dv 0) da_nil)) (dg_tup (n := 2) rfl (dgs_cons (dg_name (i := 2) sc__law_rows.nd rfl (Or.inl rfl)) (dgs_cons (dg_name (i := 3) sc__law_rows.nd rfl (Or.inl rfl)) dgs_nil))) (dss_cons (ds_set (i := 4) sc__law_rows.nd rfl (Or.inl rfl) (de_op op_addA om_add noX_add (dv 3) (de_op op_mulX om_mulX noX_intE de_int (dv 2)))) (dss_cons (ds_set (i := 5) sc__law_rows.nd rfl (Or.inl rfl) (de_op op_sub om_sub noX_intE0 (de_op op_modN om_mod noX_intE (de_callC c__law_mix hr passS (da_cons (dv 4) (da_cons de_int da_nil))) de_int) de_int)) (dss_cons (ds_if (dt_cmp (op_eqP (u64 hr)) om_eq noX_eq (de_op op_modN om_mod noX_intE (de_callC c__law_mix hr passS (da_cons (dv 4) (da_cons de_int da_nil))) de_int) de_int (nomark _)) (dss_one (ds_set (i := 5) sc__law_rows.nd rfl (Or.inl rfl) (de_op op_sub om_sub noX_intE0 (de_op op_modN om_mod noX_intE (de_op op_addA om_add noX_add (de_op op_mulX om_mulX noX_intE (dv 4) de_int) de_int) (de_op op_addA om_add noX_add (de_op op_mulX om_mulX noX_intE de_int (de_op op_pow om_pow noX_intE de_int de_int)) de_int)) (de_op op_pow om_pow noX_intE de_int de_int)))) dss_nil) (dss_one (ds_append (i := 1) (de_tup (da_cons (dv 5) (da_cons (de_callC c__law_number hr passS (da_cons (dv 4) (da_cons de_int da_nil))) da_nil))) (fun t q => ps_expr (pe_bm PySem.F.plainAttrs_list PySem.F.slot_list_append PySem.F.type_list_append mt_append (pv 1) (pa_cons q pa_nil))))))))) (dss_one (ds_ret (dv 1)))))
theorem sc__law_highest : FnScope ["_law_line_here", "_law_t", "_law_found", "_law_row", "_law_here"] ["_law_line_here", "_law_t"] (defScope s__law_highest) := ⟨rfl, rfl, rfl, by decide +kernel, rfl, by decide +kernel, by decide +kernel⟩
theorem ok__law_highest {c : Cls} (Df : Def K mg "_law_highest" ["_law_line_here", "_law_t"] s__law_highest) (B : Blt mg) (C : ClsM mg c) (O : ClsO mg base c) (hk : KitF K c) (c__law_before : Cal P w K mg base 1 "_law_before" 2 (m__law_before K c)) (c__law_value : Cal P w K mg base 3 "_law_value" 2 (m__law_value K c)) : Cal P w K mg base 4 "_law_highest" 2 (m__law_highest K c) := by
 refine calM (k := 3) Df sc__law_highest rfl (fun f cdv A outer s H E hr => ⟨f__law_highest K c, ?_, eq__law_highest K c⟩)
 exact (dss_cons (ds_set (i := 2) sc__law_highest.nd rfl (Or.inl rfl) (de_callC c__law_value hr passS (da_cons (de_ix (dv 0) de_int (fun _ _ => rfl)) (da_cons (dv 1) da_nil)))) (dss_cons (ds_for PassesOwn.leaving rfl (di_list (de_sl (dv 0) (dp_some de_int) dp_none)) (dg_name (i := 3) sc__law_highest.nd rfl (Or.inl rfl)) (dss_cons (ds_set (i := 4) sc__law_highest.nd rfl (Or.inl rfl) (de_callC c__law_value hr passS (da_cons (dv 3) (da_cons (dv 1) da_nil)))) (dss_one (ds_if (dt_val (de_callC c__law_before hr passS (da_cons (dv 2) (da_cons (dv 4) da_nil)))) (dss_one (ds_set (i := 2) sc__law_highest.nd rfl (Or.inl rfl) (dv 4))) dss_nil)))) (dss_one (ds_ret (dv 2)))))
end
section
variable {P : Program} {w : World} {K : PySem.W.Frag} {mg : Str → Option Value} {base : Heap}
theorem sc__law_whole : FnScope ["_law_found"] ["_law_found"] (defScope s__law_whole) := ⟨rfl, rfl, rfl, by decide +kernel, rfl, by decide +kernel, by decide +kernel⟩
theorem ok__law_whole {c : Cls} (Df : Def K mg "_law_whole" ["_law_found"] s__law_whole) (B : Blt mg) (C : ClsM mg c) (O : ClsO mg base c) (hk : KitF K c) : Cal P w K mg base 1 "_law_whole" 1 (m__law_whole K c) := by
 refine calM (k := 0) Df sc__law_whole rfl (fun f cdv A outer s H E hr => ⟨f__law_whole K c, ?_, eq__law_whole K c hk⟩)
 exact (dss_one (ds_ret (de_and (de_isi (cv := .type "int") rfl B.isinstance_ (.inl ⟨_, rfl⟩) rfl (dv 0) (pe_bltn (v := .ty "int") rfl B.int_ bT_int rfl)) (de_one (de_not (de_isi (cv := .type "bool") rfl B.isinstance_ (.inl ⟨_, rfl⟩) rfl (dv 0) (pe_bltn (v := .ty "bool") rfl B.bool_ bT_bool rfl)))))))
theorem sc__law_lowest : FnScope ["_law_top", "_law_bottom", "_law_one", "_law_other", "_law_rest"] ["_law_top", "_law_bottom"] (defScope s__law_lowest) := ⟨rfl, rfl, rfl, by decide +kernel, rfl, by decide +kernel, by decide +kernel⟩
theorem ok__law_lowest {c : Cls} (Df : Def K mg "_law_lowest" ["_law_top", "_law_bottom"] s__law_lowest) (B : Blt mg) (C : ClsM mg c) (O : ClsO mg base c) (hk : KitF K c) : Cal P w K mg base 1 "_law_lowest" 2 (m__law_lowest K c) := by
 refine calM (k := 0) Df sc__law_lowest rfl (fun f cdv A outer s H E hr => ⟨f__law_lowest K c, ?_, eq__law_lowest K c⟩)
 exact (dss_cons (ds_set (i := 2) sc__law_lowest.nd rfl (Or.inl rfl) (de_callB call_abs cm_abs noX_abs rfl B.abs_ bB_abs (da_cons (dv 0) da_nil))) (dss_cons (ds_set (i := 3) sc__law_lowest.nd rfl (Or.inl rfl) (de_callB call_abs cm_abs noX_abs rfl B.abs_ bB_abs (da_cons (dv 1) da_nil))) (dss_cons (ds_while PassesOwn.leaving (dt_cmp (op_neP (u64 hr)) om_eq noX_eq (dv 3) de_int (nomark _)) (dss_cons (ds_set (i := 4) sc__law_lowest.nd rfl (Or.inl rfl) (de_op op_modN om_mod noX_intE (dv 2) (dv 3))) (dss_cons (ds_set (i := 2) sc__law_lowest.nd rfl (Or.inl rfl) (dv 3)) (dss_one (ds_set (i := 3) sc__law_lowest.nd rfl (Or.inl rfl) (dv 4)))))) (dss_cons (ds_if (dt_cmp op_lt om_cmp noX_intE0 (dv 1) de_int (nomark _)) (dss_one (ds_set (i := 2) sc__law_lowest.nd rfl (Or.inl rfl) (de_neg (dv 2)))) dss_nil) (dss_one (ds_ret (de_tup (da_cons (de_op op_fdivW om_fdiv noX_intE (dv 0) (dv 2)) (da_cons (de_op op_fdivW om_fdiv noX_intE (dv 1) (dv 2)) da_nil)))))))))
theorem sc__law_sum : FnScope ["_law_a", "_law_b"] ["_law_a", "_law_b"] (defScope s__law_sum) := ⟨rfl, rfl, rfl, by decide +kernel, rfl, by decide +kernel, by decide +kernel⟩
theorem ok__law_sum {c : Cls} (Df : Def K mg "_law_sum" ["_law_a", "_law_b"] s__law_sum) (B : Blt mg) (C : ClsM mg c) (O : ClsO mg base c) (hk : KitF K c) (c__law_lowest : Cal P w K mg base 1 "_law_lowest" 2 (m__law_lowest K c)) : Cal P w K mg base 2 "_law_sum" 2 (m__law_sum K c) := by
 refine calM (k := 1) Df sc__law_sum rfl (fun f cdv A outer s H E hr => ⟨f__law_sum K c, ?_, eq__law_sum K c⟩)
 exact (dss_one (ds_ret (de_callC c__law_lowest hr passS (da_cons (de_op op_addA om_add noX_add (de_op op_mulW om_mul noX_intE (de_ix (dv 0) de_int (fun _ _ => rfl)) (de_ix (dv 1) de_int (fun _ _ => rfl))) (de_op op_mulW om_mul noX_intE (de_ix (dv 1) de_int (fun _ _ => rfl)) (de_ix (dv 0) de_int (fun _ _ => rfl)))) (da_cons (de_op op_mulW om_mul noX_intE (de_ix (dv 0) de_int (fun _ _ => rfl)) (de_ix (dv 1) de_int (fun _ _ => rfl))) da_nil)))))
theorem sc__law_line : FnScope ["_law_rows_here", "_law_highest_here", "_law_slope", "_law_height"] ["_law_rows_here"] (defScope s__law_line) := ⟨rfl, rfl, rfl, by decide +kernel, rfl, by decide +kernel, by decide +kernel⟩
theorem ok__law_line {c : Cls} (Df : Def K mg "_law_line" ["_law_rows_here"] s__law_line) (B : Blt mg) (C : ClsM mg c) (O : ClsO mg base c) (hk : KitF K c) (c__law_before : Cal P w K mg base 1 "_law_before" 2 (m__law_before K c)) : Cal P w K mg base 2 "_law_line" 1 (m__law_line K c) := by
 refine calM (k := 1) Df sc__law_line rfl (fun f cdv A outer s H E hr => ⟨f__law_line K c, ?_, eq__law_line K c⟩)
 exact (dss_cons (ds_set (i := 1) sc__law_line.nd rfl (Or.inr rfl) de_dnewK) (dss_cons (ds_for PassesOwn.leaving rfl (di_list (dv 0)) (dg_tup (n := 2) rfl (dgs_cons (dg_name (i := 2) sc__law_line.nd rfl (Or.inl rfl)) (dgs_cons (dg_name (i := 3) sc__law_line.nd rfl (Or.inl rfl)) dgs_nil))) (dss_one (ds_if (DW.t (dw_or (dt_dnotin (u1 hr) (dv 2) (dv 1)) (dw_or1 (dt_val (de_callC c__law_before hr passS (da_cons (de_dget (u1 hr) (dv 1) (dv 2) (fun _ _ => rfl)) (da_cons (dv 3) da_nil))))))) (dss_one (ds_dput (i := 1) (u1 hr) (pv 1) (dv 2) (dv 3) rfl)) dss_nil))) (dss_frz 1 (dss_one (ds_ret (de_comp (xs := ["_law_slope"]) (ys := ["_law_highest_here"]) (js := [1]) (cl := [("_law_highest_here", s.heap.objs.size + 1)]) rfl (di_list (de_callB (call_sortI rfl) cm_sortI noX_sortI rfl B.sorted_ bB_sorted (da_cons (de_callTy (call_list_dK rfl) cm_listK noX_listK rfl B.list_ bT_list (da_cons (dv 1) da_nil)) da_nil))) (cl_ok (ys := ["_law_highest_here"]) (js := [1]) rfl (List.forall_mem_cons.mpr ⟨rfl, (fun _ h => nomatch h)⟩) (cap_cons ⟨rfl, .inl rfl, .inl rfl, rfl, rfl⟩ cap_nil) (by decide +kernel) (by decide +kernel)) (cap_cons ⟨rfl, .inl rfl, .inl rfl, rfl, rfl⟩ cap_nil) (by decide +kernel) rfl (by decide +kernel) rfl (by decide) (fun C s₀ H₀ ex pn => (dg_name (i := 0) (show (["_law_slope", "_law_highest_here"] : List Str).Nodup by decide +kernel) rfl (Or.inl rfl))) (fun C s₀ H₀ ex pn => dts_nil) (fun C s₀ H₀ ex pn => (de_tup (da_cons (dv 0) (da_cons (de_dget (u1 hr) (dv 1) (dv 0) (fun _ _ => rfl)) da_nil))))))))))
end
section
variable {P : Program} {w : World} {K : PySem.W.Frag} {mg : Str → Option Value} {base : Heap}
theorem sc_highest_by_slope : FnScope ["rows", "highest", "slope", "height"] ["rows"] (defScope s_highest_by_slope) := ⟨rfl, rfl, rfl, by decide +kernel, rfl, by decide +kernel, by decide +kernel⟩
theorem ok_highest_by_slope {c : Cls} (Df : Def K mg "highest_by_slope" ["rows"] s_highest_by_slope) (B : Blt mg) (C : ClsM mg c) (O : ClsO mg base c) (hk : KitF K c) (c_less : Cal P w K mg base 1 "less" 2 (m_less K c)) : Cal P w K mg base 2 "highest_by_slope" 1 (m_highest_by_slope K c) := by
 refine calM (k := 1) Df sc_highest_by_slope rfl (fun f cdv A outer s H E hr => ⟨f_highest_by_slope K c, ?_, eq_highest_by_slope K c⟩)
 exact (dss_cons (ds_set (i := 1) sc_highest_by_slope.nd rfl (Or.inl rfl) de_dnewK) (dss_cons (ds_for PassesOwn.leaving rfl (di_list (dv 0)) (dg_tup (n := 2) rfl (dgs_cons (dg_name (i := 2) sc_highest_by_slope.nd rfl (Or.inl rfl)) (dgs_cons (dg_name (i := 3) sc_highest_by_slope.nd rfl (Or.inl rfl)) dgs_nil))) (dss_one (ds_if (DW.t (dw_or (dt_dnotin (u1 hr) (dv 2) (dv 1)) (dw_or1 (dt_val (de_callC c_less hr passS (da_cons (de_dget (u1 hr) (dv 1) (dv 2) (fun _ _ => rfl)) (da_cons (dv 3) da_nil))))))) (dss_one (ds_dput (i := 1) (u1 hr) (pv 1) (dv 2) (dv 3) rfl)) dss_nil))) (dss_one (ds_ret (dv 1)))))
theorem sc_line_of : FnScope ["rows", "highest"] ["rows"] (defScope s_line_of) := ⟨rfl, rfl, rfl, by decide +kernel, rfl, by decide +kernel, by decide +kernel⟩
theorem ok_line_of {c : Cls} (Df : Def K mg "line_of" ["rows"] s_line_of) (B : Blt mg) (C : ClsM mg c) (O : ClsO mg base c) (hk : KitF K c) (c_highest_by_slope : Cal P w K mg base 2 "highest_by_slope" 1 (m_highest_by_slope K c)) : Cal P w K mg base 3 "line_of" 1 (m_line_of K c) := by
 refine calM (k := 2) Df sc_line_of rfl (fun f cdv A outer s H E hr => ⟨f_line_of K c, ?_, eq_line_of K c⟩)
 exact (dss_cons (ds_if (dt_cmp (op_eqP (u64 hr)) om_eq noX_eq (de_callB call_len_seq cm_len noX_len rfl B.len_ PySem.boot_len (da_cons (dv 0) da_nil)) de_int (nomark _)) (dss_one (ds_raise raisesR rfl rfl O.NoRoof PySem.F.excBase_ValueError (da_cons de_str da_nil))) dss_nil) (dss_cons (ds_set (i := 1) sc_line_of.nd rfl (Or.inr rfl) (de_callC c_highest_by_slope hr passS (da_cons (dv 0) da_nil))) (dss_frz 1 (dss_one (ds_ret (de_comp (xs := ["slope"]) (ys := ["highest"]) (js := [1]) (cl := [("highest", s.heap.objs.size + 1)]) rfl (di_list (de_callB (call_sort_dK rfl) cm_sortDK noX_sortDK rfl B.sorted_ bB_sorted (da_cons (dv 1) da_nil))) (cl_ok (ys := ["highest"]) (js := [1]) rfl (List.forall_mem_cons.mpr ⟨rfl, (fun _ h => nomatch h)⟩) (cap_cons ⟨rfl, .inl rfl, .inl rfl, rfl, rfl⟩ cap_nil) (by decide +kernel) (by decide +kernel)) (cap_cons ⟨rfl, .inl rfl, .inl rfl, rfl, rfl⟩ cap_nil) (by decide +kernel) rfl (by decide +kernel) rfl (by decide) (fun C s₀ H₀ ex pn => (dg_name (i := 0) (show (["slope", "highest"] : List Str).Nodup by decide +kernel) rfl (Or.inl rfl))) (fun C s₀ H₀ ex pn => dts_nil) (fun C s₀ H₀ ex pn => (de_tup (da_cons (dv 0) (da_cons (de_dget (u1 hr) (dv 1) (dv 0) (fun _ _ => rfl)) da_nil))))))))))
theorem sc__law_product : FnScope ["_law_a", "_law_b"] ["_law_a", "_law_b"] (defScope s__law_product) := ⟨rfl, rfl, rfl, by decide +kernel, rfl, by decide +kernel, by decide +kernel⟩
theorem ok__law_product {c : Cls} (Df : Def K mg "_law_product" ["_law_a", "_law_b"] s__law_product) (B : Blt mg) (C : ClsM mg c) (O : ClsO mg base c) (hk : KitF K c) (c__law_lowest : Cal P w K mg base 1 "_law_lowest" 2 (m__law_lowest K c)) : Cal P w K mg base 2 "_law_product" 2 (m__law_product K c) := by
 refine calM (k := 1) Df sc__law_product rfl (fun f cdv A outer s H E hr => ⟨f__law_product K c, ?_, eq__law_product K c⟩)
 exact (dss_one (ds_ret (de_callC c__law_lowest hr passS (da_cons (de_op op_mulW om_mul noX_intE (de_ix (dv 0) de_int (fun _ _ => rfl)) (de_ix (dv 1) de_int (fun _ _ => rfl))) (da_cons (de_op op_mulW om_mul noX_intE (de_ix (dv 0) de_int (fun _ _ => rfl)) (de_ix (dv 1) de_int (fun _ _ => rfl))) da_nil)))))
theorem sc__law_is_line : FnScope ["_law_found", "_law_due", "_law_row"] ["_law_found", "_law_due"] (defScope s__law_is_line) := ⟨rfl, rfl, rfl, by decide +kernel, rfl, by decide +kernel, by decide +kernel⟩
theorem ok__law_is_line {c : Cls} (Df : Def K mg "_law_is_line" ["_law_found", "_law_due"] s__law_is_line) (B : Blt mg) (C : ClsM mg c) (O : ClsO mg base c) (hk : KitF K c) (c__law_whole : Cal P w K mg base 1 "_law_whole" 1 (m__law_whole K c)) (c__law_is_fraction : Cal P w K mg base 2 "_law_is_fraction" 1 (m__law_is_fraction K c)) : Cal P w K mg base 3 "_law_is_line" 2 (m__law_is_line K c) := by
 refine calM (k := 2) Df sc__law_is_line rfl (fun f cdv A outer s H E hr => ⟨f__law_is_line K c, ?_, eq__law_is_line K c hk⟩)
 exact (dss_cons (ds_if (DW.t (dw_or (dt_not (dt_val (de_isi (cv := .type "list") rfl B.isinstance_ (.inl ⟨_, rfl⟩) rfl (dv 0) (pe_bltn (v := .ty "list") rfl B.list_ bT_list rfl)))) (dw_or1 (dt_cmp (op_neP (u64 hr)) om_eq noX_eq (dv 0) (dv 1) (nomark _))))) (dss_one (ds_ret de_bl)) dss_nil) (dss_cons (ds_for PassesOwn.leaving rfl (di_list (dv 0)) (dg_name (i := 2) sc__law_is_line.nd rfl (Or.inl rfl)) (dss_one (ds_if (DW.t (dw_or (dt_not (dt_val (de_isi (cv := .type "tuple") rfl B.isinstance_ (.inl ⟨_, rfl⟩) rfl (dv 2) (pe_bltn (v := .ty "tuple") rfl B.tuple_ bT_tuple rfl)))) (dw_or (dt_not (dt_val (de_callC c__law_whole hr passS (da_cons (de_ix (dv 2) de_int (fun _ _ => rfl)) da_nil)))) (dw_or1 (dt_not (dt_val (de_callC c__law_is_fraction hr passS (da_cons (de_ix (dv 2) de_int (fun _ _ => rfl)) da_nil)))))))) (dss_one (ds_ret de_bl)) dss_nil))) (dss_one (ds_ret de_bl))))
end
section
variable {P : Program} {w : World} {K : PySem.W.Frag} {mg : Str → Option Value} {base : Heap}
theorem sc_fraction : FnScope ["top", "bottom", "divisor"] ["top", "bottom"] (defScope s_fraction) := ⟨rfl, rfl, rfl, by decide +kernel, rfl, by decide +kernel, by decide +kernel⟩
theorem ok_fraction {c : Cls} (Df : Def K mg "fraction" ["top", "bottom"] s_fraction) (B : Blt mg) (C : ClsM mg c) (O : ClsO mg base c) (hk : KitF K c) (c_greatest_divisor : Cal P w K mg base 1 "greatest_divisor" 2 (m_greatest_divisor K c)) : Cal P w K mg base 2 "fraction" 2 (m_fraction K c) := by
 refine calM (k := 1) Df sc_fraction rfl (fun f cdv A outer s H E hr => ⟨f_fraction K c, ?_, eq_fraction K c⟩)
 exact (dss_cons (ds_if (dt_cmp (op_eqP (u64 hr)) om_eq noX_eq (dv 1) de_int (nomark _)) (dss_one (ds_raise raisesR rfl rfl O.NoFraction PySem.F.excBase_ValueError (da_cons de_str da_nil))) dss_nil) (dss_cons (ds_set (i := 2) sc_fraction.nd rfl (Or.inl rfl) (de_callC c_greatest_divisor hr passS (da_cons (dv 0) (da_cons (dv 1) da_nil)))) (dss_cons (ds_if (dt_cmp op_lt om_cmp noX_intE0 (dv 1) de_int (nomark _)) (dss_one (ds_set (i := 2) sc_fraction.nd rfl (Or.inl rfl) (de_neg (dv 2)))) dss_nil) (dss_one (ds_ret (de_tup (da_cons (de_op op_fdivW om_fdiv noX_intE (dv 0) (dv 2)) (da_cons (de_op op_fdivW om_fdiv noX_intE (dv 1) (dv 2)) da_nil))))))))
theorem sc_plus : FnScope ["a", "b"] ["a", "b"] (defScope s_plus) := ⟨rfl, rfl, rfl, by decide +kernel, rfl, by decide +kernel, by decide +kernel⟩
theorem ok_plus {c : Cls} (Df : Def K mg "plus" ["a", "b"] s_plus) (B : Blt mg) (C : ClsM mg c) (O : ClsO mg base c) (hk : KitF K c) (c_fraction : Cal P w K mg base 2 "fraction" 2 (m_fraction K c)) : Cal P w K mg base 3 "plus" 2 (m_plus K c) := by
 refine calM (k := 2) Df sc_plus rfl (fun f cdv A outer s H E hr => ⟨f_plus K c, ?_, eq_plus K c⟩)
 exact (dss_one (ds_ret (de_callC c_fraction hr passS (da_cons (de_op op_addA om_add noX_add (de_op op_mulW om_mul noX_intE (de_ix (dv 0) de_int (fun _ _ => rfl)) (de_ix (dv 1) de_int (fun _ _ => rfl))) (de_op op_mulW om_mul noX_intE (de_ix (dv 1) de_int (fun _ _ => rfl)) (de_ix (dv 0) de_int (fun _ _ => rfl)))) (da_cons (de_op op_mulW om_mul noX_intE (de_ix (dv 0) de_int (fun _ _ => rfl)) (de_ix (dv 1) de_int (fun _ _ => rfl))) da_nil)))))
theorem sc_line_height : FnScope ["line", "t"] ["line", "t"] (defScope s_line_height) := ⟨rfl, rfl, rfl, by decide +kernel, rfl, by decide +kernel, by decide +kernel⟩
theorem ok_line_height {c : Cls} (Df : Def K mg "line_height" ["line", "t"] s_line_height) (B : Blt mg) (C : ClsM mg c) (O : ClsO mg base c) (hk : KitF K c) (c_greatest : Cal P w K mg base 2 "greatest" 1 (m_greatest K c)) (c_plus : Cal P w K mg base 3 "plus" 2 (m_plus K c)) (c_times : Cal P w K mg base 3 "times" 2 (m_times K c)) : Cal P w K mg base 4 "line_height" 2 (m_line_height K c) := by
 refine calM (k := 3) Df sc_line_height rfl (fun f cdv A outer s H E hr => ⟨f_line_height K c, ?_, eq_line_height K c⟩)
 exact (dss_one (ds_ret (de_callC c_greatest hr passS (da_cons (de_comp (xs := ["slope", "height"]) (ys := ["t"]) (js := [1]) (cl := [("t", s.heap.objs.size + 1)]) rfl (di_list (dv 0)) (cl_ok (ys := ["t"]) (js := [1]) rfl (List.forall_mem_cons.mpr ⟨rfl, (fun _ h => nomatch h)⟩) (cap_cons ⟨rfl, .inl rfl, .inl rfl, rfl, rfl⟩ cap_nil) (by decide +kernel) (by decide +kernel)) (cap_cons ⟨rfl, .inl rfl, .inl rfl, rfl, rfl⟩ cap_nil) (by decide +kernel) rfl (by decide +kernel) rfl (by decide) (fun C s₀ H₀ ex pn => (dg_tup (n := 2) rfl (dgs_cons (dg_name (i := 0) (show (["slope", "height", "t"] : List Str).Nodup by decide +kernel) rfl (Or.inl rfl)) (dgs_cons (dg_name (i := 1) (show (["slope", "height", "t"] : List Str).Nodup by decide +kernel) rfl (Or.inl rfl)) dgs_nil)))) (fun C s₀ H₀ ex pn => dts_nil) (fun C s₀ H₀ ex pn => (de_callC c_plus hr passF (da_cons (de_callC c_times hr passF (da_cons (de_tup (da_cons (dv 0) (da_cons de_int da_nil))) (da_cons (dv 2) da_nil))) (da_cons (dv 1) da_nil))))) da_nil))))
theorem sc__law_is_fraction : FnScope ["_law_found"] ["_law_found"] (defScope s__law_is_fraction) := ⟨rfl, rfl, rfl, by decide +kernel, rfl, by decide +kernel, by decide +kernel⟩
theorem ok__law_is_fraction {c : Cls} (Df : Def K mg "_law_is_fraction" ["_law_found"] s__law_is_fraction) (B : Blt mg) (C : ClsM mg c) (O : ClsO mg base c) (hk : KitF K c) (c__law_lowest : Cal P w K mg base 1 "_law_lowest" 2 (m__law_lowest K c)) (c__law_whole : Cal P w K mg base 1 "_law_whole" 1 (m__law_whole K c)) : Cal P w K mg base 2 "_law_is_fraction" 1 (m__law_is_fraction K c) := by
 refine calM (k := 1) Df sc__law_is_fraction rfl (fun f cdv A outer s H E hr => ⟨f__law_is_fraction K c, ?_, eq__law_is_fraction K c hk⟩)
 exact (dss_cons (ds_if (DW.t (dw_or (dt_not (dt_val (de_isi (cv := .type "tuple") rfl B.isinstance_ (.inl ⟨_, rfl⟩) rfl (dv 0) (pe_bltn (v := .ty "tuple") rfl B.tuple_ bT_tuple rfl)))) (dw_or (dt_cmp (op_neP (u64 hr)) om_eq noX_eq (de_callB call_len_seq cm_len noX_len rfl B.len_ PySem.boot_len (da_cons (dv 0) da_nil)) de_int (nomark _)) (dw_or (dt_not (dt_val (de_callC c__law_whole hr passS (da_cons (de_ix (dv 0) de_int (fun _ _ => rfl)) da_nil)))) (dw_or1 (dt_not (dt_val (de_callC c__law_whole hr passS (da_cons (de_ix (dv 0) de_int (fun _ _ => rfl)) da_nil))))))))) (dss_one (ds_ret de_bl)) dss_nil) (dss_one (ds_ret (de_and (de_cmp op_gt om_cmp noX_intE0 (de_ix (dv 0) de_int (fun _ _ => rfl)) de_int (nomark _)) (de_one (de_cmp (op_eqP (u64 hr)) om_eq noX_eq (de_callC c__law_lowest hr passS (da_cons (de_ix (dv 0) de_int (fun _ _ => rfl)) (da_cons (de_ix (dv 0) de_int (fun _ _ => rfl)) da_nil))) (dv 0) (nomark _)))))))
end
theorem exm_at {K : PySem.W.Frag} {C R : Addr} {cd : ClassData} (r1 : PySem.W.clsIn K R = some cd) (r2 : PySem.W.typeIn K (.ref R) = some (.type "type")) (r3 : PySem.W.subIn K (.ref R) (.type "BaseException") = some true) {b : Bool} (r4 : PySem.W.subIn K (.ref C) (.ref R) = some b) : PySem.W.exmOne K (.ref C) (.ref R) = some b := by
 show (if (PySem.W.subIn K (.ref R) (.type "BaseException") == some true) = true then (if ((PySem.W.clsIn K R).isSome && PySem.W.typeIn K (.ref R) == some (.type "type")) = true then PySem.W.subIn K (.ref C) (.ref R) else none) else none) = some b
 rw [r3, r1, r2, r4]
 rfl
theorem own_at {K : PySem.W.Frag} {h₀ : Heap} {mg : Str → Option Value} {x : Str} {C : Addr} {bmB : List Value} {newId : String} (X : K.In h₀) (G : h₀.Ns mainGlobals mg) (e : PySem.W.nsIn K mainGlobals x = some (some (.ref C))) (q : PySem.W.excIn K C bmB newId = true) : PyProof.Rows.OwnCls x C bmB newId mg h₀ := by
 refine ⟨PySem.W.mg_of X G e, ?_⟩
 unfold PySem.W.excIn at q
 split at q
 ·rename_i d1 cd1 sl1 ho1
  split at q
  ·rename_i C1 bm1 s0 s1 s2 s3 n1 s5 hm1 hs1
   simp only [Bool.and_eq_true, beq_iff_eq, Bool.not_eq_true'] at q
   obtain ⟨⟨⟨⟨⟨rfl, rfl⟩, hdl⟩, htl⟩, hnok⟩, hini⟩ := q
   obtain ⟨c1, c2, c3, c4, c5, c6, c7, c8, c9, c10, c11⟩ := cd1
   dsimp only at hm1 hdl hnok hini
   subst hm1 hdl
   obtain ⟨sll⟩ := sl1
   simp only at hs1
   subst hs1
   exact ⟨bm1, c4, c1, c5, c2, c6, c7, c8, c9, c10, d1, s0, s1, s2, s3, s5, _, X _ _ ho1, .of_isNs (PySem.W.isNs_of_in X hnok), PySem.W.nsMap_none_of_in X hnok hini, PySem.W.tail_of_in X htl⟩
  ·cases q
 ·cases q
theorem len_1 {α : Type} {us : List α} (h : us.length = 1) : ∃ a, us = [a] := List.length_eq_one_iff.mp h
theorem len_2 {α : Type} {us : List α} (h : us.length = 2) : ∃ a b, us = [a, b] := by
 cases us with
 | nil => cases h
 | cons a r => obtain ⟨b, rfl⟩ := len_1 (Nat.succ.inj h); exact ⟨a, b, rfl⟩
def noLists (K : PySem.W.Frag) : Bool := K.all fun p => match p.2.cls with
 | .type n => !(n == "list")
 | _ => true
theorem lookup_mem {a : Addr} {o : Obj} : ∀ {l : List (Addr × Obj)}, l.lookup a = some o → (a, o) ∈ l
 | (k, v) :: r, h => by
  unfold List.lookup at h
  split at h
  ·rename_i z
   have e : a = k := by simpa using z
   cases h
   rw [e]
   exact .head _
  ·exact .tail _ (lookup_mem h)
theorem noLists_no {K : PySem.W.Frag} (h : noLists K = true) {a : Addr} {o : Obj} (e : K.lookup a = some o) (hc : o.cls = .type "list") : False := by
 have := List.all_eq_true.mp h (a, o) (lookup_mem e)
 dsimp only at this
 rw [hc] at this
 cases this
def spLaw : Sp := fun vs H Q _ => ∃ (a : Addr) (ns : List Int), vs = [.ref a] ∧ Rd H a (.lst (ns.map V.int)) ∧ ns.length ≤ 63 ∧ ∀ H', Q (.bl true) H'
theorem reps_ints {K : PySem.W.Frag} {G : Hp} : ∀ ns : List Int, Reps K G (ns.map V.int) (ns.map PyData.int)
 | [] => .nil
 | i :: r => .cons (.int i) (reps_ints r)
theorem law_sp {P : Program} {w : World} {K : PySem.W.Frag} {mg : Str → Option Value} {base : Heap} {f : Addr} {fd : FuncData} {c : Cls} (hk : KitF K c) (F : FnOk P w K mg base (CXr P w) 5 f fd ["_law_script"] (spM K 1 (m_law K c))) : FnOk P w K mg base (CXr P w) 5 f fd ["_law_script"] spLaw :=
 F.imp fun vs H Q E h => by
  obtain ⟨a, ns, rfl, rd, hl, hq⟩ := h
  refine ⟨rfl, H, [.p (.list (ns.map .int))], Same.refl _, ⟨.lst rd (reps_ints ns), trivial⟩, ?_⟩
  rw [law_ok K c hk ns hl]
  intro G' H' v st r
  cases r
  exact hq H'
theorem all_mk {l : PySem.W.OpenLaw} {w : World} {K : PySem.W.Frag} {h : Heap} {mg : Str → Option Value} {fa : Addr} {f1 f2 f3 f4 f5 f6 f7 f8 f9 f10 f11 f12 f13 f14 f15 f16 f17 f18 f19 f20 f21 f22 f23 f24 f25 f26 f27 CRoofError CNoFraction CNoRoof CTooSteep CTooMany CNoNumber CNoCorner CNoDealing CNoRow CNoText CNoName : Addr} (X : K.In h) (G : h.Ns mainGlobals mg) (hfa : mg "law" = some (.ref fa))
  {od1 an1 od2 an2 od3 an3 od4 an4 od5 an5 od6 an6 od7 an7 od8 an8 od9 an9 od10 an10 od11 an11 od12 an12 od13 an13 od14 an14 od15 an15 od16 an16 od17 an17 od18 an18 od19 an19 od20 an20 od21 an21 od22 an22 od23 an23 od24 an24 od25 an25 od26 an26 od27 an27 : Option Addr} {sl1 sl2 sl3 sl4 sl5 sl6 sl7 sl8 sl9 sl10 sl11 sl12 sl13 sl14 sl15 sl16 sl17 sl18 sl19 sl20 sl21 sl22 sl23 sl24 sl25 sl26 sl27 : Array (Option Value)} {oc1 kV1 dc1 pm1 cd1 ct1 oc2 kV2 dc2 pm2 cd2 ct2 oc3 kV3 dc3 pm3 cd3 ct3 oc4 kV4 dc4 pm4 cd4 ct4 oc5 kV5 dc5 pm5 cd5 ct5 oc6 kV6 dc6 pm6 cd6 ct6 oc7 kV7 dc7 pm7 cd7 ct7 oc8 kV8 dc8 pm8 cd8 ct8 oc9 kV9 dc9 pm9 cd9 ct9 oc10 kV10 dc10 pm10 cd10 ct10 oc11 kV11 dc11 pm11 cd11 ct11 oc12 kV12 dc12 pm12 cd12 ct12 oc13 kV13 dc13 pm13 cd13 ct13 oc14 kV14 dc14 pm14 cd14 ct14 oc15 kV15 dc15 pm15 cd15 ct15 oc16 kV16 dc16 pm16 cd16 ct16 oc17 kV17 dc17 pm17 cd17 ct17 oc18 kV18 dc18 pm18 cd18 ct18 oc19 kV19 dc19 pm19 cd19 ct19 oc20 kV20 dc20 pm20 cd20 ct20 oc21 kV21 dc21 pm21 cd21 ct21 oc22 kV22 dc22 pm22 cd22 ct22 oc23 kV23 dc23 pm23 cd23 ct23 oc24 kV24 dc24 pm24 cd24 ct24 oc25 kV25 dc25 pm25 cd25 ct25 oc26 kV26 dc26 pm26 cd26 ct26 oc27 kV27 dc27 pm27 cd27 ct27 : Value}
  (a1 : PySem.W.nsIn K mainGlobals "greatest_divisor" = some (some (.ref f1)))
  (l1 : K.lookup f1 = some ⟨oc1, od1, .func (PySem.W.fnOf "greatest_divisor" "greatest_divisor" (defArgs s_greatest_divisor) (defBody s_greatest_divisor) (defScope s_greatest_divisor) .none kV1 dc1 pm1 an1 cd1 ct1), sl1⟩)
  (c1 : PySem.W.codeIn K cd1 "greatest_divisor" = true)
  (k1 : PySem.W.keepIn K (.ref f1) = true)
  (a2 : PySem.W.nsIn K mainGlobals "fraction" = some (some (.ref f2)))
  (l2 : K.lookup f2 = some ⟨oc2, od2, .func (PySem.W.fnOf "fraction" "fraction" (defArgs s_fraction) (defBody s_fraction) (defScope s_fraction) .none kV2 dc2 pm2 an2 cd2 ct2), sl2⟩)
  (c2 : PySem.W.codeIn K cd2 "fraction" = true)
  (k2 : PySem.W.keepIn K (.ref f2) = true)
  (a3 : PySem.W.nsIn K mainGlobals "plus" = some (some (.ref f3)))
  (l3 : K.lookup f3 = some ⟨oc3, od3, .func (PySem.W.fnOf "plus" "plus" (defArgs s_plus) (defBody s_plus) (defScope s_plus) .none kV3 dc3 pm3 an3 cd3 ct3), sl3⟩)
  (c3 : PySem.W.codeIn K cd3 "plus" = true)
  (k3 : PySem.W.keepIn K (.ref f3) = true)
  (a4 : PySem.W.nsIn K mainGlobals "times" = some (some (.ref f4)))
  (l4 : K.lookup f4 = some ⟨oc4, od4, .func (PySem.W.fnOf "times" "times" (defArgs s_times) (defBody s_times) (defScope s_times) .none kV4 dc4 pm4 an4 cd4 ct4), sl4⟩)
  (c4 : PySem.W.codeIn K cd4 "times" = true)
  (k4 : PySem.W.keepIn K (.ref f4) = true)
  (a5 : PySem.W.nsIn K mainGlobals "less" = some (some (.ref f5)))
  (l5 : K.lookup f5 = some ⟨oc5, od5, .func (PySem.W.fnOf "less" "less" (defArgs s_less) (defBody s_less) (defScope s_less) .none kV5 dc5 pm5 an5 cd5 ct5), sl5⟩)
  (c5 : PySem.W.codeIn K cd5 "less" = true)
  (k5 : PySem.W.keepIn K (.ref f5) = true)
  (a6 : PySem.W.nsIn K mainGlobals "greatest" = some (some (.ref f6)))
  (l6 : K.lookup f6 = some ⟨oc6, od6, .func (PySem.W.fnOf "greatest" "greatest" (defArgs s_greatest) (defBody s_greatest) (defScope s_greatest) .none kV6 dc6 pm6 an6 cd6 ct6), sl6⟩)
  (c6 : PySem.W.codeIn K cd6 "greatest" = true)
  (k6 : PySem.W.keepIn K (.ref f6) = true)
  (a7 : PySem.W.nsIn K mainGlobals "highest_by_slope" = some (some (.ref f7)))
  (l7 : K.lookup f7 = some ⟨oc7, od7, .func (PySem.W.fnOf "highest_by_slope" "highest_by_slope" (defArgs s_highest_by_slope) (defBody s_highest_by_slope) (defScope s_highest_by_slope) .none kV7 dc7 pm7 an7 cd7 ct7), sl7⟩)
  (c7 : PySem.W.codeIn K cd7 "highest_by_slope" = true)
  (k7 : PySem.W.keepIn K (.ref f7) = true)
  (a8 : PySem.W.nsIn K mainGlobals "line_of" = some (some (.ref f8)))
  (l8 : K.lookup f8 = some ⟨oc8, od8, .func (PySem.W.fnOf "line_of" "line_of" (defArgs s_line_of) (defBody s_line_of) (defScope s_line_of) .none kV8 dc8 pm8 an8 cd8 ct8), sl8⟩)
  (c8 : PySem.W.codeIn K cd8 "line_of" = true)
  (k8 : PySem.W.keepIn K (.ref f8) = true)
  (a9 : PySem.W.nsIn K mainGlobals "line_height" = some (some (.ref f9)))
  (l9 : K.lookup f9 = some ⟨oc9, od9, .func (PySem.W.fnOf "line_height" "line_height" (defArgs s_line_height) (defBody s_line_height) (defScope s_line_height) .none kV9 dc9 pm9 an9 cd9 ct9), sl9⟩)
  (c9 : PySem.W.codeIn K cd9 "line_height" = true)
  (k9 : PySem.W.keepIn K (.ref f9) = true)
  (a10 : PySem.W.nsIn K mainGlobals "_law_whole" = some (some (.ref f10)))
  (l10 : K.lookup f10 = some ⟨oc10, od10, .func (PySem.W.fnOf "_law_whole" "_law_whole" (defArgs s__law_whole) (defBody s__law_whole) (defScope s__law_whole) .none kV10 dc10 pm10 an10 cd10 ct10), sl10⟩)
  (c10 : PySem.W.codeIn K cd10 "_law_whole" = true)
  (k10 : PySem.W.keepIn K (.ref f10) = true)
  (a11 : PySem.W.nsIn K mainGlobals "_law_cell_at" = some (some (.ref f11)))
  (l11 : K.lookup f11 = some ⟨oc11, od11, .func (PySem.W.fnOf "_law_cell_at" "_law_cell_at" (defArgs s__law_cell_at) (defBody s__law_cell_at) (defScope s__law_cell_at) .none kV11 dc11 pm11 an11 cd11 ct11), sl11⟩)
  (c11 : PySem.W.codeIn K cd11 "_law_cell_at" = true)
  (k11 : PySem.W.keepIn K (.ref f11) = true)
  (a12 : PySem.W.nsIn K mainGlobals "_law_mix" = some (some (.ref f12)))
  (l12 : K.lookup f12 = some ⟨oc12, od12, .func (PySem.W.fnOf "_law_mix" "_law_mix" (defArgs s__law_mix) (defBody s__law_mix) (defScope s__law_mix) .none kV12 dc12 pm12 an12 cd12 ct12), sl12⟩)
  (c12 : PySem.W.codeIn K cd12 "_law_mix" = true)
  (k12 : PySem.W.keepIn K (.ref f12) = true)
  (a13 : PySem.W.nsIn K mainGlobals "_law_lowest" = some (some (.ref f13)))
  (l13 : K.lookup f13 = some ⟨oc13, od13, .func (PySem.W.fnOf "_law_lowest" "_law_lowest" (defArgs s__law_lowest) (defBody s__law_lowest) (defScope s__law_lowest) .none kV13 dc13 pm13 an13 cd13 ct13), sl13⟩)
  (c13 : PySem.W.codeIn K cd13 "_law_lowest" = true)
  (k13 : PySem.W.keepIn K (.ref f13) = true)
  (a14 : PySem.W.nsIn K mainGlobals "_law_sum" = some (some (.ref f14)))
  (l14 : K.lookup f14 = some ⟨oc14, od14, .func (PySem.W.fnOf "_law_sum" "_law_sum" (defArgs s__law_sum) (defBody s__law_sum) (defScope s__law_sum) .none kV14 dc14 pm14 an14 cd14 ct14), sl14⟩)
  (c14 : PySem.W.codeIn K cd14 "_law_sum" = true)
  (k14 : PySem.W.keepIn K (.ref f14) = true)
  (a15 : PySem.W.nsIn K mainGlobals "_law_product" = some (some (.ref f15)))
  (l15 : K.lookup f15 = some ⟨oc15, od15, .func (PySem.W.fnOf "_law_product" "_law_product" (defArgs s__law_product) (defBody s__law_product) (defScope s__law_product) .none kV15 dc15 pm15 an15 cd15 ct15), sl15⟩)
  (c15 : PySem.W.codeIn K cd15 "_law_product" = true)
  (k15 : PySem.W.keepIn K (.ref f15) = true)
  (a16 : PySem.W.nsIn K mainGlobals "_law_before" = some (some (.ref f16)))
  (l16 : K.lookup f16 = some ⟨oc16, od16, .func (PySem.W.fnOf "_law_before" "_law_before" (defArgs s__law_before) (defBody s__law_before) (defScope s__law_before) .none kV16 dc16 pm16 an16 cd16 ct16), sl16⟩)
  (c16 : PySem.W.codeIn K cd16 "_law_before" = true)
  (k16 : PySem.W.keepIn K (.ref f16) = true)
  (a17 : PySem.W.nsIn K mainGlobals "_law_is_fraction" = some (some (.ref f17)))
  (l17 : K.lookup f17 = some ⟨oc17, od17, .func (PySem.W.fnOf "_law_is_fraction" "_law_is_fraction" (defArgs s__law_is_fraction) (defBody s__law_is_fraction) (defScope s__law_is_fraction) .none kV17 dc17 pm17 an17 cd17 ct17), sl17⟩)
  (c17 : PySem.W.codeIn K cd17 "_law_is_fraction" = true)
  (k17 : PySem.W.keepIn K (.ref f17) = true)
  (a18 : PySem.W.nsIn K mainGlobals "_law_number" = some (some (.ref f18)))
  (l18 : K.lookup f18 = some ⟨oc18, od18, .func (PySem.W.fnOf "_law_number" "_law_number" (defArgs s__law_number) (defBody s__law_number) (defScope s__law_number) .none kV18 dc18 pm18 an18 cd18 ct18), sl18⟩)
  (c18 : PySem.W.codeIn K cd18 "_law_number" = true)
  (k18 : PySem.W.keepIn K (.ref f18) = true)
  (a19 : PySem.W.nsIn K mainGlobals "_law_rows" = some (some (.ref f19)))
  (l19 : K.lookup f19 = some ⟨oc19, od19, .func (PySem.W.fnOf "_law_rows" "_law_rows" (defArgs s__law_rows) (defBody s__law_rows) (defScope s__law_rows) .none kV19 dc19 pm19 an19 cd19 ct19), sl19⟩)
  (c19 : PySem.W.codeIn K cd19 "_law_rows" = true)
  (k19 : PySem.W.keepIn K (.ref f19) = true)
  (a20 : PySem.W.nsIn K mainGlobals "_law_line" = some (some (.ref f20)))
  (l20 : K.lookup f20 = some ⟨oc20, od20, .func (PySem.W.fnOf "_law_line" "_law_line" (defArgs s__law_line) (defBody s__law_line) (defScope s__law_line) .none kV20 dc20 pm20 an20 cd20 ct20), sl20⟩)
  (c20 : PySem.W.codeIn K cd20 "_law_line" = true)
  (k20 : PySem.W.keepIn K (.ref f20) = true)
  (a21 : PySem.W.nsIn K mainGlobals "_law_value" = some (some (.ref f21)))
  (l21 : K.lookup f21 = some ⟨oc21, od21, .func (PySem.W.fnOf "_law_value" "_law_value" (defArgs s__law_value) (defBody s__law_value) (defScope s__law_value) .none kV21 dc21 pm21 an21 cd21 ct21), sl21⟩)
  (c21 : PySem.W.codeIn K cd21 "_law_value" = true)
  (k21 : PySem.W.keepIn K (.ref f21) = true)
  (a22 : PySem.W.nsIn K mainGlobals "_law_highest" = some (some (.ref f22)))
  (l22 : K.lookup f22 = some ⟨oc22, od22, .func (PySem.W.fnOf "_law_highest" "_law_highest" (defArgs s__law_highest) (defBody s__law_highest) (defScope s__law_highest) .none kV22 dc22 pm22 an22 cd22 ct22), sl22⟩)
  (c22 : PySem.W.codeIn K cd22 "_law_highest" = true)
  (k22 : PySem.W.keepIn K (.ref f22) = true)
  (a23 : PySem.W.nsIn K mainGlobals "_law_is_line" = some (some (.ref f23)))
  (l23 : K.lookup f23 = some ⟨oc23, od23, .func (PySem.W.fnOf "_law_is_line" "_law_is_line" (defArgs s__law_is_line) (defBody s__law_is_line) (defScope s__law_is_line) .none kV23 dc23 pm23 an23 cd23 ct23), sl23⟩)
  (c23 : PySem.W.codeIn K cd23 "_law_is_line" = true)
  (k23 : PySem.W.keepIn K (.ref f23) = true)
  (a24 : PySem.W.nsIn K mainGlobals "_law_marks" = some (some (.ref f24)))
  (l24 : K.lookup f24 = some ⟨oc24, od24, .func (PySem.W.fnOf "_law_marks" "_law_marks" (defArgs s__law_marks) (defBody s__law_marks) (defScope s__law_marks) .none kV24 dc24 pm24 an24 cd24 ct24), sl24⟩)
  (c24 : PySem.W.codeIn K cd24 "_law_marks" = true)
  (k24 : PySem.W.keepIn K (.ref f24) = true)
  (a25 : PySem.W.nsIn K mainGlobals "_law_only" = some (some (.ref f25)))
  (l25 : K.lookup f25 = some ⟨oc25, od25, .func (PySem.W.fnOf "_law_only" "_law_only" (defArgs s__law_only) (defBody s__law_only) (defScope s__law_only) .none kV25 dc25 pm25 an25 cd25 ct25), sl25⟩)
  (c25 : PySem.W.codeIn K cd25 "_law_only" = true)
  (k25 : PySem.W.keepIn K (.ref f25) = true)
  (a26 : PySem.W.nsIn K mainGlobals "_law_refused" = some (some (.ref f26)))
  (l26 : K.lookup f26 = some ⟨oc26, od26, .func (PySem.W.fnOf "_law_refused" "_law_refused" (defArgs s__law_refused) (defBody s__law_refused) (defScope s__law_refused) .none kV26 dc26 pm26 an26 cd26 ct26), sl26⟩)
  (c26 : PySem.W.codeIn K cd26 "_law_refused" = true)
  (k26 : PySem.W.keepIn K (.ref f26) = true)
  (a27 : PySem.W.nsIn K mainGlobals "law" = some (some (.ref f27)))
  (l27 : K.lookup f27 = some ⟨oc27, od27, .func (PySem.W.fnOf "law" "law" (defArgs s_law) (defBody s_law) (defScope s_law) .none kV27 dc27 pm27 an27 cd27 ct27), sl27⟩)
  (c27 : PySem.W.codeIn K cd27 "law" = true)
  (k27 : PySem.W.keepIn K (.ref f27) = true)
  (z0 : PySem.W.nsIn K mainGlobals "ValueError" = some none)
  (z1 : PySem.W.nsIn K mainGlobals "abs" = some none)
  (z2 : PySem.W.nsIn K mainGlobals "bool" = some none)
  (z3 : PySem.W.nsIn K mainGlobals "enumerate" = some none)
  (z4 : PySem.W.nsIn K mainGlobals "int" = some none)
  (z5 : PySem.W.nsIn K mainGlobals "isinstance" = some none)
  (z6 : PySem.W.nsIn K mainGlobals "len" = some none)
  (z7 : PySem.W.nsIn K mainGlobals "list" = some none)
  (z8 : PySem.W.nsIn K mainGlobals "range" = some none)
  (z9 : PySem.W.nsIn K mainGlobals "sorted" = some none)
  (z10 : PySem.W.nsIn K mainGlobals "tuple" = some none)
  (nRoofError : PySem.W.nsIn K mainGlobals "RoofError" = some (some (.ref CRoofError)))
  (nNoFraction : PySem.W.nsIn K mainGlobals "NoFraction" = some (some (.ref CNoFraction)))
  (nNoRoof : PySem.W.nsIn K mainGlobals "NoRoof" = some (some (.ref CNoRoof)))
  (nTooSteep : PySem.W.nsIn K mainGlobals "TooSteep" = some (some (.ref CTooSteep)))
  (nTooMany : PySem.W.nsIn K mainGlobals "TooMany" = some (some (.ref CTooMany)))
  (nNoNumber : PySem.W.nsIn K mainGlobals "NoNumber" = some (some (.ref CNoNumber)))
  (nNoCorner : PySem.W.nsIn K mainGlobals "NoCorner" = some (some (.ref CNoCorner)))
  (nNoDealing : PySem.W.nsIn K mainGlobals "NoDealing" = some (some (.ref CNoDealing)))
  (nNoRow : PySem.W.nsIn K mainGlobals "NoRow" = some (some (.ref CNoRow)))
  (nNoText : PySem.W.nsIn K mainGlobals "NoText" = some (some (.ref CNoText)))
  (nNoName : PySem.W.nsIn K mainGlobals "NoName" = some (some (.ref CNoName)))
  (eNoFraction : PySem.W.excIn K CNoFraction [.type "ValueError", .type "Exception", .type "BaseException", .type "object"] "ValueError.__new__" = true)
  (eNoRoof : PySem.W.excIn K CNoRoof [.type "ValueError", .type "Exception", .type "BaseException", .type "object"] "ValueError.__new__" = true)
  {cdR cdE : ClassData}
  (r1 : PySem.W.clsIn K CNoRoof = some cdR)
  (r0 : PySem.W.clsIn K CRoofError = some cdE)
  (r2 : PySem.W.typeIn K (.ref CRoofError) = some (.type "type"))
  (r3 : PySem.W.subIn K (.ref CRoofError) (.type "BaseException") = some true)
  (r4 : PySem.W.subIn K (.ref CNoRoof) (.ref CRoofError) = some true)
  (y1 : PySem.W.findIn K (.ref CNoRoof) "__getattribute__" = some (some (.builtin "BaseException.__getattribute__")))
  (y2 : PySem.W.findIn K (.ref CNoRoof) "__getattr__" = some none)
  (y3 : PySem.W.findIn K (.ref CNoRoof) "__class__" = some (some (.builtin "object.__class__")))
  (y4 : PySem.W.mroIn K CNoRoof (.type "object") = some true)
  (y5 : PySem.W.mroIn K CNoRoof (.type "BaseException") = some true)
  (w1 : PySem.W.kitOne K (.ref CNoRoof) (.type "ValueError") = some true)
  (w2 : PySem.W.kitOne K (.ref CNoRoof) (.ref CNoRoof) = some true)
  (v0 : PySem.W.kitOne K (.ref CNoRoof) (.ref CNoFraction) = some false)
  (v1 : PySem.W.kitOne K (.ref CNoRoof) (.ref CTooSteep) = some false)
  (v2 : PySem.W.kitOne K (.ref CNoRoof) (.ref CTooMany) = some false)
  (v3 : PySem.W.kitOne K (.ref CNoRoof) (.ref CNoNumber) = some false)
  (v4 : PySem.W.kitOne K (.ref CNoRoof) (.ref CNoCorner) = some false)
  (v5 : PySem.W.kitOne K (.ref CNoRoof) (.ref CNoDealing) = some false)
  (v6 : PySem.W.kitOne K (.ref CNoRoof) (.ref CNoRow) = some false)
  (v7 : PySem.W.kitOne K (.ref CNoRoof) (.ref CNoText) = some false)
  (v8 : PySem.W.kitOne K (.ref CNoRoof) (.ref CNoName) = some false)
  (xii : PySem.W.kitOne K (.type "int") (.type "int") = some true)
  (xib : PySem.W.kitOne K (.type "int") (.type "bool") = some false)
  (xtt : PySem.W.kitOne K (.type "tuple") (.type "tuple") = some true)
  (xll : PySem.W.kitOne K (.type "list") (.type "list") = some true)
  : ∃ fd : FuncData, (∀ (s : Shared) (v : Value), BindsTo s fd ⟨[v], []⟩ [("_law_script", v)]) ∧ ∀ base : Heap, K.In base → base.Ns mainGlobals mg → FnOk l.prog w K mg base (CXr l.prog w) 5 fa fd ["_law_script"] spLaw := by
 have e := hfa.symm.trans (PySem.W.mg_of X G a27)
 cases e
 have F1 := fun_mk (st := s_greatest_divisor) l1 c1 k1
 have D1 : Def K mg "greatest_divisor" ["a", "b"] s_greatest_divisor := ⟨_, _, F1, F1.binds (ps := ["a", "b"]) (fun _ _ _ _ _ _ us hl => by obtain ⟨_, _, rfl⟩ := len_2 hl; rfl), k1, PySem.W.mg_of X G a1⟩
 have F2 := fun_mk (st := s_fraction) l2 c2 k2
 have D2 : Def K mg "fraction" ["top", "bottom"] s_fraction := ⟨_, _, F2, F2.binds (ps := ["top", "bottom"]) (fun _ _ _ _ _ _ us hl => by obtain ⟨_, _, rfl⟩ := len_2 hl; rfl), k2, PySem.W.mg_of X G a2⟩
 have F3 := fun_mk (st := s_plus) l3 c3 k3
 have D3 : Def K mg "plus" ["a", "b"] s_plus := ⟨_, _, F3, F3.binds (ps := ["a", "b"]) (fun _ _ _ _ _ _ us hl => by obtain ⟨_, _, rfl⟩ := len_2 hl; rfl), k3, PySem.W.mg_of X G a3⟩
 have F4 := fun_mk (st := s_times) l4 c4 k4
 have D4 : Def K mg "times" ["a", "b"] s_times := ⟨_, _, F4, F4.binds (ps := ["a", "b"]) (fun _ _ _ _ _ _ us hl => by obtain ⟨_, _, rfl⟩ := len_2 hl; rfl), k4, PySem.W.mg_of X G a4⟩
 have F5 := fun_mk (st := s_less) l5 c5 k5
 have D5 : Def K mg "less" ["a", "b"] s_less := ⟨_, _, F5, F5.binds (ps := ["a", "b"]) (fun _ _ _ _ _ _ us hl => by obtain ⟨_, _, rfl⟩ := len_2 hl; rfl), k5, PySem.W.mg_of X G a5⟩
 have F6 := fun_mk (st := s_greatest) l6 c6 k6
 have D6 : Def K mg "greatest" ["numbers"] s_greatest := ⟨_, _, F6, F6.binds (ps := ["numbers"]) (fun _ _ _ _ _ _ us hl => by obtain ⟨_, rfl⟩ := len_1 hl; rfl), k6, PySem.W.mg_of X G a6⟩
 have F7 := fun_mk (st := s_highest_by_slope) l7 c7 k7
 have D7 : Def K mg "highest_by_slope" ["rows"] s_highest_by_slope := ⟨_, _, F7, F7.binds (ps := ["rows"]) (fun _ _ _ _ _ _ us hl => by obtain ⟨_, rfl⟩ := len_1 hl; rfl), k7, PySem.W.mg_of X G a7⟩
 have F8 := fun_mk (st := s_line_of) l8 c8 k8
 have D8 : Def K mg "line_of" ["rows"] s_line_of := ⟨_, _, F8, F8.binds (ps := ["rows"]) (fun _ _ _ _ _ _ us hl => by obtain ⟨_, rfl⟩ := len_1 hl; rfl), k8, PySem.W.mg_of X G a8⟩
 have F9 := fun_mk (st := s_line_height) l9 c9 k9
 have D9 : Def K mg "line_height" ["line", "t"] s_line_height := ⟨_, _, F9, F9.binds (ps := ["line", "t"]) (fun _ _ _ _ _ _ us hl => by obtain ⟨_, _, rfl⟩ := len_2 hl; rfl), k9, PySem.W.mg_of X G a9⟩
 have F10 := fun_mk (st := s__law_whole) l10 c10 k10
 have D10 : Def K mg "_law_whole" ["_law_found"] s__law_whole := ⟨_, _, F10, F10.binds (ps := ["_law_found"]) (fun _ _ _ _ _ _ us hl => by obtain ⟨_, rfl⟩ := len_1 hl; rfl), k10, PySem.W.mg_of X G a10⟩
 have F11 := fun_mk (st := s__law_cell_at) l11 c11 k11
 have D11 : Def K mg "_law_cell_at" ["_law_script", "_law_k"] s__law_cell_at := ⟨_, _, F11, F11.binds (ps := ["_law_script", "_law_k"]) (fun _ _ _ _ _ _ us hl => by obtain ⟨_, _, rfl⟩ := len_2 hl; rfl), k11, PySem.W.mg_of X G a11⟩
 have F12 := fun_mk (st := s__law_mix) l12 c12 k12
 have D12 : Def K mg "_law_mix" ["_law_cell", "_law_k"] s__law_mix := ⟨_, _, F12, F12.binds (ps := ["_law_cell", "_law_k"]) (fun _ _ _ _ _ _ us hl => by obtain ⟨_, _, rfl⟩ := len_2 hl; rfl), k12, PySem.W.mg_of X G a12⟩
 have F13 := fun_mk (st := s__law_lowest) l13 c13 k13
 have D13 : Def K mg "_law_lowest" ["_law_top", "_law_bottom"] s__law_lowest := ⟨_, _, F13, F13.binds (ps := ["_law_top", "_law_bottom"]) (fun _ _ _ _ _ _ us hl => by obtain ⟨_, _, rfl⟩ := len_2 hl; rfl), k13, PySem.W.mg_of X G a13⟩
 have F14 := fun_mk (st := s__law_sum) l14 c14 k14
 have D14 : Def K mg "_law_sum" ["_law_a", "_law_b"] s__law_sum := ⟨_, _, F14, F14.binds (ps := ["_law_a", "_law_b"]) (fun _ _ _ _ _ _ us hl => by obtain ⟨_, _, rfl⟩ := len_2 hl; rfl), k14, PySem.W.mg_of X G a14⟩
 have F15 := fun_mk (st := s__law_product) l15 c15 k15
 have D15 : Def K mg "_law_product" ["_law_a", "_law_b"] s__law_product := ⟨_, _, F15, F15.binds (ps := ["_law_a", "_law_b"]) (fun _ _ _ _ _ _ us hl => by obtain ⟨_, _, rfl⟩ := len_2 hl; rfl), k15, PySem.W.mg_of X G a15⟩
 have F16 := fun_mk (st := s__law_before) l16 c16 k16
 have D16 : Def K mg "_law_before" ["_law_a", "_law_b"] s__law_before := ⟨_, _, F16, F16.binds (ps := ["_law_a", "_law_b"]) (fun _ _ _ _ _ _ us hl => by obtain ⟨_, _, rfl⟩ := len_2 hl; rfl), k16, PySem.W.mg_of X G a16⟩
 have F17 := fun_mk (st := s__law_is_fraction) l17 c17 k17
 have D17 : Def K mg "_law_is_fraction" ["_law_found"] s__law_is_fraction := ⟨_, _, F17, F17.binds (ps := ["_law_found"]) (fun _ _ _ _ _ _ us hl => by obtain ⟨_, rfl⟩ := len_1 hl; rfl), k17, PySem.W.mg_of X G a17⟩
 have F18 := fun_mk (st := s__law_number) l18 c18 k18
 have D18 : Def K mg "_law_number" ["_law_cell", "_law_k"] s__law_number := ⟨_, _, F18, F18.binds (ps := ["_law_cell", "_law_k"]) (fun _ _ _ _ _ _ us hl => by obtain ⟨_, _, rfl⟩ := len_2 hl; rfl), k18, PySem.W.mg_of X G a18⟩
 have F19 := fun_mk (st := s__law_rows) l19 c19 k19
 have D19 : Def K mg "_law_rows" ["_law_cells"] s__law_rows := ⟨_, _, F19, F19.binds (ps := ["_law_cells"]) (fun _ _ _ _ _ _ us hl => by obtain ⟨_, rfl⟩ := len_1 hl; rfl), k19, PySem.W.mg_of X G a19⟩
 have F20 := fun_mk (st := s__law_line) l20 c20 k20
 have D20 : Def K mg "_law_line" ["_law_rows_here"] s__law_line := ⟨_, _, F20, F20.binds (ps := ["_law_rows_here"]) (fun _ _ _ _ _ _ us hl => by obtain ⟨_, rfl⟩ := len_1 hl; rfl), k20, PySem.W.mg_of X G a20⟩
 have F21 := fun_mk (st := s__law_value) l21 c21 k21
 have D21 : Def K mg "_law_value" ["_law_row", "_law_t"] s__law_value := ⟨_, _, F21, F21.binds (ps := ["_law_row", "_law_t"]) (fun _ _ _ _ _ _ us hl => by obtain ⟨_, _, rfl⟩ := len_2 hl; rfl), k21, PySem.W.mg_of X G a21⟩
 have F22 := fun_mk (st := s__law_highest) l22 c22 k22
 have D22 : Def K mg "_law_highest" ["_law_line_here", "_law_t"] s__law_highest := ⟨_, _, F22, F22.binds (ps := ["_law_line_here", "_law_t"]) (fun _ _ _ _ _ _ us hl => by obtain ⟨_, _, rfl⟩ := len_2 hl; rfl), k22, PySem.W.mg_of X G a22⟩
 have F23 := fun_mk (st := s__law_is_line) l23 c23 k23
 have D23 : Def K mg "_law_is_line" ["_law_found", "_law_due"] s__law_is_line := ⟨_, _, F23, F23.binds (ps := ["_law_found", "_law_due"]) (fun _ _ _ _ _ _ us hl => by obtain ⟨_, _, rfl⟩ := len_2 hl; rfl), k23, PySem.W.mg_of X G a23⟩
 have F24 := fun_mk (st := s__law_marks) l24 c24 k24
 have D24 : Def K mg "_law_marks" ["_law_e"] s__law_marks := ⟨_, _, F24, F24.binds (ps := ["_law_e"]) (fun _ _ _ _ _ _ us hl => by obtain ⟨_, rfl⟩ := len_1 hl; rfl), k24, PySem.W.mg_of X G a24⟩
 have F25 := fun_mk (st := s__law_only) l25 c25 k25
 have D25 : Def K mg "_law_only" ["_law_at"] s__law_only := ⟨_, _, F25, F25.binds (ps := ["_law_at"]) (fun _ _ _ _ _ _ us hl => by obtain ⟨_, rfl⟩ := len_1 hl; rfl), k25, PySem.W.mg_of X G a25⟩
 have F26 := fun_mk (st := s__law_refused) l26 c26 k26
 have D26 : Def K mg "_law_refused" [] s__law_refused := ⟨_, _, F26, F26.binds (ps := []) (fun _ _ _ _ _ _ us hl => by obtain rfl := List.length_eq_zero_iff.mp hl; rfl), k26, PySem.W.mg_of X G a26⟩
 have F27 := fun_mk (st := s_law) l27 c27 k27
 have B : Blt mg := ⟨PySem.W.mg_none_of X G z0, PySem.W.mg_none_of X G z1, PySem.W.mg_none_of X G z2, PySem.W.mg_none_of X G z3, PySem.W.mg_none_of X G z4, PySem.W.mg_none_of X G z5, PySem.W.mg_none_of X G z6, PySem.W.mg_none_of X G z7, PySem.W.mg_none_of X G z8, PySem.W.mg_none_of X G z9, PySem.W.mg_none_of X G z10⟩
 let c : Cls := ⟨CRoofError, CNoFraction, CNoRoof, CTooSteep, CTooMany, CNoNumber, CNoCorner, CNoDealing, CNoRow, CNoText, CNoName⟩
 have C : ClsM mg c := ⟨PySem.W.mg_of X G nRoofError, PySem.W.mg_of X G nNoFraction, PySem.W.mg_of X G nNoRoof, PySem.W.mg_of X G nTooSteep, PySem.W.mg_of X G nTooMany, PySem.W.mg_of X G nNoNumber, PySem.W.mg_of X G nNoCorner, PySem.W.mg_of X G nNoDealing, PySem.W.mg_of X G nNoRow, PySem.W.mg_of X G nNoText, PySem.W.mg_of X G nNoName⟩
 have hk : KitF K c := ⟨xii, xib, xtt, xll, ⟨y1, y2, y3, y4, y5, by rw [r1]; rfl⟩, exm_at r0 r2 r3 r4, w1, w2, v0, v1, v2, v3, v4, v5, v6, v7, v8⟩
 refine ⟨PySem.W.fnOf "law" "law" (defArgs s_law) (defBody s_law) (defScope s_law) .none kV27 dc27 pm27 an27 cd27 ct27, fun s v => .of_eq rfl, fun base kb nb => ?_⟩
 have O : ClsO mg base c := ⟨own_at kb nb nNoFraction eNoFraction, own_at kb nb nNoRoof eNoRoof⟩
 have G1 : Cal l.prog w K mg base 1 "greatest_divisor" 2 (m_greatest_divisor K c) := ok_greatest_divisor D1 B C O hk
 have G5 : Cal l.prog w K mg base 1 "less" 2 (m_less K c) := ok_less D5 B C O hk
 have G10 : Cal l.prog w K mg base 1 "_law_whole" 1 (m__law_whole K c) := ok__law_whole D10 B C O hk
 have G11 : Cal l.prog w K mg base 1 "_law_cell_at" 2 (m__law_cell_at K c) := ok__law_cell_at D11 B C O hk
 have G12 : Cal l.prog w K mg base 1 "_law_mix" 2 (m__law_mix K c) := ok__law_mix D12 B C O hk
 have G13 : Cal l.prog w K mg base 1 "_law_lowest" 2 (m__law_lowest K c) := ok__law_lowest D13 B C O hk
 have G16 : Cal l.prog w K mg base 1 "_law_before" 2 (m__law_before K c) := ok__law_before D16 B C O hk
 have G24 : CalQ l.prog w K mg base 1 "_law_marks" 1 (m__law_marks K c) := ok__law_marks D24 B C O hk
 have G25 : Cal l.prog w K mg base 1 "_law_only" 1 (m__law_only K c) := ok__law_only D25 B C O hk
 have G2 : Cal l.prog w K mg base 2 "fraction" 2 (m_fraction K c) := ok_fraction D2 B C O hk G1
 have G6 : Cal l.prog w K mg base 2 "greatest" 1 (m_greatest K c) := ok_greatest D6 B C O hk G5
 have G7 : Cal l.prog w K mg base 2 "highest_by_slope" 1 (m_highest_by_slope K c) := ok_highest_by_slope D7 B C O hk G5
 have G14 : Cal l.prog w K mg base 2 "_law_sum" 2 (m__law_sum K c) := ok__law_sum D14 B C O hk G13
 have G15 : Cal l.prog w K mg base 2 "_law_product" 2 (m__law_product K c) := ok__law_product D15 B C O hk G13
 have G17 : Cal l.prog w K mg base 2 "_law_is_fraction" 1 (m__law_is_fraction K c) := ok__law_is_fraction D17 B C O hk G13 G10
 have G18 : Cal l.prog w K mg base 2 "_law_number" 2 (m__law_number K c) := ok__law_number D18 B C O hk G12 G13
 have G20 : Cal l.prog w K mg base 2 "_law_line" 1 (m__law_line K c) := ok__law_line D20 B C O hk G16
 have G3 : Cal l.prog w K mg base 3 "plus" 2 (m_plus K c) := ok_plus D3 B C O hk G2
 have G4 : Cal l.prog w K mg base 3 "times" 2 (m_times K c) := ok_times D4 B C O hk G2
 have G8 : Cal l.prog w K mg base 3 "line_of" 1 (m_line_of K c) := ok_line_of D8 B C O hk G7
 have G19 : Cal l.prog w K mg base 3 "_law_rows" 1 (m__law_rows K c) := ok__law_rows D19 B C O hk G18 G12
 have G21 : Cal l.prog w K mg base 3 "_law_value" 2 (m__law_value K c) := ok__law_value D21 B C O hk G14 G15
 have G23 : Cal l.prog w K mg base 3 "_law_is_line" 2 (m__law_is_line K c) := ok__law_is_line D23 B C O hk G10 G17
 have G9 : Cal l.prog w K mg base 4 "line_height" 2 (m_line_height K c) := ok_line_height D9 B C O hk G6 G3 G4
 have G22 : Cal l.prog w K mg base 4 "_law_highest" 2 (m__law_highest K c) := ok__law_highest D22 B C O hk G16 G21
 have G26 : Cal l.prog w K mg base 4 "_law_refused" 0 (m__law_refused K c) := ok__law_refused D26 B C O hk G8 G24
 exact law_sp hk (ok_law F27 B C O hk G23 G8 G17 G22 G9 G18 G11 G20 G26 G25 G19)
theorem walk {l : PySem.W.OpenLaw} {q : Program} {loose : List Str} {XP : (Str → Option Value) → Heap → Prop} {YP : World → Heap → Prop} {d : DefRec} {K : Params → PySem.W.Frag} (hn : l.most = some 63) (hdf : d.params.defaults = [])
  (hY : ∀ (w : World) (h : Heap), YP w h → (K w.params).In h) (hK : ∀ w : World, noLists (K w.params) = true)
  (F : ∀ (w : World) (mg : Str → Option Value) (fa : Addr) (h : Heap), (K w.params).In h → h.Ns mainGlobals mg → mg d.name = some (.ref fa) →
   ∃ fd : FuncData, (∀ (s : Shared) (u : Value), BindsTo s fd ⟨[u], []⟩ [("_law_script", u)]) ∧ ∀ base : Heap, (K w.params).In base → base.Ns mainGlobals mg → FnOk l.prog w (K w.params) mg base (CXr l.prog w) 5 fa fd ["_law_script"] spLaw) :
  PySem.W.WalkO q loose XP YP l.row.toRowW d [] (fun f vs => PySem.call f vs) :=
 L2.walk_of (n := 63) (k := 5) (x := "_law_script") (CX := fun w => CXr l.prog w) (sp := fun _ => spLaw) hn (by decide) hdf ⟨rfl, by decide, by decide⟩ hY F (fun w _ a ns hl _ hS => ⟨a, ns, rfl, hS.elim id (fun ⟨_, _, _, e, hc, _⟩ => (noLists_no (hK w) e hc).elim), hl, fun _ => rfl⟩) fun _ _ _ _ _ ⟨_, _, _, _, _, _, _, z⟩ => z
end My
open PySem PySem.W PyProof.Rows
set_option maxRecDepth 100000 in
set_option maxHeartbeats 0 in
theorem PySem.Challenge.cw_creasecurve_k13_line_roofs_made_holds : PySem.Challenge.rw_creasecurve_k13_line_roofs_made.Holds := by
 w_on; o_law; k_head; (case hw => w_witness2)
 k_fill
 refine My.walk (l := PySem.Challenge.rw_creasecurve_k13_line_roofs_made) rfl rfl (fun w h Y => PySem.W.kIn_of Y) ?noL ?F
 case noL => intro w; rfl
 case F =>
  intro w mg fa h KX G hmg
  refine' My.all_mk KX G hmg ?a1 ?l1 ?c1 ?k1 ?a2 ?l2 ?c2 ?k2 ?a3 ?l3 ?c3 ?k3 ?a4 ?l4 ?c4 ?k4 ?a5 ?l5 ?c5 ?k5 ?a6 ?l6 ?c6 ?k6 ?a7 ?l7 ?c7 ?k7 ?a8 ?l8 ?c8 ?k8 ?a9 ?l9 ?c9 ?k9 ?a10 ?l10 ?c10 ?k10 ?a11 ?l11 ?c11 ?k11 ?a12 ?l12 ?c12 ?k12 ?a13 ?l13 ?c13 ?k13 ?a14 ?l14 ?c14 ?k14 ?a15 ?l15 ?c15 ?k15 ?a16 ?l16 ?c16 ?k16 ?a17 ?l17 ?c17 ?k17 ?a18 ?l18 ?c18 ?k18 ?a19 ?l19 ?c19 ?k19 ?a20 ?l20 ?c20 ?k20 ?a21 ?l21 ?c21 ?k21 ?a22 ?l22 ?c22 ?k22 ?a23 ?l23 ?c23 ?k23 ?a24 ?l24 ?c24 ?k24 ?a25 ?l25 ?c25 ?k25 ?a26 ?l26 ?c26 ?k26 ?a27 ?l27 ?c27 ?k27 ?z0 ?z1 ?z2 ?z3 ?z4 ?z5 ?z6 ?z7 ?z8 ?z9 ?z10 ?nRoofError ?nNoFraction ?nNoRoof ?nTooSteep ?nTooMany ?nNoNumber ?nNoCorner ?nNoDealing ?nNoRow ?nNoText ?nNoName ?eNoFraction ?eNoRoof ?r1 ?r0 ?r2 ?r3 ?r4 ?y1 ?y2 ?y3 ?y4 ?y5 ?w1 ?w2 ?v0 ?v1 ?v2 ?v3 ?v4 ?v5 ?v6 ?v7 ?v8 ?xii ?xib ?xtt ?xll
  (case a1 => k_is)
  (case l1 => k_is)
  (case c1 => k_is)
  (case k1 => k_is)
  (case a2 => k_is)
  (case l2 => k_is)
  (case c2 => k_is)
  (case k2 => k_is)
  (case a3 => k_is)
  (case l3 => k_is)
  (case c3 => k_is)
  (case k3 => k_is)
  (case a4 => k_is)
  (case l4 => k_is)
  (case c4 => k_is)
  (case k4 => k_is)
  (case a5 => k_is)
  (case l5 => k_is)
  (case c5 => k_is)
  (case k5 => k_is)
  (case a6 => k_is)
  (case l6 => k_is)
  (case c6 => k_is)
  (case k6 => k_is)
  (case a7 => k_is)
  (case l7 => k_is)
  (case c7 => k_is)
  (case k7 => k_is)
  (case a8 => k_is)
  (case l8 => k_is)
  (case c8 => k_is)
  (case k8 => k_is)
  (case a9 => k_is)
  (case l9 => k_is)
  (case c9 => k_is)
  (case k9 => k_is)
  (case a10 => k_is)
  (case l10 => k_is)
  (case c10 => k_is)
  (case k10 => k_is)
  (case a11 => k_is)
  (case l11 => k_is)
  (case c11 => k_is)
  (case k11 => k_is)
  (case a12 => k_is)
  (case l12 => k_is)
  (case c12 => k_is)
  (case k12 => k_is)
  (case a13 => k_is)
  (case l13 => k_is)
  (case c13 => k_is)
  (case k13 => k_is)
  (case a14 => k_is)
  (case l14 => k_is)
  (case c14 => k_is)
  (case k14 => k_is)
  (case a15 => k_is)
  (case l15 => k_is)
  (case c15 => k_is)
  (case k15 => k_is)
  (case a16 => k_is)
  (case l16 => k_is)
  (case c16 => k_is)
  (case k16 => k_is)
  (case a17 => k_is)
  (case l17 => k_is)
  (case c17 => k_is)
  (case k17 => k_is)
  (case a18 => k_is)
  (case l18 => k_is)
  (case c18 => k_is)
  (case k18 => k_is)
  (case a19 => k_is)
  (case l19 => k_is)
  (case c19 => k_is)
  (case k19 => k_is)
  (case a20 => k_is)
  (case l20 => k_is)
  (case c20 => k_is)
  (case k20 => k_is)
  (case a21 => k_is)
  (case l21 => k_is)
  (case c21 => k_is)
  (case k21 => k_is)
  (case a22 => k_is)
  (case l22 => k_is)
  (case c22 => k_is)
  (case k22 => k_is)
  (case a23 => k_is)
  (case l23 => k_is)
  (case c23 => k_is)
  (case k23 => k_is)
  (case a24 => k_is)
  (case l24 => k_is)
  (case c24 => k_is)
  (case k24 => k_is)
  (case a25 => k_is)
  (case l25 => k_is)
  (case c25 => k_is)
  (case k25 => k_is)
  (case a26 => k_is)
  (case l26 => k_is)
  (case c26 => k_is)
  (case k26 => k_is)
  (case a27 => k_is)
  (case l27 => k_is)
  (case c27 => k_is)
  (case k27 => k_is)
  (case z0 => k_is)
  (case z1 => k_is)
  (case z2 => k_is)
  (case z3 => k_is)
  (case z4 => k_is)
  (case z5 => k_is)
  (case z6 => k_is)
  (case z7 => k_is)
  (case z8 => k_is)
  (case z9 => k_is)
  (case z10 => k_is)
  (case nRoofError => k_is)
  (case nNoFraction => k_is)
  (case nNoRoof => k_is)
  (case nTooSteep => k_is)
  (case nTooMany => k_is)
  (case nNoNumber => k_is)
  (case nNoCorner => k_is)
  (case nNoDealing => k_is)
  (case nNoRow => k_is)
  (case nNoText => k_is)
  (case nNoName => k_is)
  (case eNoFraction => k_exc)
  (case eNoRoof => k_exc)
  (case r1 => k_is)
  (case r0 => k_is)
  (case r2 => k_is)
  (case r3 => k_is)
  (case r4 => k_is)
  (case y1 => k_is)
  (case y2 => k_is)
  (case y3 => k_is)
  (case y4 => k_is)
  (case y5 => k_is)
  (case w1 => kit_is)
  (case w2 => kit_is)
  (case v0 => kit_is)
  (case v1 => kit_is)
  (case v2 => kit_is)
  (case v3 => kit_is)
  (case v4 => kit_is)
  (case v5 => kit_is)
  (case v6 => kit_is)
  (case v7 => kit_is)
  (case v8 => kit_is)
  (case xii => kit_is)
  (case xib => kit_is)
  (case xtt => kit_is)
  (case xll => kit_is)

import PyProof.Rows.All
import Wide.All
import OpenK.AllK
import Wide.FinOn
import Lean
import PyProof.EqAt
import PyProof.EqKinds
import PyProof.TupleCall
import PySem.Challenge.RW_creasecurve_k11_known_planes_struck_out
noncomputable section
set_option linter.all false
set_option Elab.async false
set_option maxRecDepth 100000
namespace L2
open PySem PySem.Spec PyProof.Rows
abbrev Key := Sum Int Str
def keyIs : Key → Value → Bool
 | .inl k, v => Value.isInt k v
 | .inr x, v => Value.isStrOf x v
def keyH (w : World) : Key → Int
 | .inl k => hashInt k
 | .inr x => hashStr w x
theorem keyIs_shape : ∀ {k : Key} {v : Value}, keyIs k v = true → (∃ i t, k = Sum.inl i ∧ v = Value.int i t) ∨ (∃ x t, k = Sum.inr x ∧ v = Value.str x t)
 | .inl i, v, h => by
  obtain ⟨t, e⟩ := Value.isInt_shape (k := i) (v := v) h
  exact .inl ⟨i, t, rfl, e⟩
 | .inr x, v, h => by
  obtain ⟨t, e⟩ := Value.isStrOf_shape (x := x) (v := v) h
  exact .inr ⟨x, t, rfl, e⟩
theorem keyIs_int (i : Int) (t : Tok) : keyIs (.inl i) (.int i t) = true := by simp [keyIs, Value.isInt]
theorem keyIs_str (x : Str) (t : Tok) : keyIs (.inr x) (.str x t) = true := by simp [keyIs, Value.isStrOf]
theorem key_ll (a b : Int) : decide ((Sum.inl a : Key) = Sum.inl b) = (a == b) := by
 by_cases e : a = b
 ·subst e; simp
 ·have h : ¬ (Sum.inl a : Key) = Sum.inl b := fun q => e (Sum.inl.inj q)
  rw [decide_eq_false h]
  exact (beq_eq_false_iff_ne.mpr e).symm
theorem key_rr (a b : Str) : decide ((Sum.inr a : Key) = Sum.inr b) = decide (a = b) := by
 by_cases e : a = b
 ·subst e; simp
 ·have h : ¬ (Sum.inr a : Key) = Sum.inr b := fun q => e (Sum.inr.inj q)
  rw [decide_eq_false h, decide_eq_false e]
theorem key_lr (a : Int) (b : Str) : decide ((Sum.inl a : Key) = Sum.inr b) = false := decide_eq_false (fun q => nomatch q)
theorem key_rl (a : Str) (b : Int) : decide ((Sum.inr a : Key) = Sum.inl b) = false := decide_eq_false (fun q => nomatch q)
def mixKind (prog : Program) (w : World) : PySem.KeyKind prog w Key where
 is := keyIs
 hash := keyH w
 inj := fun v a b ha hb => by
  rcases keyIs_shape ha with ⟨i, t, rfl, rfl⟩ | ⟨x, t, rfl, rfl⟩
  ·rcases keyIs_shape hb with ⟨j, u, rfl, e⟩ | ⟨y, u, rfl, e⟩
   ·injection e with e1 _; rw [e1]
   ·exact nomatch e
  ·rcases keyIs_shape hb with ⟨j, u, rfl, e⟩ | ⟨y, u, rfl, e⟩
   ·exact nomatch e
   ·injection e with e1 _; rw [e1]
 byValue := fun k v h => by
  rcases keyIs_shape h with ⟨i, t, rfl, rfl⟩ | ⟨x, t, rfl, rfl⟩ <;> rfl
 pyHash := fun hv h => by
  rcases keyIs_shape hv with ⟨i, t, rfl, rfl⟩ | ⟨x, t, rfl, rfl⟩
  ·exact wpAny_pyHash_int h
  ·exact wpAny_pyHash_str h
 eqBool := fun hu hv h => by
  rcases keyIs_shape hu with ⟨i, t, rfl, rfl⟩ | ⟨x, t, rfl, rfl⟩
  ·rcases keyIs_shape hv with ⟨j, u, rfl, rfl⟩ | ⟨y, u, rfl, rfl⟩
   ·rw [key_ll] at h; exact wpAny_eqBool_int h
   ·rw [key_lr] at h; exact SeqAt.EqAt.int_str i t y u _ _ _ _ h
  ·rcases keyIs_shape hv with ⟨j, u, rfl, rfl⟩ | ⟨y, u, rfl, rfl⟩
   ·rw [key_rl] at h; exact SeqAt.EqAt.str_int x t j u _ _ _ _ h
   ·rw [key_rr] at h; exact wpAny_eqBool_str h
 «strs» := fun k x t v h => by
  rcases keyIs_shape h with ⟨i, u, rfl, e⟩ | ⟨y, u, rfl, e⟩
  ·exact nomatch e
  ·injection e with e1 _
   subst e1
   cases v <;> rfl
theorem mixKind_int (prog : Program) (w : World) (i : Int) (t : Tok) : (mixKind prog w).is (.inl i) (.int i t) = true := keyIs_int i t
theorem mixKind_str (prog : Program) (w : World) (x : Str) (t : Tok) : (mixKind prog w).is (.inr x) (.str x t) = true := keyIs_str x t
inductive V where
 | non | bl (b : Bool) | int (i : Int) | str (x : Str) | byt (b : Array UInt8) | flt (b : UInt64) | ref (a : Addr) | ty (n : String)
 deriving DecidableEq
def RelV : V → Value → Prop
 | .non, u => u = Value.none
 | .bl b, u => u = Value.bool b
 | .int i, u => ∃ t, u = Value.int i t
 | .str x, u => ∃ t, u = Value.str x t
 | .byt b, u => ∃ t, u = Value.bytes b t
 | .flt b, u => ∃ t, u = Value.float b t
 | .ref a, u => u = Value.ref a
 | .ty n, u => u = Value.type n
abbrev Vals : List V → List Value → Prop := Paired RelV
theorem Vals.length {xs : List V} {us : List Value} (r : Vals xs us) : xs.length = us.length := Paired.length r
theorem Vals.get : ∀ {xs : List V} {us : List Value} {i : Nat} {x : V}, Vals xs us → xs[i]? = some x → ∃ u, us[i]? = some u ∧ RelV x u
 | _, _, _, _, .nil, e => by simp at e
 | _, _, 0, _, .cons r _, e => by simp at e; subst e; exact ⟨_, rfl, r⟩
 | _, _, i + 1, x, .cons _ t, e => by
  obtain ⟨u, h1, h2⟩ := Vals.get (i := i) (x := x) t (by simpa using e)
  exact ⟨u, by simpa using h1, h2⟩
theorem Vals.append : ∀ {xs ys : List V} {us ws : List Value}, Vals xs us → Vals ys ws → Vals (xs ++ ys) (us ++ ws)
 | _, _, _, _, .nil, s => s
 | _, _, _, _, .cons r t, s => .cons r (Vals.append t s)
theorem Vals.take : ∀ {xs : List V} {us : List Value} (n : Nat), Vals xs us → Vals (xs.take n) (us.take n)
 | _, _, 0, _ => .nil
 | _, _, _ + 1, .nil => .nil
 | _, _, n + 1, .cons r t => .cons r (Vals.take n t)
theorem Vals.drop : ∀ {xs : List V} {us : List Value} (n : Nat), Vals xs us → Vals (xs.drop n) (us.drop n)
 | _, _, 0, r => r
 | _, _, _ + 1, .nil => .nil
 | _, _, n + 1, .cons _ t => Vals.drop n t
def RelO : Option V → Option Value → Prop
 | some v, some u => RelV v u
 | none, none => True
 | _, _ => False
def KV {κ : Type} : List (κ × V) → List (κ × Value) → Prop := Paired fun (p : κ × V) (q : κ × Value) => p.1 = q.1 ∧ RelV p.2 q.2
def kV : Key → V
 | .inl i => .int i
 | .inr x => .str x
inductive HO where
 /-- a list -/
 | lst (xs : List V)
 /-- a tuple (never changes) -/
 | tup (xs : List V)
 /-- a dict whose keys are ints and texts; one whose keys are tuples of ints and texts (the empty one is both) -/
 | dK (kvs : List (Key × V)) | dT (kvs : List (List Key × V))
 /-- a set of ints: its members, its size -/
 | set (S : Int → Bool) (n : Nat)
 /-- an instance of the class at C, its dict at dx, its attributes -/
 | ins (C dx : Addr) (fs : List (Str × V))
 /-- the dict of the instance at x -/
 | own (x : Addr)
 /-- the dict of an exception -/
 | xd (fs : List (Str × V))
 /-- a bound method, f of x -/
 | met (f x : Addr)
 /-- a range object lo, lo + 1, .. below hi -/
 | rng (lo hi : Int)
 /-- a thing that is known to the object (the script; a dict while a loop walks it): read, never written while it is so -/
 | frz (o : Obj) (u : HO)
 /-- a code object's table -/
 | tbl (ps : Array Value)
 /-- any other thing, by what is true of its one object (a def of one's own: SetO a S n := HO.ext fun h => ..) -/
 | ext (φ : Heap → Prop)
abbrev Hp := Addr → Option HO
def upd (H : Hp) (a : Addr) (o : HO) : Hp := fun b => if b = a then some o else H b
theorem upd_same {H : Hp} {a : Addr} {o : HO} : upd H a o a = some o := by unfold upd; rw [if_pos rfl]
theorem upd_ne {H : Hp} {a b : Addr} {o : HO} (h : b ≠ a) : upd H a o b = H b := by unfold upd; rw [if_neg h]
theorem ne_of {H : Hp} {a b : Addr} {o u : HO} (h : H a = some o) (h' : H b = some u) (d : o ≠ u) : a ≠ b := by
 intro e; subst e; rw [h] at h'; exact d (Option.some.inj h')
theorem ne_of_none {H : Hp} {a b : Addr} {o : HO} (h : H a = some o) (h' : H b = none) : a ≠ b := by
 intro e; subst e; rw [h] at h'; cases h'
section
variable (P : Program) (w : World)
def ObjOk (H : Hp) (h : Heap) (a : Addr) : HO → Prop
 | .lst xs => xs.length ≤ sizeLine ∧ ∃ (its : List Value) (n : Nat), Vals xs its ∧ h.get? a = some { cls := .type "list", data := .seq its.toArray n }
 | .tup xs => xs.length ≤ sizeLine ∧ ∃ its : List Value, Vals xs its ∧ IsTup h a its.toArray
 | .dK kvs => kvs.length ≤ sizeLine ∧ (a == sysModules) = false ∧ ∃ vs, KV kvs vs ∧ h.DictOf (mixKind P w) a vs
 | .dT kvs => kvs.length ≤ sizeLine ∧ (a == sysModules) = false ∧ ∃ xs : List (List Key × Addr × Value),
   Paired (fun (p : List Key × V) (q : List Key × Addr × Value) => p.1 = q.1 ∧ H q.2.1 = some (.tup (p.1.map kV)) ∧ RelV p.2 q.2.2) kvs xs ∧
   ∃ o es ep, h.get? a = some o ∧ o.ExactDict ∧ o.data = .dict es ep ∧ es.toList = xs.map (entryOfKey (tupleKind (mixKind P w))) ∧ (xs.map (·.1)).Nodup
 | .set S n => h.SetOf (intKind P w) a S n
 | .ins C dx fs => H dx = some (.own a) ∧ fs.length ≤ 1000 ∧ dx ≠ a ∧ h.get? a = some (PySem.W.instObj C dx) ∧
   ∃ mA, h.Ns1 dx mA ∧ (∀ f, RelO (fs.lookup f) (mA f)) ∧ PySem.Within mA (fs.map (·.1))
 | .own _ => ∃ o, h.get? a = some o
 | .xd fs => ∃ mA, h.Ns1 a mA ∧ ∀ f, RelO (fs.lookup f) (mA f)
 | .rng lo hi => ∃ t u v, h.get? a = some { cls := .type "range", data := .fields #[.int lo t, .int hi u, .int 1 v] }
 | .frz o u => h.get? a = some o ∧ ObjOk H h a u
 | .tbl ps => h.get? a = some { cls := .none, data := .fields ps }
 | .met f x => h.get? a = some (PySem.W.methodObj (.ref f) (.ref x))
 | .ext φ => φ h ∧ (∃ o, h.get? a = some o) ∧ ∀ h1 h2 : Heap, φ h1 → (∀ o, h1.get? a = some o → h2.get? a = some o) → φ h2
def HOk (H : Hp) (h : Heap) : Prop := ∀ a o, H a = some o → ObjOk P w H h a o
end
section
variable {P : Program} {w : World} {H H' : Hp} {h h' : Heap} {a : Addr} {o : HO}
theorem ObjOk.lt (x : ObjOk P w H h a o) : a < h.objs.size := by
 cases o with
 | lst xs => obtain ⟨_, _, _, _, e⟩ := x; exact Heap.lt_size e
 | tup xs => obtain ⟨_, _, _, p⟩ := x; exact p.lt
 | dK kvs => obtain ⟨_, _, _, _, o, _, _, e, _⟩ := x; exact Heap.lt_size e
 | dT kvs => obtain ⟨_, _, _, _, o, _, _, e, _⟩ := x; exact Heap.lt_size e
 | set S n => obtain ⟨o, _, _, _, e, _⟩ := x; exact Heap.lt_size e
 | ins C dx fs => obtain ⟨_, _, _, e, _⟩ := x; exact Heap.lt_size e
 | own y => obtain ⟨_, e⟩ := x; exact Heap.lt_size e
 | xd fs => obtain ⟨_, ⟨_, _, _, e, _⟩, _⟩ := x; exact Heap.lt_size e
 | rng lo hi => obtain ⟨_, _, _, e⟩ := x; exact Heap.lt_size e
 | frz ob u => obtain ⟨e, _⟩ := x; exact Heap.lt_size e
 | tbl ps => exact Heap.lt_size (show h.get? a = some _ from x)
 | met f y => exact Heap.lt_size (show h.get? a = some _ from x)
 | ext φ => obtain ⟨_, ⟨_, e⟩, _⟩ := x; exact Heap.lt_size e
theorem Paired.mapP {α β : Type} {F G : α → β → Prop} : ∀ {l₁ : List α} {l₂ : List β}, Paired F l₁ l₂ → (∀ a b, F a b → G a b) → Paired G l₁ l₂
 | _, _, .nil, _ => .nil
 | _, _, .cons r t, f => .cons (f _ _ r) (Paired.mapP t f)
theorem ObjOk.stay (x : ObjOk P w H h a o) (k : ∀ b u, (b = a ∨ H b = some (.own a)) → h.get? b = some u → h'.get? b = some u)
  (ho : ∀ b, H b = some (.own a) → H' b = some (.own a)) (ht : ∀ b xs, H b = some (.tup xs) → H' b = some (.tup xs)) : ObjOk P w H' h' a o := by
 induction o with
 | lst xs => obtain ⟨z, its, n, r, e⟩ := x; exact ⟨z, its, n, r, k _ _ (.inl rfl) e⟩
 | tup xs => obtain ⟨z, its, r, ob, e, c⟩ := x; exact ⟨z, its, r, ob, k _ _ (.inl rfl) e, c⟩
 | dK kvs => obtain ⟨z, y, vs, r, ob, es, ep, e, c⟩ := x; exact ⟨z, y, vs, r, ob, es, ep, k _ _ (.inl rfl) e, c⟩
 | dT kvs =>
  obtain ⟨z, y, xs, r, ob, es, ep, e, c⟩ := x
  exact ⟨z, y, xs, Paired.mapP r fun p q z => ⟨z.1, ht _ _ z.2.1, z.2.2⟩, ob, es, ep, k _ _ (.inl rfl) e, c⟩
 | set S n => obtain ⟨ob, es, ep, t, e, c⟩ := x; exact ⟨ob, es, ep, t, k _ _ (.inl rfl) e, c⟩
 | ins C dx fs =>
  obtain ⟨d, z, ne, e, mA, ⟨od, es, ep, e2, c⟩, r⟩ := x
  exact ⟨ho _ d, z, ne, k _ _ (.inl rfl) e, mA, ⟨od, es, ep, k _ _ (.inr d) e2, c⟩, r⟩
 | own y => obtain ⟨ob, e⟩ := x; exact ⟨ob, k _ _ (.inl rfl) e⟩
 | xd fs => obtain ⟨mA, ⟨od, es, ep, e, c⟩, r⟩ := x; exact ⟨mA, ⟨od, es, ep, k _ _ (.inl rfl) e, c⟩, r⟩
 | rng lo hi => obtain ⟨t, u, v, e⟩ := x; exact ⟨t, u, v, k _ _ (.inl rfl) e⟩
 | frz ob u ih => obtain ⟨e, q⟩ := x; exact ⟨k _ _ (.inl rfl) e, ih q⟩
 | tbl ps =>
  have e : h.get? a = some { cls := .none, data := .fields ps } := x
  show h'.get? a = some { cls := .none, data := .fields ps }
  exact k a _ (.inl rfl) e
 | met f y =>
  have e : h.get? a = some (PySem.W.methodObj (.ref f) (.ref y)) := x
  show h'.get? a = some (PySem.W.methodObj (.ref f) (.ref y))
  exact k a _ (.inl rfl) e
 | ext φ => obtain ⟨p, ⟨o, e⟩, st⟩ := x; exact ⟨st _ _ p fun o q => k _ _ (.inl rfl) q, ⟨o, k _ _ (.inl rfl) e⟩, st⟩
theorem HOk.lt (x : HOk P w H h) (e : H a = some o) : a < h.objs.size := (x a o e).lt
theorem HOk.fresh (x : HOk P w H h) (e : h.objs.size ≤ a) : H a = none := by
 cases q : H a with
 | none => rfl
 | some u => exact absurd (Nat.lt_of_lt_of_le (x.lt q) e) (Nat.lt_irrefl _)
theorem HOk.kept (x : HOk P w H h) (k : ∀ b u, h.get? b = some u → h'.get? b = some u) : HOk P w H h' := fun a o e =>
 (x a o e).stay (fun b u _ q => k b u q) (fun _ q => q) fun _ _ q => q
theorem HOk.laid (x : HOk P w H h) (k : ∀ b u, h.get? b = some u → h'.get? b = some u) (hp : h.objs.size ≤ a) (new : ObjOk P w (upd H a o) h' a o) : HOk P w (upd H a o) h' := fun b u e => by
 have hn := x.fresh hp
 by_cases hb : b = a
 ·subst hb; rw [upd_same] at e; cases e; exact new
 ·rw [upd_ne hb] at e
  exact (x b u e).stay (fun c v _ q => k c v q) (fun c q => by rw [upd_ne (ne_of_none q hn)]; exact q) fun c xs q => by rw [upd_ne (ne_of_none q hn)]; exact q
end
def Rd (H : Hp) (a : Addr) (u : HO) : Prop := H a = some u ∨ ∃ o, H a = some (.frz o u)
theorem Rd.ok {P : Program} {w : World} {H : Hp} {h : Heap} {a : Addr} {u : HO} (r : Rd H a u) (x : HOk P w H h) : ObjOk P w H h a u := by
 rcases r with r | ⟨o, r⟩
 ·exact x a u r
 ·obtain ⟨_, q⟩ := x a _ r
  exact q
def Mut : Option HO → Prop
 | some (.lst _) => True
 | some (.dK _) => True
 | some (.dT _) => True
 | some (.set _ _) => True
 | some (.ins _ _ _) => True
 | some (.ext _) => True
 | _ => False
section
variable {P : Program} {w : World} {H : Hp} {h h' : Heap} {x e : Addr} {o' : HO}
theorem HOk.write (ok : HOk P w H h) (mu : Mut (H x)) (he : e = x ∨ H e = some (.own x)) (k : ∀ b u, b ≠ e → h.get? b = some u → h'.get? b = some u) (heo : ∃ u, h'.get? e = some u)
  (new : ObjOk P w (upd H x o') h' x o') : HOk P w (upd H x o') h' := fun b u q => by
 have nown : ∀ c y, H c = some (.own y) → c ≠ x := fun c y r z => by subst z; rw [r] at mu; exact mu
 have ntup : ∀ c xs, H c = some (.tup xs) → c ≠ x := fun c xs r z => by subst z; rw [r] at mu; exact mu
 by_cases hb : b = x
 ·subst hb; rw [upd_same] at q; cases q; exact new
 ·rw [upd_ne hb] at q
  by_cases hbe : b = e
  ·have q' : H b = some (.own x) := by
    rcases he with z | z
    ·exact absurd (hbe.trans z) hb
    ·rw [hbe]; exact z
   rw [q] at q'; cases q'
   obtain ⟨v, hv⟩ := heo
   exact ⟨v, by rw [hbe]; exact hv⟩
  ·refine (ok b u q).stay (fun c v hc r => k c v ?_ r) (fun c r => by rw [upd_ne (nown c b r)]; exact r) fun c xs r => by rw [upd_ne (ntup c xs r)]; exact r
   rcases hc with rfl | hc
   ·exact hbe
   ·rintro rfl
    rcases he with z | z
    ·exact nown c b hc z
    ·rw [hc] at z; cases z; exact hb rfl
end
structure Un (fs ex : List Addr) (H H' : Hp) (h h' : Heap) : Prop where
 keep : ∀ b o, h.get? b = some o → H b = none → b ∉ fs → b ∉ ex → h'.get? b = some o
 slot : ∀ b o, h.get? b = some o → H b = none → b ∈ fs → b ∉ ex → ∃ sl, h'.get? b = some { o with slots := sl }
 free : ∀ b o, h.get? b = some o → H b = none → b ∉ ex → H' b = none
 there : ∀ b o, h.get? b = some o → b ∉ ex → ∃ o', h'.get? b = some o'
 tups : ∀ b xs, H b = some (.tup xs) → H' b = some (.tup xs)
 frzs : ∀ b o u, H b = some (.frz o u) → H' b = some (.frz o u)
 tbls : ∀ b ps, H b = some (.tbl ps) → ∃ more, H' b = some (.tbl (ps ++ more))
section
variable {fs fs' ex ex' : List Addr} {H H1 H2 : Hp} {h h1 h2 h' : Heap} {a x e : Addr} {o : HO}
theorem Un.any (u : Un fs ex H H1 h h1) {b : Addr} {ob : Obj} (q : h.get? b = some ob) (n : H b = none) (hx : b ∉ ex) : ∃ sl, h1.get? b = some { ob with slots := sl } := by
 by_cases hb : b ∈ fs
 ·exact u.slot b ob q n hb hx
 ·exact ⟨ob.slots, u.keep b ob q n hb hx⟩
theorem Un.kept (k : ∀ b u, h.get? b = some u → h'.get? b = some u) : Un fs ex H H h h' :=
 ⟨fun b ob q _ _ _ => k b ob q, fun b ob q _ _ _ => ⟨ob.slots, k b ob q⟩, fun _ _ _ n _ => n, fun b ob q _ => ⟨ob, k b ob q⟩, fun _ _ q => q, fun _ _ _ q => q, fun _ ps q => ⟨#[], by rw [q]; simp⟩⟩
theorem Un.refl : Un fs ex H H h h := Un.kept fun _ _ q => q
theorem Un.laid (k : ∀ b u, h.get? b = some u → h'.get? b = some u) (hp : h.objs.size ≤ a) (hn : H a = none) : Un fs ex H (upd H a o) h h' where
 keep := fun b u q _ _ _ => k b u q
 slot := fun b u q _ _ _ => ⟨u.slots, k b u q⟩
 free := fun b u q n _ => by rw [upd_ne (Nat.ne_of_lt (Nat.lt_of_lt_of_le (Heap.lt_size q) hp))]; exact n
 there := fun b u q _ => ⟨u, k b u q⟩
 tups := fun b xs q => by rw [upd_ne (ne_of_none q hn)]; exact q
 frzs := fun b u xs q => by rw [upd_ne (ne_of_none q hn)]; exact q
 tbls := fun b ps q => ⟨#[], by rw [upd_ne (ne_of_none q hn), q]; simp⟩
theorem Un.write (mu : Mut (H x)) (he : e = x ∨ H e = some (.own x)) (k : ∀ b u, b ≠ e → h.get? b = some u → h'.get? b = some u) (heo : ∃ u, h'.get? e = some u) : Un fs ex H (upd H x o) h h' := by
 have hx : ∀ b, H b = none → b ≠ x := fun b n z => by subst z; rw [n] at mu; exact mu
 have hb : ∀ b, H b = none → b ≠ e := fun b n z => by
  subst z
  rcases he with r | r
  ·exact hx b n r
  ·rw [n] at r; cases r
 have hm : ∀ b u, H b = some u → ¬ Mut (some u) → b ≠ x := fun b u q nm z => by subst z; rw [q] at mu; exact nm mu
 refine ⟨fun b u q n _ _ => k b u (hb b n) q, fun b u q n _ _ => ⟨u.slots, k b u (hb b n) q⟩, fun b u q n _ => by rw [upd_ne (hx b n)]; exact n, fun b u q _ => ?_,
  fun b xs q => by rw [upd_ne (hm b _ q fun z => z)]; exact q, fun b u xs q => by rw [upd_ne (hm b _ q fun z => z)]; exact q, fun b ps q => ⟨#[], by rw [upd_ne (hm b _ q fun z => z), q]; simp⟩⟩
 by_cases hbe : b = e
 ·subst hbe; exact heo
 ·exact ⟨u, k b u hbe q⟩
end
def trk (h : Heap) (H : Hp) : List Addr := (List.range h.objs.size).filter fun a => (H a).isSome
def hidT (h : Heap) (H : Hp) : Heap := PySem.W.hideAll h (trk h H)
theorem hidT_size (h : Heap) (H : Hp) : (hidT h H).objs.size = h.objs.size := PySem.W.hideAll_size _ _
theorem hidT_get {h : Heap} {H : Hp} {b : Addr} {o : Obj} (e : h.get? b = some o) (n : H b = none) : (hidT h H).get? b = some o :=
 PySem.W.hideAll_get _ e fun hm => by
  have q : (H b).isSome = true := (List.mem_filter.mp hm).2
  rw [n] at q; simp at q
theorem of_hidT {h : Heap} {H : Hp} {b : Addr} {o : Obj} (e : (hidT h H).get? b = some o) : h.get? b = some o ∧ H b = none := by
 have e' : h.get? b = some o := PySem.W.of_hideAll (trk h H) e
 refine ⟨e', ?_⟩
 cases q : H b with
 | none => rfl
 | some x =>
  have hm : b ∈ trk h H := List.mem_filter.mpr ⟨List.mem_range.mpr (Heap.lt_size e'), by simp [q]⟩
  have z : (hidT h H).get? b = none := PySem.W.hideAll_none (trk h H) hm
  rw [z] at e; cases e
def allNews (g h : Heap) (L : Addr) : List (Addr × Obj) := (List.range h.objs.size).filterMap fun a => if a = L ∨ (g.get? a).isSome = true then none else (h.get? a).map fun o => (a, o)
def rest (g h : Heap) (L d : Addr) : List (Addr × Obj) := (allNews g h L).filter fun p => decide (p.1 ≠ d)
structure Mod (K : PySem.W.Frag) (mg : Str → Option Value) (base : Heap) : Prop where
 kin : K.In base
 glob : base.Ns mainGlobals mg
 blt : ∃ mb, base.Ns builtinsNs mb ∧ ∀ x : Str, x ≠ "__name__" → mb x = bootBuiltins x
 nolimit : base.NoLimit
structure Cx where
 prog : Program
 w : World
 K : PySem.W.Frag
 mg : Str → Option Value
 base : Heap
 A : Around
 N : List Str
 s₀ : Shared
 H₀ : Hp
 env : Env
 outer : List Env
 stack : List Env
 ex : List Addr
 fn : Str → Bool
 calm : Bool
 pn : List (Addr × Obj)
 xe : Value → Shared → Prop
def frs (l : List Env) : List Addr := l.filterMap (·.frame)
abbrev Cx.fs (X : Cx) : List Addr := frs X.outer
def Vis (sc : Scope) (x : Str) : Prop := sc.names.lookup x = some .local ∨ sc.names.lookup x = some .cell ∨ sc.names.lookup x = some .free
def Loc (sc : Scope) (x : Str) : Prop := sc.names.lookup x = some .local ∨ sc.names.lookup x = some .cell
def Look (env : Env) (h : Heap) (m : Str → Option Value) (x : Str) (u : Value) : Prop :=
 (env.kindOf x = some .local ∧ m x = some u) ∨ ((env.kindOf x = some .cell ∨ env.kindOf x = some .free) ∧ ∃ c, env.cells.lookup x = some c ∧ h.IsCell c (some u))
structure Cx.Ok (X : Cx) : Prop where
 mod : Mod X.K X.mg X.base
 kind : X.env.scope.kind = .function
 glob : X.env.globals = mainGlobals
 blt : X.env.builtins = builtinsNs
 above : X.s₀.heap.objs.size ≤ X.env.locals
 inj : ∀ x y c, X.env.cells.lookup x = some c → X.env.cells.lookup y = some c → x = y
 has : ∀ x, (X.env.kindOf x = some .cell ∨ X.env.kindOf x = some .free) → ∃ c, X.env.cells.lookup x = some c
 cab : ∀ x c, X.fn x = true → X.env.cells.lookup x = some c → X.s₀.heap.objs.size ≤ c
 hd : X.calm = true → X.A.handled = none
 frames : X.A.frames = some X.stack
 stk : X.stack = X.outer ∨ (X.stack = X.env :: X.outer ∧ X.env.frame = some X.env.locals)
 exf : ∀ b ∈ X.ex, b ≠ X.env.locals ∧ ∀ x c, X.env.cells.lookup x = some c → c ≠ b
 bs : ∀ b o, X.base.get? b = some o → X.s₀.heap.get? b = some o ∧ X.H₀ b = none
 bsz : X.base.objs.size ≤ X.s₀.heap.objs.size
 noex : ∀ b o, X.base.get? b = some o → b ∉ X.ex
 exfs : ∀ b ∈ X.ex, b ∉ X.fs
 funs : X.s₀.heap.FunFrames X.base X.outer
 frf : ∀ b ∈ X.fs, X.H₀ b = none
structure Inv (X : Cx) (pins : List (Addr × Obj)) (σ : List (Option V)) (H : Hp) (s : Shared) : Prop where
 ok : X.Ok
 os : s.os = X.s₀.os
 bare : AllBare s.gens
 base : Un X.fs X.ex X.H₀ H X.s₀.heap s.heap
 loc : ∃ m, s.heap.Ns X.env.locals m ∧ ∀ (i : Nat) (x : Str) (v : V), X.N[i]? = some x → σ[i]? = some (some v) → Vis X.env.scope x → ∃ u, RelV v u ∧ Look X.env s.heap m x u
 cell : ∀ x c, X.env.cells.lookup x = some c → ∃ v, s.heap.IsCell c v
 free : H X.env.locals = none
 freeC : ∀ x c, X.env.cells.lookup x = some c → H c = none
 pin : ∀ p ∈ X.pn ++ pins, s.heap.get? p.1 = some p.2 ∧ H p.1 = none ∧ p.1 ≠ X.env.locals ∧ p.1 ∉ X.fs ∧ ∀ v, p.2.data ≠ .cell v
 hok : HOk X.prog X.w H s.heap
 len : σ.length = X.N.length
section
variable {X : Cx} {pins : List (Addr × Obj)} {σ : List (Option V)} {H H' : Hp} {s : Shared} {h' : Heap}
theorem Cx.Ok.nofr (ok : X.Ok) {b : Addr} {o : Obj} (e : X.base.get? b = some o) : b ∉ X.fs := fun hb => by
 have := (ok.funs.mem hb).1
 rw [e] at this; cases this
theorem Inv.bs (I : Inv X pins σ H s) : ∀ b o, X.base.get? b = some o → s.heap.get? b = some o ∧ H b = none := fun b o e =>
 ⟨I.base.keep b o (I.ok.bs b o e).1 (I.ok.bs b o e).2 (I.ok.nofr e) (I.ok.noex b o e), I.base.free b o (I.ok.bs b o e).1 (I.ok.bs b o e).2 (I.ok.noex b o e)⟩
theorem Inv.bk (I : Inv X pins σ H s) : ∀ b o, X.base.get? b = some o → s.heap.get? b = some o := fun b o e => (I.bs b o e).1
theorem Inv.mod (I : Inv X pins σ H s) : Mod X.K X.mg X.base := I.ok.mod
theorem Inv.kIn (I : Inv X pins σ H s) : X.K.In s.heap := I.ok.mod.kin.keeps I.bk
theorem Inv.lt (I : Inv X pins σ H s) : X.env.locals < s.heap.objs.size := by obtain ⟨_, hn, _⟩ := I.loc; exact hn.lt
theorem Inv.sz (I : Inv X pins σ H s) : X.s₀.heap.objs.size ≤ s.heap.objs.size := Nat.le_trans I.ok.above (Nat.le_of_lt I.lt)
theorem Inv.nofs (I : Inv X pins σ H s) {a : Addr} (h : s.heap.objs.size ≤ a) : a ∉ X.fs := fun hb => by
 obtain ⟨_, o, ho, _⟩ := I.ok.funs.mem hb
 exact absurd (Nat.lt_of_lt_of_le (Heap.lt_size ho) (Nat.le_trans I.sz h)) (Nat.lt_irrefl _)
theorem Inv.cne (I : Inv X pins σ H s) : ∀ x c, X.env.cells.lookup x = some c → c ≠ X.env.locals := fun x c e z => by
 obtain ⟨v, o, ho, hd⟩ := I.cell x c e
 obtain ⟨m, ⟨o', es, ep, ho', hd', _⟩, _⟩ := I.loc
 rw [z, ho'] at ho; cases ho; rw [hd'] at hd; cases hd
theorem Inv.funs (I : Inv X pins σ H s) : s.heap.FunFrames X.base X.outer := by
 have all : ∀ (l : List Env), (∀ b ∈ frs l, b ∈ X.fs) → X.s₀.heap.FunFrames X.base l → s.heap.FunFrames X.base l := by
  intro l
  induction l with
  | nil => intro _ _; trivial
  | cons env r ih =>
   intro hs hl
   obtain ⟨hk, ⟨L, o, hf, hn, ho, hd⟩, hr⟩ := hl
   have hL : L ∈ X.fs := hs L (by unfold frs; rw [List.filterMap_cons, hf]; exact List.mem_cons_self)
   obtain ⟨sl, e⟩ := I.base.slot L o ho (I.ok.frf L hL) hL fun z => I.ok.exfs L z hL
   exact ⟨hk, ⟨L, _, hf, hn, e, hd⟩, ih (fun b hb => hs b (by unfold frs; rw [List.filterMap_cons, hf]; exact List.mem_cons_of_mem _ hb)) hr⟩
 exact all X.outer (fun _ hb => hb) I.ok.funs
theorem Inv.stack (I : Inv X pins σ H s) : s.heap.FunFrames X.base X.stack := by
 rcases I.ok.stk with e | ⟨e, hf⟩
 ·rw [e]; exact I.funs
 ·rw [e]
  obtain ⟨m, hn, _⟩ := I.loc
  refine .cons (by rw [I.ok.kind]; decide) hf hn ?_ I.funs
  exact Heap.get?_none_of_le (Nat.le_trans I.ok.bsz I.ok.above)
theorem Inv.stkSub (I : Inv X pins σ H s) : ∀ b ∈ frs X.stack, b ∈ X.env.locals :: X.fs := fun b hb => by
 rcases I.ok.stk with e | ⟨e, hf⟩
 ·rw [e] at hb; exact List.mem_cons_of_mem _ hb
 ·rw [e] at hb
  unfold frs at hb
  rw [List.filterMap_cons, hf] at hb
  exact hb
theorem Inv.stkFree (I : Inv X pins σ H s) : ∀ b ∈ frs X.stack, H b = none := fun b hb => by
 rcases List.mem_cons.mp (I.stkSub b hb) with e | hb
 ·rw [e]; exact I.free
 ·obtain ⟨_, o, ho, _⟩ := I.ok.funs.mem hb
  exact I.base.free b o ho (I.ok.frf b hb) fun z => I.ok.exfs b z hb
theorem Inv.step {g' : Array GenState} {t' : Nat} {d' : Drawn} {ch : List Addr} (I : Inv X pins σ H s)
  (hch : ∀ b ∈ ch, (b ∈ X.ex ∨ X.s₀.heap.objs.size ≤ b) ∧ b ≠ X.env.locals ∧ (∀ x c, X.env.cells.lookup x = some c → c ≠ b) ∧ ∀ p ∈ X.pn ++ pins, p.1 ≠ b)
  (keep : ∀ b o, b ≠ X.env.locals → b ∉ X.fs → b ∉ ch → s.heap.get? b = some o → H b = none → h'.get? b = some o)
  (slot : ∀ b o, b ≠ X.env.locals → b ∈ X.fs → b ∉ ch → s.heap.get? b = some o → H b = none → ∃ sl, h'.get? b = some { o with slots := sl }) (free : ∀ b o, b ∉ ch → s.heap.get? b = some o → H b = none → H' b = none)
  (there : ∀ b o, b ∉ ch → s.heap.get? b = some o → ∃ o', h'.get? b = some o')
  (tups : ∀ b xs, H b = some (.tup xs) → H' b = some (.tup xs)) (frzs : ∀ b o u, H b = some (.frz o u) → H' b = some (.frz o u)) (tbls : ∀ b ps, H b = some (.tbl ps) → ∃ more, H' b = some (.tbl (ps ++ more)))
  (ns : ∀ m, s.heap.Ns X.env.locals m → h'.Ns X.env.locals m) (hok : HOk X.prog X.w H' h') (hg : AllBare g') :
  Inv X pins σ H' { s with heap := h', gens := g', drawn := d', toks := t' } := by
 have neL : ∀ b o, X.s₀.heap.get? b = some o → b ≠ X.env.locals := fun b o e => Nat.ne_of_lt (Nat.lt_of_lt_of_le (Heap.lt_size e) I.ok.above)
 have neC : ∀ b o, X.s₀.heap.get? b = some o → b ∉ X.ex → b ∉ ch := fun b o e hx hb => by
  rcases (hch b hb).1 with z | z
  ·exact hx z
  ·exact absurd (Nat.lt_of_lt_of_le (Heap.lt_size e) z) (Nat.lt_irrefl _)
 have cellK : ∀ x c, X.env.cells.lookup x = some c → ∀ v, s.heap.IsCell c v → h'.IsCell c v := by
  rintro x c e v ⟨o, ho, hd⟩
  have nch : c ∉ ch := fun z => (hch c z).2.2.1 x c e rfl
  by_cases hc : c ∈ X.fs
  ·obtain ⟨sl, q⟩ := slot c o (I.cne x c e) hc nch ho (I.freeC x c e)
   exact ⟨_, q, hd⟩
  ·exact ⟨o, keep c o (I.cne x c e) hc nch ho (I.freeC x c e), hd⟩
 refine ⟨I.ok, I.os, hg, ⟨fun b o e n hb hx => ?_, fun b o e n hb hx => ?_, fun b o e n hx => ?_, fun b o e hx => ?_, fun b xs e => tups b xs (I.base.tups b xs e), fun b o xs e => frzs b o xs (I.base.frzs b o xs e), fun b ps e => ?_⟩, ?_, fun x c e => ?_, ?_, fun x c e => ?_, fun p hp => ?_, hok, I.len⟩
 ·exact keep b o (neL b o e) hb (neC b o e hx) (I.base.keep b o e n hb hx) (I.base.free b o e n hx)
 ·obtain ⟨sl, e1⟩ := I.base.slot b o e n hb hx
  obtain ⟨sl', e2⟩ := slot b _ (neL b o e) hb (neC b o e hx) e1 (I.base.free b o e n hx)
  exact ⟨sl', e2⟩
 ·obtain ⟨o', e1⟩ := I.base.there b o e hx
  exact free b o' (neC b o e hx) e1 (I.base.free b o e n hx)
 ·obtain ⟨o', e1⟩ := I.base.there b o e hx
  exact there b o' (neC b o e hx) e1
 ·obtain ⟨m1, e1⟩ := I.base.tbls b ps e
  obtain ⟨m2, e2⟩ := tbls b _ e1
  exact ⟨m1 ++ m2, by rw [e2, Array.append_assoc]⟩
 ·obtain ⟨m, hn, hl⟩ := I.loc
  refine ⟨m, ns m hn, fun i x v e1 e2 e3 => ?_⟩
  obtain ⟨u, r, l⟩ := hl i x v e1 e2 e3
  refine ⟨u, r, ?_⟩
  rcases l with l | ⟨k, c, e, z⟩
  ·exact .inl l
  ·exact .inr ⟨k, c, e, cellK x c e _ z⟩
 ·obtain ⟨v, z⟩ := I.cell x c e
  exact ⟨v, cellK x c e v z⟩
 ·obtain ⟨m, ⟨o, _, _, ho, _⟩, _⟩ := I.loc
  exact free _ o (fun z => (hch _ z).2.1 rfl) ho I.free
 ·obtain ⟨v, o, ho, hd⟩ := I.cell x c e
  exact free c o (fun z => (hch c z).2.2.1 x c e rfl) ho (I.freeC x c e)
 ·obtain ⟨e, n, ne, nf, d⟩ := I.pin p hp
  have nch : p.1 ∉ ch := fun z => (hch p.1 z).2.2.2 p hp rfl
  exact ⟨keep p.1 p.2 ne nf nch e n, free p.1 p.2 nch e n, ne, nf, d⟩
theorem Inv.un {t' : Nat} (I : Inv X pins σ H s) (u : Un X.fs [] H H' s.heap h') (hok : HOk X.prog X.w H' h') : Inv X pins σ H' { s with heap := h', toks := t' } := by
 obtain ⟨m, ⟨o, es, ep, ho, r⟩, _⟩ := id I.loc
 obtain ⟨sl, hL⟩ := u.any ho I.free (by simp)
 exact I.step (g' := s.gens) (d' := s.drawn) (ch := []) (fun _ z => nomatch z) (fun b o _ hb _ e n => u.keep b o e n hb (by simp)) (fun b o _ hb _ e n => u.slot b o e n hb (by simp)) (fun b o _ e n => u.free b o e n (by simp)) (fun b o _ e => u.there b o e (by simp)) u.tups u.frzs u.tbls (fun m' hm => by
  obtain ⟨o', es', ep', ho', r'⟩ := hm
  rw [ho] at ho'; cases ho'
  exact ⟨_, es', ep', hL, r'⟩) hok I.bare
theorem Inv.call {g' : Array GenState} {t' : Nat} {d' : Drawn} {ch : List Addr} (I : Inv X pins σ H s) (u : Un (frs X.stack) ch H H' s.heap h') (hok : HOk X.prog X.w H' h') (hg : AllBare g')
  (hch : ∀ b ∈ ch, (b ∈ X.ex ∨ X.s₀.heap.objs.size ≤ b) ∧ b ≠ X.env.locals ∧ (∀ x c, X.env.cells.lookup x = some c → c ≠ b) ∧ ∀ p ∈ X.pn ++ pins, p.1 ≠ b) :
  Inv X pins σ H' { s with heap := h', gens := g', drawn := d', toks := t' } := by
 obtain ⟨m, ⟨o, es, ep, ho, r⟩, _⟩ := id I.loc
 obtain ⟨sl, hL⟩ := u.any ho I.free fun z => (hch _ z).2.1 rfl
 exact I.step (ch := ch) hch (fun b o hL hb hc e n => u.keep b o e n (fun z => (List.mem_cons.mp (I.stkSub b z)).elim hL hb) hc) (fun b o _ _ hc e n => u.any e n hc) (fun b o hc e n => u.free b o e n hc) (fun b o hc e => u.there b o e hc) u.tups u.frzs u.tbls (fun m' hm => by
  obtain ⟨o', es', ep', ho', r'⟩ := hm
  rw [ho] at ho'; cases ho'
  exact ⟨_, es', ep', hL, r'⟩) hok hg
theorem Inv.turned {t' : Nat} {it : Addr} (I : Inv X pins σ H s) (k : ∀ b o, b ≠ it → s.heap.get? b = some o → h'.get? b = some o) (hn : H it = none) (hL : it ≠ X.env.locals)
  (h1 : it ∈ X.ex ∨ X.s₀.heap.objs.size ≤ it) (h2 : ∀ x c, X.env.cells.lookup x = some c → c ≠ it) (h3 : ∀ p ∈ X.pn ++ pins, p.1 ≠ it) : Inv X pins σ H { s with heap := h', toks := t' } := by
 have nit : ∀ b u, H b = some u → b ≠ it := fun b u e z => by rw [z, hn] at e; cases e
 refine I.step (g' := s.gens) (d' := s.drawn) (ch := [it]) (fun b hb => ?_) (fun b o _ _ hc e _ => k b o (fun z => hc (by simp [z])) e) (fun b o _ _ hc e _ => ⟨o.slots, k b o (fun z => hc (by simp [z])) e⟩) (fun _ _ _ _ n => n)
  (fun b o hc e => ⟨o, k b o (fun z => hc (by simp [z])) e⟩) (fun _ _ e => e) (fun _ _ _ e => e) (fun b ps e => ⟨#[], by rw [e]; simp⟩) (fun m hm => ?_) (fun b u e => ?_) I.bare
 ·have e : b = it := by simpa using hb
  subst e
  exact ⟨h1, hL, h2, h3⟩
 ·obtain ⟨o, es, ep, ho, r⟩ := hm
  exact ⟨o, es, ep, k _ o (Ne.symm hL) ho, r⟩
 ·refine (I.hok b u e).stay (fun c v hc q => k c v ?_ q) (fun _ q => q) fun _ _ q => q
  rcases hc with z | z
  ·rw [z]; exact nit b u e
  ·exact nit c _ z
theorem Inv.tok (I : Inv X pins σ H s) (t : Nat) : Inv X pins σ H { s with toks := t } := I.un (h' := s.heap) (t' := t) Un.refl I.hok
theorem Inv.kept {t' : Nat} (I : Inv X pins σ H s) (k : ∀ b u, s.heap.get? b = some u → h'.get? b = some u) : Inv X pins σ H { s with heap := h', toks := t' } := I.un (Un.kept k) (I.hok.kept k)
theorem Inv.laid {a : Addr} {o : HO} {t' : Nat} (I : Inv X pins σ H s) (k : ∀ b u, s.heap.get? b = some u → h'.get? b = some u) (hp : s.heap.objs.size ≤ a) (new : ObjOk X.prog X.w (upd H a o) h' a o) :
  Inv X pins σ (upd H a o) { s with heap := h', toks := t' } := I.un (Un.laid k hp (I.hok.fresh hp)) (I.hok.laid k hp new)
theorem Inv.write {x e : Addr} {o : HO} {t' : Nat} (I : Inv X pins σ H s) (mu : Mut (H x)) (he : e = x ∨ H e = some (.own x)) (k : ∀ b u, b ≠ e → s.heap.get? b = some u → h'.get? b = some u) (heo : ∃ u, h'.get? e = some u)
  (new : ObjOk X.prog X.w (upd H x o) h' x o) : Inv X pins σ (upd H x o) { s with heap := h', toks := t' } := I.un (Un.write mu he k heo) (I.hok.write mu he k heo new)
theorem Inv.weak {σ' : List (Option V)} (I : Inv X pins σ H s) (hl : σ'.length = σ.length) (w : ∀ (i : Nat) v, σ'[i]? = some (some v) → σ[i]? = some (some v)) : Inv X pins σ' H s :=
 ⟨I.ok, I.os, I.bare, I.base, (by obtain ⟨m, hn, hl'⟩ := I.loc; exact ⟨m, hn, fun i x v e1 e2 e3 => hl' i x v e1 (w i v e2) e3⟩), I.cell, I.free, I.freeC, I.pin, I.hok, hl.trans I.len⟩
theorem Inv.pins_of {pins' : List (Addr × Obj)} (I : Inv X pins σ H s) (h : ∀ p ∈ pins', s.heap.get? p.1 = some p.2 ∧ H p.1 = none ∧ p.1 ≠ X.env.locals ∧ p.1 ∉ X.fs ∧ ∀ v, p.2.data ≠ .cell v) : Inv X pins' σ H s :=
 ⟨I.ok, I.os, I.bare, I.base, I.loc, I.cell, I.free, I.freeC, fun p hp => (List.mem_append.mp hp).elim (fun z => I.pin p (List.mem_append_left _ z)) (h p), I.hok, I.len⟩
theorem nodup_ix {N : List Str} (hN : N.Nodup) {i j : Nat} {x : Str} (a : N[i]? = some x) (b : N[j]? = some x) : i = j := by
 obtain ⟨h1, e1⟩ := List.getElem?_eq_some_iff.mp a
 obtain ⟨h2, e2⟩ := List.getElem?_eq_some_iff.mp b
 exact (List.getElem_inj hN).mp (e1.trans e2.symm)
theorem store_ok2 {M : Model} {A : Around} {E : Value → Shared → Prop} {i : Nat} {x : Str} {v : V} {u : Value} {Q : Unit → Shared → Prop} (I : Inv X pins σ H s) (hN : X.N.Nodup) (hi : X.N[i]? = some x) (hx : Loc X.env.scope x) (r : RelV v u)
  (h : ∀ s', Inv X pins (σ.set i (some v)) H s' → (∃ a, Heap.SameBut a s.heap s'.heap ∧ (a = X.env.locals ∨ X.env.cells.lookup x = some a)) → Q () s') (hf : X.fn x = true ∨ X.env.scope.names.lookup x = some .local := by first | exact .inl rfl | exact .inr rfl | assumption) : wpAny M A (storeName X.env x u) Q E s := by
 obtain ⟨m, hn, hl⟩ := id I.loc
 have hcls : (X.env.scope.kind == .class || (X.env.scope.kind == .module && X.env.locals != X.env.globals)) = false := by rw [I.ok.kind]; rfl
 have hiσ : i < σ.length := by rw [I.len]; exact (List.getElem?_eq_some_iff.mp hi).1
 have cne := I.cne
 have tracked : ∀ {a : Addr} {h' : Heap}, (∃ o, s.heap.get? a = some o ∧ H a = none) → Heap.SameBut a s.heap h' → HOk X.prog X.w H h' := fun {a h'} ha hs b ob e => by
  obtain ⟨_, _, hfree⟩ := ha
  refine (I.hok b ob e).stay (fun c w' hc q => (hs.2 c ?_).trans q) (fun _ q => q) fun _ _ q => q
  rintro rfl
  rcases hc with rfl | hc
  ·rw [hfree] at e; cases e
  ·rw [hfree] at hc; cases hc
 rcases hx with hk | hk
 ·refine wpAny_storeName_local hk hn (fun h' hn' hs => ?_) hcls
  obtain ⟨oL, _, _, hoL, _⟩ := id hn
  refine h _ ⟨I.ok, I.os, I.bare, ⟨fun b o e n hb hx => ?_, fun b o e n hb hx => ?_, I.base.free, fun b o e hx => ?_, I.base.tups, I.base.frzs, I.base.tbls⟩, ⟨_, hn', fun j y v' e1 e2 e3 => ?_⟩, fun y c e => ?_, I.free, I.freeC, fun p hp => ?_, tracked ⟨oL, hoL, I.free⟩ hs, by simpa using I.len⟩ ⟨_, hs, .inl rfl⟩
  ·exact (hs.2 b (Nat.ne_of_lt (Nat.lt_of_lt_of_le (Heap.lt_size e) I.ok.above))).trans (I.base.keep b o e n hb hx)
  ·obtain ⟨sl, e1⟩ := I.base.slot b o e n hb hx
   exact ⟨sl, (hs.2 b (Nat.ne_of_lt (Nat.lt_of_lt_of_le (Heap.lt_size e) I.ok.above))).trans e1⟩
  ·obtain ⟨o', e1⟩ := I.base.there b o e hx
   exact ⟨o', (hs.2 b (Nat.ne_of_lt (Nat.lt_of_lt_of_le (Heap.lt_size e) I.ok.above))).trans e1⟩
  ·by_cases hj : j = i
   ·subst hj
    rw [hi] at e1; cases e1
    rw [List.getElem?_set_self hiσ] at e2
    cases e2
    exact ⟨u, r, .inl ⟨hk, by simp⟩⟩
   ·rw [List.getElem?_set_ne (Ne.symm hj)] at e2
    obtain ⟨u', r', q⟩ := hl j y v' e1 e2 e3
    refine ⟨u', r', ?_⟩
    rcases q with ⟨k, e⟩ | ⟨k, c, e, z⟩
    ·refine .inl ⟨k, ?_⟩
     have : y ≠ x := fun e => hj (nodup_ix hN e1 (e ▸ hi))
     simp [this, e]
    ·exact .inr ⟨k, c, e, z.sameBut hs (cne y c e)⟩
  ·obtain ⟨w', z⟩ := I.cell y c e
   exact ⟨w', z.sameBut hs (cne y c e)⟩
  ·obtain ⟨e, n, ne, nf, d⟩ := I.pin p hp
   exact ⟨(hs.2 p.1 ne).trans e, n, ne, nf, d⟩
 ·have hfn : X.fn x = true := by
   rcases hf with z | z
   ·exact z
   ·rw [z] at hk; cases hk
  obtain ⟨c, hc⟩ := I.ok.has x (.inl hk)
  obtain ⟨w', z⟩ := I.cell x c hc
  refine wpAny_storeName_cell I.ok.kind hk hc z (fun h' hc' hs => ?_)
  obtain ⟨oc, hoc, hocd⟩ := id z
  refine h { s with heap := h' } ⟨I.ok, I.os, I.bare, ⟨fun b o e n hb hx => ?_, fun b o e n hb hx => ?_, I.base.free, fun b o e hx => ?_, I.base.tups, I.base.frzs, I.base.tbls⟩, ⟨m, hn.sameBut hs (Ne.symm (cne x c hc)), fun j y v' e1 e2 e3 => ?_⟩, fun y c' e => ?_, I.free, I.freeC, fun p hp => ?_, tracked ⟨oc, hoc, I.freeC x c hc⟩ hs, by simpa using I.len⟩ ⟨c, hs, .inr hc⟩
  ·exact (hs.2 b (Nat.ne_of_lt (Nat.lt_of_lt_of_le (Heap.lt_size e) (I.ok.cab x c hfn hc)))).trans (I.base.keep b o e n hb hx)
  ·obtain ⟨sl, e1⟩ := I.base.slot b o e n hb hx
   exact ⟨sl, (hs.2 b (Nat.ne_of_lt (Nat.lt_of_lt_of_le (Heap.lt_size e) (I.ok.cab x c hfn hc)))).trans e1⟩
  ·obtain ⟨o', e1⟩ := I.base.there b o e hx
   exact ⟨o', (hs.2 b (Nat.ne_of_lt (Nat.lt_of_lt_of_le (Heap.lt_size e) (I.ok.cab x c hfn hc)))).trans e1⟩
  ·by_cases hj : j = i
   ·subst hj
    rw [hi] at e1; cases e1
    rw [List.getElem?_set_self hiσ] at e2
    cases e2
    exact ⟨u, r, .inr ⟨.inl hk, c, hc, hc'⟩⟩
   ·rw [List.getElem?_set_ne (Ne.symm hj)] at e2
    obtain ⟨u', r', q⟩ := hl j y v' e1 e2 e3
    refine ⟨u', r', ?_⟩
    rcases q with q | ⟨k, c', e, z'⟩
    ·exact .inl q
    ·refine .inr ⟨k, c', e, z'.sameBut hs ?_⟩
     rintro rfl
     exact hj (nodup_ix hN e1 (I.ok.inj _ _ _ e hc ▸ hi))
  ·by_cases hcc : c' = c
   ·subst hcc; exact ⟨_, hc'⟩
   ·obtain ⟨w2, z2⟩ := I.cell y c' e
    exact ⟨w2, z2.sameBut hs hcc⟩
  ·obtain ⟨e, n, ne, nf, d⟩ := I.pin p hp
   refine ⟨(hs.2 p.1 ?_).trans e, n, ne, nf, d⟩
   intro q
   rw [q, hoc] at e
   have q' : oc = p.2 := Option.some.inj e
   exact d w' (by rw [← q']; exact hocd)
theorem store_ok {M : Model} {A : Around} {E : Value → Shared → Prop} {i : Nat} {x : Str} {v : V} {u : Value} {Q : Unit → Shared → Prop} (I : Inv X pins σ H s) (hN : X.N.Nodup) (hi : X.N[i]? = some x) (hx : Loc X.env.scope x) (r : RelV v u)
  (h : ∀ s', Inv X pins (σ.set i (some v)) H s' → Q () s') (hf : X.fn x = true ∨ X.env.scope.names.lookup x = some .local := by first | exact .inl rfl | exact .inr rfl | assumption) : wpAny M A (storeName X.env x u) Q E s :=
 store_ok2 I hN hi hx r (fun s' I' _ => h s' I') hf
theorem Inv.call' {s' : Shared} {ch : List Addr} (I : Inv X pins σ H s) (ho : s'.os = s.os) (u : Un (frs X.stack) ch H H' s.heap s'.heap) (hok : HOk X.prog X.w H' s'.heap) (hg : AllBare s'.gens)
  (hch : ∀ b ∈ ch, (b ∈ X.ex ∨ X.s₀.heap.objs.size ≤ b) ∧ b ≠ X.env.locals ∧ (∀ x c, X.env.cells.lookup x = some c → c ≠ b) ∧ ∀ p ∈ X.pn ++ pins, p.1 ≠ b) : Inv X pins σ H' s' := by
 obtain ⟨h', g', d', t', o'⟩ := s'
 have e : o' = s.os := ho
 subst e
 exact I.call (g' := g') (t' := t') (d' := d') u hok hg hch
end
abbrev XK := Value → Option Addr → Hp → Prop
abbrev St := List (Option V)
abbrev VK := V → Hp → Prop
abbrev TE := St → Hp → VK → Prop
abbrev TT := St → Hp → (Bool → Hp → Prop) → Prop
abbrev TA := St → Hp → (List V → Hp → Prop) → Prop
structure Ends where
 nx : St → Hp → Prop
 rt : VK
 bk : St → Hp → Prop := fun _ _ => False
 ct : St → Hp → Prop := fun _ _ => False
abbrev TS := Ends → St → Hp → Prop
def EP (X : Cx) (pins : List (Addr × Obj)) (σ : St) (Q : VK) (u : Value) (s' : Shared) : Prop := ∃ v H', Inv X pins σ H' s' ∧ RelV v u ∧ Q v H'
def TP (X : Cx) (pins : List (Addr × Obj)) (σ : St) (Q : Bool → Hp → Prop) (b : Bool) (s' : Shared) : Prop := ∃ H', Inv X pins σ H' s' ∧ Q b H'
def AP (X : Cx) (pins : List (Addr × Obj)) (σ : St) (Q : List V → Hp → Prop) (us : List Value) (s' : Shared) : Prop := ∃ vs H', Inv X pins σ H' s' ∧ Vals vs us ∧ Q vs H'
def SP (X : Cx) (pins : List (Addr × Obj)) (D : Ends) (f : Flow) (s' : Shared) : Prop :=
 match f with
 | .next => ∃ σ' H', Inv X pins σ' H' s' ∧ D.nx σ' H'
 | .brk => ∃ σ' H', Inv X pins σ' H' s' ∧ D.bk σ' H'
 | .cont => ∃ σ' H', Inv X pins σ' H' s' ∧ D.ct σ' H'
 | .ret u => ∃ v σ' H', Inv X pins σ' H' s' ∧ RelV v u ∧ D.rt v H'
def PE (X : Cx) (e : Expr) (t : TE) : Prop :=
 ∀ (pins : List (Addr × Obj)) (s : Shared) (σ : St) (H : Hp) (Q : VK), Inv X pins σ H s → t σ H Q → wpAny (model X.prog X.w) X.A (eval e X.env) (EP X pins σ Q) X.xe s
def PT (X : Cx) (e : Expr) (t : TT) : Prop :=
 ∀ (pins : List (Addr × Obj)) (s : Shared) (σ : St) (H : Hp) (Q : Bool → Hp → Prop), Inv X pins σ H s → t σ H Q → wpAny (model X.prog X.w) X.A (isTrue e X.env (eval e X.env)) (TP X pins σ Q) X.xe s
def PW (X : Cx) (e : Expr) (t : TT) : Prop :=
 ∀ (whole : Sem Value) (pins : List (Addr × Obj)) (s : Shared) (σ : St) (H : Hp) (Q : Bool → Hp → Prop), Inv X pins σ H s → t σ H Q → wpAny (model X.prog X.w) X.A (isTrue e X.env whole) (TP X pins σ Q) X.xe s
def PA (X : Cx) (es : List Expr) (t : TA) : Prop :=
 ∀ (pos : Pos) (pins : List (Addr × Obj)) (s : Shared) (σ : St) (H : Hp) (Q : List V → Hp → Prop), Inv X pins σ H s → t σ H Q → wpAny (model X.prog X.w) X.A (spliced (backTo pos (starEach es X.env))) (AP X pins σ Q) X.xe s
def PS (X : Cx) (st : Stmt) (t : TS) : Prop :=
 ∀ (pins : List (Addr × Obj)) (s : Shared) (σ : St) (H : Hp) (D : Ends), Inv X pins σ H s → t D σ H → wpAny (model X.prog X.w) X.A (exec st X.env) (SP X pins D) X.xe s
def PSs (X : Cx) (st : List Stmt) (t : TS) : Prop :=
 ∀ (pins : List (Addr × Obj)) (s : Shared) (σ : St) (H : Hp) (D : Ends), Inv X pins σ H s → t D σ H → wpAny (model X.prog X.w) X.A (execs st X.env) (SP X pins D) X.xe s
theorem thn {α : Type} {t : Sem α} {Q Q' : α → Shared → Prop} {M : Model} {A : Around} {E : Value → Shared → Prop} {s : Shared} (h : wpAny M A t Q E s) (hQ : ∀ a s, Q a s → Q' a s) : wpAny M A t Q' E s := wpAny_mono h hQ fun _ _ x => x
section
variable {X : Cx}
def tVar (i : Nat) : TE := fun σ H Q => ∃ v, σ[i]? = some (some v) ∧ Q v H
def tC (v : V) : TE := fun _ H Q => Q v H
theorem pe_var {i : Nat} {x : Str} {pos : Pos} (hN : X.N[i]? = some x) (hv : Vis X.env.scope x) (hd : (x == ("__debug__" : Str)) = false := by decide) (hcd : (x == ("__classdict__" : Str)) = false := by decide) : PE X (.Name x pos) (tVar i) := by
 intro pins s σ H Q I h
 obtain ⟨v, e, h⟩ := h
 obtain ⟨m, hn, hl⟩ := I.loc
 obtain ⟨u, r, l⟩ := hl i x v hN e hv
 have fin : EP X pins σ Q u s := ⟨v, H, I, r, h⟩
 rcases l with ⟨hk, hm⟩ | ⟨hk, c, hc, hcell⟩
 ·exact wpAny_Name (wpAny_loadName_local I.ok.kind hk hn hm fin) hd
 ·rcases hk with hk | hk
  ·exact wpAny_Name (wpAny_loadName_cell I.ok.kind hk hc hcell fin) hd
  ·exact wpAny_Name (wpAny_loadName_free I.ok.kind hk hc hcell fin hcd) hd
theorem pe_int {i j pos} : PE X (.Constant (.int i) j pos) (tC (.int i)) := fun _ _ _ H _ I h => wpAny_Constant_int ⟨.int i, H, I.tok _, ⟨_, rfl⟩, h⟩
theorem pe_bl {b j pos} : PE X (.Constant (.bool b) j pos) (tC (.bl b)) := fun _ _ _ H _ I h => Constant_bool ⟨.bl b, H, I, rfl, h⟩
theorem pe_non {j pos} : PE X (.Constant .none j pos) (tC .non) := fun _ _ _ H _ I h => Constant_none ⟨.non, H, I, rfl, h⟩
theorem pe_str {x j pos} : PE X (.Constant (.str x) j pos) (tC (.str x)) := fun _ _ _ H _ I h => Calls.Constant_str ⟨.str x, H, I.tok _, ⟨_, rfl⟩, h⟩
def Gl (X : Cx) (x : Str) : Prop := X.env.kindOf x = some .globalImplicit
theorem ld_glob {E : Value → Shared → Prop} {pins : List (Addr × Obj)} {s : Shared} {σ : St} {H : Hp} {x : Str} {u : Value} {pos : Pos} {Q : Value → Shared → Prop} (I : Inv X pins σ H s) (hg : Gl X x) (hm : X.mg x = some u) (h : Q u s)
  (hd : (x == ("__debug__" : Str)) = false := by decide) : wpAny (model X.prog X.w) X.A (eval (.Name x pos) X.env) Q E s :=
 Calls.Name_function_global I.ok.kind hg (Calls.loadGlobal_global (by rw [I.ok.glob]; exact I.mod.glob.keeps I.bk) hm h) hd
theorem ld_blt {E : Value → Shared → Prop} {pins : List (Addr × Obj)} {s : Shared} {σ : St} {H : Hp} {x : Str} {u : Value} {pos : Pos} {Q : Value → Shared → Prop} (I : Inv X pins σ H s) (hg : Gl X x) (hm : X.mg x = none) (hv : bootBuiltins x = some u) (h : Q u s)
  (hn : x ≠ "__name__" := by decide) (hd : (x == ("__debug__" : Str)) = false := by decide) : wpAny (model X.prog X.w) X.A (eval (.Name x pos) X.env) Q E s := by
 obtain ⟨mb, h1, h2⟩ := I.mod.blt
 exact Calls.Name_function_global I.ok.kind hg (Calls.loadGlobal_builtin (by rw [I.ok.glob]; exact I.mod.glob.keeps I.bk) hm (by rw [I.ok.blt]; exact h1.keeps I.bk) ((h2 x hn).trans hv) h) hd
variable {a b : Expr} {ta tb : TE} {pos : Pos}
def PC (X : Cx) (op : CmpOp) (a b : Expr) (t : TE) : Prop :=
 ∀ (pins : List (Addr × Obj)) (s : Shared) (σ : St) (H : Hp) (Q : VK), Inv X pins σ H s → t σ H Q →
  wpAny (model X.prog X.w) X.A (eval a X.env) (fun v s₁ => wpAny (model X.prog X.w) X.A (eval b X.env) (fun u s₂ => wpAny (model X.prog X.w) X.A (compareOp op v u) (EP X pins σ Q) X.xe s₂) X.xe s₁) X.xe s
theorem nobehind (b : Expr) {op : CmpOp} (h : op ≠ .In) (h2 : op ≠ .NotIn) : behindInMarks op b = false := by
 have e1 : (op == CmpOp.In) = false := by cases op <;> first | rfl | exact absurd rfl h
 have e2 : (op == CmpOp.NotIn) = false := by cases op <;> first | rfl | exact absurd rfl h2
 cases b <;> simp [behindInMarks, e1, e2]
def tIsN (ta : TE) : TE := fun σ H Q => ta σ H fun x H1 => Q (.bl (decide (x = .non))) H1
def tNotN (ta : TE) : TE := fun σ H Q => ta σ H fun x H1 => Q (.bl (!decide (x = .non))) H1
theorem RelV.none_iff {x : V} {v : Value} (r : RelV x v) : (v == Value.none) = decide (x = .non) := by
 cases x with
 | non => cases r; rfl
 | bl _ => cases r; rfl
 | int _ => obtain ⟨t, rfl⟩ := r; rfl
 | str _ => obtain ⟨t, rfl⟩ := r; rfl
 | byt _ => obtain ⟨t, rfl⟩ := r; rfl
 | flt _ => obtain ⟨t, rfl⟩ := r; rfl
 | ref _ => cases r; rfl
 | ty _ => cases r; rfl
theorem pc_isN {j pos'} (ha : PE X a ta) : PC X .Is a (.Constant .none j pos') (tIsN ta) := by
 intro pins s σ H Q I h
 refine thn (ha pins s σ H _ I h) ?_
 rintro v s1 ⟨x, H1, I1, r1, q1⟩
 exact Constant_none (is_none_gen ⟨.bl _, H1, I1, by rw [r1.none_iff]; rfl, q1⟩)
theorem pc_notN {j pos'} (ha : PE X a ta) : PC X .IsNot a (.Constant .none j pos') (tNotN ta) := by
 intro pins s σ H Q I h
 refine thn (ha pins s σ H _ I h) ?_
 rintro v s1 ⟨x, H1, I1, r1, q1⟩
 exact Constant_none (isnot_none_gen ⟨.bl _, H1, I1, by rw [r1.none_iff]; rfl, q1⟩)
def tB (t : TE) : TT := fun σ H Q => t σ H fun x H1 => ∃ c, x = .bl c ∧ Q c H1
theorem pe_cmp {op : CmpOp} {t : TE} (h : PC X op a b t) (h1 : behindInMarks op b = false := by first | exact nobehind _ (by decide) (by decide) | rfl) : PE X (.Compare a [op] [b] pos) t := fun pins s σ H Q I hw => wpAny_Compare1 (h pins s σ H Q I hw) h1
theorem pt_cmp {op : CmpOp} {t : TE} (h : PC X op a b t) (h1 : behindInMarks op b = false := by first | exact nobehind _ (by decide) (by decide) | rfl) : PT X (.Compare a [op] [b] pos) (tB t) := by
 intro pins s σ H Q I hw
 refine wpAny_isTrue_Compare1 (thn (h pins s σ H _ I hw) fun v s1 h1 => thn h1 fun u s2 h2 => thn h2 ?_) h1
 rintro c s3 ⟨x, H1, I1, r1, q1⟩
 obtain ⟨d, rfl, q⟩ := q1
 cases r1
 exact wpAny_truthy_bool ⟨H1, I1, q⟩
theorem pt_val {e : Expr} {t : TE} (h : PE X e t) (he : ∀ whole, isTrue e X.env whole = (do let v ← whole; standAt e.pos; holding [v] (truthy v)) := by intro _; rfl) : PT X e (tB t) := by
 intro pins s σ H Q I hw
 refine isTrue_plain (thn (h pins s σ H _ I hw) ?_) (he _)
 rintro v s1 ⟨x, H1, I1, r1, q1⟩
 obtain ⟨d, rfl, q⟩ := q1
 cases r1
 exact wpAny_truthy_bool ⟨H1, I1, q⟩
variable {tA tB' : TT} {rest : List Expr}
def tAnd (t u : TT) : TT := fun σ H Q => t σ H fun c H1 => if c = true then u σ H1 Q else Q false H1
def tOr (t u : TT) : TT := fun σ H Q => t σ H fun c H1 => if c = true then Q true H1 else u σ H1 Q
def tNot (t : TT) : TT := fun σ H Q => t σ H fun c H1 => Q (!c) H1
theorem pw_and1 (ha : PT X a tA) : PW X (.BoolOp .And [a] pos) tA := by
 intro wh pins s σ H Q I h
 refine isTrue_and (thn (ha pins s σ H Q I h) fun c s1 e => ?_)
 cases c with
 | true => exact isTrue_and_nil e
 | false => exact e
theorem pw_or1 (ha : PT X a tA) : PW X (.BoolOp .Or [a] pos) tA := by
 intro wh pins s σ H Q I h
 refine isTrue_or (thn (ha pins s σ H Q I h) fun c s1 e => ?_)
 cases c with
 | false => exact isTrue_or_nil e
 | true => exact e
theorem pw_and (ha : PT X a tA) (hb : PW X (.BoolOp .And (b :: rest) pos) tB') : PW X (.BoolOp .And (a :: b :: rest) pos) (tAnd tA tB') := by
 intro wh pins s σ H Q I h
 refine isTrue_and (thn (ha pins s σ H _ I h) ?_)
 rintro c s1 ⟨H1, I1, q1⟩
 cases c with
 | true => exact hb wh pins s1 σ H1 Q I1 q1
 | false => exact ⟨H1, I1, q1⟩
theorem pw_or (ha : PT X a tA) (hb : PW X (.BoolOp .Or (b :: rest) pos) tB') : PW X (.BoolOp .Or (a :: b :: rest) pos) (tOr tA tB') := by
 intro wh pins s σ H Q I h
 refine isTrue_or (thn (ha pins s σ H _ I h) ?_)
 rintro c s1 ⟨H1, I1, q1⟩
 cases c with
 | true => exact ⟨H1, I1, q1⟩
 | false => exact hb wh pins s1 σ H1 Q I1 q1
theorem pt_not (ha : PT X a tA) : PT X (.UnaryOp .Not a pos) (tNot tA) := by
 intro pins s σ H Q I h
 exact isTrue_not (ha pins s σ H (fun c H1 => Q (!c) H1) I h)
def tAndV (ta tb : TE) : TE := fun σ H Q => ta σ H fun x H1 => ∃ c, x = .bl c ∧ if c = true then tb σ H1 Q else Q (.bl false) H1
theorem pe_one {op} {t : TE} (h : PE X a t) : PE X (.BoolOp op [a] pos) t := fun pins s σ H Q I hw => BoolOp_one (h pins s σ H Q I hw)
theorem pe_and (ha : PE X a ta) (hb : PE X (.BoolOp .And (b :: rest) pos) tb) : PE X (.BoolOp .And (a :: b :: rest) pos) (tAndV ta tb) := by
 intro pins s σ H Q I h
 refine BoolOp_and (thn (ha pins s σ H _ I h) ?_)
 rintro v s1 ⟨x, H1, I1, r1, q1⟩
 obtain ⟨c, rfl, q1⟩ := q1
 cases r1
 refine wpAny_truthy_bool ?_
 cases c with
 | true => exact hb pins s1 σ H1 Q I1 q1
 | false => exact ⟨.bl false, H1, I1, rfl, q1⟩
def tIf (t : TT) (ta tb : TE) : TE := fun σ H Q => t σ H fun c H1 => if c = true then ta σ H1 Q else tb σ H1 Q
theorem pe_ifExp {c : Expr} (hc : PT X c tA) (ha : PE X a ta) (hb : PE X b tb) : PE X (.IfExp c a b pos) (tIf tA ta tb) := by
 intro pins s σ H Q I h
 refine wpAny_IfExp (thn (hc pins s σ H _ I h) ?_)
 rintro d s1 ⟨H1, I1, q1⟩
 cases d with
 | true => exact ha pins s1 σ H1 Q I1 q1
 | false => exact hb pins s1 σ H1 Q I1 q1
end
def SqL (K : PySem.W.Frag) (H : Hp) (a : Addr) (xs : List V) : Prop :=
 Rd H a (.lst xs) ∨
  ∃ (o : Obj) (its : Array Value) (n : Nat), K.lookup a = some o ∧ o.cls = .type "list" ∧ o.dict = none ∧ o.data = .seq its n ∧ its.size ≤ sizeLine ∧ Vals xs its.toList
def SqT (K : PySem.W.Frag) (H : Hp) (a : Addr) (xs : List V) : Prop :=
 Rd H a (.tup xs) ∨
  ∃ (o : Obj) (its : Array Value) (n : Nat), K.lookup a = some o ∧ o.cls = .type "tuple" ∧ o.data = .seq its n ∧ its.size ≤ sizeLine ∧ Vals xs its.toList
def absV : Value → Option V
 | .none => some .non
 | .bool b => some (.bl b)
 | .int i _ => some (.int i)
 | .str x _ => some (.str x)
 | .bytes b _ => some (.byt b)
 | .float b _ => some (.flt b)
 | .ref a => some (.ref a)
 | .type n => some (.ty n)
 | _ => none
theorem RelV.abs {x : V} {u : Value} (r : RelV x u) : absV u = some x := by
 cases x with
 | non => cases r; rfl
 | bl _ => cases r; rfl
 | int _ => obtain ⟨t, rfl⟩ := r; rfl
 | str _ => obtain ⟨t, rfl⟩ := r; rfl
 | byt _ => obtain ⟨t, rfl⟩ := r; rfl
 | flt _ => obtain ⟨t, rfl⟩ := r; rfl
 | ref _ => cases r; rfl
 | ty _ => cases r; rfl
theorem RelV.inj {x y : V} {u : Value} (r : RelV x u) (q : RelV y u) : x = y := Option.some.inj (r.abs.symm.trans q.abs)
theorem Vals.inj : ∀ {xs ys : List V} {us : List Value}, Vals xs us → Vals ys us → xs = ys
 | _, _, _, .nil, .nil => rfl
 | _, _, _, .cons r t, .cons r' t' => by rw [r.inj r', Vals.inj t t']
section
variable {X : Cx} {pins : List (Addr × Obj)} {σ : St} {H : Hp} {s : Shared} {a : Addr} {xs ys : List V}
theorem SqL.of {K : PySem.W.Frag} (h : H a = some (.lst xs)) : SqL K H a xs := .inl (.inl h)
theorem SqT.of {K : PySem.W.Frag} (h : H a = some (.tup xs)) : SqT K H a xs := .inl (.inl h)
theorem Inv.list (I : Inv X pins σ H s) (h : SqL X.K H a xs) : ∃ its : List Value, Vals xs its ∧ PlainL s.heap a its.toArray ∧ xs.length ≤ sizeLine := by
 rcases h with h | ⟨o, its, n, hk, hc, hd, hs, hz, r⟩
 ·obtain ⟨z, its, n, r, e⟩ := h.ok I.hok
  exact ⟨its, r, ⟨_, n, e, rfl, rfl, rfl⟩, z⟩
 ·refine ⟨its.toList, r, ⟨o, n, I.kIn a o hk, hc, hd, by simpa using hs⟩, ?_⟩
  have e := r.length
  simp only [Array.length_toList] at e
  lia
theorem Inv.tuple (I : Inv X pins σ H s) (h : SqT X.K H a xs) : ∃ its : List Value, Vals xs its ∧ IsTup s.heap a its.toArray ∧ xs.length ≤ sizeLine := by
 rcases h with h | ⟨o, its, n, hk, hc, hs, hz, r⟩
 ·obtain ⟨z, its, r, p⟩ := h.ok I.hok
  exact ⟨its, r, p, z⟩
 ·refine ⟨its.toList, r, ⟨o, I.kIn a o hk, hc, n, by simpa using hs⟩, ?_⟩
  have e := r.length
  simp only [Array.length_toList] at e
  lia
theorem Inv.list_inj (I : Inv X pins σ H s) (h : SqL X.K H a xs) (h' : SqL X.K H a ys) : xs = ys := by
 obtain ⟨its, r, ⟨o, n, e, _, _, d⟩, _⟩ := I.list h
 obtain ⟨its', r', ⟨o', n', e', _, _, d'⟩, _⟩ := I.list h'
 rw [e] at e'; cases e'
 rw [d] at d'
 injection d' with d1 _
 have : its = its' := by simpa using congrArg Array.toList d1
 subst this
 exact r.inj r'
end
section
variable {X : Cx} {pins : List (Addr × Obj)} {σ : St} {H : Hp} {s : Shared} {E : Value → Shared → Prop}
end
section
variable {X : Cx} {st : Stmt} {rest : List Stmt} {t u : TS} {e : Expr} {te : TE} {pos : Pos}
def tNext : TS := fun D σ H => D.nx σ H
def tSeq (t u : TS) : TS := fun D σ H => t { D with nx := u D } σ H
theorem pss_nil : PSs X [] tNext := fun _ _ σ H _ I h => wpAny_execs_nil ⟨σ, H, I, h⟩
theorem pss_cons (h1 : PS X st t) (h2 : PSs X rest u) : PSs X (st :: rest) (tSeq t u) := by
 intro pins s σ H D I h
 refine wpAny_execs_cons (thn (h1 pins s σ H { D with nx := u D } I h) fun f s1 q => ?_)
 cases f with
 | next =>
  obtain ⟨σ', H', I', q⟩ := q
  exact h2 pins s1 σ' H' D I' q
 | ret v => exact q
 | brk => exact q
 | cont => exact q
theorem pss_one (h1 : PS X st t) : PSs X [st] t := by
 intro pins s σ H D I h
 refine wpAny_execs_cons (thn (h1 pins s σ H D I h) fun f s1 q => ?_)
 cases f with
 | next => exact wpAny_execs_nil q
 | ret v => exact q
 | brk => exact q
 | cont => exact q
theorem Inv.quiet {pins : List (Addr × Obj)} {σ : St} {H : Hp} {s : Shared} (I : Inv X pins σ H s) : interactive X.env = false := by simp [interactive, I.ok.kind]
def tDrop (te : TE) : TS := fun D σ H => te σ H fun _ H1 => D.nx σ H1
theorem ps_expr (he : PE X e te) (hs : swapsWith e none pos.line X.env = pure false := by rfl) : PS X (.Expr e pos) (tDrop te) := by
 intro pins s σ H D I h
 exact wpAny_Expr_any (thn (he pins s σ H _ I h) (by rintro v s1 ⟨x, H1, I1, r1, q1⟩; exact ⟨σ, H1, I1, q1⟩)) I.quiet hs
def tRet (te : TE) : TS := fun D σ H => te σ H D.rt
theorem ps_ret (he : PE X e te) : PS X (.Return (some e) pos) (tRet te) := by
 intro pins s σ H D I h
 exact wpAny_Return_some (thn (he pins s σ H _ I h) (by rintro v s1 ⟨x, H1, I1, r1, q1⟩; exact ⟨x, σ, H1, I1, r1, q1⟩))
def tIfS (c : TT) (t u : TS) : TS := fun D σ H => c σ H fun b H1 => if b = true then t D σ H1 else u D σ H1
theorem ps_if {c : Expr} {a b : List Stmt} {tc : TT} (hc : PT X c tc) (ha : PSs X a t) (hb : PSs X b u) : PS X (.If c a b pos) (tIfS tc t u) := by
 intro pins s σ H D I h
 refine wpAny_If (thn (hc pins s σ H _ I h) ?_)
 rintro d s1 ⟨H1, I1, q1⟩
 cases d with
 | true => exact ha pins s1 σ H1 D I1 q1
 | false => exact hb pins s1 σ H1 D I1 q1
end
abbrev TG := V → St → Hp → (St → Hp → Prop) → Prop
abbrev TGs := List V → St → Hp → (St → Hp → Prop) → Prop
def PG (X : Cx) (target : Expr) (t : TG) : Prop :=
 ∀ (pins : List (Addr × Obj)) (s : Shared) (σ : St) (H : Hp) (v : V) (u : Value) (Q : St → Hp → Prop), Inv X pins σ H s → RelV v u → t v σ H Q →
  wpAny (model X.prog X.w) X.A (assign target X.env u) (fun _ s' => ∃ σ' H', Inv X pins σ' H' s' ∧ Q σ' H') X.xe s
def PGs (X : Cx) (ts : List Expr) (t : TGs) : Prop :=
 ∀ (pins : List (Addr × Obj)) (s : Shared) (σ : St) (H : Hp) (vs : List V) (us : List Value) (Q : St → Hp → Prop), Inv X pins σ H s → Vals vs us → t vs σ H Q →
  wpAny (model X.prog X.w) X.A (assignInOrder ((assignEach ts X.env).map (·.2)) us) (fun _ s' => ∃ σ' H', Inv X pins σ' H' s' ∧ Q σ' H') X.xe s
section
variable {X : Cx} {pos : Pos}
def gName (i : Nat) : TG := fun v σ H Q => Q (σ.set i (some v)) H
theorem pg_name {i : Nat} {x : Str} (hN : X.N.Nodup) (hi : X.N[i]? = some x) (hx : Loc X.env.scope x) (hf : X.fn x = true ∨ X.env.scope.names.lookup x = some .local := by first | exact .inl rfl | exact .inr rfl | assumption) : PG X (.Name x pos) (gName i) := by
 intro pins s σ H v u Q I r h
 exact wpAny_assign_Name (store_ok I hN hi hx r (fun s' I' => ⟨_, H, I', h⟩) hf)
def gNil : TGs := fun vs σ H Q => vs = [] ∧ Q σ H
def gCons (t : TG) (u : TGs) : TGs := fun vs σ H Q => ∃ v r, vs = v :: r ∧ t v σ H fun σ' H' => u r σ' H' Q
theorem pgs_nil : PGs X [] gNil := by
 intro pins s σ H vs us Q I r h
 obtain ⟨e, h⟩ := h
 subst e
 cases r
 exact assignInOrder_nil ⟨σ, H, I, h⟩
theorem pgs_cons {e : Expr} {es : List Expr} {t : TG} {u : TGs} (h1 : PG X e t) (h2 : PGs X es u)
  (hs : (assignEach (e :: es) X.env).map (·.2) = assign e X.env :: (assignEach es X.env).map (·.2) := by rfl) : PGs X (e :: es) (gCons t u) := by
 intro pins s σ H vs us Q I r h
 obtain ⟨v, vr, e1, h⟩ := h
 subst e1
 cases r with
 | cons r rr =>
  rw [hs]
  refine assignInOrder_cons (thn (h1 pins s σ H _ _ _ I r h) ?_)
  rintro _ s1 ⟨σ1, H1, I1, q1⟩
  exact h2 pins s1 σ1 H1 _ _ Q I1 rr q1
def gTup (K : PySem.W.Frag) (n : Nat) (t : TGs) : TG := fun v σ H Q => ∃ a xs, v = .ref a ∧ SqT K H a xs ∧ xs.length = n ∧ t xs σ H Q
theorem pg_tup {es : List Expr} {k : Nat} {t : TGs} {n : Nat} (hc : X.calm = true) (h : PGs X es t)
  (hn : (assignEach es X.env).length = n := by rfl) (hst : (assignEach es X.env).findIdx? (·.1) = none := by rfl) : PG X (.Tuple es k pos) (gTup X.K n t) := by
 intro pins s σ H v u Q I r hw
 obtain ⟨a, xs, e1, hq, hl, hw⟩ := hw
 subst e1
 cases r
 obtain ⟨its, rv, ht, hz⟩ := I.tuple hq
 refine assign_Tuple_tuple (I.ok.hd hc) ht (by simp [hn, ← hl, rv.length]) hst fun h' hx => ?_
 have I1 : Inv X pins σ H { s with heap := h' } := I.kept (t' := s.toks) fun b o e => hx b o (Nat.ne_of_lt (Heap.lt_size e)) e
 exact h pins _ σ H xs _ Q I1 (by simpa using rv) hw
def tAsg (te : TE) (g : TG) : TS := fun D σ H => te σ H fun x H1 => g x σ H1 D.nx
theorem ps_set {i : Nat} {x : Str} {e : Expr} {te : TE} {pos' : Pos} (hN : X.N.Nodup) (hi : X.N[i]? = some x) (hx : Loc X.env.scope x) (he : PE X e te) (hs : swapsWith e (some (.Name x pos')) pos.line X.env = pure false := by rfl) (hf : X.fn x = true ∨ X.env.scope.names.lookup x = some .local := by first | exact .inl rfl | exact .inr rfl | assumption) :
  PS X (.Assign [.Name x pos'] e pos) (tAsg te (gName i)) := by
 intro pins s σ H D I h
 refine wpAny_Assign_Name (thn (he pins s σ H _ I h) ?_) hs
 rintro v s1 ⟨y, H1, I1, r1, q1⟩
 exact store_ok I1 hN hi hx r1 (fun s2 I2 => ⟨_, H1, I2, q1⟩) hf
def tPar (i j : Nat) (ta : TA) : TS := fun D σ H => ta σ H fun vs H1 => ∃ v w, vs = [v, w] ∧ D.nx ((σ.set i (some v)).set j (some w)) H1
theorem ps_par {i j : Nat} {x y : Str} {a b : Expr} {ta : TA} {px py pt : Pos} {kt k2 pt2} (hc : X.calm = true) (hN : X.N.Nodup) (hi : X.N[i]? = some x) (hj : X.N[j]? = some y) (hij : i ≠ j)
  (hx : X.env.scope.names.lookup x = some .local) (hy : X.env.scope.names.lookup y = some .local) (ha : PA X [a, b] ta)
  (hw : swappedStores [.Tuple [.Name x px, .Name y py] kt pt] (.Tuple [a, b] k2 pt2) X.env = pure (some [x, y]))
  (hs : swapsWithSole [.Tuple [.Name x px, .Name y py] kt pt] (.Tuple [a, b] k2 pt2) pos.line X.env = pure false := by rfl) :
  PS X (.Assign [.Tuple [.Name x px, .Name y py] kt pt] (.Tuple [a, b] k2 pt2) pos) (tPar i j ta) := by
 intro pins s σ H D I h
 rw [exec_Assign_arm]
 refine wpAny_bind (wpAny_standAt ?_)
 rw [hs]
 refine wpAny_bind (wpAny_pure ?_)
 rw [if_neg (by decide)]
 refine wpAny_bind (Tuple_ (thn (ha _ pins s σ H _ I h) ?_))
 rintro us s1 ⟨vs, H1, I1, r1, q1⟩
 obtain ⟨v, w, e1, q1⟩ := q1
 subst e1
 obtain ⟨u1, u2, rfl, rv, rw'⟩ : ∃ u1 u2, us = [u1, u2] ∧ RelV v u1 ∧ RelV w u2 := by
  cases r1 with
  | cons p q =>
   cases q with
   | cons p' q' =>
    cases q'
    exact ⟨_, _, rfl, p, p'⟩
 refine wpAny_newObj_type ?_ (by show 2 ≤ sizeLine; decide)
 have I2 : Inv X pins σ H1 { s1 with heap := s1.heap.push { cls := .type "tuple", data := .seq [u1, u2].toArray } } := I1.kept (t' := s1.toks) fun b o e => Heap.get?_push_of_some _ e
 rw [hw]
 refine wpAny_bind (wpAny_pure ?_)
 show wpAny (model X.prog X.w) X.A (do rule "assign.swapped-stores"; let items ← unpackItems (.ref s1.heap.objs.size) 2 none; assignInOrder [fun v => bindName X.env y v, fun v => bindName X.env x v] items.reverse; pure Flow.next) _ _ _
 refine wpAny_bind (wpAny_rule (wpAny_bind (unpackItems_tuple (items := #[u1, u2]) (I.ok.hd hc) (IsTup.new s1.heap _) fun h' hx' => ?_)))
 have I3 := I2.kept (h' := h') (t' := s1.toks) fun b o e => hx' b o (Nat.ne_of_lt (Heap.lt_size e)) e
 show wpAny _ _ (assignInOrder [fun v => bindName X.env y v, fun v => bindName X.env x v] [u2, u1] >>= fun _ => pure Flow.next) _ _ _
 refine wpAny_bind (assignInOrder_cons (wpAny_bindName (store_ok I3 hN hj (.inl hy) rw' (fun s2 I4 => ?_) (.inr hy))))
 refine assignInOrder_cons (wpAny_bindName (store_ok I4 hN hi (.inl hx) rv (fun s3 I5 => assignInOrder_nil (wpAny_pure ?_)) (.inr hx)))
 rw [List.set_comm _ _ (Ne.symm hij)] at I5
 exact ⟨_, H1, I5, q1⟩
end
section
variable {X : Cx} {pos : Pos}
def tWhile (c : TT) (tb : TS) : TS := fun D σ H => ∃ W : Nat → St → Hp → Prop, (∃ m, W m σ H) ∧ ∀ m σ H, W m σ H →
 c σ H fun b H1 => if b = true then ∃ N : St → Hp → Prop, (∀ σ' H', N σ' H' → ∃ m', m' < m ∧ W m' σ' H') ∧ tb { D with nx := N, ct := N, bk := D.nx } σ H1 else D.nx σ H1
theorem ps_while {c : Expr} {body : List Stmt} {tc : TT} {tb : TS} (hp : PassesOwn (model X.prog X.w) X.A X.env X.xe) (hc : PT X c tc) (hb : PSs X body tb) : PS X (.While c body [] pos) (tWhile tc tb) := by
 intro pins s σ H D I h
 obtain ⟨W, ⟨m0, w0⟩, turn⟩ := h
 refine wpAny_While (codeAny_whileLoop (fun n s' => ∃ σ' H', Inv X pins σ' H' s' ∧ W n σ' H') ?_ m0 ⟨σ, H, I, w0⟩)
 rintro n s1 ⟨σ1, H1, I1, w1⟩
 refine wpAny_passesOwn hp (thn (hc pins s1 σ1 H1 _ I1 (turn n σ1 H1 w1)) ?_)
 rintro b s2 ⟨H2, I2, q2⟩
 cases b with
 | true =>
  obtain ⟨N, hN, q2⟩ := q2
  rw [if_pos rfl]
  refine wpAny_passesOwn hp (thn (hb pins s2 σ1 H2 _ I2 q2) fun f s3 q3 => ?_)
  cases f with
  | next =>
   obtain ⟨σ3, H3, I3, n3⟩ := q3
   obtain ⟨m', hm, w3⟩ := hN σ3 H3 n3
   exact ⟨m', hm, σ3, H3, I3, w3⟩
  | cont =>
   obtain ⟨σ3, H3, I3, n3⟩ := q3
   obtain ⟨m', hm, w3⟩ := hN σ3 H3 n3
   exact ⟨m', hm, σ3, H3, I3, w3⟩
  | brk => exact q3
  | ret v => exact q3
 | false =>
  rw [if_neg Bool.false_ne_true]
  exact wpAny_execs_nil ⟨σ1, H2, I2, q2⟩
end
structure It where
 go : Nat → Hp → Prop
 yld : Nat → Hp → V → Hp → Prop
 stop : Nat → Hp → Prop
def FpOk (X : Cx) (pins : List (Addr × Obj)) (H : Hp) (b : Addr) : Prop :=
 H b = none ∧ b ≠ X.env.locals ∧ b ∉ X.fs ∧ (b ∈ X.ex ∨ X.s₀.heap.objs.size ≤ b) ∧ (∀ x c, X.env.cells.lookup x = some c → c ≠ b) ∧ ∀ p ∈ X.pn ++ pins, p.1 ≠ b
theorem Inv.fpOk {X : Cx} {pins : List (Addr × Obj)} {σ : St} {H H' : Hp} {s : Shared} {b : Addr} (I : Inv X pins σ H s) (hb : s.heap.objs.size ≤ b) (hn : H' b = none) : FpOk X pins H' b := by
 refine ⟨hn, Nat.ne_of_gt (Nat.lt_of_lt_of_le I.lt hb), I.nofs hb, .inr (Nat.le_trans I.sz hb), fun x c e z => ?_, fun p hp z => ?_⟩
 ·obtain ⟨v, q⟩ := I.cell x c e
  exact absurd (Nat.lt_of_lt_of_le q.lt (by rw [z]; exact hb)) (Nat.lt_irrefl _)
 ·exact absurd (Nat.lt_of_lt_of_le (Heap.lt_size (I.pin p hp).1) (by rw [z]; exact hb)) (Nat.lt_irrefl _)
structure Turn (P : Program) (w : World) (K : PySem.W.Frag) (tg : Expr) (J : It) (fp : List Addr) (it : Addr) (tn : Nat → Heap → Prop) : Prop where
 mem : it ∈ fp
 obj : ∀ i h, tn i h → ∀ b ∈ fp, ∃ o, h.get? b = some o ∧ ∀ v, o.data ≠ .cell v
 keep : ∀ i h h', tn i h → (∀ b ∈ fp, ∀ o, h.get? b = some o → h'.get? b = some o) → tn i h'
 item : ∀ (X : Cx), X.prog = P → X.w = w → X.K = K → X.calm = true → ∀ (i : Nat) (pins : List (Addr × Obj)) (s : Shared) (σ : St) (H : Hp) (E : Value → Shared → Prop), Inv X pins σ H s → (∀ b ∈ fp, FpOk X pins H b) → tn i s.heap → J.go i H →
  wpAny (model P w) X.A (pyNext (.ref it)) (fun r s1 => ∃ u, r = some u ∧
   wpAny (model P w) X.A (letOwnedTupleGo tg (.ref it) u) (fun _ s2 => ∃ x H', Inv X pins σ H' s2 ∧ RelV x u ∧ J.yld i H x H' ∧ tn (i + 1) s2.heap ∧ ∀ b ∈ fp, H' b = none) E s1) E s
 done : ∀ (X : Cx), X.prog = P → X.w = w → X.K = K → X.calm = true → ∀ (i : Nat) (pins : List (Addr × Obj)) (s : Shared) (σ : St) (H : Hp) (E : Value → Shared → Prop), Inv X pins σ H s → (∀ b ∈ fp, FpOk X pins H b) → tn i s.heap → J.stop i H →
  wpAny (model P w) X.A (pyNext (.ref it)) (fun r s1 => r = none ∧ Inv X pins σ H s1) E s
 self : ∀ (A : Around) (i : Nat) (s : Shared) (Q : Value → Shared → Prop) (E : Value → Shared → Prop), tn i s.heap → Q (.ref it) s → wpAny (model P w) A (pyIter (.ref it)) Q E s
abbrev TI := St → Hp → (It → Hp → Prop) → Prop
def PIE (X : Cx) (pins : List (Addr × Obj)) (σ : St) (tg : Expr) (R : It → Hp → Prop) (itv : Value) (s2 : Shared) : Prop :=
 ∃ (it : Addr) (fp : List Addr) (tn : Nat → Heap → Prop) (J : It) (H' : Hp), itv = .ref it ∧ Inv X pins σ H' s2 ∧ Turn X.prog X.w X.K tg J fp it tn ∧ tn 0 s2.heap ∧ (∀ b ∈ fp, FpOk X pins H' b) ∧ R J H'
def PI (X : Cx) (tg iter : Expr) (wi : TI) : Prop :=
 ∀ (pins : List (Addr × Obj)) (s : Shared) (σ : St) (H : Hp) (R : It → Hp → Prop), Inv X pins σ H s → wi σ H R →
  wpAny (model X.prog X.w) X.A (eval iter X.env) (fun v s1 => wpAny (model X.prog X.w) X.A (pyIter v) (PIE X pins σ tg R) X.xe s1) X.xe s
theorem go_of {M : Model} {A : Around} {E : Value → Shared → Prop} {s : Shared} {tg : Expr} {it : Addr} {u : Value} {o : Obj} {n : String} {vs : Array Value} {Q : Unit → Shared → Prop} (ho : s.heap.get? it = some o) (hc : o.cls = .type n) (hd : o.data = .fields vs)
  (hn : ["enumerate", "zip", "dict_itemiterator", "dict_reverseitemiterator", "odict_iterator", "itertools.zip_longest", "itertools.pairwise"].contains n = false) (hQ : Q () s) : wpAny M A (letOwnedTupleGo tg (.ref it) u) Q E s := by
 unfold letOwnedTupleGo
 cases tg <;> first
  | exact wpAny_pure hQ
  | (cases u <;> first
    | exact wpAny_pure hQ
    | (refine wpAny_bind (wpAny_load ho ?_)
       rw [hc, hd]
       show wpAny M A (if (["enumerate", "zip", "dict_itemiterator", "dict_reverseitemiterator", "odict_iterator", "itertools.zip_longest", "itertools.pairwise"].contains n && vs[0]? == some (rawInt _)) = true then _ else _) Q E s
       rw [if_neg (by intro h; rw [hn, Bool.false_and] at h; cases h)]
       exact wpAny_pure hQ))
def Itl (K : PySem.W.Frag) (a : Addr) : It :=
 ⟨fun i H => ∃ xs x, SqL K H a xs ∧ xs[i]? = some x, fun i H x H' => H' = H ∧ ∀ xs, SqL K H a xs → xs[i]? = some x, fun i H => ∃ xs, SqL K H a xs ∧ xs.length ≤ i⟩
def Itr (lo : Int) (n : Nat) : It := ⟨fun i _ => i < n, fun i H x H' => H' = H ∧ x = .int (lo + i), fun i _ => n ≤ i⟩
theorem turn_list {P : Program} {w : World} {K : PySem.W.Frag} {tg : Expr} (a it : Addr) : Turn P w K tg (Itl K a) [it] it (fun i h => h.IsListIter it a i) where
 mem := by simp
 obj := fun i h st b hb => by
  have e : b = it := by simpa using hb
  subst e
  obtain ⟨o, e, c, d⟩ := st
  exact ⟨o, e, fun v z => by rw [d] at z; cases z⟩
 keep := fun i h h' st k => st.at fun o e => k it (by simp) o e
 item := by
  intro X hP hw hK hc i pins s σ H E I hf st hg
  subst hP hw hK
  obtain ⟨xs, x, hq, hx⟩ := hg
  obtain ⟨its, rv, p, hz⟩ := I.list hq
  obtain ⟨u, hu, ru⟩ := rv.get hx
  obtain ⟨f0, f1, f2, f3, f4, f5⟩ := hf it (by simp)
  refine wpAny_pyNext_list_item st p.isList (x := u) (by simpa using hu) fun h' st' sb => ?_
  have I1 : Inv X pins σ H { s with heap := h' } := I.turned (t' := s.toks) (fun b o hb e => (sb.2 b hb).trans e) f0 f1 f3 f4 f5
  obtain ⟨o, e, c, d⟩ := id st'
  exact ⟨u, rfl, go_of (s := { s with heap := h' }) e c d (by decide) ⟨x, H, I1, ru, ⟨rfl, fun ys hy => by rw [I.list_inj hy hq]; exact hx⟩, st', fun b hb => (hf b hb).1⟩⟩
 done := by
  intro X hP hw hK hc i pins s σ H E I hf st hg
  subst hP hw hK
  obtain ⟨xs, hq, hx⟩ := hg
  obtain ⟨its, rv, p, hz⟩ := I.list hq
  obtain ⟨f0, f1, f2, f3, f4, f5⟩ := hf it (by simp)
  have hl := rv.length
  exact wpAny_pyNext_list_end (I.ok.hd hc) st p.isList (by simp; lia) fun h' eb => ⟨rfl, I.turned (t' := s.toks) (fun b o hb e => eb b o hb e) f0 f1 f3 f4 f5⟩
 self := fun _ _ _ _ _ st h => wpAny_pyIter_listiter st h
theorem turn_range {P : Program} {w : World} {K : PySem.W.Frag} {tg : Expr} (it : Addr) (lo : Int) (n : Nat) : Turn P w K tg (Itr lo n) [it] it (fun i h => IsRangeIter h it (lo + (i : Nat) * 1) ((n : Int) - (i : Nat)) 1) where
 mem := by simp
 obj := fun i h st b hb => by
  have e : b = it := by simpa using hb
  subst e
  exact ⟨_, st, fun v z => by
   have z' : Data.fields _ = Data.cell v := z
   cases z'⟩
 keep := fun i h h' st k => k it (by simp) _ st
 item := by
  intro X hP hw hK hc i pins s σ H E I hf st hg
  subst hP hw hK
  obtain ⟨f0, f1, f2, f3, f4, f5⟩ := hf it (by simp)
  have W := Walks.range (prog := X.prog) (w := X.w) (I.ok.hd hc) it lo 1 n
  refine W.item i s _ _ hg st fun v h' tk hv st' kk => ?_
  obtain ⟨t, rfl⟩ := hv
  have I1 : Inv X pins σ H { s with heap := h', toks := tk } := I.turned (fun b o hb e => kk b o (by simpa using hb) e) f0 f1 f3 f4 f5
  refine ⟨_, rfl, go_of (s := { s with heap := h', toks := tk }) (n := "range_iterator") st' rfl rfl (by decide) ⟨.int (lo + i), H, I1, ⟨t, ?_⟩, ⟨rfl, rfl⟩, st', fun b hb => (hf b hb).1⟩⟩
  rw [Int.mul_one]
 done := by
  intro X hP hw hK hc i pins s σ H E I hf st hg
  subst hP hw hK
  obtain ⟨f0, f1, f2, f3, f4, f5⟩ := hf it (by simp)
  exact wpAny_pyNext_range_end (I.ok.hd hc) st (by have : n ≤ i := hg; lia) fun h' eb => ⟨rfl, I.turned (t' := s.toks) (fun b o hb e => eb b o hb e) f0 f1 f3 f4 f5⟩
 self := fun _ _ _ _ _ st h => wpAny_pyIter_rangeiter st h
section
variable {X : Cx} {tg : Expr}
def iList (K : PySem.W.Frag) (tl : TE) : TI := fun σ H R => tl σ H fun x H1 => ∃ a, x = .ref a ∧ (∃ xs, SqL K H1 a xs) ∧ R (Itl K a) H1
theorem pi_list {l : Expr} {tl : TE} (hl : PE X l tl) : PI X tg l (iList X.K tl) := by
 intro pins s σ H R I h
 refine thn (hl pins s σ H _ I h) ?_
 rintro v s1 ⟨x, H1, I1, r1, q1⟩
 obtain ⟨a, e, ⟨xs, hq⟩, q⟩ := q1
 subst e
 cases r1
 obtain ⟨its, rv, p, hz⟩ := I1.list hq
 refine wpAny_pyIter_list p.isList ?_
 refine ⟨s1.heap.objs.size, [s1.heap.objs.size], _, _, H1, rfl, I1.kept (t' := s1.toks) fun b o e => Heap.get?_push_of_some _ e, turn_list a _, ⟨_, Heap.get?_push_size _ rfl, rfl, rfl⟩, fun b hb => ?_, q⟩
 have e : b = s1.heap.objs.size := by simpa using hb
 subst e
 exact I1.fpOk (Nat.le_refl _) (I1.hok.fresh (Nat.le_refl _))
theorem range_it {pins : List (Addr × Obj)} {σ : St} {H : Hp} {s : Shared} {R : It → Hp → Prop} {E : Value → Shared → Prop} {lo hi : Int} {t u v : Tok} {tk : Nat} (I : Inv X pins σ H s) (h1 : -(2 ^ 62) ≤ lo) (h2 : lo < 2 ^ 62) (h3 : -(2 ^ 62) ≤ hi) (h4 : hi < 2 ^ 62)
  (q : R (Itr lo (hi - lo).toNat) H) : wpAny (model X.prog X.w) X.A (pyIter (.ref s.heap.objs.size)) (PIE X pins σ tg R) E { s with heap := s.heap.push { cls := .type "range", data := .fields #[.int lo t, .int hi u, .int 1 v] }, toks := tk } := by
 refine wpAny_pyIter_range (IsRange.new ..) (small_one h1 h2 h3 h4) ?_
 have I1 : Inv X pins σ H { s with heap := s.heap.push { cls := .type "range", data := .fields #[.int lo t, .int hi u, .int 1 v] }, toks := tk } := I.kept fun b o e => Heap.get?_push_of_some _ e
 refine ⟨(s.heap.push { cls := .type "range", data := .fields #[.int lo t, .int hi u, .int 1 v] }).objs.size, [(s.heap.push { cls := .type "range", data := .fields #[.int lo t, .int hi u, .int 1 v] }).objs.size], _, _, H, rfl,
  I1.kept (t' := tk) fun b o e => Heap.get?_push_of_some _ e, turn_range _ lo (hi - lo).toNat, ?_, fun b hb => ?_, q⟩
 ·have e1 : lo + ((0 : Nat) : Int) * 1 = lo := by simp
  have e2 : (((hi - lo).toNat : Nat) : Int) - ((0 : Nat) : Int) = Builtin.Range.rangeSize lo hi 1 := by rw [rangeSize_one]; split <;> lia
  show IsRangeIter _ _ (lo + ((0 : Nat) : Int) * 1) ((((hi - lo).toNat : Nat) : Int) - ((0 : Nat) : Int)) 1
  rw [e1, e2]
  exact Heap.get?_push_size _ rfl
 ·have e : b = (s.heap.push { cls := .type "range", data := .fields #[.int lo t, .int hi u, .int 1 v] }).objs.size := by simpa using hb
  subst e
  exact I1.fpOk (Nat.le_refl _) (I1.hok.fresh (Nat.le_refl _))
def iRng1 (ta : TA) : TI := fun σ H R => ta σ H fun vs H1 => ∃ j : Int, vs = [.int j] ∧ -(2 ^ 62) ≤ j ∧ j < 2 ^ 62 ∧ R (Itr 0 j.toNat) H1
def iRng2 (ta : TA) : TI := fun σ H R => ta σ H fun vs H1 => ∃ i j : Int, vs = [.int i, .int j] ∧ (-(2 ^ 62) ≤ i ∧ i < 2 ^ 62 ∧ -(2 ^ 62) ≤ j ∧ j < 2 ^ 62) ∧ R (Itr i (j - i).toNat) H1
theorem pi_range1 {a : Expr} {ta : TA} {p pos : Pos} (hg : Gl X "range") (hm : X.mg "range" = none) (ha : PA X [a] ta) (hs : starEach [a] X.env = [(false, eval a X.env)] := by rfl) : PI X tg (.Call (.Name "range" p) [a] [] pos) (iRng1 ta) := by
 intro pins s σ H R I h
 refine Call_ (ld_blt I hg hm boot_range (PyProof.Rows.callWith_type1 (thn (ha pos pins s σ H _ I h) ?_) hs rfl))
 rintro us s1 ⟨vs, H1, I1, r1, q1⟩
 obtain ⟨j, e, q1, q2, q⟩ := q1
 subst e
 cases r1 with
 | cons r rr =>
  cases rr
  obtain ⟨t, rfl⟩ := r
  exact call_range_1 (range_it I1 (by lia) (by lia) q1 q2 (by simpa using q))
theorem pi_range2 {a b : Expr} {ta : TA} {p pos : Pos} (hg : Gl X "range") (hm : X.mg "range" = none) (ha : PA X [a, b] ta) (hs : starEach [a, b] X.env = [(false, eval a X.env), (false, eval b X.env)] := by rfl) (hs2 : starEach [b] X.env = [(false, eval b X.env)] := by rfl) :
  PI X tg (.Call (.Name "range" p) [a, b] [] pos) (iRng2 ta) := by
 intro pins s σ H R I h
 refine Call_ (ld_blt I hg hm boot_range (PyProof.Rows.callWith_type1 (thn (ha pos pins s σ H _ I h) ?_) (by rw [hs, hs2]) (by rw [hs2]; rfl)))
 rintro us s1 ⟨vs, H1, I1, r1, q1⟩
 obtain ⟨i, j, e, ⟨q1, q2, q3, q4⟩, q⟩ := q1
 subst e
 cases r1 with
 | cons r rr =>
  cases rr with
  | cons r' rr =>
   cases rr
   obtain ⟨t, rfl⟩ := r
   obtain ⟨t', rfl⟩ := r'
   exact call_range_2 (range_it I1 q1 q2 q3 q4 q)
def tFor (wi : TI) (g : TG) (tb : TS) : TS := fun D σ H => wi σ H fun J H1 => ∃ W : Nat → Nat → St → Hp → Prop, (∃ m, W 0 m σ H1) ∧ ∀ i m σ H, W i m σ H →
 (J.stop i H ∧ D.nx σ H) ∨ (J.go i H ∧ ∃ N : St → Hp → Prop, (∀ σ' H', N σ' H' → ∃ m', m' < m ∧ W (i + 1) m' σ' H') ∧ ∀ x H', J.yld i H x H' → g x σ H' fun σ2 H2 => tb { D with nx := N, ct := N, bk := D.nx } σ2 H2)
def pinsAt (fp : List Addr) (h : Heap) : List (Addr × Obj) := fp.filterMap fun b => (h.get? b).map fun o => (b, o)
theorem mem_pinsAt {fp : List Addr} {h : Heap} {b : Addr} {o : Obj} (hb : b ∈ fp) (e : h.get? b = some o) : (b, o) ∈ pinsAt fp h := List.mem_filterMap.mpr ⟨b, hb, by rw [e]; rfl⟩
theorem of_pinsAt {fp : List Addr} {h : Heap} {p : Addr × Obj} (hp : p ∈ pinsAt fp h) : p.1 ∈ fp ∧ h.get? p.1 = some p.2 := by
 obtain ⟨b, hb, e⟩ := List.mem_filterMap.mp hp
 cases q : h.get? b with
 | none => rw [q] at e; cases e
 | some o =>
  rw [q] at e
  have e' : (b, o) = p := Option.some.inj e
  subst e'
  exact ⟨hb, q⟩
theorem Inv.pinned {pins : List (Addr × Obj)} {σ : St} {H : Hp} {s : Shared} {fp : List Addr} (I : Inv X pins σ H s) (hf : ∀ b ∈ fp, FpOk X pins H b) (ho : ∀ b ∈ fp, ∃ o, s.heap.get? b = some o ∧ ∀ v, o.data ≠ .cell v) : Inv X (pins ++ pinsAt fp s.heap) σ H s :=
 I.pins_of fun p hp => (List.mem_append.mp hp).elim (fun z => I.pin p (List.mem_append_right _ z)) fun z => by
  obtain ⟨hb, e⟩ := of_pinsAt z
  obtain ⟨f0, f1, f2, _⟩ := hf p.1 hb
  obtain ⟨o, e', d⟩ := ho p.1 hb
  rw [e] at e'; cases e'
  exact ⟨e, f0, f1, f2, d⟩
theorem Inv.unpinned {pins pl : List (Addr × Obj)} {σ : St} {H : Hp} {s : Shared} (I : Inv X (pins ++ pl) σ H s) : Inv X pins σ H s := I.pins_of fun p hp => I.pin p (List.mem_append_right _ (List.mem_append_left _ hp))
theorem ps_for {iter : Expr} {body : List Stmt} {wi : TI} {g : TG} {tb : TS} {pos : Pos} (hp : PassesOwn (model X.prog X.w) X.A X.env X.xe) (hc : X.calm = true) (hi : PI X tg iter wi) (hg : PG X tg g) (hb : PSs X body tb)
  (hs : ∀ x, foldedSetIterable iter X.env x = pure x := by intro _; rfl) : PS X (.For tg iter body [] pos) (tFor wi g tb) := by
 intro pins s σ H D I h
 refine wpAny_For (thn (hi pins s σ H _ I h) fun v s1 h1 => thn h1 fun itv s2 h2 => ?_) hs
 obtain ⟨it, fp, tn, J, H2, e, I2, T, st2, f2, W, ⟨m0, w0⟩, turn⟩ := h2
 subst e
 have stat : ∀ {H' : Hp}, (∀ b ∈ fp, H' b = none) → ∀ b ∈ fp, FpOk X pins H' b := fun hn b hb => ⟨hn b hb, (f2 b hb).2⟩
 refine codeAny_forLoop_any (fun n s' => ∃ i σ' H', Inv X pins σ' H' s' ∧ tn i s'.heap ∧ (∀ b ∈ fp, H' b = none) ∧ W i n σ' H') ?_ m0 ⟨0, σ, H2, I2, st2, fun b hb => (f2 b hb).1, w0⟩
 rintro n s3 ⟨i, σ3, H3, I3, st3, fr3, w3⟩
 rcases turn i n σ3 H3 w3 with ⟨stop, qn⟩ | ⟨go, N, hN, step⟩
 ·refine wpAny_passesOwn hp (thn (T.done X rfl rfl rfl hc i pins s3 σ3 H3 X.xe I3 (stat fr3) st3 stop) ?_)
  rintro r s4 ⟨hr, I4⟩
  subst hr
  exact wpAny_execs_nil ⟨σ3, H3, I4, qn⟩
 ·refine wpAny_passesOwn hp (thn (T.item X rfl rfl rfl hc i pins s3 σ3 H3 X.xe I3 (stat fr3) st3 go) ?_)
  rintro r s4 ⟨u, hr, h4⟩
  subst hr
  refine wpAny_passesOwn hp (thn h4 ?_)
  rintro _ s5 ⟨x, H5, I5, r5, y5, st5, fr5⟩
  have I5' := I5.pinned (stat fr5) (T.obj _ _ st5)
  refine wpAny_passesOwn hp (thn (hg _ s5 σ3 H5 x u _ I5' r5 (step x H5 y5)) ?_)
  rintro _ s6 ⟨σ6, H6, I6, q6⟩
  refine wpAny_passesOwn hp (thn (hb _ s6 σ6 H6 _ I6 q6) fun f s7 q7 => ?_)
  have again : ∀ {σ7 : St} {H7 : Hp}, Inv X (pins ++ pinsAt fp s5.heap) σ7 H7 s7 → N σ7 H7 → ∃ m, m < n ∧ ∃ i σ' H', Inv X pins σ' H' s7 ∧ tn i s7.heap ∧ (∀ b ∈ fp, H' b = none) ∧ W i m σ' H' := fun {σ7 H7} I7 n7 => by
   obtain ⟨m', hm, w7⟩ := hN σ7 H7 n7
   refine ⟨m', hm, i + 1, σ7, H7, I7.unpinned, T.keep _ _ _ st5 fun b hb o e => (I7.pin (b, o) (List.mem_append_right _ (List.mem_append_right _ (mem_pinsAt hb e)))).1, fun b hb => ?_, w7⟩
   obtain ⟨o, e, d⟩ := T.obj _ _ st5 b hb
   exact (I7.pin (b, o) (List.mem_append_right _ (List.mem_append_right _ (mem_pinsAt hb e)))).2.1
  cases f with
  | next => obtain ⟨σ7, H7, I7, n7⟩ := q7; exact again I7 n7
  | cont => obtain ⟨σ7, H7, I7, n7⟩ := q7; exact again I7 n7
  | brk => obtain ⟨σ7, H7, I7, q7⟩ := q7; exact ⟨σ7, H7, I7.unpinned, q7⟩
  | ret v => obtain ⟨x7, σ7, H7, I7, r7, q7⟩ := q7; exact ⟨x7, σ7, H7, I7.unpinned, r7, q7⟩
end
abbrev R2 := V → V → Hp → VK → Prop
def OpR (X : Cx) (f : Value → Value → Sem Value) (r : R2) : Prop :=
 ∀ (pins : List (Addr × Obj)) (s : Shared) (σ : St) (H : Hp) (x y : V) (v u : Value) (Q : VK), Inv X pins σ H s → RelV x v → RelV y u → r x y H Q →
  wpAny (model X.prog X.w) X.A (f v u) (EP X pins σ Q) X.xe s
def UnR (X : Cx) (f : Value → Sem Value) (r : V → Hp → VK → Prop) : Prop :=
 ∀ (pins : List (Addr × Obj)) (s : Shared) (σ : St) (H : Hp) (x : V) (v : Value) (Q : VK), Inv X pins σ H s → RelV x v → r x H Q →
  wpAny (model X.prog X.w) X.A (f v) (EP X pins σ Q) X.xe s
def CallR (X : Cx) (f : Value) (r : List V → Hp → VK → Prop) : Prop :=
 ∀ (pins : List (Addr × Obj)) (s : Shared) (σ : St) (H : Hp) (xs : List V) (us : List Value) (Q : VK), Inv X pins σ H s → Vals xs us → r xs H Q →
  wpAny (model X.prog X.w) X.A (call f us) (EP X pins σ Q) X.xe s
def tOp (r : R2) (ta tb : TE) : TE := fun σ H Q => ta σ H fun x H1 => tb σ H1 fun y H2 => r x y H2 Q
def tUn (r : V → Hp → VK → Prop) (ta : TE) : TE := fun σ H Q => ta σ H fun x H1 => r x H1 Q
def rI (C : Int → Int → Prop) (g : Int → Int → V) : R2 := fun x y H Q => ∃ i j, x = .int i ∧ y = .int j ∧ C i j ∧ Q (g i j) H
def rI0 (g : Int → Int → V) : R2 := fun x y H Q => ∃ i j, x = .int i ∧ y = .int j ∧ Q (g i j) H
def rU (g : Int → V) : V → Hp → VK → Prop := fun x H Q => ∃ i, x = .int i ∧ Q (g i) H
section
variable {X : Cx} {a b c : Expr} {ta tb tc : TE} {pos : Pos}
theorem binT (ha : PE X a ta) (hb : PE X b tb) {pins : List (Addr × Obj)} {s : Shared} {σ : St} {H : Hp} {R : V → V → Hp → Prop} (I : Inv X pins σ H s)
  (h : ta σ H fun x H1 => tb σ H1 fun y H2 => R x y H2) {Q : Value → Shared → Prop} {f : Value → Value → Sem Value}
  (hf : ∀ v u s2 x y H2, Inv X pins σ H2 s2 → RelV x v → RelV y u → R x y H2 → wpAny (model X.prog X.w) X.A (f v u) Q X.xe s2) :
  wpAny (model X.prog X.w) X.A (eval a X.env) (fun v s₁ => wpAny (model X.prog X.w) X.A (eval b X.env) (fun u s₂ => wpAny (model X.prog X.w) X.A (f v u) Q X.xe s₂) X.xe s₁) X.xe s := by
 refine thn (ha pins s σ H _ I h) ?_
 rintro v s1 ⟨x, H1, I1, r1, q1⟩
 refine thn (hb pins s1 σ H1 _ I1 q1) ?_
 rintro u s2 ⟨y, H2, I2, r2, q2⟩
 exact hf v u s2 x y H2 I2 r1 r2 q2
theorem pe_op {op : Operator} {r : R2} (ho : OpR X (binaryOp op) r) (ha : PE X a ta) (hb : PE X b tb) : PE X (.BinOp a op b pos) (tOp r ta tb) := by
 intro pins s σ H Q I h
 exact wpAny_BinOp (binT ha hb I h fun v u s2 x y H2 I2 rx ry q => ho pins s2 σ H2 x y v u Q I2 rx ry q)
theorem pe_un {op : UnaryOp} {r : V → Hp → VK → Prop} (ho : UnR X (unaryOp op) r) (ha : PE X a ta) : PE X (.UnaryOp op a pos) (tUn r ta) := by
 intro pins s σ H Q I h
 exact UnaryOp_ (thn (ha pins s σ H _ I h) (by rintro v s1 ⟨x, H1, I1, r1, q1⟩; exact ho pins s1 σ H1 x v Q I1 r1 q1))
theorem opI {f : Value → Value → Sem Value} {C : Int → Int → Prop} {g : Int → Int → Int}
  (rule : ∀ (i j : Int) (t u : Tok) (s : Shared) (Q : Value → Shared → Prop) (E : Value → Shared → Prop), C i j → Q (.int (g i j) s.toks) { s with toks := s.toks + 1 } → wpAny (model X.prog X.w) X.A (f (.int i t) (.int j u)) Q E s) :
  OpR X f (rI C fun i j => .int (g i j)) := by
 intro pins s σ H x y v u Q I rx ry h
 obtain ⟨i, j, rfl, rfl, hc, q⟩ := h
 obtain ⟨t, rfl⟩ := rx
 obtain ⟨t', rfl⟩ := ry
 exact rule i j t t' s _ _ hc ⟨.int (g i j), H, I.tok _, ⟨_, rfl⟩, q⟩
theorem opI0 {f : Value → Value → Sem Value} {g : Int → Int → Int}
  (rule : ∀ (i j : Int) (t u : Tok) (s : Shared) (Q : Value → Shared → Prop) (E : Value → Shared → Prop), Q (.int (g i j) s.toks) { s with toks := s.toks + 1 } → wpAny (model X.prog X.w) X.A (f (.int i t) (.int j u)) Q E s) :
  OpR X f (rI0 fun i j => .int (g i j)) := by
 intro pins s σ H x y v u Q I rx ry h
 obtain ⟨i, j, rfl, rfl, q⟩ := h
 obtain ⟨t, rfl⟩ := rx
 obtain ⟨t', rfl⟩ := ry
 exact rule i j t t' s _ _ ⟨.int (g i j), H, I.tok _, ⟨_, rfl⟩, q⟩
theorem opB0 {f : Value → Value → Sem Value} {g : Int → Int → Bool}
  (rule : ∀ (i j : Int) (t u : Tok) (s : Shared) (Q : Value → Shared → Prop) (E : Value → Shared → Prop), Q (.bool (g i j)) s → wpAny (model X.prog X.w) X.A (f (.int i t) (.int j u)) Q E s) :
  OpR X f (rI0 fun i j => .bl (g i j)) := by
 intro pins s σ H x y v u Q I rx ry h
 obtain ⟨i, j, rfl, rfl, q⟩ := h
 obtain ⟨t, rfl⟩ := rx
 obtain ⟨t', rfl⟩ := ry
 exact rule i j t t' s _ _ ⟨.bl (g i j), H, I, rfl, q⟩
def CPow (i j : Int) : Prop := 0 ≤ j ∧ j ≤ 1000000 ∧ i.natAbs < 2 ^ 64
theorem op_add : OpR X (binaryOp .Add) (rI0 fun i j => .int (i + j)) := opI0 fun _ _ _ _ _ _ _ q => add_int q
theorem op_sub : OpR X (binaryOp .Sub) (rI0 fun i j => .int (i - j)) := opI0 fun _ _ _ _ _ _ _ q => sub_int q
theorem op_modN : OpR X (binaryOp .Mod) (rI (fun _ j => j ≠ 0) fun i j => .int (i.fmod j)) := opI fun _ _ _ _ _ _ _ hc q => mod_int' hc q
theorem op_pow : OpR X (binaryOp .Pow) (rI CPow fun i j => .int (i ^ j.toNat)) := opI fun _ _ _ _ _ _ _ hc q => pow_int_small hc.1 hc.2.1 hc.2.2 q
theorem unI {f : Value → Sem Value} {g : Int → Int}
  (rule : ∀ (i : Int) (t : Tok) (s : Shared) (Q : Value → Shared → Prop) (E : Value → Shared → Prop), Q (.int (g i) s.toks) { s with toks := s.toks + 1 } → wpAny (model X.prog X.w) X.A (f (.int i t)) Q E s) :
  UnR X f (rU fun i => .int (g i)) := by
 intro pins s σ H x v Q I rx h
 obtain ⟨i, rfl, q⟩ := h
 obtain ⟨t, rfl⟩ := rx
 exact rule i t s _ _ ⟨.int (g i), H, I.tok _, ⟨_, rfl⟩, q⟩
theorem un_neg : UnR X (unaryOp .USub) (rU fun i => .int (-i)) := unI fun _ _ _ _ _ q => neg_int q
end
section
variable {X : Cx} {a b c : Expr} {ta tb tc : TE} {pos : Pos}
theorem op_lt : OpR X (compareOp .Lt) (rI0 fun i j => .bl (decide (i < j))) := opB0 fun _ _ _ _ _ _ _ q => lt_int q
theorem op_le : OpR X (compareOp .LtE) (rI0 fun i j => .bl (decide (i ≤ j))) := opB0 fun _ _ _ _ _ _ _ q => le_int q
theorem op_gt : OpR X (compareOp .Gt) (rI0 fun i j => .bl (decide (j < i))) := opB0 fun _ _ _ _ _ _ _ q => gt_int q
theorem OpR.or {f : Value → Value → Sem Value} {r r' : R2} (h : OpR X f r) (h' : OpR X f r') : OpR X f (fun x y H Q => r x y H Q ∨ r' x y H Q) := by
 intro pins s σ H x y v u Q I rx ry q
 rcases q with q | q
 ·exact h pins s σ H x y v u Q I rx ry q
 ·exact h' pins s σ H x y v u Q I rx ry q
theorem nomark (b : Expr) {op : CmpOp} (h : op ≠ .In := by decide) (h2 : op ≠ .NotIn := by decide) : behindInMarks op b = false := by
 have e1 : (op == CmpOp.In) = false := by cases op <;> first | rfl | exact absurd rfl h
 have e2 : (op == CmpOp.NotIn) = false := by cases op <;> first | rfl | exact absurd rfl h2
 cases b <;> simp [behindInMarks, e1, e2]
theorem pe_cmpR {op : CmpOp} {r : R2} (ho : OpR X (compareOp op) r) (ha : PE X a ta) (hb : PE X b tb) (hm : behindInMarks op b = false) : PE X (.Compare a [op] [b] pos) (tOp r ta tb) := by
 intro pins s σ H Q I h
 exact wpAny_Compare1 (binT ha hb I h fun v u s2 x y H2 I2 rx ry q => ho pins s2 σ H2 x y v u Q I2 rx ry q) hm
def tTest (t : TE) : TT := fun σ H Q => t σ H fun x H' => ∃ k, x = .bl k ∧ Q k H'
theorem pt_cmpR {op : CmpOp} {r : R2} (ho : OpR X (compareOp op) r) (ha : PE X a ta) (hb : PE X b tb) (hm : behindInMarks op b = false) : PT X (.Compare a [op] [b] pos) (tTest (tOp r ta tb)) := by
 intro pins s σ H Q I h
 refine wpAny_isTrue_Compare1 (thn (ha pins s σ H _ I h) fun v s1 ⟨x, H1, I1, r1, q1⟩ => thn (hb pins s1 σ H1 _ I1 q1) fun u s2 ⟨y, H2, I2, r2, q2⟩ =>
  thn (ho pins s2 σ H2 x y v u _ I2 r1 r2 q2) fun c s3 ⟨z, H3, I3, r3, k, e, q3⟩ => ?_) hm
 subst e
 cases r3
 exact wpAny_truthy_bool ⟨H3, I3, q3⟩
theorem line63 : (sizeLine : Nat) < 2 ^ 63 := by rw [sizeLine_eq]; decide
theorem op_add_str : OpR X (binaryOp .Add) (fun x y H Q => ∃ i j, x = .str i ∧ y = .str j ∧ i.length + j.length ≤ sizeLine ∧ Q (.str (i ++ j)) H) := by
 intro pins s σ H x y v u Q I rx ry h
 obtain ⟨i, j, rfl, rfl, hz, q⟩ := h
 obtain ⟨t, rfl⟩ := rx
 obtain ⟨t', rfl⟩ := ry
 exact add_str (fun t' tk => ⟨.str (i ++ j), H, I.tok _, ⟨_, rfl⟩, q⟩) hz
theorem vals1 {x : V} {us : List Value} (r : Vals [x] us) : ∃ u, us = [u] ∧ RelV x u := by
 cases r with
 | cons r1 r2 => cases r2; exact ⟨_, rfl, r1⟩
theorem vals2 {x y : V} {us : List Value} (r : Vals [x, y] us) : ∃ u w', us = [u, w'] ∧ RelV x u ∧ RelV y w' := by
 cases r with
 | cons r1 r2 =>
  cases r2 with
  | cons r3 r4 => cases r4; exact ⟨_, _, rfl, r1, r3⟩
theorem call_abs : CallR X (.builtin "abs") (fun xs H Q => ∃ i, xs = [.int i] ∧ Q (.int (if i < 0 then -i else i)) H) := by
 intro pins s σ H xs us Q I r h
 obtain ⟨i, rfl, q⟩ := h
 obtain ⟨u, rfl, t, rfl⟩ := vals1 r
 exact call_abs_int fun u tk => ⟨.int (if i < 0 then -i else i), H, I.tok _, ⟨_, rfl⟩, q⟩
theorem call_max2 (hc : X.calm = true) : CallR X (.builtin "max") (fun xs H Q => ∃ i j, xs = [.int i, .int j] ∧ Q (.int (if j > i then j else i)) H) := by
 intro pins s σ H xs us Q I r h
 obtain ⟨i, j, rfl, q⟩ := h
 obtain ⟨u, w', rfl, ⟨t, rfl⟩, ⟨t', rfl⟩⟩ := vals2 r
 refine max_two_ints (I.ok.hd hc) fun h' tk k => ⟨_, H, I.kept k, ?_, q⟩
 by_cases hj : j > i
 ·rw [if_pos hj, if_pos hj]; exact ⟨_, rfl⟩
 ·rw [if_neg hj, if_neg hj]; exact ⟨_, rfl⟩
end
section
variable {prog : Program} {w : World} {A : Around} {E : Value → Shared → Prop} {s : Shared} {K : PySem.W.Frag} {x dx C f : Addr} {mA : Str → Option Value} {name : Str} {v : Value}
end
theorem RelO.some_of {v : V} {o : Option Value} (r : RelO (some v) o) : ∃ u, o = some u ∧ RelV v u := by
 cases o with
 | none => exact (show False from r).elim
 | some u => exact ⟨u, rfl, r⟩
section
variable {P : Program} {w : World} {H H' : Hp} {h h' : Heap} {a C dx : Addr} {fs fs' : List (Str × V)}
end
structure Cls (K : PySem.W.Frag) (C : Addr) : Prop where
 pg : PySem.W.plainGet K C Str.empty = true
 hd : PySem.W.hasDictIn K C = true
 po : PySem.W.plainOver K C = true
 sa : PySem.W.findIn K (.ref C) "__setattr__" = some (some (.builtin "object.__setattr__"))
section
variable {X : Cx} {pins : List (Addr × Obj)} {σ : St} {H : Hp} {s : Shared} {a C dx : Addr} {fs : List (Str × V)} {f : Str} {v : V} {A : Around} {E : Value → Shared → Prop}
end
section
variable {X : Cx} {o e value : Expr} {f : Str} {pos pos' tpos : Pos} {ta tv : TE}
end
section
variable {X : Cx} {pins : List (Addr × Obj)} {σ : St} {H : Hp} {s : Shared} {A : Around} {E : Value → Shared → Prop} {Q : Value → Shared → Prop} {c : Value} {b : Bool}
end
structure Room (k : Nat) (A : Around) : Prop where
 hd : A.handled = none
 dp : A.depth + 3 * k + 5 < recursionLimit
 un : A.units + 16 * k + 200 < cLine
theorem Room.mono {j k : Nat} {A : Around} (r : Room k A) (h : j ≤ k) : Room j A := ⟨r.hd, by have := r.dp; lia, by have := r.un; lia⟩
theorem Room.deeper {k : Nat} {A : Around} (r : Room (k + 1) A) (env : Env) : Room k (A.deeper env) :=
 ⟨r.hd, by have := r.dp; show A.depth + 1 + 3 * k + 5 < _; lia, by have := r.un; show A.units + 3 + 16 * k + 200 < _; lia⟩
theorem Room.depth {k : Nat} {A : Around} (r : Room k A) : A.depth < recursionLimit := by have := r.dp; lia
def tNil : TA := fun _ H Q => Q [] H
def tCons (ta : TE) (tr : TA) : TA := fun σ H Q => ta σ H fun x H1 => tr σ H1 fun xs H2 => Q (x :: xs) H2
section
variable {X : Cx} {e : Expr} {es : List Expr} {te : TE} {t : TA} {pos : Pos}
theorem pa_nil : PA X [] tNil := fun _ _ _ _ H Q I h => Calls.spliced_nil ⟨[], H, I, .nil, h⟩
theorem pa_cons (ha : PE X e te) (hr : PA X es t) (hs : starEach (e :: es) X.env = (false, eval e X.env) :: starEach es X.env := by rfl) : PA X (e :: es) (tCons te t) := by
 intro pos pins s σ H Q I h
 rw [hs]
 show wpAny _ _ (spliced ((false, eval e X.env) :: backTo pos (starEach es X.env))) _ _ s
 refine Calls.spliced_cons (thn (ha pins s σ H _ I h) ?_)
 rintro u s1 ⟨x, H1, I1, r1, q1⟩
 exact thn (hr pos pins s1 σ H1 _ I1 q1) (by rintro us s2 ⟨xs, H2, I2, r2, q2⟩; exact ⟨x :: xs, H2, I2, .cons r1 r2, q2⟩)
def tTup (t : TA) : TE := fun σ H Q => t σ H fun xs H1 => xs.length ≤ sizeLine ∧ ∀ p, H1 p = none → Q (.ref p) (upd H1 p (.tup xs))
def tLst (t : TA) : TE := fun σ H Q => t σ H fun xs H1 => xs.length ≤ sizeLine ∧ ∀ p, H1 p = none → Q (.ref p) (upd H1 p (.lst xs))
theorem pe_tup {x1} (h : PA X es t) : PE X (.Tuple es x1 pos) (tTup t) := by
 intro pins s σ H Q I hq
 refine wpAny_Tuple_spliced (thn (h pos pins s σ H _ I hq) ?_)
 rintro us s1 ⟨xs, H1, I1, r, z, q⟩
 refine ⟨by rw [← r.length]; exact z, ?_⟩
 have hf : H1 s1.heap.objs.size = none := I1.hok.fresh (Nat.le_refl _)
 refine ⟨.ref s1.heap.objs.size, upd H1 s1.heap.objs.size (.tup xs), I1.laid (t' := s1.toks) (fun b u e => Heap.get?_push_of_some _ e) (Nat.le_refl _) ?_, rfl, q _ hf⟩
 exact ⟨z, us, r, ⟨_, Heap.get?_push_size _ rfl, rfl, _, rfl⟩⟩
theorem pe_lst (h : PA X es t) : PE X (.List es pos) (tLst t) := by
 intro pins s σ H Q I hq
 refine wpAny_List_spliced (thn (h pos pins s σ H _ I hq) ?_)
 rintro us s1 ⟨xs, H1, I1, r, z, q⟩
 refine ⟨by rw [← r.length]; exact z, ?_⟩
 have hf : H1 s1.heap.objs.size = none := I1.hok.fresh (Nat.le_refl _)
 refine ⟨.ref s1.heap.objs.size, upd H1 s1.heap.objs.size (.lst xs), I1.laid (t' := s1.toks) (fun b u e => Heap.get?_push_of_some _ e) (Nat.le_refl _) ?_, rfl, q _ hf⟩
 exact ⟨z, us, 0, r, Heap.get?_push_size _ rfl⟩
end
abbrev Sp := List V → Hp → VK → XK → Prop
abbrev CXT := List Env → Hp → Shared → XK → Value → Shared → Prop
structure Env0 (P : Program) (w : World) (K : PySem.W.Frag) (mg : Str → Option Value) (base : Heap) (A : Around) (outer : List Env) (s : Shared) (H : Hp) : Prop where
 frames : A.frames = some outer
 mod : Mod K mg base
 bs : ∀ b o, base.get? b = some o → s.heap.get? b = some o ∧ H b = none
 bsz : base.objs.size ≤ s.heap.objs.size
 funs : s.heap.FunFrames base outer
 frf : ∀ b ∈ frs outer, H b = none
 hok : HOk P w H s.heap
 bare : AllBare s.gens
def CE (outer : List Env) (P : Program) (w : World) (H : Hp) (s : Shared) (Q : VK) (u : Value) (s' : Shared) : Prop :=
 ∃ v H', s'.os = s.os ∧ AllBare s'.gens ∧ Un (frs outer) [] H H' s.heap s'.heap ∧ HOk P w H' s'.heap ∧ RelV v u ∧ Q v H'
def CR (CX : CXT) (outer : List Env) (P : Program) (w : World) (H : Hp) (s : Shared) (Q : VK) (E : XK) (r : Result) (s' : Shared) : Prop :=
 match r with
 | .ok (.ret u) => CE outer P w H s Q u s'
 | .ok _ => False
 | .error e => CX outer H s E e s'
structure FnOk (P : Program) (w : World) (K : PySem.W.Frag) (mg : Str → Option Value) (base : Heap) (CX : CXT) (k : Nat) (f : Addr) (fd : FuncData) (ps : List Str) (sp : Sp) : Prop where
 len : ∀ vs H Q E, sp vs H Q E → vs.length = ps.length
 run : ∀ (A : Around) (outer : List Env) (s : Shared) (H : Hp) (args : Args) (us : List Value) (vs : List V) (Q : VK) (E : XK), Room k A → Env0 P w K mg base A outer s H → BindsTo s fd args (ps.zip us) → Vals vs us → sp vs H Q E →
  codeAny (model P w) A (.call (.ref f) args) (CR CX outer P w H s Q E) s
theorem FnOk.mono {P : Program} {w : World} {K : PySem.W.Frag} {mg : Str → Option Value} {base : Heap} {CX : CXT} {j k : Nat} {f : Addr} {fd : FuncData} {ps : List Str} {sp : Sp} (F : FnOk P w K mg base CX j f fd ps sp) (h : j ≤ k) :
  FnOk P w K mg base CX k f fd ps sp := ⟨F.len, fun A outer s H args us vs Q E hr => F.run A outer s H args us vs Q E (hr.mono h)⟩
theorem FnOk.imp {P : Program} {w : World} {K : PySem.W.Frag} {mg : Str → Option Value} {base : Heap} {CX : CXT} {k : Nat} {f : Addr} {fd : FuncData} {ps : List Str} {sp sp' : Sp} (F : FnOk P w K mg base CX k f fd ps sp)
  (h : ∀ vs H Q E, sp' vs H Q E → sp vs H Q E) : FnOk P w K mg base CX k f fd ps sp' :=
 ⟨fun vs H Q E q => F.len vs H Q E (h _ _ _ _ q), fun A outer s H args us vs Q E hr he hb hv hs => F.run A outer s H args us vs Q E hr he hb hv (h _ _ _ _ hs)⟩
section
variable {X : Cx} {pins : List (Addr × Obj)} {σ : St} {H : Hp} {s s' : Shared}
theorem Inv.env0 (I : Inv X pins σ H s) : Env0 X.prog X.w X.K X.mg X.base X.A X.stack s H :=
 ⟨I.ok.frames, I.ok.mod, I.bs, Nat.le_trans I.ok.bsz I.sz, I.stack, I.stkFree, I.hok, I.bare⟩
theorem Inv.after {Q : VK} {u : Value} (I : Inv X pins σ H s) (h : CE X.stack X.prog X.w H s Q u s') : EP X pins σ Q u s' := by
 obtain ⟨v, H', os, bare, un, hok, r, q⟩ := h
 obtain ⟨hh, g, d, t, os'⟩ := s'
 obtain rfl : os' = s.os := os
 exact ⟨v, H', I.call (h' := hh) (g' := g) (d' := d) (t' := t) (ch := []) un hok bare (fun b z => absurd z (by simp)), r, q⟩
end
def Binds (K : PySem.W.Frag) (fd : FuncData) (ps : List Str) (ds : List Value) : Prop :=
 ∀ (s : Shared) (us : List Value), K.In s.heap → (us ++ ds).length = ps.length → BindsTo s fd ⟨us, []⟩ (ps.zip (us ++ ds))
theorem Binds.all {K : PySem.W.Frag} {fd : FuncData} {ps : List Str} (h : ∀ us : List Value, us.length = ps.length → bindArgs fd ⟨us, []⟩ = pure (ps.zip us)) : Binds K fd ps [] := fun s us _ hl => by
 rw [List.append_nil] at hl ⊢
 exact .of_eq (h us hl)
def Passes (CX : CXT) (X : Cx) (E : XK) : Prop := ∀ (pins : List (Addr × Obj)) (σ : St) (H : Hp) (s : Shared) (e : Value) (s' : Shared), Inv X pins σ H s → CX X.stack H s E e s' → X.xe e s'
section
variable {X : Cx} {CX : CXT} {k : Nat} {f C : Addr} {fd : FuncData} {ps : List Str} {sp : Sp} {dvs : List V} {ds : List Value} {E : XK} {x m : Str} {p pos apos : Pos} {e o : Expr} {es : List Expr} {ta : TE} {t : TA}
end
section
variable {X : Cx} {CX : CXT} {k : Nat} {f C : Addr} {fd : FuncData} {ps ks : List Str} {sp : Sp} {E : XK} {x m : Str} {p pos apos kpos : Pos} {e o : Expr} {es : List Expr} {kws : List Keyword} {te ta : TE} {t tk : TA} {nm : Option Str}
variable {g : List Value → List Value → List Value} {gV : List V → List V → List V}
end
structure FnScope (N P : List Str) (sc : Scope) : Prop where
 kind : sc.kind = .function
 co : sc.isCoroutine = false
 gen : sc.isGenerator = false
 nd : N.Nodup
 pre : N.take P.length = P
 par : ∀ x ∈ P, sc.names.lookup x = some .local ∨ sc.names.lookup x = some .cell
 nofree : ∀ y ∈ sc.names, y.2 ≠ .free
theorem bindL_out {kindOf : Str → Option NameKind} {x : Str} : ∀ {binds : List (Str × Value)} {m : Str → Option Value}, (∀ v, (x, v) ∉ binds) → bindL kindOf binds m x = m x
 | [], _, _ => rfl
 | (n, v) :: r, m, h => by
  unfold bindL
  rw [bindL_out fun w hw => h w (List.mem_cons_of_mem _ hw)]
  split
  ·have : x ≠ n := by rintro rfl; exact h v List.mem_cons_self
   simp [this]
  ·rfl
theorem bindC_out {kindOf : Str → Option NameKind} {x : Str} : ∀ {binds : List (Str × Value)} {m : Str → Option Value}, (∀ v, (x, v) ∉ binds) → bindC kindOf binds m x = m x
 | [], _, _ => rfl
 | (n, v) :: r, m, h => by
  unfold bindC
  rw [bindC_out fun w hw => h w (List.mem_cons_of_mem _ hw)]
  split
  ·rfl
  ·have : x ≠ n := by rintro rfl; exact h v List.mem_cons_self
   simp [this]
theorem bindL_get {kindOf : Str → Option NameKind} {x : Str} {v : Value} : ∀ {P : List Str} {vs : List Value} {i : Nat} {m : Str → Option Value}, P.Nodup → P[i]? = some x → vs[i]? = some v → kindOf x = some .local →
  bindL kindOf (P.zip vs) m x = some v
 | [], _, _, _, _, h, _, _ => by simp at h
 | _ :: _, [], _, _, _, _, h, _ => by simp at h
 | p :: P, w :: vs, 0, m, nd, h1, h2, hk => by
  simp at h1 h2; subst h1; subst h2
  show bindL kindOf ((p, w) :: P.zip vs) m p = _
  unfold bindL
  rw [bindL_out fun v hv => (List.nodup_cons.mp nd).1 (List.of_mem_zip hv).1, if_pos hk]
  simp
 | p :: P, w :: vs, i + 1, m, nd, h1, h2, hk => by
  show bindL kindOf ((p, w) :: P.zip vs) m x = _
  unfold bindL
  exact bindL_get (i := i) (List.nodup_cons.mp nd).2 (by simpa using h1) (by simpa using h2) hk
theorem bindC_get {kindOf : Str → Option NameKind} {x : Str} {v : Value} : ∀ {P : List Str} {vs : List Value} {i : Nat} {m : Str → Option Value}, P.Nodup → P[i]? = some x → vs[i]? = some v → kindOf x ≠ some .local →
  bindC kindOf (P.zip vs) m x = some v
 | [], _, _, _, _, h, _, _ => by simp at h
 | _ :: _, [], _, _, _, _, h, _ => by simp at h
 | p :: P, w :: vs, 0, m, nd, h1, h2, hk => by
  simp at h1 h2; subst h1; subst h2
  show bindC kindOf ((p, w) :: P.zip vs) m p = _
  unfold bindC
  rw [bindC_out fun v hv => (List.nodup_cons.mp nd).1 (List.of_mem_zip hv).1, if_neg hk]
  simp
 | p :: P, w :: vs, i + 1, m, nd, h1, h2, hk => by
  show bindC kindOf ((p, w) :: P.zip vs) m x = _
  unfold bindC
  exact bindC_get (i := i) (List.nodup_cons.mp nd).2 (by simpa using h1) (by simpa using h2) hk
def start (N : List Str) (vs : List V) : St := vs.map some ++ List.replicate (N.length - vs.length) none
def cxOf (CX : CXT) (P : Program) (w : World) (K : PySem.W.Frag) (mg : Str → Option Value) (base : Heap) (N : List Str) (qual : Str) (scope : Scope) (f : Addr) (cd : Value) (A : Around) (outer : List Env) (s : Shared) (H : Hp) (E : XK) : Cx where
 prog := P
 w := w
 K := K
 mg := mg
 base := base
 A := A.deeper (envOfC qual scope s.heap.objs.size f cd)
 N := N
 s₀ := s
 H₀ := H
 env := envOfC qual scope s.heap.objs.size f cd
 outer := outer
 stack := envOfC qual scope s.heap.objs.size f cd :: outer
 ex := []
 calm := true
 fn := fun _ => true
 pn := []
 xe := fun e s' => wpAny (model P w) (A.deeper (envOfC qual scope s.heap.objs.size f cd)) (leaving (envOfC qual scope s.heap.objs.size f cd) e) (fun _ s'' => CX outer H s E e s'') (fun e' s'' => CX outer H s E e' s'') s'
theorem cell_has {sc : Scope} {n : Nat} {x : Str} (h : sc.names.lookup x = some .cell) : ∃ c, (cellsFrom n sc.names []).lookup x = some c := by
 have q := PySem.W.cellsFrom_some sc.names n [] (.inl h)
 exact Option.isSome_iff_exists.mp q
theorem inv_start {CX : CXT} {P : Program} {w : World} {K : PySem.W.Frag} {mg : Str → Option Value} {base : Heap} {N ps : List Str} {qual : Str} {scope : Scope} {f : Addr} {cd : Value} {A : Around} {outer : List Env} {s s1 : Shared} {H : Hp} {E : XK} {us : List Value} {vs : List V}
  (S : FnScope N ps scope) (hd : A.handled = none) (e0 : Env0 P w K mg base A outer s H) (hl : vs.length = ps.length) (r : Vals vs us)
  (x : InCallC s s.heap.objs.size (bindL (envOfC qual scope s.heap.objs.size f cd).kindOf (ps.zip us) fun _ => none) (cellsFrom (s.heap.objs.size + 1) scope.names []) (bindC (envOfC qual scope s.heap.objs.size f cd).kindOf (ps.zip us) fun _ => none) s1) :
  Inv (cxOf CX P w K mg base N qual scope f cd A outer s H E) [] (start N vs) H s1 := by
 have hpl : ps.length ≤ N.length := by have := congrArg List.length S.pre; rw [List.length_take] at this; lia
 obtain ⟨h1, tk, rfl, hk⟩ := x.done
 have noA : ∀ b : Addr, b ∉ (cxOf CX P w K mg base N qual scope f cd A outer s H E).ex := fun b z => absurd (show b ∈ ([] : List Addr) from z) (by simp)
 refine ⟨⟨e0.mod, S.kind, rfl, rfl, Nat.le_refl _, fun y z c h1 h2 => ?_, fun y hy => ?_, fun y c _ h => ?_, fun _ => hd, Around.frames_deeper e0.frames, .inr ⟨rfl, rfl⟩, fun b z => absurd z (noA b), e0.bs, e0.bsz, fun b _ _ => noA b, fun b z => absurd z (noA b), e0.funs, e0.frf⟩,
  rfl, e0.bare, Un.kept hk, ⟨_, x.toInCall.ns, fun i y v h1 h2 h3 => ?_⟩, fun y c h => ⟨_, x.cell y c h⟩, e0.hok.fresh (Nat.le_refl _), fun y c h => ?_, fun p hp => absurd (show p ∈ ([] : List (Addr × Obj)) from hp) (by simp), e0.hok.kept hk, ?_⟩
 ·exact name_of_addr x.apart (PySem.mem_of_lookup h1) (PySem.mem_of_lookup h2)
 ·have hy : scope.names.lookup y = some .cell ∨ scope.names.lookup y = some .free := hy
  rcases hy with hy | hy
  ·exact cell_has hy
  ·exact absurd rfl (S.nofree _ (PySem.mem_of_lookup hy))
 ·exact Nat.le_of_lt (x.above y c (PySem.mem_of_lookup h))
 ·have hi : i < vs.length := by
   unfold start at h2
   by_cases hi : i < vs.length
   ·exact hi
   ·rw [List.getElem?_append_right (by simpa using hi)] at h2
    rw [List.getElem?_replicate] at h2
    split at h2 <;> cases h2
  have ha : vs[i]? = some v := by
   unfold start at h2
   rw [List.getElem?_append_left (by simpa using hi), List.getElem?_map] at h2
   cases e : vs[i]? with
   | none => rw [e] at h2; cases h2
   | some a => rw [e] at h2; cases h2; rfl
  obtain ⟨u, hu, rv⟩ := r.get ha
  have hp : ps[i]? = some y := by
   rw [← S.pre, List.getElem?_take_of_lt (by lia)]; exact h1
  have ndP : ps.Nodup := by rw [← S.pre]; exact S.nd.sublist (List.take_sublist _ _)
  refine ⟨u, rv, ?_⟩
  rcases S.par y (List.mem_of_getElem? hp) with k | k
  ·exact .inl ⟨k, bindL_get ndP hp hu k⟩
  ·obtain ⟨c, e⟩ := cell_has (n := s.heap.objs.size + 1) k
   refine .inr ⟨.inl k, c, e, ?_⟩
   have q := x.cell y c e
   rw [bindC_get ndP hp hu (by show scope.names.lookup y ≠ _; rw [k]; decide)] at q
   exact q
 ·exact e0.hok.fresh (Nat.le_of_lt (x.above y c (PySem.mem_of_lookup h)))
 ·unfold start
  show _ = N.length
  rw [List.length_append, List.length_map, List.length_replicate]
  lia
theorem fn_of {CX : CXT} {P : Program} {w : World} {K : PySem.W.Frag} {mg : Str → Option Value} {base : Heap} {k : Nat} {f : Addr} {name qual : Str} {params : Arguments} {body : List Stmt} {scope : Scope} {dV kV doc pm cdv ct oc : Value} {an od : Option Addr}
  {osl : Array (Option Value)} {N ps : List Str} {sp : Sp} (lk : K.lookup f = some ⟨oc, od, .func (PySem.W.fnOf name qual params body scope dV kV doc pm an cdv ct), osl⟩) (hcd : PySem.W.codeIn K cdv qual = true) (S : FnScope N ps scope)
  (len : ∀ vs H Q E, sp vs H Q E → vs.length = ps.length)
  (hbody : ∀ (A : Around) (outer : List Env) (s : Shared) (H : Hp) (vs : List V) (Q : VK) (E : XK), Room k (A.deeper (envOfC qual scope s.heap.objs.size f cdv)) → sp vs H Q E →
   ∃ t, PSs (cxOf CX P w K mg base N qual scope f cdv A outer s H E) body t ∧ t { nx := fun _ H' => Q .non H', rt := Q } (start N vs) H) :
  FnOk P w K mg base CX (k + 1) f (PySem.W.fnOf name qual params body scope dV kV doc pm an cdv ct) ps sp := by
 refine ⟨len, fun A outer s H args us vs Q E hr e0 hb r hsp => ?_⟩
 have hl := len _ _ _ _ hsp
 have KX : K.In s.heap := e0.mod.kin.keeps fun b o e => (e0.bs b o e).1
 have lim : s.heap.NoLimit := e0.mod.nolimit.keeps fun b o e => (e0.bs b o e).1
 have hkind : ∀ y ∈ ps.zip us, scope.names.lookup y.1 = some .local ∨ (scope.names.lookup y.1 = some .cell ∧ ((cellsFrom (s.heap.objs.size + 1) scope.names []).lookup y.1).isSome = true) := by
  rintro ⟨n, v⟩ hy
  rcases S.par n (List.of_mem_zip hy).1 with q | q
  ·exact .inl q
  ·exact .inr ⟨q, PySem.W.cellsFrom_some _ _ _ (.inl q)⟩
 refine codeAny_call_function hr.depth (KX _ _ lk) rfl S.co S.gen rfl (PySem.W.codeRec_of KX hcd) (hb _ _ _ _ ?_)
 refine wpAny_newFunctionEnv_cells S.kind hkind fun env he s1 x => ?_
 subst he
 refine ⟨lim.keeps x.toInCall.keep, codeAny_func ?_⟩
 obtain ⟨t, ht, hq⟩ := hbody A outer s H vs Q E (hr.deeper _) hsp
 have I : Inv (cxOf CX P w K mg base N qual scope f cdv A outer s H E) [] (start N vs) H s1 := inv_start S hr.hd e0 hl r x
 refine wpAny_mono (ht [] s1 (start N vs) H _ I hq) (fun fl s' hs => ?_) fun e s' hs => hs
 have fin : ∀ {σ' : St} {H' : Hp} {v : V} {u : Value}, Inv (cxOf CX P w K mg base N qual scope f cdv A outer s H E) [] σ' H' s' → RelV v u → Q v H' → CE outer P w H s Q u s' :=
  fun {σ' H' v u} J rv q => ⟨v, H', J.os, J.bare, J.base, J.hok, rv, q⟩
 cases fl with
 | ret u =>
  obtain ⟨v, σ', H', J, rv, q⟩ := hs
  exact fin J rv q
 | next =>
  obtain ⟨σ', H', J, q⟩ := hs
  exact fin (v := V.non) (u := Value.none) J rfl q
 | brk =>
  obtain ⟨_, _, _, q⟩ := hs
  exact False.elim q
 | cont =>
  obtain ⟨_, _, _, q⟩ := hs
  exact False.elim q
section
variable {X : Cx} {x : Str} {p pos : Pos} {e : Expr} {es : List Expr} {t : TA} {id T : String} {r : List V → Hp → VK → Prop}
def tCB (r : List V → Hp → VK → Prop) (t : TA) : TE := fun σ H Q => t σ H fun vs H1 => r vs H1 Q
theorem pe_callB (hc : CallR X (.builtin id) r) (hg : Gl X x) (hm : X.mg x = none) (hv : bootBuiltins x = some (.builtin id)) (ha : PA X (e :: es) t) (hn : x ≠ "__name__" := by decide) (hdb : (x == ("__debug__" : Str)) = false := by decide)
  (he : starEach (e :: es) X.env = (false, eval e X.env) :: starEach es X.env := by rfl) (hpl : (backTo pos (starEach es X.env)).any (·.1) = false := by rfl) : PE X (.Call (.Name x p) (e :: es) [] pos) (tCB r t) := by
 intro pins s σ H Q I h
 refine wpAny_Call_Name_kw (ld_blt I hg hm hv ?_ hn hdb)
 exact PyProof.Rows.callWith_builtin1 (thn (ha pos pins s σ H _ I h) (by rintro us s1 ⟨vs, H1, I1, r1, q1⟩; exact hc pins s1 σ H1 vs us Q I1 r1 q1)) he hpl
theorem pe_callTy (hc : CallR X (.type T) r) (hg : Gl X x) (hm : X.mg x = none) (hv : bootBuiltins x = some (.type T)) (ha : PA X (e :: es) t) (hn : x ≠ "__name__" := by decide) (hdb : (x == ("__debug__" : Str)) = false := by decide)
  (he : starEach (e :: es) X.env = (false, eval e X.env) :: starEach es X.env := by rfl) (hpl : (backTo pos (starEach es X.env)).any (·.1) = false := by rfl) : PE X (.Call (.Name x p) (e :: es) [] pos) (tCB r t) := by
 intro pins s σ H Q I h
 refine wpAny_Call_Name_kw (ld_blt I hg hm hv ?_ hn hdb)
 exact PyProof.Rows.callWith_type1 (thn (ha pos pins s σ H _ I h) (by rintro us s1 ⟨vs, H1, I1, r1, q1⟩; exact hc pins s1 σ H1 vs us Q I1 r1 q1)) he hpl
end
end L2
namespace HT
open PySem PyProof.Rows
def lexLt : List Int → List Int → Bool
 | [], [] => false
 | [], _ :: _ => true
 | _ :: _, [] => false
 | x :: xs, y :: ys => if x = y then lexLt xs ys else decide (x < y)
theorem lexLt_cons (x y : Int) (xs ys : List Int) : lexLt (x :: xs) (y :: ys) = if x = y then lexLt xs ys else decide (x < y) := rfl
section
open PySem.SeqAt
open PySem.AutoSeq1 (wpAny_loadPart')
open PySem.MeetsSeq PySem.MeetsSeq2 PySem.MeetsSeq3
end
section
variable {prog : Program} {w : World} {A : Around} {E : Value → Shared → Prop} {s : Shared}
def sIx (n d : Nat) : Option Int → Nat
 | none => d
 | some v => if v < 0 then (v + (n : Int)).toNat else min v.toNat n
theorem sIx_none (n d : Nat) : sIx n d none = d := rfl
theorem sIx_nat (n d k : Nat) : sIx n d (some (k : Int)) = min k n := by
 show (if (k : Int) < 0 then ((k : Int) + (n : Int)).toNat else min (k : Int).toNat n) = min k n
 rw [if_neg (by lia), Int.toNat_natCast]
end
end HT
namespace L2
open PySem PySem.Spec PyProof.Rows
abbrev TO := St → Hp → (Option Int → Hp → Prop) → Prop
def PO (X : Cx) (e : Option Expr) (t : TO) : Prop :=
 ∀ (pins : List (Addr × Obj)) (s : Shared) (σ : St) (H : Hp) (Q : Option Int → Hp → Prop), Inv X pins σ H s → t σ H Q →
  wpAny (model X.prog X.w) X.A (evalPart e X.env) (fun u s' => ∃ o H', Inv X pins σ H' s' ∧ IsPart u o ∧ Q o H') X.xe s
def tNoPart : TO := fun _ H Q => Q none H
def tPart (t : TE) : TO := fun σ H Q => t σ H fun x H1 => ∃ i, x = .int i ∧ Q (some i) H1
theorem intsAre_of {ns : List Int} : ∀ {us : List Value}, Vals (ns.map V.int) us → IntsAre us ns := by
 induction ns with
 | nil => intro us r; rw [List.map_nil] at r; cases r; exact .nil
 | cons n ns ih =>
  intro us r
  rw [List.map_cons] at r
  cases r with
  | cons r1 r2 =>
   obtain ⟨t, e⟩ := r1
   subst e
   exact .cons n t (ih r2)
section
variable {X : Cx} {e : Expr} {te : TE} {lo hi : Option Expr} {tl th : TO} {pos p2 : Pos}
theorem po_none : PO X none tNoPart := by
 intro pins s σ H Q I h
 rw [evalPart_none]
 exact wpAny_pure ⟨none, H, I, .none, h⟩
theorem po_some (h : PE X e te) : PO X (some e) (tPart te) := by
 intro pins s σ H Q I hw
 rw [evalPart_some]
 refine thn (h pins s σ H _ I hw) ?_
 rintro u s1 ⟨x, H1, I1, r1, q1⟩
 obtain ⟨i, rfl, q⟩ := q1
 obtain ⟨t, rfl⟩ := r1
 exact ⟨some i, H1, I1, .int i t, q⟩
def SlR (X : Cx) (r : V → Option Int → Option Int → Hp → VK → Prop) : Prop :=
 ∀ (pins : List (Addr × Obj)) (s : Shared) (σ : St) (H : Hp) (x : V) (v vl vu : Value) (lo hi : Option Int) (sl : Addr) (Q : VK), Inv X pins σ H s → RelV x v → s.heap.IsSliceOf sl vl vu .none → IsPart vl lo → IsPart vu hi → r x lo hi H Q →
  ∃ T id, typeLookup (.type T) "__getitem__" = pure (some (.builtin id)) ∧ s.TypeIs v T ∧ wpAny (model X.prog X.w) X.A (getItem v (.ref sl)) (EP X pins σ Q) X.xe s
def tSl (r : V → Option Int → Option Int → Hp → VK → Prop) (te : TE) (tl th : TO) : TE := fun σ H Q => te σ H fun x H1 => tl σ H1 fun l H2 => th σ H2 fun u H3 => r x l u H3 Q
theorem pe_slice {r : V → Option Int → Option Int → Hp → VK → Prop} (hr : SlR X r) (he : PE X e te) (hl : PO X lo tl) (hu : PO X hi th) : PE X (.Subscript e (.Slice lo hi none p2) pos) (tSl r te tl th) := by
 intro pins s σ H Q I h
 refine Subscript_ (thn (he pins s σ H _ I h) ?_)
 rintro v s1 ⟨x, H1, I1, r1, q1⟩
 refine wpAny_Slice (thn (hl pins s1 σ H1 _ I1 q1) ?_)
 rintro vl s2 ⟨l, H2, I2, pl, q2⟩
 refine thn (hu pins s2 σ H2 _ I2 q2) ?_
 rintro vu s3 ⟨u, H3, I3, pu, q3⟩
 rw [evalPart_none]
 refine wpAny_pure ?_
 have I4 : Inv X pins σ H3 { s3 with heap := s3.heap.push { cls := .type "slice", data := .fields #[vl, vu, .none] } } := I3.kept (t' := s3.toks) fun b ob q => Heap.get?_push_of_some _ q
 obtain ⟨T, id, hT, ht, hg⟩ := hr pins { s3 with heap := s3.heap.push { cls := .type "slice", data := .fields #[vl, vu, .none] } } σ H3 x v vl vu l u s3.heap.objs.size Q I4 r1 (Heap.IsSliceOf.new ..) pl pu q3
 show wpAny (model X.prog X.w) X.A (subscriptTail e (.Slice lo hi none p2) v (.ref s3.heap.objs.size)) (EP X pins σ Q) X.xe { s3 with heap := s3.heap.push { cls := .type "slice", data := .fields #[vl, vu, .none] } }
 exact tail_any (ops := [.ref s3.heap.objs.size, v]) ht hT hg (by with_unfolding_all rfl)
def cutV (xs : List V) (lo hi : Option Int) : List V := (xs.drop (HT.sIx xs.length 0 lo)).take (HT.sIx xs.length xs.length hi - HT.sIx xs.length 0 lo)
theorem cutV_length (xs : List V) (lo hi : Option Int) : (cutV xs lo hi).length ≤ xs.length := by
 unfold cutV
 rw [List.length_take, List.length_drop]
 lia
end
def ixN (n : Nat) (i : Int) : Option Nat := if 0 ≤ i then (if i < n then some i.toNat else none) else if -(n : Int) ≤ i then some (i + n).toNat else none
def atI {α : Type} (xs : List α) (i : Int) : Option α := (ixN xs.length i).bind fun j => xs[j]?
theorem ixN_seq {n : Nat} {i : Int} {j : Nat} (h : ixN n i = some j) : seqIndex? i n = some j ∧ j < n ∧ -(n : Int) ≤ i ∧ i < n := by
 unfold ixN at h
 by_cases h0 : 0 ≤ i
 ·rw [if_pos h0] at h
  by_cases h1 : i < n
  ·rw [if_pos h1] at h
   have e : i.toNat = j := Option.some.inj h
   exact ⟨by rw [seqIndex_of h0 h1, e], by lia, by lia, h1⟩
  ·rw [if_neg h1] at h; cases h
 ·rw [if_neg h0] at h
  by_cases h1 : -(n : Int) ≤ i
  ·rw [if_pos h1] at h
   have e : (i + n).toNat = j := Option.some.inj h
   exact ⟨by rw [seqIndex_neg (by lia) h1, e], by lia, h1, by lia⟩
  ·rw [if_neg h1] at h; cases h
theorem atI_get {α : Type} {xs : List α} {i : Int} {v : α} (h : atI xs i = some v) : ∃ j, seqIndex? i xs.length = some j ∧ xs[j]? = some v ∧ j < xs.length ∧ -(xs.length : Int) ≤ i ∧ i < xs.length := by
 unfold atI at h
 cases e : ixN xs.length i with
 | none => rw [e] at h; cases h
 | some j =>
  rw [e] at h
  obtain ⟨h1, h2, h3, h4⟩ := ixN_seq e
  exact ⟨j, h1, h, h2, h3, h4⟩
theorem atI_nat {α : Type} {xs : List α} {j : Nat} {v : α} (h : xs[j]? = some v) : atI xs (j : Int) = some v := by
 have hj : j < xs.length := (List.getElem?_eq_some_iff.mp h).1
 have e : ixN xs.length (j : Int) = some j := by
  unfold ixN
  rw [if_pos (by lia), if_pos (by lia)]; simp
 unfold atI; rw [e]; exact h
def PlainIx (b : Expr) : Prop := ∀ o i, subscripted b false o i = operate [o, i] (getItem o i)
def IxR (X : Cx) (r : R2) : Prop :=
 ∀ (value slice : Expr) (pins : List (Addr × Obj)) (s : Shared) (σ : St) (H : Hp) (x y : V) (v u : Value) (Q : VK), Inv X pins σ H s → RelV x v → RelV y u → r x y H Q →
  subscripted slice false v u = operate [v, u] (getItem v u) → wpAny (model X.prog X.w) X.A (subscriptTail value slice v u) (EP X pins σ Q) X.xe s
def MtR (X : Cx) (id : String) (r : V → List V → Hp → VK → Prop) : Prop :=
 ∀ (pins : List (Addr × Obj)) (s : Shared) (σ : St) (H : Hp) (x : V) (xs : List V) (v : Value) (us : List Value) (Q : VK), Inv X pins σ H s → RelV x v → Vals xs us → r x xs H Q →
  wpAny (model X.prog X.w) X.A (call (.builtin id) (v :: us)) (EP X pins σ Q) X.xe s
section
variable {X : Cx} {a b : Expr} {ta tb : TE} {pos : Pos}
theorem IxR.or {r r' : R2} (h : IxR X r) (h' : IxR X r') : IxR X (fun x y H Q => r x y H Q ∨ r' x y H Q) := by
 intro value slice pins s σ H x y v u Q I rx ry q hs
 rcases q with q | q
 ·exact h value slice pins s σ H x y v u Q I rx ry q hs
 ·exact h' value slice pins s σ H x y v u Q I rx ry q hs
theorem pe_ix {r : R2} (hr : IxR X r) (ha : PE X a ta) (hb : PE X b tb) (hs : PlainIx b) : PE X (.Subscript a b pos) (tOp r ta tb) := by
 intro pins s σ H Q I h
 exact Subscript_ (binT ha hb I h fun v u s2 x y H2 I2 rx ry q => hr a b pins s2 σ H2 x y v u Q I2 rx ry q (hs _ _))
def rIxL (K : PySem.W.Frag) : R2 := fun x y H Q => ∃ p xs i v, x = .ref p ∧ y = .int i ∧ SqL K H p xs ∧ atI xs i = some v ∧ Q v H
def rIxT (K : PySem.W.Frag) : R2 := fun x y H Q => ∃ p xs i v, x = .ref p ∧ y = .int i ∧ SqT K H p xs ∧ atI xs i = some v ∧ Q v H
theorem ix_list : IxR X (rIxL X.K) := by
 intro value slice pins s σ H x y v u Q I rx ry h hs
 obtain ⟨p, xs, i, z, rfl, rfl, hq, he, q⟩ := h
 cases rx
 obtain ⟨t, rfl⟩ := ry
 obtain ⟨its, r, pl, hz⟩ := I.list hq
 obtain ⟨j, h1, h2, h3, h4, h5⟩ := atI_get he
 obtain ⟨w, ew, rw'⟩ := r.get h2
 have hl := r.length
 have hn := line63
 have fin : EP X pins σ Q w s := ⟨z, H, I, rw', q⟩
 by_cases h0 : 0 ≤ i
 ·have hj : i.toNat = j := by
   rw [seqIndex_of h0 h5] at h1
   exact Option.some.inj h1
  exact item_listR pl.isList h0 (by lia) (by rw [hj]; simpa using ew) fin hs
 ·have hj : (i + (its.toArray.size : Int)).toNat = j := by
   rw [seqIndex_neg (by lia) h4] at h1
   rw [List.size_toArray, ← hl]
   exact Option.some.inj h1
  exact subscriptTail_builtinR (x := w) pl.isList.typeIs slot_list_getitem.lookup
   (wpAny_getItem_list_neg (Q := fun r s' => r = w ∧ EP X pins σ Q r s') pl.isList (by lia) (by rw [List.size_toArray] <;> lia) (by lia) (by rw [hj]; simpa using ew) ⟨rfl, fin⟩) hs
theorem ix_tup : IxR X (rIxT X.K) := by
 intro value slice pins s σ H x y v u Q I rx ry h hs
 obtain ⟨p, xs, i, z, rfl, rfl, hq, he, q⟩ := h
 cases rx
 obtain ⟨t, rfl⟩ := ry
 obtain ⟨its, r, pl, hz⟩ := I.tuple hq
 obtain ⟨j, h1, h2, h3, h4, h5⟩ := atI_get he
 obtain ⟨w, ew, rw'⟩ := r.get h2
 have hl := r.length
 have hn := line63
 have fin : EP X pins σ Q w s := ⟨z, H, I, rw', q⟩
 exact subscriptTail_builtinR (x := w) pl.typeIs slot_tuple_getitem.lookup
  (getItem_tuple (j := j) (Q := fun r s' => r = w ∧ EP X pins σ Q r s') pl (by lia) (by lia) (by rw [List.size_toArray, ← hl]; exact h1) (by simpa using ew) ⟨rfl, fin⟩) hs
theorem slice_bounds (lo hi : Option Int) (n : Nat) : (sliceBounds lo hi none n).1 = ((HT.sIx n 0 lo : Nat) : Int) ∧ (sliceBounds lo hi none n).2.1 = ((HT.sIx n n hi : Nat) : Int) ∧ (sliceBounds lo hi none n).2.2 = 1 := by
 refine ⟨?_, ?_, rfl⟩
 ·cases lo with
  | none => simp [sliceBounds, HT.sIx]
  | some i =>
   simp only [sliceBounds, HT.sIx, Option.getD_none, show (1 : Int) > 0 by decide, if_true]
   by_cases h : i < 0
   ·simp only [h, if_true] <;> lia
   ·simp only [h, if_false] <;> lia
 ·cases hi with
  | none => simp [sliceBounds, HT.sIx]
  | some i =>
   simp only [sliceBounds, HT.sIx, Option.getD_none, show (1 : Int) > 0 by decide, if_true]
   by_cases h : i < 0
   ·simp only [h, if_true] <;> lia
   ·simp only [h, if_false] <;> lia
theorem slicePick_cut (its : List Value) (lo hi : Option Int) : slicePick its.toArray lo hi none = ((its.drop (HT.sIx its.length 0 lo)).take (HT.sIx its.length its.length hi - HT.sIx its.length 0 lo)).toArray := by
 obtain ⟨h1, h2, h3⟩ := slice_bounds lo hi its.toArray.size
 unfold slicePick
 rw [h1, h2, h3]
 simp only [sliceRange_one, pick_run, List.size_toArray] <;> rfl
def rSlL (K : PySem.W.Frag) : V → Option Int → Option Int → Hp → VK → Prop := fun x lo hi H Q => ∃ a xs, x = .ref a ∧ SqL K H a xs ∧ ∀ p, H p = none → Q (.ref p) (upd H p (.lst (cutV xs lo hi)))
theorem sl_list : SlR X (rSlL X.K) := by
 intro pins s σ H x v vl vu lo hi sl Q I rx hs pl pu h
 obtain ⟨a, xs, rfl, hx, q⟩ := h
 cases rx
 obtain ⟨its, r, ht, hz⟩ := I.list hx
 have hlen := r.length
 refine ⟨"list", _, slot_list_getitem.lookup, ht.isList.typeIs, ?_⟩
 refine wpAny_getItem_list_slice ht.isList hs pl pu .none (by simp) ?_ (by rw [List.size_toArray] <;> lia)
 rw [slicePick_cut, ← hlen]
 refine ⟨.ref s.heap.objs.size, _, I.laid (t' := s.toks) (o := .lst (cutV xs lo hi)) (fun b ob q => Heap.get?_push_of_some _ q) (Nat.le_refl _) ?_, rfl, q _ (I.hok.fresh (Nat.le_refl _))⟩
 exact ⟨Nat.le_trans (cutV_length xs lo hi) hz, _, 0, (r.drop (HT.sIx xs.length 0 lo)).take (HT.sIx xs.length xs.length hi - HT.sIx xs.length 0 lo), Heap.get?_push_size _ rfl⟩
theorem call_len_seq : CallR X (.builtin "len") (fun xs H Q => ∃ p ys, xs = [.ref p] ∧ (SqL X.K H p ys ∨ SqT X.K H p ys) ∧ Q (.int ys.length) H) := by
 intro pins s σ H xs us Q I r h
 obtain ⟨p, ys, rfl, hq, q⟩ := h
 obtain ⟨u, rfl, rx⟩ := vals1 r
 cases rx
 have hn := line63
 rcases hq with hq | hq
 ·obtain ⟨its, r', pl, hz⟩ := I.list hq
  have hlen := r'.length
  exact Calls.call_len_list pl.isList (by simp only [List.size_toArray] <;> lia) ⟨.int ys.length, H, I.tok _, ⟨s.toks + 1, by rw [List.size_toArray, hlen]⟩, q⟩
 ·obtain ⟨its, r', pl, hz⟩ := I.tuple hq
  have hlen := r'.length
  exact len_tuple pl (by simp only [List.size_toArray] <;> lia) ⟨.int ys.length, H, I.tok _, ⟨s.toks + 1, by rw [List.size_toArray, hlen]⟩, q⟩
theorem call_list_of : CallR X (.type "list") (fun xs H Q => ∃ p ys, xs = [.ref p] ∧ (SqL X.K H p ys ∨ SqT X.K H p ys) ∧ ∀ l, H l = none → Q (.ref l) (upd H l (.lst ys))) := by
 intro pins s σ H xs us Q I r h
 obtain ⟨p, ys, rfl, hq, q⟩ := h
 obtain ⟨u, rfl, rx⟩ := vals1 r
 cases rx
 have fin : ∀ (its : List Value), Vals ys its → ys.length ≤ sizeLine → ∀ (h' : Heap) (c' : Nat), (∀ b o', s.heap.get? b = some o' → h'.get? b = some o') →
   h'.get? s.heap.objs.size = some { cls := .type "list", dict := none, data := .seq its.toArray c', slots := #[] } → EP X pins σ Q (.ref s.heap.objs.size) { s with heap := h' } := fun its r' hz h' c' kp e =>
  ⟨.ref s.heap.objs.size, _, I.laid (t' := s.toks) kp (Nat.le_refl _) (show ObjOk X.prog X.w _ h' _ (.lst ys) from ⟨hz, its, c', r', e⟩), rfl, q _ (I.hok.fresh (Nat.le_refl _))⟩
 rcases hq with hq | hq
 ·obtain ⟨its, r', pl, hz⟩ := I.list hq
  have hlen := r'.length
  obtain ⟨o, ho, hc, n, hd⟩ := pl.isList
  exact call_list_seq p (.inl rfl) ho hc hd (fun h' c' kp e => fin its r' hz h' c' kp e) (by simp only [List.size_toArray] <;> lia)
 ·obtain ⟨its, r', pl, hz⟩ := I.tuple hq
  have hlen := r'.length
  obtain ⟨o, ho, hc, n, hd⟩ := pl
  exact call_list_seq p (.inr rfl) ho hc hd (fun h' c' kp e => fin its r' hz h' c' kp e) (by simp only [List.size_toArray] <;> lia)
def tyV (K : PySem.W.Frag) (T : String) (x : V) (H : Hp) : Prop := match x with
 | .str _ => T = "str"
 | .int _ => T = "int"
 | .ref p => (T = "list" ∧ ∃ xs, SqL K H p xs) ∨ (T = "tuple" ∧ ∃ o, K.lookup p = some o ∧ o.cls = .type "tuple" ∧ o.dict = none) ∨
   (T = "dict" ∧ ((∃ kvs, H p = some (.dK kvs)) ∨ ∃ kvs, H p = some (.dT kvs))) ∨ (T = "set" ∧ ∃ S n, H p = some (.set S n))
 | _ => False
theorem tyV_is {pins : List (Addr × Obj)} {σ : St} {H : Hp} {s : Shared} {T : String} {x : V} {v : Value} (I : Inv X pins σ H s) (r : RelV x v) (ty : tyV X.K T x H) :
  s.TypeIs v T ∧ ∀ a, v = .ref a → ∃ ob, s.heap.get? a = some ob ∧ ob.dict = none := by
 cases x with
 | str z =>
  obtain ⟨t, rfl⟩ := r
  cases (show T = "str" from ty)
  exact ⟨typeIs_str s z t, fun _ e => nomatch e⟩
 | int i =>
  obtain ⟨t, rfl⟩ := r
  cases (show T = "int" from ty)
  exact ⟨typeIs_int s i t, fun _ e => nomatch e⟩
 | ref p =>
  cases r
  rcases ty with ⟨rfl, xs, hq⟩ | ⟨rfl, o, hk, hc, hd⟩ | ⟨rfl, hk⟩ | ⟨rfl, S, n, hk⟩
  ·obtain ⟨its, _, pl, _⟩ := I.list hq
   refine ⟨pl.isList.typeIs, fun a e => ?_⟩
   cases e
   obtain ⟨o, n, e, c, hd, _⟩ := pl
   exact ⟨o, e, hd⟩
  ·refine ⟨⟨o, I.kIn p o hk, hc⟩, fun a e => ?_⟩
   cases e
   exact ⟨o, I.kIn _ o hk, hd⟩
  ·have z : ∃ o, s.heap.get? p = some o ∧ o.ExactDict := by
    rcases hk with ⟨kvs, hk⟩ | ⟨kvs, hk⟩
    ·obtain ⟨_, _, _, _, o, _, _, e, ex, _⟩ := I.hok p _ hk
     exact ⟨o, e, ex⟩
    ·obtain ⟨_, _, _, _, o, _, _, e, ex, _⟩ := I.hok p _ hk
     exact ⟨o, e, ex⟩
   obtain ⟨o, e, ex⟩ := z
   refine ⟨⟨o, e, ex.1⟩, fun a e2 => ?_⟩
   cases e2
   exact ⟨o, e, ex.2.1⟩
  ·obtain ⟨o, _, _, _, e, ex, _⟩ := I.hok p _ hk
   refine ⟨⟨o, e, ex.1⟩, fun a e2 => ?_⟩
   cases e2
   exact ⟨o, e, ex.2.1⟩
 | _ => exact False.elim ty
def tBM (K : PySem.W.Frag) (T : String) (r : V → List V → Hp → VK → Prop) (to : TE) (t : TA) : TE := fun σ H Q => to σ H fun x H1 => tyV K T x H1 ∧ t σ H1 fun xs H2 => r x xs H2 Q
variable {o e : Expr} {es : List Expr} {to : TE} {t : TA} {name : Str} {apos cpos : Pos} {T id : String} {r : V → List V → Hp → VK → Prop}
theorem pe_bm (pa : PlainAttrs T) (slot : Slot T name id) (hty : typeOf (.builtin id) = pure (.type "method_descriptor")) (hm : MtR X id r) (ho : PE X o to) (ha : PA X (e :: es) t)
  (hbase : attributeBase o name X.env (eval o X.env) = eval o X.env := by rfl)
  (hfew : ((backTo cpos (starEach (e :: es) X.env)).all (fun x => !x.1) && (backToKw cpos (keywordEach [] X.env)).all (fun x => x.1.isSome)
   && decide ((e :: es).length + ([] : List Keyword).length + (if ([] : List Keyword).isEmpty then 0 else 1) < 30)) = true := by rfl)
  (hline : (apos.endLine == cpos.line) = true := by rfl) (hs : starEach (e :: es) X.env = (false, eval e X.env) :: starEach es X.env := by rfl) (hplain : (backTo cpos (starEach es X.env)).any (·.1) = false := by rfl) :
  PE X (.Call (.Attribute o name apos) (e :: es) [] cpos) (tBM X.K T r to t) := by
 intro pins s σ H Q I h
 refine wpAny_Call_method_late hbase hfew hline rfl (thn (ho pins s σ H _ I h) ?_)
 rintro v s1 ⟨x, H1, I1, r1, ty, q1⟩
 obtain ⟨h1, h2⟩ := tyV_is I1 r1 ty
 refine ⟨T, id, pa, slot, hty, h1, h2, ?_⟩
 have hA := ha cpos pins s1 σ H1 _ I1 q1
 rw [hs] at hA ⊢
 refine Calls.callWith_builtin (by show (false || (backTo cpos (starEach es X.env)).any (·.1)) = false; rw [hplain] <;> rfl) (Calls.evalArgs_plain ?_)
 exact thn hA (by rintro us s2 ⟨vs, H2, I2, r2, q2⟩; exact hm pins s2 σ H2 x vs v us Q I2 r1 r2 q2)
end
def MtM (X : Cx) (id : String) (r : V → List V → Hp → VK → Prop) : Prop :=
 ∀ (pins : List (Addr × Obj)) (s : Shared) (σ : St) (H : Hp) (x : V) (xs : List V) (v : Value) (us : List Value) (Q : VK), Inv X pins σ H s → RelV x v → Vals xs us → r x xs H Q →
  wpAny (model X.prog X.w) X.A (call (.builtin id) (v :: us)) (EP X pins σ Q) X.xe s
theorem Vals.one : ∀ {x : V} {us : List Value}, Vals [x] us → ∃ u, us = [u] ∧ RelV x u
 | _, _, .cons r .nil => ⟨_, rfl, r⟩
section
variable {X : Cx} {pins : List (Addr × Obj)} {σ : St} {H : Hp} {s : Shared} {l b : Addr} {xs ys zs : List V}
theorem Inv.lset {its its' : List Value} {n : Nat} {f : Array Value → Array Value} {t' : Nat} (I : Inv X pins σ H s) (hH : H l = some (.lst xs))
  (e : s.heap.get? l = some { cls := .type "list", data := .seq its.toArray n }) (hf : f its.toArray = its'.toArray) (hv : Vals ys its') (hz : ys.length ≤ sizeLine) :
  Inv X pins σ (upd H l (.lst ys)) { s with heap := s.heap.update l (Obj.mapSeq f), toks := t' } := by
 have q := PySem.IsL.update e f
 rw [hf] at q
 refine I.write (x := l) (e := l) (by rw [hH]; exact trivial) (.inl rfl) (fun b' u hb hu => (Heap.get?_update_other s.heap (Obj.mapSeq f) (Ne.symm hb)).trans hu) ⟨_, q⟩ ?_
 exact ⟨hz, its', _, hv, q⟩
theorem Inv.lnew {its : List Value} {t' : Nat} (I : Inv X pins σ H s) (hv : Vals ys its) (hz : ys.length ≤ sizeLine) :
  Inv X pins σ (upd H s.heap.objs.size (.lst ys)) { s with heap := s.heap.push { cls := .type "list", data := .seq its.toArray }, toks := t' } :=
 I.laid (fun _ _ q => Heap.get?_push_of_some _ q) (Nat.le_refl _) ⟨hz, its, 0, hv, Heap.get?_push_size _ rfl⟩
theorem Inv.fresh (I : Inv X pins σ H s) : H s.heap.objs.size = none := I.hok.fresh (Nat.le_refl _)
theorem Inv.lstM (I : Inv X pins σ H s) (hH : H l = some (.lst xs)) : xs.length ≤ sizeLine ∧ ∃ (its : List Value) (n : Nat), Vals xs its ∧ xs.length = its.length ∧ s.heap.get? l = some { cls := .type "list", data := .seq its.toArray n } := by
 obtain ⟨z, its, n, r, e⟩ := I.hok l _ hH
 exact ⟨z, its, n, r, r.length, e⟩
theorem notLongL {n : Nat} (h : n ≤ sizeLine) : Builtin.List.listTooLong n = false := by
 unfold Builtin.List.listTooLong
 exact decide_eq_false (by lia)
end
section
variable {X : Cx}
def rAppend : V → List V → Hp → VK → Prop := fun x vs H Q => ∃ l xs y, x = .ref l ∧ vs = [y] ∧ H l = some (.lst xs) ∧ xs.length < sizeLine ∧ Q .non (upd H l (.lst (xs ++ [y])))
theorem mt_append : MtM X "list.append" rAppend := by
 intro pins s σ H x vs v us Q I rx rv h
 obtain ⟨l, xs, y, rfl, rfl, hH, hz, q⟩ := h
 cases rx
 obtain ⟨u, rfl, ru⟩ := rv.one
 obtain ⟨z, its, n, r, hl, e⟩ := I.lstM hH
 refine call_meets F.slot_list_append ⟨_, e, rfl⟩ F.entry_list_append (F.args_list_append_2 _ _) (PySem.list_append l its.toArray n u (by rw [List.size_toArray]; lia)) ⟨e, ?_⟩
 refine ⟨.non, _, I.lset (its' := its ++ [u]) hH e (by simp) (r.append (.cons ru .nil)) ?_, rfl, q⟩
 rw [List.length_append, List.length_singleton]
 lia
def rExtend : V → List V → Hp → VK → Prop := fun x vs H Q => ∃ l b xs zs, x = .ref l ∧ vs = [.ref b] ∧ H l = some (.lst xs) ∧ H b = some (.lst zs) ∧ xs.length + zs.length ≤ sizeLine ∧ Q .non (upd H l (.lst (xs ++ zs)))
theorem mt_extend : MtM X "list.extend" rExtend := by
 intro pins s σ H x vs v us Q I rx rv h
 obtain ⟨l, b, xs, zs, rfl, rfl, hH, hB, hz, q⟩ := h
 cases rx
 obtain ⟨u, rfl, ru⟩ := rv.one
 cases ru
 obtain ⟨z, its, n, r, hl, e⟩ := I.lstM hH
 obtain ⟨z2, its2, n2, r2, hl2, e2⟩ := I.lstM hB
 have hsz : its.toArray.size + its2.toArray.size ≤ sizeLine := by rw [List.size_toArray, List.size_toArray]; lia
 have hlong : ¬ (!its.toArray.isEmpty && Builtin.List.listTooLong (its.toArray.size + its2.toArray.size)) = true := by
  rw [notLongL hsz, Bool.and_false]
  exact Bool.false_ne_true
 refine call_meets F.slot_list_extend ⟨_, e, rfl⟩ F.entry_list_extend (F.args_list_extend_2 _ _)
  (AutoSeq1.list_extend_list_list_0 l its.toArray n b its2.toArray n2 hlong (by rw [List.size_toArray]; lia) (by lia)) ⟨e, e2, ?_⟩
 refine ⟨.non, _, I.lset (its' := its ++ its2) hH e (by simp) (r.append r2) ?_, rfl, q⟩
 rw [List.length_append]
 lia
end
section
variable {prog : Program} {w : World} {A : Around} {E : Value → Shared → Prop} {s : Shared}
set_option maxRecDepth 100000 in
end
section
variable {X : Cx}
end
section
variable {κ : Type} [DecidableEq κ]
def valV (kvs : List (κ × V)) (k : κ) : Option V := (kvs.find? fun kv => decide (kv.1 = k)).map (·.2)
def putK (kvs : List (κ × V)) (k : κ) (v : V) : List (κ × V) :=
 if (kvs.any fun kv => decide (kv.1 = k)) = true then kvs.map (fun kv => if kv.1 = k then (kv.1, v) else kv) else kvs ++ [(k, v)]
theorem valV_pos {p : κ × V} {r : List (κ × V)} {k : κ} (e : p.1 = k) : valV (p :: r) k = some p.2 := by simp [valV, e]
theorem valV_neg {p : κ × V} {r : List (κ × V)} {k : κ} (e : ¬ p.1 = k) : valV (p :: r) k = valV r k := by simp [valV, e]
theorem valV_any (k : κ) : ∀ kvs : List (κ × V), (kvs.any fun kv => decide (kv.1 = k)) = (valV kvs k).isSome
 | [] => rfl
 | p :: r => by
  rw [List.any_cons]
  by_cases e : p.1 = k
  ·simp only [valV_pos e, decide_eq_true e, Bool.true_or, Option.isSome_some]
  ·rw [valV_neg e, decide_eq_false e, Bool.false_or]; exact valV_any k r
theorem length_putK (kvs : List (κ × V)) (k : κ) (v : V) : (putK kvs k v).length ≤ kvs.length + 1 := by
 unfold putK
 split
 ·rw [List.length_map]; lia
 ·rw [List.length_append, List.length_cons, List.length_nil]; lia
theorem RelO.isSome_eq {o : Option V} {u : Option Value} (r : RelO o u) : o.isSome = u.isSome := by
 cases o with
 | none => cases u with
  | none => rfl
  | some _ => exact (show False from r).elim
 | some _ => cases u with
  | none => exact (show False from r).elim
  | some _ => rfl
theorem KV.val {kvs : List (κ × V)} {vs : List (κ × Value)} (r : KV kvs vs) (k : κ) : RelO (valV kvs k) (valueAt vs k) := by
 unfold KV at r
 induction r with
 | nil => exact True.intro
 | @cons p q ps qs h t ih =>
  obtain ⟨h1, h2⟩ := h
  by_cases e : p.1 = k
  ·have e' : q.1 = k := h1.symm.trans e
   have b : valueAt (q :: qs) k = some q.2 := by simp [valueAt, e']
   rw [valV_pos e, b]; exact h2
  ·have e' : ¬ q.1 = k := fun z => e (h1.trans z)
   have b : valueAt (q :: qs) k = valueAt qs k := by simp [valueAt, e']
   rw [valV_neg e, b]; exact ih
theorem KV.any {kvs : List (κ × V)} {vs : List (κ × Value)} (r : KV kvs vs) (k : κ) : (kvs.any fun kv => decide (kv.1 = k)) = vs.any fun kv => decide (kv.1 = k) := by
 unfold KV at r
 induction r with
 | nil => rfl
 | cons h t ih => rw [List.any_cons, List.any_cons, ih, h.1]
theorem KV.repl {kvs : List (κ × V)} {vs : List (κ × Value)} (r : KV kvs vs) (k : κ) {y : V} {u : Value} (ry : RelV y u) :
  KV (kvs.map fun kv => if kv.1 = k then (kv.1, y) else kv) (vs.map fun kv => if kv.1 = k then (kv.1, u) else kv) := by
 unfold KV at r ⊢
 induction r with
 | nil => exact .nil
 | @cons p q ps qs h t ih =>
  rw [List.map_cons, List.map_cons]
  refine .cons ?_ ih
  obtain ⟨h1, h2⟩ := h
  by_cases e : p.1 = k
  ·rw [if_pos e, if_pos (h1.symm.trans e)]; exact ⟨h1, ry⟩
  ·rw [if_neg e, if_neg (fun z => e (h1.trans z))]; exact ⟨h1, h2⟩
theorem KV.put {kvs : List (κ × V)} {vs : List (κ × Value)} (r : KV kvs vs) (k : κ) {y : V} {u : Value} (ry : RelV y u) : KV (putK kvs k y) (stored vs k u) := by
 unfold putK stored
 rw [r.any k]
 by_cases e : (vs.any fun kv => decide (kv.1 = k)) = true
 ·rw [if_pos e, if_pos e]; exact r.repl k ry
 ·rw [if_neg e, if_neg e]; exact Paired.snoc r ⟨rfl, ry⟩
theorem KV.length {kvs : List (κ × V)} {vs : List (κ × Value)} (r : KV kvs vs) : kvs.length = vs.length := Paired.length r
end
theorem kV_is {P : Program} {w : World} {k : Key} {u : Value} (r : RelV (kV k) u) : (mixKind P w).is k u = true := by
 cases k with
 | inl i => obtain ⟨t, e⟩ := (show ∃ t, u = Value.int i t from r); subst e; exact mixKind_int P w i t
 | inr x => obtain ⟨t, e⟩ := (show ∃ t, u = Value.str x t from r); subst e; exact mixKind_str P w x t
theorem items_are {P : Program} {w : World} : ∀ {ks : List Key} {us : List Value}, Vals (ks.map kV) us → ItemsAre (mixKind P w) ks us
 | [], _, r => by rw [List.map_nil] at r; cases r; exact .nil
 | k :: ks, _, r => by
  rw [List.map_cons] at r
  cases r with
  | cons h t => exact .cons (kV_is h) (items_are t)
abbrev KT (H : Hp) : List (List Key × V) → List (List Key × Addr × Value) → Prop := Paired fun p q => p.1 = q.1 ∧ H q.2.1 = some (.tup (p.1.map kV)) ∧ RelV p.2 q.2.2
theorem KT.val {H : Hp} {kvs : List (List Key × V)} {xs : List (List Key × Addr × Value)} (r : KT H kvs xs) (k : List Key) : RelO (valV kvs k) ((atKey xs k).map (·.2)) := by
 induction r with
 | nil => exact True.intro
 | @cons p q ps qs h t ih =>
  obtain ⟨h1, _, h2⟩ := h
  by_cases e : p.1 = k
  ·have e' : q.1 = k := h1.symm.trans e
   have b : atKey (q :: qs) k = some q.2 := by simp [atKey, e']
   rw [valV_pos e, b]; exact h2
  ·have e' : ¬ q.1 = k := fun z => e (h1.trans z)
   have b : atKey (q :: qs) k = atKey qs k := by simp [atKey, e']
   rw [valV_neg e, b]; exact ih
theorem KT.repl {H : Hp} {kvs : List (List Key × V)} {xs : List (List Key × Addr × Value)} (r : KT H kvs xs) (k : List Key) {y : V} {u : Value} (ry : RelV y u) :
  KT H (kvs.map fun kv => if kv.1 = k then (kv.1, y) else kv) (xs.map (putAt k u)) := by
 induction r with
 | nil => exact .nil
 | @cons p q ps qs h t ih =>
  rw [List.map_cons, List.map_cons]
  refine .cons ?_ ih
  obtain ⟨h1, h2, h3⟩ := h
  unfold putAt
  by_cases e : p.1 = k
  ·rw [if_pos e, if_pos (h1.symm.trans e)]; exact ⟨h1, h2, ry⟩
  ·rw [if_neg e, if_neg (fun z => e (h1.trans z))]; exact ⟨h1, h2, h3⟩
theorem KT.put {H : Hp} {kvs : List (List Key × V)} {xs : List (List Key × Addr × Value)} (r : KT H kvs xs) (k : List Key) {b : Addr} {y : V} {u : Value} (hb : H b = some (.tup (k.map kV))) (ry : RelV y u) :
  KT H (putK kvs k y) (storedH xs k b u) := by
 have e : (kvs.any fun kv => decide (kv.1 = k)) = (atKey xs k).isSome := by
  rw [valV_any, (r.val k).isSome_eq, Option.isSome_map]
 unfold putK storedH
 rw [e]
 by_cases q : (atKey xs k).isSome = true
 ·rw [if_pos q, if_pos q]; exact r.repl k ry
 ·rw [if_neg q, if_neg q]; exact Paired.snoc r ⟨rfl, hb, ry⟩
theorem KT.keeps {H H' : Hp} {kvs : List (List Key × V)} {xs : List (List Key × Addr × Value)} (r : KT H kvs xs) (ht : ∀ b ys, H b = some (.tup ys) → H' b = some (.tup ys)) : KT H' kvs xs :=
 Paired.mapP r fun _ _ z => ⟨z.1, ht _ _ z.2.1, z.2.2⟩
section
variable {P : Program} {w : World} {H : Hp} {h : Heap} {a : Addr}
theorem rd_of {u : HO} (ok : HOk P w H h) (e : Rd H a u) : ObjOk P w H h a u := e.ok ok
theorem dk_rd {kvs : List (Key × V)} (ok : HOk P w H h) (e : Rd H a (.dK kvs)) : kvs.length ≤ sizeLine ∧ (a == sysModules) = false ∧ ∃ vs, KV kvs vs ∧ h.DictOf (mixKind P w) a vs :=
 show ObjOk P w H h a (.dK kvs) from rd_of ok e
theorem dk_of {kvs : List (Key × V)} (ok : HOk P w H h) (e : H a = some (.dK kvs)) : kvs.length ≤ sizeLine ∧ (a == sysModules) = false ∧ ∃ vs, KV kvs vs ∧ h.DictOf (mixKind P w) a vs := dk_rd ok (.inl e)
theorem key_of {ks : List Key} (ok : HOk P w H h) (e : H a = some (.tup (ks.map kV))) : (tupleKind (mixKind P w)).is h ks a := by
 obtain ⟨_, its, r, o, h1, h2, n, h3⟩ := (show ObjOk P w H h a (.tup (ks.map kV)) from ok a _ e)
 exact ⟨o, its.toArray, n, h1, h2, h3, by simpa using items_are r⟩
theorem dt_rd {kvs : List (List Key × V)} (ok : HOk P w H h) (e : Rd H a (.dT kvs)) : kvs.length ≤ sizeLine ∧ (a == sysModules) = false ∧
  ∃ xs, KT H kvs xs ∧ h.DictOfH (tupleKind (mixKind P w)) a xs := by
 obtain ⟨z, y, xs, r, o, es, ep, h1, h2, h3, h4, h5⟩ := (show ObjOk P w H h a (.dT kvs) from rd_of ok e)
 refine ⟨z, y, xs, r, o, es, ep, h1, h2, h3, h4, fun x hx => ?_, h5⟩
 have all : ∀ {l : List (List Key × V)} {m : List (List Key × Addr × Value)}, KT H l m → ∀ x ∈ m, (tupleKind (mixKind P w)).is h x.1 x.2.1 := by
  intro l m q
  induction q with
  | nil => intro x hx; exact nomatch hx
  | @cons p q ps qs hq t ih =>
   intro x hx
   rcases List.mem_cons.mp hx with e | hx
   ·subst e
    exact key_of ok (by rw [← hq.1]; exact hq.2.1)
   ·exact ih x hx
 exact all r x hx
theorem dt_of {kvs : List (List Key × V)} (ok : HOk P w H h) (e : H a = some (.dT kvs)) : kvs.length ≤ sizeLine ∧ (a == sysModules) = false ∧
  ∃ xs, KT H kvs xs ∧ h.DictOfH (tupleKind (mixKind P w)) a xs := dt_rd ok (.inl e)
end
def DGet (H : Hp) (a : Addr) (y : V) (r : Option V) : Prop :=
 (∃ kvs k, Rd H a (.dK kvs) ∧ y = kV k ∧ r = valV kvs k) ∨ ∃ kvs k b, Rd H a (.dT kvs) ∧ y = .ref b ∧ H b = some (.tup (k.map kV)) ∧ r = valV kvs k
def DPut (H : Hp) (a : Addr) (y v : V) (H' : Hp) : Prop :=
 (∃ kvs k, H a = some (.dK kvs) ∧ y = kV k ∧ kvs.length < sizeLine ∧ H' = upd H a (.dK (putK kvs k v))) ∨
 ∃ kvs k b, H a = some (.dT kvs) ∧ y = .ref b ∧ H b = some (.tup (k.map kV)) ∧ kvs.length < sizeLine ∧ H' = upd H a (.dT (putK kvs k v))
theorem DGet.k {H : Hp} {a : Addr} {kvs : List (Key × V)} {k : Key} (e : H a = some (.dK kvs)) : DGet H a (kV k) (valV kvs k) := .inl ⟨kvs, k, .inl e, rfl, rfl⟩
theorem DGet.t {H : Hp} {a b : Addr} {kvs : List (List Key × V)} {k : List Key} (e : H a = some (.dT kvs)) (eb : H b = some (.tup (k.map kV))) : DGet H a (.ref b) (valV kvs k) := .inr ⟨kvs, k, b, .inl e, rfl, eb, rfl⟩
theorem DPut.k {H : Hp} {a : Addr} {kvs : List (Key × V)} {k : Key} {v : V} (e : H a = some (.dK kvs)) (hl : kvs.length < sizeLine) : DPut H a (kV k) v (upd H a (.dK (putK kvs k v))) := .inl ⟨kvs, k, e, rfl, hl, rfl⟩
theorem DPut.t {H : Hp} {a b : Addr} {kvs : List (List Key × V)} {k : List Key} {v : V} (e : H a = some (.dT kvs)) (eb : H b = some (.tup (k.map kV))) (hl : kvs.length < sizeLine) :
  DPut H a (.ref b) v (upd H a (.dT (putK kvs k v))) := .inr ⟨kvs, k, b, e, rfl, eb, hl, rfl⟩
section
variable {X : Cx} {pins : List (Addr × Obj)} {σ : St} {H : Hp} {s : Shared} {a : Addr} {y v : V} {u r : Value} {o : Option V} {A : Around} {E : Value → Shared → Prop}
theorem Inv.big (I : Inv X pins σ H s) : sysModules < s.heap.objs.size := by
 have h : mainGlobals < s.heap.objs.size := (I.mod.glob.keeps I.bk).lt
 exact Nat.lt_trans (by decide) h
theorem d_getItem {Q : Value → Shared → Prop} (hu : A.units + 1 < cLine) (I : Inv X pins σ H s) (g : DGet H a y (some v)) (ry : RelV y u) (h : ∀ w' s', Inv X pins σ H s' → RelV v w' → Q w' s') :
  wpAny (model X.prog X.w) A (getItem (.ref a) u) Q E s := by
 rcases g with ⟨kvs, k, e, ey, l⟩ | ⟨kvs, k, b, e, ey, eb, l⟩
 ·subst ey
  obtain ⟨z, hd, vs, rel, dd⟩ := dk_rd I.hok e
  obtain ⟨w', hw, rw'⟩ := RelO.some_of (v := v) (o := valueAt vs k) (by rw [l]; exact rel.val k)
  exact wpAny_getItem_of (kV_is ry) dd.mapOf hw (h w' _ (I.tok _) rw')
 ·subst ey
  cases (show u = Value.ref b from ry)
  obtain ⟨z, hd, xs, rel, dd⟩ := dt_rd I.hok e
  obtain ⟨w', hw, rw'⟩ := RelO.some_of (v := v) (o := (atKey xs k).map (·.2)) (by rw [l]; exact rel.val k)
  obtain ⟨p, hp, hp2⟩ := Option.map_eq_some_iff.mp hw
  refine wpAny_getItem_heap (tupleKind_room_in1 hu) (key_of I.hok eb) dd hp ?_
  rw [hp2]
  exact h w' _ (I.tok _) rw'
theorem d_in {Q : Value → Shared → Prop} (hu : A.units + 1 < cLine) (I : Inv X pins σ H s) (g : DGet H a y o) (ry : RelV y u) (h : ∀ s', Inv X pins σ H s' → Q (.bool o.isSome) s') :
  wpAny (model X.prog X.w) A (compareOp .In u (.ref a)) Q E s := by
 rcases g with ⟨kvs, k, e, ey, l⟩ | ⟨kvs, k, b, e, ey, eb, l⟩
 ·subst ey
  obtain ⟨z, hd, vs, rel, dd⟩ := dk_rd I.hok e
  refine wpAny_in_of (kV_is ry) hd dd.mapOf ?_
  rw [← (rel.val k).isSome_eq, ← l]
  exact h _ (I.tok _)
 ·subst ey
  cases (show u = Value.ref b from ry)
  obtain ⟨z, hd, xs, rel, dd⟩ := dt_rd I.hok e
  refine wpAny_in_heap (tupleKind_room_in1 hu) (key_of I.hok eb) hd dd ?_
  have q := (rel.val k).isSome_eq
  rw [Option.isSome_map] at q
  rw [← q, ← l]
  exact h _ (I.tok _)
theorem d_notIn {Q : Value → Shared → Prop} (hu : A.units + 1 < cLine) (I : Inv X pins σ H s) (g : DGet H a y o) (ry : RelV y u) (h : ∀ s', Inv X pins σ H s' → Q (.bool (!o.isSome)) s') :
  wpAny (model X.prog X.w) A (compareOp .NotIn u (.ref a)) Q E s := by
 rcases g with ⟨kvs, k, e, ey, l⟩ | ⟨kvs, k, b, e, ey, eb, l⟩
 ·subst ey
  obtain ⟨z, hd, vs, rel, dd⟩ := dk_rd I.hok e
  refine wpAny_notIn_of (kV_is ry) hd dd.mapOf ?_
  rw [← (rel.val k).isSome_eq, ← l]
  exact h _ (I.tok _)
 ·subst ey
  cases (show u = Value.ref b from ry)
  obtain ⟨z, hd, xs, rel, dd⟩ := dt_rd I.hok e
  refine wpAny_notIn_heap (tupleKind_room_in1 hu) (key_of I.hok eb) hd dd ?_
  have q := (rel.val k).isSome_eq
  rw [Option.isSome_map] at q
  rw [← q, ← l]
  exact h _ (I.tok _)
theorem d_write {h' : Heap} {t' : Nat} {ob : HO} (I : Inv X pins σ H s) (mu : Mut (H a)) (hs : Heap.SameBut a s.heap h') (he : ∃ q, h'.get? a = some q) (new : ObjOk X.prog X.w (upd H a ob) h' a ob) :
  Inv X pins σ (upd H a ob) { s with heap := h', toks := t' } :=
 I.write (x := a) (e := a) mu (.inl rfl) (fun b q hb z => (hs.2 b hb).trans z) he new
theorem dk_new {P : Program} {w : World} {H' : Hp} {h' : Heap} {kvs : List (Key × V)} {vs : List (Key × Value)} (z : kvs.length ≤ sizeLine) (hd : (a == sysModules) = false) (rel : KV kvs vs) (dd : h'.DictOf (mixKind P w) a vs) :
  ObjOk P w H' h' a (.dK kvs) := ⟨z, hd, vs, rel, dd⟩
theorem d_setItem {H' : Hp} {Q : Unit → Shared → Prop} (hu : A.units + 1 < cLine) (I : Inv X pins σ H s) (g : DPut H a y v H') (ry : RelV y u) (rv : RelV v r) (h : ∀ s', Inv X pins σ H' s' → Q () s') :
  wpAny (model X.prog X.w) A (setItem (.ref a) u r) Q E s := by
 rcases g with ⟨kvs, k, e, ey, l, eH⟩ | ⟨kvs, k, b, e, ey, eb, l, eH⟩
 ·subst ey eH
  obtain ⟨z, hd, vs, rel, dd⟩ := dk_of I.hok e
  have hz : vs.length ≤ sizeLine := by rw [← rel.length]; exact z
  have hl : (putK kvs k v).length ≤ sizeLine := by have := length_putK kvs k v; lia
  refine wpAny_setItem_pairs (hsz := hz) (kV_is ry) dd fun h' dd' hs => h _ ?_
  have he : ∃ q, h'.get? a = some q := by obtain ⟨q, _, _, hq, _⟩ := dd'; exact ⟨q, hq⟩
  exact d_write I (by rw [e]; exact True.intro) hs he (dk_new hl hd (rel.put k rv) dd')
 ·subst ey eH
  cases (show u = Value.ref b from ry)
  obtain ⟨z, hd, xs, rel, dd⟩ := dt_of I.hok e
  have hz : xs.length ≤ sizeLine := by rw [← Paired.length rel]; exact z
  have hl : (putK kvs k v).length ≤ sizeLine := by have := length_putK kvs k v; lia
  refine wpAny_setItem_heap (hsz := hz) (tupleKind_room_in1 hu) (key_of I.hok eb) dd fun h' dd' hs => h _ ?_
  obtain ⟨q, es, ep, hq, h2, h3, h4, _, h5⟩ := dd'
  refine d_write I (by rw [e]; exact True.intro) hs ⟨q, hq⟩ ⟨hl, hd, _, (rel.put k eb rv).keeps fun c ys ec => ?_, q, es, ep, hq, h2, h3, h4, h5⟩
  rw [upd_ne (ne_of ec e (fun z => nomatch z))]
  exact ec
end
section
variable {X : Cx} {pins : List (Addr × Obj)} {σ : St} {H : Hp} {s : Shared} {a : Addr} {kvs : List (Key × V)} {k : Key} {u : Value} {A : Around} {E : Value → Shared → Prop}
theorem d_len {Q : Value → Shared → Prop} (I : Inv X pins σ H s) (e : Rd H a (.dK kvs)) (h : ∀ t s', Inv X pins σ H s' → Q (.int kvs.length t) s') : wpAny (model X.prog X.w) A (call (.builtin "len") [.ref a]) Q E s := by
 obtain ⟨z, hd, vs, rel, dd⟩ := dk_rd I.hok e
 refine call_len_dict hd dd (by rw [← rel.length]; rw [sizeLine_eq] at z; lia) ?_
 rw [← rel.length]
 exact h _ _ (I.tok _)
end
def NoSl (i : Expr) : Prop := ∀ ov iv, subscripted i false ov iv = operate [ov, iv] (getItem ov iv)
theorem subD_of {prog : Program} {w : World} {A : Around} {E : Value → Shared → Prop} {s : Shared} {env : Env} {value slice : Expr} {pos : Pos} {T id : String} {Q : Value → Shared → Prop}
  (hl : typeLookup (.type T) "__getitem__" = pure (some (.builtin id))) (hs : NoSl slice)
  (h : wpAny (model prog w) A (eval value env) (fun o s₁ => wpAny (model prog w) A (eval slice env) (fun i s₂ => s₂.TypeIs o T ∧ wpAny (model prog w) A (getItem o i) Q E s₂) E s₁) E s) :
  wpAny (model prog w) A (eval (.Subscript value slice pos) env) Q E s := by
 refine Subscript_ (wpAny_mono h (fun o s₁ h₁ => wpAny_mono h₁ (fun i s₂ h₂ => ?_) fun _ _ x => x) fun _ _ x => x)
 obtain ⟨hT, h₂⟩ := h₂
 unfold subscriptTail
 refine wpAny_bind ?_
 rw [getitemInPython_of_ne hT.not_modules]
 refine wpAny_bind (wpAny_specialOf hT hl ?_)
 have fin : wpAny (model prog w) A (subscripted slice false o i) (fun r s₃ => wpAny (model prog w) A (letTemporaryGo value o r >>= fun _ => pure r) Q E s₃) E s₂ := by
  rw [hs o i]
  exact wpAny_operating (wpAny_mono h₂ (fun r s₃ h₃ => wpAny_bind (wpAny_letTemporaryGo (wpAny_pure h₃))) fun _ _ x => x)
 first
  | exact wpAny_pure (wpAny_bind fin)
  | exact wpAny_bind (wpAny_pure (wpAny_bind fin))
  | exact wpAny_bind fin
theorem dict_typeIs {X : Cx} {pins : List (Addr × Obj)} {σ : St} {H : Hp} {s : Shared} {a : Addr} {y : V} {o : Option V} (I : Inv X pins σ H s) (g : DGet H a y o) : s.TypeIs (.ref a) "dict" := by
 rcases g with ⟨kvs, k, e, _, _⟩ | ⟨kvs, k, b, e, _, _, _⟩
 ·obtain ⟨_, _, vs, _, dd⟩ := dk_rd I.hok e
  exact dd.typeIs
 ·obtain ⟨_, _, xs, _, dd⟩ := dt_rd I.hok e
  exact dd.typeIs
def tDGet (td ty : TE) : TE := fun σ H Q => td σ H fun x H1 => ty σ H1 fun y H2 => ∃ a v, x = .ref a ∧ DGet H2 a y (some v) ∧ Q v H2
def tDIn (ty td : TE) : TE := fun σ H Q => ty σ H fun y H1 => td σ H1 fun x H2 => ∃ a o, x = .ref a ∧ DGet H2 a y o ∧ Q (.bl o.isSome) H2
def tDNotIn (ty td : TE) : TE := fun σ H Q => ty σ H fun y H1 => td σ H1 fun x H2 => ∃ a o, x = .ref a ∧ DGet H2 a y o ∧ Q (.bl (!o.isSome)) H2
def sDPut (td ty tv : TE) : TS := fun D σ H => tv σ H fun v H1 => td σ H1 fun x H2 => ty σ H2 fun y H3 => ∃ a H4, x = .ref a ∧ DPut H3 a y v H4 ∧ D.nx σ H4
section
variable {X : Cx} {o i e value : Expr} {pos pos' tpos : Pos} {td ty tv : TE}
theorem pe_dget (hu : X.A.units + 1 < cLine) (ho : PE X o td) (hi : PE X i ty) (hs : NoSl i) : PE X (.Subscript o i pos) (tDGet td ty) := by
 intro pins s σ H Q I h
 refine subD_of PySem.F.slot_dict_getitem.lookup hs (thn (ho pins s σ H _ I h) ?_)
 rintro u s1 ⟨x, H1, I1, rx, q1⟩
 refine thn (hi pins s1 σ H1 _ I1 q1) ?_
 rintro iv s2 ⟨y, H2, I2, ry, a, v, ex, g, q2⟩
 subst ex
 obtain rfl : u = Value.ref a := rx
 exact ⟨dict_typeIs I2 g, d_getItem hu I2 g ry fun w' s3 I3 rw' => ⟨v, H2, I3, rw', q2⟩⟩
theorem pc_din (hu : X.A.units + 1 < cLine) (hi : PE X i ty) (ho : PE X o td) : PC X .In i o (tDIn ty td) := by
 intro pins s σ H Q I h
 refine thn (hi pins s σ H _ I h) ?_
 rintro iv s1 ⟨y, H1, I1, ry, q1⟩
 refine thn (ho pins s1 σ H1 _ I1 q1) ?_
 rintro u s2 ⟨x, H2, I2, rx, a, ov, ex, g, q2⟩
 subst ex
 obtain rfl : u = Value.ref a := rx
 exact d_in hu I2 g ry fun s3 I3 => ⟨.bl ov.isSome, H2, I3, rfl, q2⟩
theorem pc_dnotin (hu : X.A.units + 1 < cLine) (hi : PE X i ty) (ho : PE X o td) : PC X .NotIn i o (tDNotIn ty td) := by
 intro pins s σ H Q I h
 refine thn (hi pins s σ H _ I h) ?_
 rintro iv s1 ⟨y, H1, I1, ry, q1⟩
 refine thn (ho pins s1 σ H1 _ I1 q1) ?_
 rintro u s2 ⟨x, H2, I2, rx, a, ov, ex, g, q2⟩
 subst ex
 obtain rfl : u = Value.ref a := rx
 exact d_notIn hu I2 g ry fun s3 I3 => ⟨.bl (!ov.isSome), H2, I3, rfl, q2⟩
theorem ps_dput (hu : X.A.units + 1 < cLine) (ho : PE X o td) (hi : PE X i ty) (hv : PE X value tv) (hs : swapsWith value (some (.Subscript o i pos')) pos.line X.env = pure false) :
  PS X (.Assign [.Subscript o i pos'] value pos) (sDPut td ty tv) := by
 intro pins s σ H D I h
 refine wpAny_Assign_Subscript (thn (hv pins s σ H _ I h) ?_) hs
 rintro r s1 ⟨v, H1, I1, rv, q1⟩
 refine thn (ho pins s1 σ H1 _ I1 q1) ?_
 rintro u s2 ⟨x, H2, I2, rx, q2⟩
 refine thn (hi pins s2 σ H2 _ I2 q2) ?_
 rintro iv s3 ⟨y, H3, I3, ry, a, H4, ex, g, q3⟩
 subst ex
 obtain rfl : u = Value.ref a := rx
 exact d_setItem hu I3 g ry rv fun s4 I4 => ⟨σ, H4, I4, q3⟩
end
theorem dt_empty {P : Program} {w : World} {H : Hp} (h : Heap) (hb : sysModules < h.objs.size) : ObjOk P w H (h.push { cls := .type "dict", data := .dict #[] }) h.objs.size (.dT []) :=
 ⟨Nat.zero_le _, beq_eq_false_iff_ne.mpr (Ne.symm (Nat.ne_of_lt hb)), [], .nil, _, #[], 0, Heap.get?_push_size _ rfl, ⟨rfl, rfl, rfl⟩, rfl, rfl, List.nodup_nil⟩
def tDNewT : TE := fun _ H Q => ∀ p, H p = none → Q (.ref p) (upd H p (.dT []))
section
variable {X : Cx} {pos : Pos}
theorem pe_dnewT : PE X (.Dict [] [] pos) tDNewT := fun pins s σ H Q I h =>
 wpAny_Dict_empty ⟨.ref s.heap.objs.size, _, I.laid (a := s.heap.objs.size) (o := .dT []) (t' := s.toks) (fun _ _ q => Heap.get?_push_of_some _ q) (Nat.le_refl _) (dt_empty s.heap I.big), rfl, h _ (I.hok.fresh (Nat.le_refl _))⟩
end
section
variable {X : Cx} {pins : List (Addr × Obj)} {σ : St} {H : Hp} {s : Shared} {a : Addr} {y d : V} {u r : Value} {o : Option V} {A : Around} {E : Value → Shared → Prop}
end
section
variable {X : Cx} {o e f : Expr} {apos cpos : Pos} {td ty tx : TE}
end
section
variable {X : Cx} {pins : List (Addr × Obj)} {σ : St} {H : Hp} {s : Shared} {a : Addr} {kvs : List (Key × V)} {A : Around} {E : Value → Shared → Prop}
end
section
variable {X : Cx} {pins : List (Addr × Obj)} {σ : St} {H : Hp} {s : Shared} {a : Addr} {y : V} {u : Value} {A : Around} {E : Value → Shared → Prop}
end
end L2
namespace Att
open PySem PySem.W PySem.Calls PyProof.Rows
theorem ints_of_wellAll {P : Params} {h : Heap} : ∀ (ns : List Int) (vs : List Value), WellAll P h vs (ns.map WData.int) → IntsAre vs ns := by
 intro ns
 induction ns with
 | nil =>
  intro vs w
  rw [List.map_nil] at w
  cases w
  exact .nil
 | cons n ns ih =>
  intro vs w
  rw [List.map_cons] at w
  cases w with
  | cons a b =>
   cases a
   exact .cons _ _ (ih _ b)
theorem script_of {l : OpenLaw} {n : Nat} (hn : l.most = some n) {P : Params} {h : Heap} {args : List WData} {vals : List Value}
  (hpre : l.row.toRowW.claim.pre args = true) (hwl : WellAll P h vals args) :
  ∃ a vs ns, vals = [Value.ref a] ∧ args = [WData.list (ns.map WData.int)] ∧ h.get? a = some { cls := .type "list", data := .seq vs.toArray } ∧ IntsAre vs ns ∧ ns.length ≤ n := by
 have hsh : WShape.hasAll [] args [.list .int] = true := (pre_splitW hpre).1
 have hc : l.pre.holds [] { args := args } = true := (pre_splitW hpre).2
 obtain ⟨d, r, rfl, h1, h2⟩ := hasAllW_cons hsh
 obtain rfl := hasAllW_nil h2
 obtain ⟨xs, rfl, h3⟩ := hasW_list h1
 obtain ⟨ns, rfl⟩ := items_int h3
 have hlen : ns.length ≤ n := by
  unfold OpenLaw.pre at hc
  have h4 : (WTm.not (.lt (.lit (.int (n : Int))) (.len (.arg 0)))).holds [] { args := [.list (ns.map .int)] } = true := by
   have h4 := (holds_andW hc).1
   rw [hn] at h4
   exact h4
  have h5 := condW_of h4 (w_not (w_lt w_lit (w_len_list (w_arg rfl))))
  rw [List.length_map] at h5
  refine Nat.le_of_not_lt fun q => ?_
  have q' : (n : Int) < ((ns.length : Nat) : Int) := by lia
  first
   | (rw [decide_eq_true q'] at h5; exact absurd h5 (by decide))
   | (simp at h5; lia)
 cases hwl with
 | cons w1 w2 =>
  cases w2
  cases w1 with
  | list ho hall => exact ⟨_, _, ns, rfl, rfl, ho, ints_of_wellAll ns _ hall, hlen⟩
theorem post_true (l : OpenLaw) (args : List WData) : l.row.toRowW.claim.post args (.bool true) args = true :=
 postW_of (r := l.row.toRowW) (X := (true == true))
  (show WShape.has [] (.bool true) .bool = true by first | rfl | decide | simp [WShape.has, WShape.arms, WShape.armsAll])
  (show (WTm.eq .res (.lit (.bool true))).value [] { args := args, res := some (.bool true), after := args } = some (.bool (true == true)) from w_eq_bool (w_res rfl) w_lit) rfl
theorem attach_call {l : OpenLaw} {n : Nat} {q : Program} {loose : List Str} {XP : (Str → Option Value) → Heap → Prop} {YP : World → Heap → Prop} {d : DefRec}
  (hn : l.most = some n) (hdf : d.params.defaults = [])
  (call : ∀ (w : World) (s₀ s₁ : Shared) (mg mb : Str → Option Value) (fa : Addr) (o : Obj) (pm cd doc : Value) (a : Addr) (vs : List Value) (ns : List Int),
   Ground q loose [] XP w s₀ mg mb s₁.heap → YP w s₁.heap →
   s₁.heap.get? fa = some o → o.data = .func (docDef d.name d.params d.body d.scope pm cd doc) → s₁.heap.CodeRec cd d.name → mg d.name = some (.ref fa) →
   s₁.heap.get? a = some { cls := .type "list", data := .seq vs.toArray } → IntsAre vs ns → ns.length ≤ n → s₁.gens = #[] →
   codeAny (model l.prog w) callerA (.call (.ref fa) ⟨[.ref a], []⟩) (fun r s' => r = .ok (.ret (.bool true)) ∧ OldK s₁.heap s'.heap ∧ s'.os = s₁.os ∧ AllBare s'.gens) s₁) :
  WalkO q loose XP YP l.row.toRowW d [] (fun f vs => PySem.call f vs) := by
 intro w s₀ s₁ mg mb G Y fa o pm cd doc dV kV ho hd hcd hD hmg hg args vals as hpre hlay hrd hwl hlo
 obtain rfl : dV = .none := Dflts.none hD hdf
 obtain rfl : kV = .none := Dflts.noKw hD
 obtain ⟨a, vs, ns, rfl, rfl, hobj, hints, hlen⟩ := script_of hn hpre hwl
 refine enter_call (codeAny_mono (call w s₀ s₁ mg mb fa o pm cd doc a vs ns G Y ho (fd_plain hd) hcd hmg hobj hints hlen hg) fun r s' hq => ?_)
 obtain ⟨rfl, h2, h3, h4⟩ := hq
 exact ⟨.inl ⟨.bool true, .bool true, [], rfl, fun _ => rfl, .bool true, post_true l _, fun _ => ⟨List.Pairwise.nil, fun _ hm => (nomatch hm)⟩⟩, h2, h3, h4⟩
section
variable {prog : Program} {w : World} {A : Around} {E : Value → Shared → Prop} {s : Shared} {K : Frag}
end
end Att
namespace L2
open PySem PySem.Spec PyProof.Rows
theorem vals_ints : ∀ {vs : List Value} {ns : List Int}, IntsAre vs ns → Vals (ns.map V.int) vs
 | _, _, .nil => .nil
 | _, _, .cons n t h => .cons ⟨t, rfl⟩ (vals_ints h)
def Only (H : Hp) : Prop := ∀ b, H b = none ∨ ∃ o xs, H b = some (.frz o (.lst xs))
theorem law_call {P : Program} {w : World} {K : PySem.W.Frag} {mg mb : Str → Option Value} {CX : CXT} {k : Nat} {fa a : Addr} {fd : FuncData} {x : Str} {sp : Sp} {s₁ : Shared} {vs : List Value} {ns : List Int}
  (KX : K.In s₁.heap) (hns : s₁.heap.Ns mainGlobals mg) (hb : s₁.heap.Ns builtinsNs mb) (hbb : ∀ x : Str, x ≠ "__name__" → mb x = bootBuiltins x) (hlim : s₁.heap.NoLimit) (hg : s₁.gens = #[])
  (ha : s₁.heap.get? a = some { cls := .type "list", data := .seq vs.toArray }) (hi : IntsAre vs ns) (hl : ns.length ≤ sizeLine) (hr : Room k callerA)
  (F : ∀ base : Heap, K.In base → base.Ns mainGlobals mg → FnOk P w K mg base CX k fa fd [x] sp) (hbind : ∀ (s : Shared) (u : Value), BindsTo s fd ⟨[u], []⟩ [(x, u)])
  (hsp : ∀ H : Hp, Only H → SqL K H a (ns.map V.int) → sp [.ref a] H (fun v _ => v = .bl true) fun _ _ _ => False)
  (hCX : ∀ H e s', CX [] H s₁ (fun _ _ _ => False) e s' → False) :
  codeAny (model P w) callerA (.call (.ref fa) ⟨[.ref a], []⟩) (fun r s' => r = .ok (.ret (.bool true)) ∧ OldK s₁.heap s'.heap ∧ s'.os = s₁.os ∧ AllBare s'.gens) s₁ := by
 have rv := vals_ints hi
 have lenV := hi.length
 have core : ∀ H : Hp, Only H → SqL K H a (ns.map V.int) → HOk P w H s₁.heap → (∀ b, H b ≠ none → b = a) → (H a ≠ none → K.lookup a = none) →
   codeAny (model P w) callerA (.call (.ref fa) ⟨[.ref a], []⟩) (fun r s' => r = .ok (.ret (.bool true)) ∧ OldK s₁.heap s'.heap ∧ s'.os = s₁.os ∧ AllBare s'.gens) s₁ := by
  intro H hO hS hok hA hK
  have base_of : ∀ {b : Addr} {o : Obj}, s₁.heap.get? b = some o → H b = none → (hidT s₁.heap H).get? b = some o := fun e n => hidT_get e n
  have noA : ∀ {b : Addr} {o : Obj} {es : Array DictEntry} {ep : Nat}, s₁.heap.get? b = some o → o.data = .dict es ep → H b = none := fun {b o es ep} e d => by
   cases q : H b with
   | none => rfl
   | some u =>
    have e' : b = a := hA b (by rw [q]; simp)
    subst e'
    rw [ha] at e; cases e
    have d' : Data.seq vs.toArray _ = Data.dict es ep := d
    cases d'
  have nsK : ∀ {b : Addr} {m : Str → Option Value}, s₁.heap.Ns b m → (hidT s₁.heap H).Ns b m := fun {b m} ⟨o, es, ep, e, d, r⟩ => ⟨o, es, ep, base_of e (noA e d), d, r⟩
  have hKb : K.In (hidT s₁.heap H) := fun b o e => base_of (KX b o e) (by
   cases q : H b with
   | none => rfl
   | some u =>
    have e' : b = a := hA b (by rw [q]; simp)
    subst e'
    rw [hK (by rw [q]; simp)] at e; cases e)
  have hM : Mod K mg (hidT s₁.heap H) := ⟨hKb, nsK hns, ⟨mb, nsK hb, hbb⟩, (by obtain ⟨mc, h1, h2⟩ := hlim; exact ⟨mc, nsK h1, h2⟩)⟩
  have e0 : Env0 P w K mg (hidT s₁.heap H) callerA [] s₁ H := ⟨rfl, hM, fun b o e => of_hidT e, Nat.le_of_eq (hidT_size _ _), trivial, fun b hb => absurd (show b ∈ ([] : List Addr) from hb) (by simp), hok, .of_eq hg⟩
  refine codeAny_mono ((F _ hKb (nsK hns)).run callerA [] s₁ H ⟨[.ref a], []⟩ [.ref a] [.ref a] _ _ hr e0 (hbind s₁ (.ref a)) (.cons rfl .nil) (hsp H hO hS)) fun r s' h => ?_
  cases r with
  | error e => exact (hCX H e s' h).elim
  | ok fl =>
   cases fl with
   | next => exact False.elim h
   | brk => exact False.elim h
   | cont => exact False.elim h
   | ret u =>
    obtain ⟨v, H', os, bare, un, hok', r', q⟩ := h
    have q' : v = .bl true := q
    subst q'
    obtain rfl : u = Value.bool true := r'
    refine ⟨rfl, OldK.of_keep fun b o e => ?_, os, bare⟩
    cases q : H b with
    | none => exact un.keep b o e q (by intro z; exact absurd (show b ∈ ([] : List Addr) from z) (by simp)) (by simp)
    | some u =>
     rcases hO b with z | ⟨ob, xs, z⟩
     ·rw [q] at z; cases z
     ·have z2 := un.frzs b ob _ z
      obtain ⟨e1, _⟩ := hok b _ z
      obtain ⟨e2, _⟩ := hok' b _ z2
      rw [e] at e1; cases e1
      exact e2
 cases hk : K.lookup a with
 | some o =>
  have e := KX a o hk
  rw [ha] at e
  cases e
  refine core (fun _ => none) (fun _ => .inl rfl) (.inr ⟨_, vs.toArray, _, hk, rfl, rfl, rfl, by rw [List.size_toArray, lenV]; exact hl, by simpa using rv⟩) (fun b u z => by have z' : (none : Option HO) = some u := z; cases z') (fun b z => absurd rfl z) fun z => absurd rfl z
 | none =>
  refine core (fun b => if b = a then some (.frz { cls := .type "list", data := .seq vs.toArray } (.lst (ns.map V.int))) else none) (fun b => ?_) (.inl (.inr ⟨{ cls := .type "list", data := .seq vs.toArray }, if_pos rfl⟩)) (fun b u z => ?_) (fun b z => ?_) fun _ => hk
  ·by_cases hb : b = a
   ·exact .inr ⟨_, _, if_pos hb⟩
   ·exact .inl (if_neg hb)
  ·by_cases hb : b = a
   ·have z' := (if_pos hb).symm.trans z
    cases z'
    subst hb
    exact ⟨ha, by rw [List.length_map]; exact hl, vs, _, rv, ha⟩
   ·have z' := (if_neg hb).symm.trans z
    cases z'
  ·by_cases hb : b = a
   ·exact hb
   ·exact absurd (if_neg hb) z
theorem walk_of {l : PySem.W.OpenLaw} {n k : Nat} {q : Program} {loose : List Str} {XP : (Str → Option Value) → Heap → Prop} {YP : World → Heap → Prop} {d : DefRec} {K : Params → PySem.W.Frag} {CX : World → CXT} {sp : World → Sp} {x : Str}
  (hn : l.most = some n) (hn2 : n ≤ sizeLine) (hdf : d.params.defaults = []) (hr : Room k callerA)
  (hY : ∀ (w : World) (h : Heap), YP w h → (K w.params).In h)
  (F : ∀ (w : World) (mg : Str → Option Value) (fa : Addr) (h : Heap), (K w.params).In h → h.Ns mainGlobals mg → mg d.name = some (.ref fa) →
   ∃ fd : FuncData, (∀ (s : Shared) (u : Value), BindsTo s fd ⟨[u], []⟩ [(x, u)]) ∧
    ∀ base : Heap, (K w.params).In base → base.Ns mainGlobals mg → FnOk l.prog w (K w.params) mg base (CX w) k fa fd [x] (sp w))
  (hsp : ∀ (w : World) (H : Hp) (a : Addr) (ns : List Int), ns.length ≤ n → Only H → SqL (K w.params) H a (ns.map V.int) → sp w [.ref a] H (fun v _ => v = .bl true) fun _ _ _ => False)
  (hCX : ∀ (w : World) (H : Hp) (s : Shared) (e : Value) (s' : Shared), CX w [] H s (fun _ _ _ => False) e s' → False) :
  PySem.W.WalkO q loose XP YP l.row.toRowW d [] (fun f vs => PySem.call f vs) := by
 refine Att.attach_call hn hdf fun w s₀ s₁ mg mb fa o pm cd doc a vs ns G Y ho hd hcd hmg hobj hints hlen hg => ?_
 have KX := hY w _ Y
 obtain ⟨fd, hb, hF⟩ := F w mg fa _ KX G.T.g hmg
 exact law_call KX G.T.g G.T.b G.T.builtins G.T.nolimit hg hobj hints (Nat.le_trans hlen hn2) hr hF hb (fun H hO hS => hsp w H a ns hlen hO hS) fun H e s' => hCX w H s₁ e s'
def defArgs (s : Stmt) : Arguments := match s with
 | .FunctionDef _ a _ _ _ _ _ _ _ _ => a
 | _ => { posonlyargs := [], args := [], vararg := none, kwonlyargs := [], kw_defaults := [], kwarg := none, defaults := [] }
def defBody (s : Stmt) : List Stmt := match s with
 | .FunctionDef _ _ b _ _ _ _ _ _ _ => b
 | _ => []
def defScope (s : Stmt) : Scope := match s with
 | .FunctionDef _ _ _ _ _ _ sc _ _ _ => sc
 | _ => { kind := .function, names := [], isGenerator := false, isCoroutine := false }
abbrev E0 : XK := fun _ _ _ => False
structure Fun (K : PySem.W.Frag) (x qual : Str) (st : Stmt) (f : Addr) (fd : FuncData) : Prop where
 ex : ∃ (oc : Value) (od : Option Addr) (kV doc pm : Value) (an : Option Addr) (cdv ct : Value) (osl : Array (Option Value)),
  fd = PySem.W.fnOf x qual (defArgs st) (defBody st) (defScope st) .none kV doc pm an cdv ct ∧ K.lookup f = some ⟨oc, od, .func fd, osl⟩ ∧ PySem.W.codeIn K cdv qual = true
 kp : PySem.W.keepIn K (.ref f) = true
section
variable {P : Program} {w : World} {K : PySem.W.Frag} {mg : Str → Option Value} {base : Heap}
theorem Fun.binds {x qual : Str} {st : Stmt} {f : Addr} {fd : FuncData} {ps : List Str} (F : Fun K x qual st f fd)
  (h : ∀ (kV doc pm : Value) (an : Option Addr) (cdv ct : Value) (us : List Value), us.length = ps.length → bindArgs (PySem.W.fnOf x qual (defArgs st) (defBody st) (defScope st) .none kV doc pm an cdv ct) ⟨us, []⟩ = pure (ps.zip us)) : Binds K fd ps [] := by
 obtain ⟨oc, od, kV, doc, pm, an, cdv, ct, osl, rfl, lk, hcd⟩ := F.ex
 exact .all (h kV doc pm an cdv ct)
theorem fun_mk {x qual : Str} {st : Stmt} {f : Addr} {oc : Value} {od an : Option Addr} {osl : Array (Option Value)} {kV doc pm cdv ct : Value} (l : K.lookup f = some ⟨oc, od, .func (PySem.W.fnOf x qual (defArgs st) (defBody st) (defScope st) .none kV doc pm an cdv ct), osl⟩)
  (c : PySem.W.codeIn K cdv qual = true) (k : PySem.W.keepIn K (.ref f) = true) : Fun K x qual st f (PySem.W.fnOf x qual (defArgs st) (defBody st) (defScope st) .none kV doc pm an cdv ct) := ⟨⟨oc, od, kV, doc, pm, an, cdv, ct, osl, rfl, l, c⟩, k⟩
end
section
variable {X : Cx}
theorem pv (i : Nat) {x : Str} {pos : Pos} (hN : X.N[i]? = some x := by rfl) (hv : Vis X.env.scope x := by first | exact Or.inl rfl | exact Or.inr (Or.inl rfl) | exact Or.inr (Or.inr rfl)) (hd : (x == ("__debug__" : Str)) = false := by decide)
  (hcd : (x == ("__classdict__" : Str)) = false := by decide) : PE X (.Name x pos) (tVar i) := pe_var hN hv hd hcd
end
def Same (H H' : Hp) : Prop := ∀ b o, H b = some o → H' b = some o
theorem Same.refl (H : Hp) : Same H H := fun _ _ h => h
theorem Same.trans {H H1 H2 : Hp} (a : Same H H1) (b : Same H1 H2) : Same H H2 := fun c o h => b c o (a c o h)
theorem Same.free {H H' : Hp} (e : Same H H') {l : Addr} (h : H' l = Option.none) : H l = Option.none := by
 cases q : H l with
 | none => rfl
 | some o =>
  rw [e l o q] at h
  cases h
theorem Same.seq {K : PySem.W.Frag} {H H' : Hp} {a : Addr} {xs : List V} (e : Same H H') (h : SqL K H a xs) : SqL K H' a xs := by
 rcases h with (h | ⟨o, h⟩) | h
 ·exact .inl (.inl (e _ _ h))
 ·exact .inl (.inr ⟨o, e _ _ h⟩)
 ·exact .inr h
section
variable {X : Cx}
end
section
variable {κ : Type} [DecidableEq κ]
end
end L2

set_option maxHeartbeats 4000000
namespace PySem.W
open PySem PySem.Spec PySem.Calls PyProof.Rows Builtin Builtin.ObjectAttr Builtin.Getset_descriptor
section
variable {prog : Program} {w : World} {A : Around} {E : Value → Shared → Prop} {K : Frag} {h : Heap} {g : Array GenState} {d : Drawn} {t : Nat} {os : OsState} {a C : Addr}
end
end PySem.W

namespace L2
open PySem PySem.Spec PyProof.Rows
structure Flown (P : Program) (w : World) (outer : List Env) (H : Hp) (s : Shared) (ea : Addr) (cls : Value) (H' : Hp) (B : Heap) (a0 : Value) (s' : Shared) : Prop where
 os : s'.os = s.os
 bare : AllBare s'.gens
 un : Un (frs outer) [] H H' s.heap s'.heap
 hok : HOk P w H' s'.heap
 fly : Heap.FlyingW B outer ea cls a0 s'.heap
 inB : ∀ b o, s'.heap.get? b = some o → (H' b ≠ none ∨ ((∃ u, s.heap.get? b = some u) ∧ b ∉ frs outer)) → B.get? b = some o
 new : s.heap.get? ea = none
 nt : H' ea = none
def CXr (P : Program) (w : World) : CXT := fun outer H s E e s' =>
 ∃ (ea : Addr) (cls : Value) (H' : Hp) (B : Heap) (a0 : Value), e = .ref ea ∧ Flown P w outer H s ea cls H' B a0 s' ∧ E cls none H'
theorem hok_keep {P : Program} {w : World} {H : Hp} {h h' : Heap} (ok : HOk P w H h) (k : ∀ b o, H b ≠ none → h.get? b = some o → h'.get? b = some o) : HOk P w H h' := fun a o e =>
 (ok a o e).stay (fun b u hb q => k b u (by
  rcases hb with z | z
  ·rw [z, e]; exact fun q => nomatch q
  ·rw [z]; exact fun q => nomatch q) q) (fun _ q => q) fun _ _ q => q
theorem objOk_there {P : Program} {w : World} {H : Hp} {h : Heap} {a : Addr} {o : HO} (x : ObjOk P w H h a o) : ∃ ob, h.get? a = some ob := by
 cases o with
 | lst xs => obtain ⟨_, _, _, _, e⟩ := x; exact ⟨_, e⟩
 | tup xs => obtain ⟨_, _, _, ob, e, _⟩ := x; exact ⟨_, e⟩
 | dK kvs => obtain ⟨_, _, _, _, o, _, _, e, _⟩ := x; exact ⟨_, e⟩
 | dT kvs => obtain ⟨_, _, _, _, o, _, _, e, _⟩ := x; exact ⟨_, e⟩
 | set S n => obtain ⟨o, _, _, _, e, _⟩ := x; exact ⟨_, e⟩
 | ins C dx fs => obtain ⟨_, _, _, e, _⟩ := x; exact ⟨_, e⟩
 | own y => exact x
 | xd fs => obtain ⟨_, ⟨_, _, _, e, _⟩, _⟩ := x; exact ⟨_, e⟩
 | rng lo hi => obtain ⟨_, _, _, e⟩ := x; exact ⟨_, e⟩
 | frz ob u => obtain ⟨e, _⟩ := x; exact ⟨_, e⟩
 | tbl ps => exact ⟨_, (show h.get? a = some _ from x)⟩
 | met f y => exact ⟨_, (show h.get? a = some _ from x)⟩
 | ext φ => obtain ⟨_, e, _⟩ := x; exact e
theorem HOk.there {P : Program} {w : World} {H : Hp} {h : Heap} {a : Addr} (x : HOk P w H h) (n : H a ≠ none) : ∃ ob, h.get? a = some ob := by
 cases q : H a with
 | none => exact absurd q n
 | some u => exact objOk_there (x a u q)
section
variable {P : Program} {w : World} {K : PySem.W.Frag} {mg : Str → Option Value} {base : Heap} {N : List Str} {qual : Str} {scope : Scope} {f : Addr} {cd : Value} {A : Around} {outer : List Env} {s : Shared} {H : Hp} {E : XK}
theorem frs_cons {env : Env} {l : List Env} {L : Addr} (h : env.frame = some L) : frs (env :: l) = L :: frs l := by
 unfold frs
 rw [List.filterMap_cons, h]
theorem flown_mk {X : Cx} {pins : List (Addr × Obj)} {σ : St} {H1 H' : Hp} {s1 : Shared} {B h'' : Heap} {ea : Addr} {cls a0 : Value} {g' : Array GenState} {d' : Drawn} {t' : Nat} {os' : OsState}
  (I : Inv X pins σ H1 s1) (hx : X.ex = []) (hs : X.env.locals ∉ frs X.outer)
  (ho : os' = X.s₀.os) (hg : AllBare g')
  (fly : Heap.FlyingW B X.outer ea cls a0 h'')
  (kp : ∀ b o, s1.heap.get? b = some o → H1 b = none → b ∉ frs X.outer → b ≠ X.env.locals → B.get? b = some o)
  (sl : ∀ b o, s1.heap.get? b = some o → b ∈ frs X.outer → ∃ sl, h''.get? b = some { o with slots := sl })
  (fr : ∀ b o, s1.heap.get? b = some o → H1 b = none → H' b = none)
  (tups : ∀ b xs, H1 b = some (.tup xs) → H' b = some (.tup xs)) (frzs : ∀ b o u, H1 b = some (.frz o u) → H' b = some (.frz o u)) (tbls : ∀ b ps, H1 b = some (.tbl ps) → ∃ more, H' b = some (.tbl (ps ++ more)))
  (hok : HOk X.prog X.w H' h'') (inH : ∀ b o, h''.get? b = some o → H' b ≠ none → B.get? b = some o)
  (th : ∀ b o, s1.heap.get? b = some o → H1 b ≠ none → ∃ o', h''.get? b = some o')
  (inB : ∀ b o, s1.heap.get? b = some o → b ∉ frs X.outer → b ≠ X.env.locals → ∃ o', B.get? b = some o')
  (new : s1.heap.get? ea = none) (nt : H' ea = none) :
  Flown X.prog X.w X.outer X.H₀ X.s₀ ea cls H' B a0 ⟨h'', g', d', t', os'⟩ := by
 have hxn : ∀ b : Addr, b ∉ X.ex := fun b z => by rw [hx] at z; cases z
 have neL : ∀ b o, X.s₀.heap.get? b = some o → b ≠ X.env.locals := fun b o e => Nat.ne_of_lt (Nat.lt_of_lt_of_le (Heap.lt_size e) I.ok.above)
 have st := fly.1
 refine ⟨ho, hg, ⟨fun b o e n hb _ => ?_, fun b o e n hb _ => ?_, fun b o e n _ => ?_, fun b o e _ => ?_, fun b xs e => tups b xs (I.base.tups b xs e), fun b o u e => frzs b o u (I.base.frzs b o u e), fun b ps e => ?_⟩, hok, fly, fun b o e hb => ?_, ?_, nt⟩
 ·exact st b o (kp b o (I.base.keep b o e n hb (hxn b)) (I.base.free b o e n (hxn b)) hb (neL b o e))
 ·obtain ⟨l1, e1⟩ := I.base.slot b o e n hb (hxn b)
  obtain ⟨l2, e2⟩ := sl b _ e1 hb
  exact ⟨l2, e2⟩
 ·obtain ⟨o1, e1⟩ := I.base.there b o e (hxn b)
  exact fr b o1 e1 (I.base.free b o e n (hxn b))
 ·obtain ⟨o1, e1⟩ := I.base.there b o e (hxn b)
  by_cases hb : b ∈ frs X.outer
  ·obtain ⟨l2, e2⟩ := sl b o1 e1 hb
   exact ⟨_, e2⟩
  ·obtain ⟨o2, e2⟩ := inB b o1 e1 hb (neL b o e)
   exact ⟨o2, st b o2 e2⟩
 ·obtain ⟨m1, e1⟩ := I.base.tbls b ps e
  obtain ⟨m2, e2⟩ := tbls b _ e1
  exact ⟨m1 ++ m2, by rw [e2, Array.append_assoc]⟩
 ·rcases hb with hb | ⟨⟨u, hu⟩, hb⟩
  ·exact inH b o e hb
  ·obtain ⟨o1, e1⟩ := I.base.there b u hu (hxn b)
   obtain ⟨o2, e2⟩ := inB b o1 e1 hb (neL b u hu)
   have e3 := st b o2 e2
   have e4 : h''.get? b = some o := e
   rw [e3] at e4
   cases e4
   exact e2
 ·cases q : X.s₀.heap.get? ea with
  | none => rfl
  | some o =>
   obtain ⟨o', e'⟩ := I.base.there ea o q (hxn ea)
   rw [new] at e'
   cases e'
theorem passR : Passes (CXr P w) (cxOf (CXr P w) P w K mg base N qual scope f cd A outer s H E) E := by
 intro pins σ H1 s1 e s1' I h
 obtain ⟨ea, cls, H', B, a0, rfl, F, want⟩ := h
 have hfr : (cxOf (CXr P w) P w K mg base N qual scope f cd A outer s H E).A.frames = some (envOfC qual scope s.heap.objs.size f cd :: outer) := I.ok.frames
 have hstk : frs (cxOf (CXr P w) P w K mg base N qual scope f cd A outer s H E).stack = s.heap.objs.size :: frs outer := frs_cons rfl
 have hLo : s.heap.objs.size ∉ frs outer := fun z => by
  obtain ⟨_, o, ho, _⟩ := I.ok.funs.mem z
  exact absurd (Heap.lt_size ho) (Nat.lt_irrefl _)
 have nst : ∀ {b : Addr}, b ∉ frs outer → b ≠ s.heap.objs.size → b ∉ frs (cxOf (CXr P w) P w K mg base N qual scope f cd A outer s H E).stack := fun h1 h2 z => by
  rw [hstk] at z
  rcases List.mem_cons.mp z with z | z
  ·exact h2 z
  ·exact h1 z
 show wpAny (model P w) _ (leaving _ (.ref ea)) _ _ s1'
 refine wpAny_leaves_onW hfr rfl F.fly fun h'' fl' up => ?_
 have inB' : ∀ b o, s1'.heap.get? b = some o → H' b ≠ none → h''.get? b = some o := fun b o e n => fl'.1 b o (F.inB b o e (.inl n))
 refine ⟨ea, cls, H', B, a0, rfl, flown_mk (X := cxOf (CXr P w) P w K mg base N qual scope f cd A outer s H E) I rfl hLo (F.os.trans I.os) F.bare fl' (fun b o e n hb hL => ?_) (fun b o e hb => ?_) (fun b o e n => F.un.free b o e n (by simp)) F.un.tups F.un.frzs F.un.tbls
  (hok_keep F.hok fun b o n e => inB' b o e n) (fun b o e n => ?_) (fun b o e n => ?_) (fun b o e hb hL => ?_) F.new F.nt, want⟩
 ·exact F.inB b o (F.un.keep b o e n (nst hb hL) (by simp)) (.inr ⟨⟨o, e⟩, nst hb hL⟩)
 ·have hb' : b ∈ frs outer := hb
  have n : H1 b = none := by
   have := I.stkFree b (by rw [hstk]; exact List.mem_cons_of_mem _ hb')
   exact this
  obtain ⟨l1, e1⟩ := F.un.slot b o e n (by rw [hstk]; exact List.mem_cons_of_mem _ hb') (by simp)
  obtain ⟨_, o', ho', hd'⟩ := F.fly.2.2.1.mem (b := b) (by
   have : b ∈ frs (cxOf (CXr P w) P w K mg base N qual scope f cd A outer s H E).stack := by rw [hstk]; exact List.mem_cons_of_mem _ hb'
   exact this)
  rw [e1] at ho'
  cases ho'
  obtain ⟨l2, e2⟩ := up b _ e1 hd'
  exact ⟨l2, e2⟩
 ·obtain ⟨o1, e1⟩ := F.hok.there n
  have e2 := F.inB b o1 e1 (.inl n)
  have e3 := fl'.1 b o1 e2
  rw [e] at e3
  cases e3
  exact e2
 ·obtain ⟨o1, e1⟩ := F.un.there b o e (by simp)
  by_cases hb : b ∈ frs outer
  ·have hz : H1 b = none := I.stkFree b (by rw [hstk]; exact List.mem_cons_of_mem _ hb)
   exact absurd hz n
  ·by_cases hL : b = s.heap.objs.size
   ·have hz : H1 b = none := I.stkFree b (by rw [hstk, hL]; exact List.mem_cons_self)
    exact absurd hz n
   ·exact ⟨o1, fl'.1 b o1 (F.inB b o1 e1 (.inr ⟨⟨o, e⟩, nst hb hL⟩))⟩
 ·obtain ⟨o1, e1⟩ := F.un.there b o e (by simp)
  exact ⟨o1, F.inB b o1 e1 (.inr ⟨⟨o, e⟩, nst hb hL⟩)⟩
def Raises (X : Cx) (E : XK) : Prop := ∀ (pins : List (Addr × Obj)) (σ : St) (H : Hp) (s : Shared) (C : Addr) (h' : Heap) (e : Addr) (vs : List Value), Inv X pins σ H s → Heap.MadeExcOf s.heap h' e (.ref C) vs → E (.ref C) none H → X.xe (.ref e) { s with heap := h' }
theorem raisesR : Raises (cxOf (CXr P w) P w K mg base N qual scope f cd A outer s H E) E := by
 intro pins σ H1 s1 C h' e vs I hx want
 have hstk : frs (cxOf (CXr P w) P w K mg base N qual scope f cd A outer s H E).stack = s.heap.objs.size :: frs outer := frs_cons rfl
 have hfr : (cxOf (CXr P w) P w K mg base N qual scope f cd A outer s H E).A.frames = some (envOfC qual scope s.heap.objs.size f cd :: outer) := I.ok.frames
 have hLo : s.heap.objs.size ∉ frs outer := fun z => by
  obtain ⟨_, o, ho, _⟩ := I.ok.funs.mem z
  exact absurd (Heap.lt_size ho) (Nat.lt_irrefl _)
 have st : s1.heap.FunFrames base (envOfC qual scope s.heap.objs.size f cd :: outer) := I.stack
 have fin : s1.heap.FunFrames (PySem.W.hideAll s1.heap (s.heap.objs.size :: frs outer)) (envOfC qual scope s.heap.objs.size f cd :: outer) :=
  PySem.W.funFrames_hide st fun env he a ha => by
   rw [← hstk]
   exact List.mem_filterMap.mpr ⟨env, he, ha⟩
 have nfr : ∀ {b : Addr}, H1 b ≠ none → b ∉ s.heap.objs.size :: frs outer := fun n z => n (I.stkFree _ (by rw [hstk]; exact z))
 have nin : ∀ {b : Addr}, b ∉ frs outer → b ≠ s.heap.objs.size → b ∉ s.heap.objs.size :: frs outer := fun h1 h2 z => (List.mem_cons.mp z).elim h2 h1
 show wpAny (model P w) _ (leaving _ (.ref e)) _ _ { s1 with heap := h' }
 refine wpAny_leaves_madeW (base := PySem.W.hideAll s1.heap (s.heap.objs.size :: frs outer)) (h := s1.heap) hfr rfl (fun b o q => PySem.W.of_hideAll _ q) fin hx fun h'' t fl _ _ up => ?_
 refine ⟨e, .ref C, H1, _, .ref t, rfl, flown_mk (X := cxOf (CXr P w) P w K mg base N qual scope f cd A outer s H E) I rfl hLo I.os I.bare fl (fun b o q n hb hL => PySem.W.hideAll_get _ q (nin hb hL)) (fun b o q hb => ?_) (fun _ _ _ n => n) (fun _ _ q => q) (fun _ _ _ q => q)
  (fun b ps q => ⟨#[], by rw [q]; simp⟩) (hok_keep I.hok fun b o n q => fl.1 b o (PySem.W.hideAll_get _ q (nfr n))) (fun b o q n => ?_) (fun b o q n => ⟨o, fl.1 b o (PySem.W.hideAll_get _ q (nfr n))⟩) (fun b o q hb hL => ⟨o, PySem.W.hideAll_get _ q (nin hb hL)⟩) hx.new ?_, want⟩
 ·obtain ⟨_, o', ho', hd'⟩ := st.mem (b := b) (by
   have : b ∈ frs (envOfC qual scope s.heap.objs.size f cd :: outer) := by
    rw [frs_cons rfl]
    exact List.mem_cons_of_mem _ hb
   exact this)
  rw [q] at ho'
  cases ho'
  exact up b o (hx.keeps b o q) hd'
 ·obtain ⟨o1, e1⟩ := I.hok.there n
  have e2 := PySem.W.hideAll_get _ e1 (nfr n)
  have e3 := fl.1 b o1 e2
  rw [q] at e3
  cases e3
  exact e2
 ·cases q : H1 e with
  | none => rfl
  | some u =>
   obtain ⟨ob, eo⟩ := objOk_there (I.hok e u q)
   rw [hx.new] at eo
   cases eo
end
section
variable {X : Cx} {E : XK}
def tRaise (C : Addr) (E : XK) (t : TA) : TS := fun _ σ H => t σ H fun vs H1 => vs.length ≤ sizeLine ∧ E (.ref C) none H1
theorem ps_raise {x : Str} {e₀ : Expr} {rest : List Expr} {t : TA} {C : Addr} {bm : List Value} {B newId initId : String} {np cpos pos : Pos} (hx : Raises X E) (hc : X.calm = true) (hg : Gl X x) (O : OwnCls x C bm newId X.mg X.base)
  (FB : ExcBaseFacts B newId initId bm) (ha : PA X (e₀ :: rest) t) (hdb : (x == ("__debug__" : Str)) = false := by decide)
  (he : starEach (e₀ :: rest) X.env = (false, eval e₀ X.env) :: starEach rest X.env := by rfl) (hpl : (backTo cpos (starEach rest X.env)).any (·.1) = false := by rfl) :
  PS X (.Raise (some (.Call (.Name x np) (e₀ :: rest) [] cpos)) none pos) (tRaise C E t) := by
 intro pins s σ H D I h
 obtain ⟨tl, NN, nm, qn, bs, hdc, sn, sb, ab, cl, dd, z0, z1, z2, z3, z5, mN, hC, hN, hni, T⟩ := O.obj
 have hp : (backTo cpos (starEach (e₀ :: rest) X.env)).any (·.1) = false := by
  rw [he]
  show (false || (backTo cpos (starEach rest X.env)).any (·.1)) = false
  rw [hpl]
  all_goals rfl
 have h2 := ha cpos pins s σ H _ I h
 refine wpAny_Raise_call_subT (bm := tl) (N := NN) (nm := nm) (q := qn) (bs := bs) (hdct := hdc) (sn := sn) (sub := sb) (ab := ab) (col := cl) (dd := dd) (k0 := z0) (k1 := z1) (k2 := z2) (k3 := z3) (k5 := z5) FB (T.hasType FB.hasBase) (I.ok.hd hc) hp hni
  (ld_glob I hg O.bound ⟨rfl, ?_⟩ hdb)
 rw [he] at h2 ⊢
 refine Calls.evalArgs_plain (thn h2 ?_)
 rintro us s2 ⟨vs, H1, I1, r, z, w'⟩
 exact ⟨rfl, by rw [← r.length]; exact z, I1.bk _ _ hC, hN.keeps I1.bk, T.keeps I1.bk, fun h' e hm => hx pins σ H1 s2 C h' e us I1 hm w'⟩
end
def PassesS (CX : CXT) (X : Cx) (E : St → XK) : Prop := ∀ (pins : List (Addr × Obj)) (σ : St) (H : Hp) (s : Shared) (e : Value) (s' : Shared), Inv X pins σ H s → CX X.stack H s (E σ) e s' → X.xe e s'
def tCallS (sp : Sp) (E : St → XK) (t : TA) : TE := fun σ H Q => t σ H fun vs H1 => sp vs H1 Q (E σ)
section
variable {X : Cx} {CX : CXT} {k : Nat} {f : Addr} {fd : FuncData} {ps : List Str} {sp : Sp} {E : St → XK} {x : Str} {p pos : Pos} {e : Expr} {es : List Expr} {t : TA}
theorem pe_callS (F : FnOk X.prog X.w X.K X.mg X.base CX k f fd ps sp) (hr : Room k X.A) (hg : Gl X x) (hm : X.mg x = some (.ref f)) (hk : PySem.W.keepIn X.K (.ref f) = true) (hb : Binds X.K fd ps []) (hx : PassesS CX X E)
  (ha : PA X (e :: es) t) (hdb : (x == ("__debug__" : Str)) = false := by decide) (he : starEach (e :: es) X.env = (false, eval e X.env) :: starEach es X.env := by rfl) (hpl : (backTo pos (starEach es X.env)).any (·.1) = false := by rfl) :
  PE X (.Call (.Name x p) (e :: es) [] pos) (tCallS sp E t) := by
 intro pins s σ H Q I h
 refine wpAny_Call_Name_kw (ld_glob I hg hm ?_ hdb)
 refine PySem.W.callWith_K (h₀ := X.base) I.ok.mod.kin hk (thn (ha pos pins s σ H _ I h) ?_) he hpl
 rintro us s1 ⟨vs, H1, I1, r, q⟩
 refine ⟨I1.kIn, ?_⟩
 have hl : us.length = ps.length := by rw [← r.length]; exact F.len _ _ _ _ q
 have hb' := hb s1 us I1.kIn (by rw [List.append_nil]; exact hl)
 rw [List.append_nil] at hb'
 refine wpAny_call (codeAny_mono (F.run X.A X.stack s1 H1 ⟨us, []⟩ us vs Q (E σ) hr I1.env0 hb' r q) fun rr s' hq => ?_)
 cases rr with
 | error e' => exact hx pins σ H1 s1 e' s' I1 hq
 | ok fl =>
  cases fl with
  | ret u => exact I1.after hq
  | next => exact False.elim hq
  | brk => exact False.elim hq
  | cont => exact False.elim hq
end
section
variable {X : Cx} {k : Nat} {f : Addr} {fd : FuncData} {ps : List Str} {sp : Sp} {x : Str} {p pos : Pos} {e : Expr} {es : List Expr} {t : TA}
end
def excO (e : Addr) (cls : Value) : HO := .ext fun h => ∃ o, h.get? e = some o ∧ o.cls = cls ∧ ∃ vs, o.data = .fields vs
abbrev blockCx (X : Cx) (scope : Scope) (cl : List (Str × Addr)) (C : Addr) (N : List Str) (s₀ : Shared) (H₀ : Hp) (ex : List Addr) (pn : List (Addr × Obj)) : Cx :=
 { X with env := compEnvC scope cl C X.env, N := N, s₀ := s₀, H₀ := H₀, outer := X.stack, stack := X.stack, ex := ex, fn := fun _ => false, pn := pn, xe := fun _ _ => False }
structure ClOk (X : Cx) (scope : Scope) (cl : List (Str × Addr)) : Prop where
 clos : closureFor scope X.env = pure cl
 sub : ∀ y c, cl.lookup y = some c → X.env.cells.lookup y = some c
 has : ∀ y, (relabel scope X.env).names.lookup y = some .cell ∨ (relabel scope X.env).names.lookup y = some .free → ∃ c, cl.lookup y = some c
def caps (js : List Nat) (σ : St) : St := js.map fun j => (σ[j]?).getD none
structure CapOk (X : Cx) (scope : Scope) (cl : List (Str × Addr)) (ys : List Str) (js : List Nat) : Prop where
 len : ys.length = js.length
 at_ : ∀ (i : Nat) (y : Str) (j : Nat), ys[i]? = some y → js[i]? = some j → X.N[j]? = some y ∧ (X.env.kindOf y = some .cell ∨ X.env.kindOf y = some .free) ∧ ((relabel scope X.env).names.lookup y = some .cell ∨ (relabel scope X.env).names.lookup y = some .free) ∧ (X.env.cells.lookup y).isSome = true ∧ cl.lookup y = X.env.cells.lookup y
section
variable {X : Cx}
end
def Sz (n : Nat) (x : Int) : Prop := x.natAbs < 2 ^ n
theorem Sz.mono {m n : Nat} {x : Int} (h : Sz m x) (l : m ≤ n) : Sz n x := Nat.lt_of_lt_of_le h (Nat.pow_le_pow_right (by decide) l)
theorem Sz.mul {m n : Nat} {x y : Int} (hx : Sz m x) (hy : Sz n y) : Sz (m + n) (x * y) := by
 unfold Sz at *
 rw [Int.natAbs_mul, Nat.pow_add]
 exact Nat.mul_lt_mul'' hx hy
theorem Sz.add {n : Nat} {x y : Int} (hx : Sz n x) (hy : Sz n y) : Sz (n + 1) (x + y) := by
 unfold Sz at *
 have := Int.natAbs_add_le x y
 rw [Nat.pow_succ]
 lia
theorem Sz.neg {n : Nat} {x : Int} (hx : Sz n x) : Sz n (-x) := by
 unfold Sz at *
 rw [Int.natAbs_neg]
 exact hx
theorem Sz.sub {n : Nat} {x y : Int} (hx : Sz n x) (hy : Sz n y) : Sz (n + 1) (x - y) := by
 have := Sz.add hx hy.neg
 rwa [Int.sub_eq_add_neg]
theorem Sz.le {n : Nat} {x y : Int} (hy : Sz n y) (h : x.natAbs ≤ y.natAbs) : Sz n x := Nat.lt_of_le_of_lt h hy
def CMulW (i j : Int) : Prop := Sz 60000 i ∧ Sz 60000 j
theorem CMulW.ok {i j : Int} (h : CMulW i j) : IntMulOk i j := .of_le (intBits_le_iff.mpr h.1) (intBits_le_iff.mpr h.2) (by decide)
def CDivW (i j : Int) : Prop := j ≠ 0 ∧ Sz 8000 j
section
variable {X : Cx}
theorem op_mulW : OpR X (binaryOp .Mult) (rI CMulW fun i j => .int (i * j)) := opI fun _ _ _ _ _ _ _ hc q => mul_int q hc.ok
theorem log2_small {n : Nat} (h : n < 2 ^ 8000) : n.log2 < 9000 := by
 by_cases z : n = 0
 ·rw [z]; decide
 ·have : n.log2 < 8000 := (Nat.log2_lt z).mpr h
  lia
theorem op_fdivW : OpR X (binaryOp .FloorDiv) (rI CDivW fun i j => .int (i.fdiv j)) := opI fun _ _ _ _ _ _ _ hc q => floordiv_int hc.1 q (.inl (PyProof.noPylong_of_log2 (log2_small hc.2)))
end
theorem Fun.okX {P : Program} {w : World} {K : PySem.W.Frag} {mg : Str → Option Value} {base : Heap} {x qual : Str} {st : Stmt} {f : Addr} {fd : FuncData} {N ps : List Str} {k : Nat} {sp : Sp} (F : Fun K x qual st f fd) (S : FnScope N ps (defScope st)) (len : ∀ vs H Q E, sp vs H Q E → vs.length = ps.length)
  (hbody : ∀ (cdv : Value) (A : Around) (outer : List Env) (s : Shared) (H : Hp) (vs : List V) (Q : VK) (E : XK), Room k (A.deeper (envOfC qual (defScope st) s.heap.objs.size f cdv)) → sp vs H Q E →
   ∃ t, PSs (cxOf (CXr P w) P w K mg base N qual (defScope st) f cdv A outer s H E) (defBody st) t ∧ t { nx := fun _ H' => Q .non H', rt := Q } (start N vs) H) : FnOk P w K mg base (CXr P w) (k + 1) f fd ps sp := by
 obtain ⟨oc, od, kV, doc, pm, an, cdv, ct, osl, rfl, lk, hcd⟩ := F.ex
 exact fn_of lk hcd S len fun A outer s H vs Q E hr hsp => hbody cdv A outer s H vs Q E hr hsp
theorem Same.upd {H H' : Hp} {p : Addr} (h : Same H H') (hp : H' p = none) (o : HO) : Same H (upd H' p o) := fun b u q => by
 have := h b u q
 rw [upd_ne (ne_of_none this hp)]
 exact this
end L2

namespace FR
theorem gcd_turn {a b : Int} (ha : 0 ≤ a) (hb : 0 ≤ b) : Int.gcd b (a % b) = Int.gcd a b := by
 obtain ⟨m, rfl⟩ := Int.eq_ofNat_of_zero_le ha
 obtain ⟨n, rfl⟩ := Int.eq_ofNat_of_zero_le hb
 rw [← Int.natCast_emod, Int.gcd_natCast_natCast, Int.gcd_natCast_natCast, Nat.gcd_comm n, ← Nat.gcd_rec, Nat.gcd_comm]
theorem gcd_abs (a b : Int) : Int.gcd (if a < 0 then -a else a) (if b < 0 then -b else b) = Int.gcd a b := by
 split <;> split <;> simp [Int.gcd_neg, Int.neg_gcd]
theorem gcd_end {a : Int} (ha : 0 ≤ a) : ((Int.gcd a 0 : Nat) : Int) = a := by
 rw [Int.gcd_zero_right]
 lia
def sgn (b : Int) (g : Int) : Int := if b < 0 then -g else g
def mk (t b : Int) : Int × Int := (t.fdiv (sgn b (Int.gcd t b)), b.fdiv (sgn b (Int.gcd t b)))
theorem gcd_pos {t b : Int} (hb : b ≠ 0) : 0 < Int.gcd t b := Int.gcd_pos_of_ne_zero_right t hb
theorem parts (t b : Int) (hb : b ≠ 0) : ∃ t' b' : Int, t = (Int.gcd t b : Int) * t' ∧ b = (Int.gcd t b : Int) * b' ∧ Int.gcd t' b' = 1 := by
 obtain ⟨t', ht⟩ := Int.gcd_dvd_left t b
 obtain ⟨b', hb'⟩ := Int.gcd_dvd_right t b
 refine ⟨t', b', ht, hb', ?_⟩
 have g0 := gcd_pos (t := t) hb
 have e : Int.gcd t b = Int.gcd t b * Int.gcd t' b' := by
  have h : Int.gcd ((Int.gcd t b : Int) * t') ((Int.gcd t b : Int) * b') = (Int.gcd t b : Int).natAbs * Int.gcd t' b' := Int.gcd_mul_left ..
  rw [← ht, ← hb'] at h
  simpa using h
 have e2 : Int.gcd t b * 1 = Int.gcd t b * Int.gcd t' b' := by lia
 exact (Nat.eq_of_mul_eq_mul_left g0 e2).symm
theorem mk_parts {t b g t' b' : Int} (g0 : 0 < g) (ht : t = g * t') (hb : b = g * b') : (t.fdiv (sgn b g) = (if b < 0 then -t' else t')) ∧ (b.fdiv (sgn b g) = if b < 0 then -b' else b') := by
 unfold sgn
 by_cases h : b < 0
 ·rw [if_pos h, if_pos h, if_pos h]
  have e1 : t = (-g) * (-t') := by rw [ht, Int.neg_mul_neg]
  have e2 : b = (-g) * (-b') := by rw [hb, Int.neg_mul_neg]
  constructor
  ·conv => lhs; rw [e1]
   exact Int.mul_fdiv_cancel_left _ (by lia)
  ·conv => lhs; rw [e2]
   exact Int.mul_fdiv_cancel_left _ (by lia)
 ·rw [if_neg h, if_neg h, if_neg h]
  constructor
  ·conv => lhs; rw [ht]
   exact Int.mul_fdiv_cancel_left _ (by lia)
  ·conv => lhs; rw [hb]
   exact Int.mul_fdiv_cancel_left _ (by lia)
structure Fr (f : Int × Int) : Prop where
 pos : 1 ≤ f.2
 low : Int.gcd f.1 f.2 = 1
theorem mk_fr {t b : Int} (hb : b ≠ 0) : Fr (mk t b) ∧ (mk t b).1 * b = t * (mk t b).2 := by
 obtain ⟨t', b', e1, e2, e3⟩ := parts t b hb
 have g0 : (0 : Int) < (Int.gcd t b : Int) := by have := gcd_pos (t := t) hb; lia
 obtain ⟨p1, p2⟩ := mk_parts g0 e1 e2
 have q1 : (mk t b).1 = if b < 0 then -t' else t' := p1
 have q2 : (mk t b).2 = if b < 0 then -b' else b' := p2
 have hs : b < 0 ↔ b' < 0 := by
  constructor
  ·intro h
   rcases Int.lt_or_le b' 0 with z | z
   ·exact z
   ·have := Int.mul_nonneg (Int.le_of_lt g0) z
    lia
  ·intro h
   have := Int.mul_neg_of_pos_of_neg g0 h
   lia
 have hb' : b' ≠ 0 := by
  rintro rfl
  rw [Int.mul_zero] at e2
  exact hb e2
 refine ⟨⟨?_, ?_⟩, ?_⟩
 ·rw [q2]
  split
  ·rename_i h
   have := hs.mp h
   lia
  ·rename_i h
   have : ¬ b' < 0 := fun z => h (hs.mpr z)
   lia
 ·rw [q1, q2]
  split
  ·rw [Int.gcd_neg, Int.neg_gcd, e3]
  ·exact e3
 ·rw [q1, q2]
  generalize hg : (Int.gcd t b : Int) = g at *
  rw [e1, e2]
  split
  ·rw [Int.neg_mul, Int.mul_neg, Int.mul_left_comm, Int.mul_assoc]
  ·rw [Int.mul_left_comm, Int.mul_assoc]
end FR

namespace L2
open PySem PySem.Spec PyProof.Rows
theorem grown_one {h h' : Heap} {o : Obj} (hk : ∀ b x, b ∉ [h.objs.size] → (h.push o).get? b = some x → h'.get? b = some x) : ∀ b x, h.get? b = some x → h'.get? b = some x := fun b x e =>
 hk b x (fun m => Nat.lt_irrefl _ (List.mem_singleton.mp m ▸ Heap.lt_size e)) (Heap.get?_push_of_some _ e)
section
variable {X : Cx}
def rAny (K : PySem.W.Frag) : List V → Hp → VK → Prop := fun xs H Q => ∃ (a : Addr) (bs : List Bool), xs = [.ref a] ∧ SqL K H a (bs.map V.bl) ∧ Q (.bl (bs.any id)) H
theorem vals_bl : ∀ {bs : List Bool} {us : List Value}, Vals (bs.map V.bl) us → us = bs.map Value.bool
 | [], _, .nil => rfl
 | _ :: _, _, .cons r t => by
  have e : _ = Value.bool _ := r
  rw [e, vals_bl t]; rfl
theorem any_range (bs : List Bool) : ((List.range bs.length).any fun i => (bs[i]?).getD false) = bs.any id := by
 rw [Bool.eq_iff_iff, List.any_eq_true, List.any_eq_true]
 constructor
 ·rintro ⟨i, hi, e⟩
  have hi := List.mem_range.mp hi
  exact ⟨bs[i], List.getElem_mem hi, by simpa [hi] using e⟩
 ·rintro ⟨b, hb, e⟩
  obtain ⟨i, hi, e2⟩ := List.mem_iff_getElem.mp hb
  exact ⟨i, List.mem_range.mpr hi, by simp [hi, e2]; simpa using e⟩
theorem call_any (hc : X.calm = true) {K : PySem.W.Frag} (hK : X.K = K) : CallR X (.builtin "any") (rAny K) := by
 subst hK
 intro pins s σ H xs us Q I r h
 obtain ⟨a, bs, rfl, hq, q⟩ := h
 obtain ⟨u, rfl, ru⟩ := vals1 r
 cases ru
 obtain ⟨its, rv, p, hz⟩ := I.list hq
 have ei := vals_bl rv
 have hl := p.isList
 have lt : a < s.heap.objs.size := by obtain ⟨_, e, _⟩ := hl; exact Heap.lt_size e
 refine call_any_walk (wpAny_pyIter_list hl ?_)
 refine ⟨s.heap.objs.size, [s.heap.objs.size, a], [s.heap.objs.size], its.toArray.size, _, _, fun i => (bs[i]?).getD false, rfl, Walks.list (A := X.A.in1) (I.ok.hd hc) _ a (Nat.ne_of_lt lt) its.toArray,
  ⟨⟨_, Heap.get?_push_size _ rfl, rfl, rfl⟩, hl.push _⟩, fun i v s' Q' E' hP hQ => ?_, fun h' tk hk => ?_⟩
 ·have e : its[i]? = some v := by simpa using hP
  rw [ei, List.getElem?_map] at e
  cases eb : bs[i]? with
  | none => rw [eb] at e; cases e
  | some b =>
   have hQ : Q' ((bs[i]?).getD false) s' := hQ
   rw [eb] at e hQ
   cases e
   exact wpAny_truthy_bool hQ
 ·have e : its.toArray.size = bs.length := by rw [List.size_toArray, ei, List.length_map]
  rw [e, any_range]
  exact ⟨.bl (bs.any id), H, I.kept (grown_one hk), rfl, q⟩
end
open PySem.W (Dat kqdP kqdPs kqdOk kqd_lay kqd_eqv)
mutual
inductive HasD (H : Hp) : V → Dat → Prop
 | int (i : Int) : HasD H (.int i) (.int i)
 | tup {a : Addr} {xs : List V} {ds : List Dat} : H a = some (.tup xs) → HasDs H xs ds → HasD H (.ref a) (.tuple ds)
 | lst {a : Addr} {xs : List V} {ds : List Dat} : H a = some (.lst xs) → HasDs H xs ds → HasD H (.ref a) (.list ds)
inductive HasDs (H : Hp) : List V → List Dat → Prop
 | nil : HasDs H [] []
 | cons {x : V} {xs : List V} {d : Dat} {ds : List Dat} : HasD H x d → HasDs H xs ds → HasDs H (x :: xs) (d :: ds)
end
mutual
theorem HasD.keep {H H' : Hp} (k : ∀ a o, H a = some o → H' a = some o) : ∀ {v : V} {d : Dat}, HasD H v d → HasD H' v d
 | _, _, .int i => .int i
 | _, _, .tup h r => .tup (k _ _ h) (HasDs.keep k r)
 | _, _, .lst h r => .lst (k _ _ h) (HasDs.keep k r)
theorem HasDs.keep {H H' : Hp} (k : ∀ a o, H a = some o → H' a = some o) : ∀ {v : List V} {d : List Dat}, HasDs H v d → HasDs H' v d
 | _, _, .nil => .nil
 | _, _, .cons h r => .cons (HasD.keep k h) (HasDs.keep k r)
end
mutual
theorem HasD.reads {P : Program} {w : World} {H : Hp} {h : Heap} (ok : HOk P w H h) : ∀ {v : V} {d : Dat}, HasD H v d → ∀ {u : Value}, RelV v u → ∃ as, Reads h u (kqdP d) as
 | _, _, .int i, _, ⟨t, e⟩ => by subst e; exact ⟨_, Reads.int i t⟩
 | _, _, .tup hh r, _, e => by
  have e : _ = Value.ref _ := e
  subst e
  obtain ⟨_, its, rv, o, ho, hc, n, hd⟩ := (show ObjOk P w H h _ _ from ok _ _ hh)
  obtain ⟨as, q⟩ := HasDs.reads ok r rv
  rw [kqdP]
  exact ⟨as, reads_tuple_at ho hc hd (by simpa using q)⟩
 | _, _, .lst hh r, _, e => by
  have e : _ = Value.ref _ := e
  subst e
  obtain ⟨_, its, n, rv, ho⟩ := (show ObjOk P w H h _ _ from ok _ _ hh)
  obtain ⟨as, q⟩ := HasDs.reads ok r rv
  rw [kqdP]
  exact ⟨_, reads_list_at ho rfl rfl (by simpa using q)⟩
theorem HasDs.reads {P : Program} {w : World} {H : Hp} {h : Heap} (ok : HOk P w H h) : ∀ {vs : List V} {ds : List Dat}, HasDs H vs ds → ∀ {us : List Value}, Vals vs us → ∃ as, ReadsAll h us (kqdPs ds) as
 | _, _, .nil, _, .nil => ⟨_, ReadsAll.nil⟩
 | _, _, .cons hd r, _, .cons rv rt => by
  obtain ⟨as, q⟩ := HasD.reads ok hd rv
  obtain ⟨bs, p⟩ := HasDs.reads ok r rt
  rw [kqdPs]
  exact ⟨_, ReadsAll.cons q p⟩
end
section
variable {X : Cx}
end
def RawD (h : Heap) (d : Addr) (es : Array DictEntry) (ep : Nat) : Prop := ∃ o, h.get? d = some o ∧ o.ExactDict ∧ o.data = .dict es ep
theorem RawD.at {h h' : Heap} {d : Addr} {es : Array DictEntry} {ep : Nat} (x : RawD h d es ep) (k : ∀ o, h.get? d = some o → h'.get? d = some o) : RawD h' d es ep := by obtain ⟨o, ho, r⟩ := x; exact ⟨o, k o ho, r⟩
theorem RawD.lt {h : Heap} {d : Addr} {es : Array DictEntry} {ep : Nat} (x : RawD h d es ep) : d < h.objs.size := by obtain ⟨_, ho, _⟩ := x; exact Heap.lt_size ho
theorem RawD.ty {s : Shared} {d : Addr} {es : Array DictEntry} {ep : Nat} (x : RawD s.heap d es ep) : s.TypeIs (.ref d) "dict" := by obtain ⟨o, ho, hc, _⟩ := x; exact ⟨o, ho, hc.1⟩
section
variable {prog : Program} {w : World} {A : Around} {E : Value → Shared → Prop} {s : Shared} {d it : Addr} {es : Array DictEntry} {ep i : Nat}
theorem raw_iter {Q : Value → Shared → Prop} (hd : (d == sysModules) = false) (hm : RawD s.heap d es ep)
  (q : Q (.ref s.heap.objs.size) { s with heap := s.heap.push { cls := .type "dict_keyiterator", data := .fields #[.ref d, .int 0 0, .int es.size 0, .int ep 0] } }) : wpAny (model prog w) A (pyIter (.ref d)) Q E s := by
 have ty := hm.ty
 obtain ⟨o, ho, hc, hdat⟩ := hm
 refine wpAny_pyIter_slot ty F.slot_dict_iter (wpAny_call_entry F.slot_dict_iter ty F.entry_dict_iter ?_ (F.args_dict_iter_1 _))
 unfold Builtin.«dict.__iter__» Builtin.Dict.dictSlotNone
 refine wpAny_bind (wpAny_bind (wpAny_notOrdered_dict ty (wpAny_pure ?_)))
 unfold Builtin.Dict.showsAll
 refine wpAny_bind (m := Builtin.Dict.addrOf (Value.ref d)) (wpAny_pure ?_)
 rw [if_neg (by rw [hd]; exact Bool.false_ne_true)]
 refine wpAny_bind (wpAny_pure (wpAny_bind (wpAny_dictEntries ho hdat (wpAny_bind (wpAny_dictEpoch ho hdat ?_)))))
 exact wpAny_bind (wpAny_newObj_type (wpAny_pure ⟨_, rfl, _, _, ⟨_, Heap.get?_push_size _ rfl, rfl⟩, F.slot_dict_keyiterator_next.lookup, q⟩))
theorem raw_next {Q : Option Value → Shared → Prop} (hit : s.heap.IsKeyIter it d i es.size ep) (hm : RawD s.heap d es ep) (lt : i < es.size)
  (q : ∀ h', h'.IsKeyIter it d (i + 1) es.size ep → Heap.SameBut it s.heap h' → Q (some es[i].key) { s with heap := h' }) : wpAny (model prog w) A (pyNext (.ref it)) Q E s := by
 have ty := hit.typeIs
 obtain ⟨o, ho, hc, hd⟩ := hit
 obtain ⟨od, hod, _, hdd⟩ := hm
 have own : Builtin.Dict_items.ownsTuple "dict_keyiterator" = false := by decide
 have nn : ¬ ((i : Int) < 0) := Int.not_lt.mpr (Int.natCast_nonneg i)
 unfold pyNext
 refine wpAny_bind (wpAny_attempt (wpAny_callSpecial?_slot (name := Str.ofString "__next__") ty F.slot_dict_keyiterator_next (wpAny_call_entry F.slot_dict_keyiterator_next ty F.entry_dict_keyiterator_next ?_ (F.args_dict_keyiterator_next_1 _))))
 refine wpAny_bind (wpAny_pure (wpAny_bind (wpAny_bind ?_)))
 first | refine wpAny_bind (wpAny_typeNameOfWhole_keyiter ty (wpAny_pure ?_)) | refine wpAny_bind (wpAny_typeNameOf_keyiter ty (wpAny_pure ?_))
 refine wpAny_bind (wpAny_fieldsOf ho hd ?_)
 simp only [own, Bool.false_eq_true, if_false]
 show wpAny _ _ (if (Value.ref d == Value.none) = true then _ else _) _ _ s
 rw [if_neg (by intro z; cases z)]
 refine wpAny_bind (wpAny_pure (wpAny_bind (wpAny_dictEntries hod hdd ?_)))
 rw [if_neg (by simp)]
 refine wpAny_bind (wpAny_pure (wpAny_bind (wpAny_dictEpoch hod hdd ?_)))
 rw [if_neg (by simp)]
 refine wpAny_pure ?_
 simp only [nn, if_false, Int.toNat_natCast, Array.getElem?_eq_getElem lt]
 refine wpAny_bind ?_
 first | refine wpAny_bind (wpAny_typeNameOfWhole_keyiter ty (wpAny_pure ?_)) | refine wpAny_bind (wpAny_typeNameOf_keyiter ty (wpAny_pure ?_))
 refine wpAny_bind (wpAny_isOneOf_keyiter ty ?_)
 refine wpAny_bind (m := setField (.ref it) 1 (rawInt ((i : Int) + 1))) (wpAny_setField ho hd (by simp) ?_)
 have hit' : (s.heap.update it (Obj.mapFields (·.setIfInBounds 1 (rawInt ((i : Int) + 1))))).IsKeyIter it d (i + 1) es.size ep :=
  ⟨_, Heap.get?_update_self _ ho (Obj.isFreed_of_fields (Obj.data_mapFields hd _)), (Obj.cls_mapFields ..).trans hc, (Obj.data_mapFields hd _).trans (by simp [rawInt])⟩
 refine wpAny_bind (wpAny_holding (wpAny_bind (wpAny_isOneOf_keyiter (s := { s with heap := s.heap.update it (Obj.mapFields (·.setIfInBounds 1 (rawInt ((i : Int) + 1)))) }) hit'.typeIs ?_)))
 exact wpAny_pure (wpAny_pure ⟨_, rfl, wpAny_pure (q _ hit' (Heap.SameBut.update ..))⟩)
theorem raw_end {Q : Option Value → Shared → Prop} (hh : A.handled = none) (hit : s.heap.IsKeyIter it d es.size es.size ep) (hm : RawD s.heap d es ep) (q : ∀ h', Heap.ExtBut it s.heap h' → Q none { s with heap := h' }) : wpAny (model prog w) A (pyNext (.ref it)) Q E s := by
 have ty := hit.typeIs
 obtain ⟨o, ho, hc, hd⟩ := hit
 obtain ⟨od, hod, _, hdd⟩ := hm
 have own : Builtin.Dict_items.ownsTuple "dict_keyiterator" = false := by decide
 have nn : ¬ ((es.size : Int) < 0) := Int.not_lt.mpr (Int.natCast_nonneg _)
 unfold pyNext
 refine wpAny_bind (wpAny_attempt (wpAny_callSpecial?_slot (name := Str.ofString "__next__") ty F.slot_dict_keyiterator_next (wpAny_call_entry F.slot_dict_keyiterator_next ty F.entry_dict_keyiterator_next ?_ (F.args_dict_keyiterator_next_1 _))))
 refine wpAny_bind (wpAny_pure (wpAny_bind (wpAny_bind ?_)))
 first | refine wpAny_bind (wpAny_typeNameOfWhole_keyiter ty (wpAny_pure ?_)) | refine wpAny_bind (wpAny_typeNameOf_keyiter ty (wpAny_pure ?_))
 refine wpAny_bind (wpAny_fieldsOf ho hd ?_)
 simp only [own, Bool.false_eq_true, if_false]
 show wpAny _ _ (if (Value.ref d == Value.none) = true then _ else _) _ _ s
 rw [if_neg (by intro z; cases z)]
 refine wpAny_bind (wpAny_pure (wpAny_bind (wpAny_dictEntries hod hdd ?_)))
 rw [if_neg (by simp)]
 refine wpAny_bind (wpAny_pure (wpAny_bind (wpAny_dictEpoch hod hdd ?_)))
 rw [if_neg (by simp)]
 refine wpAny_pure ?_
 simp only [nn, if_false, Int.toNat_natCast, Array.getElem?_eq_none (Nat.le_refl es.size)]
 refine wpAny_bind ?_
 first | refine wpAny_bind (wpAny_typeNameOfWhole_keyiter ty (wpAny_pure ?_)) | refine wpAny_bind (wpAny_typeNameOf_keyiter ty (wpAny_pure ?_))
 refine wpAny_bind (m := setField (.ref it) 0 .none) (wpAny_setField ho hd (by simp) ?_)
 refine wpAny_bind (m := newExc (.type "StopIteration") []) ?_
 simp only [newExc, newTuple]
 refine wpAny_bind (wpAny_newObj_type (wpAny_bind (m := firstArgMember _ _) (wpAny_of_eq (a := Value.none) (by first | rfl | (simp only [firstArgMember]; rfl)) ?_)) (by size_fits))
 refine wpAny_newObj_type ?_ (by size_fits)
 simp only [raiseNew]
 refine wpAny_bind (wpAny_handled ?_)
 rw [show A.in1.handled = none from hh]
 refine wpAny_bind (wpAny_pure (wpAny_throw ?_))
 refine wpAny_bind (wpAny_isInstance (T := "StopIteration") (b := true) ⟨_, Heap.get?_push_size _ rfl, rfl⟩ isSubtype_stop ?_)
 exact wpAny_pure (q _ (((Heap.SameBut.update ..).extBut.push _).push _))
theorem raw_walks (hh : A.handled = none) (I d : Addr) (hne : d ≠ I) (es : Array DictEntry) (ep : Nat) :
  Walks prog w A I [I, d] [I] es.size (fun i v => ∃ e, es[i]? = some e ∧ v = e.key) (fun i h => h.IsKeyIter I d i es.size ep ∧ RawD h d es ep) where
 sub := fun b hb => List.mem_cons.mpr (.inl (List.mem_singleton.mp hb))
 frame := fun _ _ _ st hk => ⟨st.1.at fun o e => hk I (by simp) o e, st.2.at fun o e => hk d (by simp) o e⟩
 item := fun i s Q E hi st hQ => raw_next st.1 st.2 hi fun h' hit' sb => hQ _ h' s.toks ⟨es[i], by simp [hi], rfl⟩ ⟨hit', st.2.at fun o e => (sb.2 d hne).trans e⟩ fun b o hb e => (sb.2 b fun z => hb (by simp [z])).trans e
 done := fun s Q E st hQ => raw_end hh st.1 st.2 fun h' he' => hQ h' s.toks fun b o hb e => he' b o (fun z => hb (by simp [z])) e
 self := fun _ _ _ _ st hQ => wpAny_pyIter_keyiter st.1 hQ
theorem raw_src (lo : (d == sysModules) = false) : PySem.W.KdlSrc prog w "dict" d d es.size (fun i v => ∃ e, es[i]? = some e ∧ v = e.key) (fun h => RawD h d es ep) where
 type := fun _ hm => hm.ty
 there := fun _ hm => ⟨hm.lt, hm.lt⟩
 keep := fun _ _ hm hk => hm.at fun o e => hk d (.inl rfl) o e
 notList := by decide
 notTuple := by decide
 hint := fun _ _ _ _ hm hq => PySem.W.kdl_hint_dict hm.ty hq
 iter := fun _ _ hh hm => ⟨_, _, (fun _ _ hq => raw_iter lo hm hq), raw_walks hh _ d (Nat.ne_of_lt hm.lt) es ep, ⟨⟨_, Heap.get?_push_size _ rfl, rfl, rfl⟩, hm.at fun o e => Heap.get?_push_of_some _ e⟩⟩
end
section
variable {prog : Program} {w : World} {A : Around} {R : Result → Shared → Prop} {s : Shared}
abbrev testsOf (ifs : List Expr) (env : Env) : Sem Bool := forIn ifs true fun c r => if r = true then do let ok ← isTrue c env (eval c env); pure (ForInStep.yield ok) else pure (ForInStep.yield r)
theorem comp_loop {elt target iter : Expr} {ifs : List Expr} {scope : Scope} {pos : Pos} {it acc : Value} {env : Env} (I : Nat → Shared → Prop)
  (turn : ∀ n s, I n s → wpAny (model prog w) A (pyNext it) (fun r s₁ => match r with
   | none => R (.ok .next) s₁
   | some v => wpAny (model prog w) A (letOwnedTupleGo target it v) (fun _ s₀ => wpAny (model prog w) A (assign target env v) (fun _ s₂ =>
     wpAny (model prog w) A (testsOf ifs env) (fun ok s₃ =>
      if ok = true then wpAny (model prog w) A (eval elt env) (fun x s₄ =>
       wpAny (model prog w) A (call (.builtin "list.append") [acc, x]) (fun _ s₅ => ∃ m, m < n ∧ I m s₅) (fun _ _ => False) s₄) (fun _ _ => False) s₃
      else ∃ m, m < n ∧ I m s₃) (fun _ _ => False) s₂) (fun _ _ => False) s₀) (fun _ _ => False) s₁) (fun _ _ => False) s)
  (n : Nat) (h : I n s) : codeAny (model prog w) A (.compLoop (.ListComp elt [⟨target, iter, ifs, 0⟩] scope pos) 0 it acc env) R s := by
 refine codeAny_loop rfl I (fun n s hI => ?_) n h
 show wpAny _ A ((compTurn (.ListComp elt [⟨target, iter, ifs, 0⟩] scope pos) 0 it acc env).onRaise (fun x => do noteFrame x env; theTreesLotGoes x)) _ _ s
 refine wpAny_noted ?_
 rw [compTurn_list]
 refine wpAny_bind (wpAny_standAt (wpAny_bind (wpAny_mono (turn n s hI) (fun r s₁ h₁ => ?_) fun _ _ z => z.elim)))
 cases r with
 | none => exact wpAny_pure h₁
 | some v =>
  refine wpAny_bind (wpAny_mono h₁ (fun _ s₀ h₀ => ?_) fun _ _ z => z.elim)
  refine wpAny_bind (wpAny_mono h₀ (fun _ s₂ h₂ => wpAny_bind (wpAny_mono h₂ (fun ok s₃ h₃ => ?_) fun _ _ z => z.elim)) fun _ _ z => z.elim)
  cases ok with
  | false => exact wpAny_pure ⟨rfl, h₃⟩
  | true =>
   exact wpAny_bind (wpAny_bind (wpAny_mono h₃ (fun x s₄ h₄ => wpAny_bind (wpAny_mono h₄ (fun _ s₅ h₅ => wpAny_pure (wpAny_pure ⟨rfl, h₅⟩)) fun _ _ z => z.elim)) fun _ _ z => z.elim))
end
def PTs (X : Cx) (ifs : List Expr) (t : TT) : Prop :=
 ∀ (pins : List (Addr × Obj)) (s : Shared) (σ : St) (H : Hp) (Q : Bool → Hp → Prop), Inv X pins σ H s → t σ H Q → wpAny (model X.prog X.w) X.A (testsOf ifs X.env) (TP X pins σ Q) X.xe s
def tYes : TT := fun _ H Q => Q true H
theorem pts_nil {X : Cx} : PTs X [] tYes := fun _ _ _ H _ I h => wpAny_tests_nil ⟨H, I, h⟩
theorem pts_one {X : Cx} {c : Expr} {t : TT} (h : PT X c t) : PTs X [c] t := fun pins s σ H Q I hw => wpAny_tests_one (h pins s σ H Q I hw)
def tCompG (wi : TI) (g : TG) (tt : TT) (te : TE) (n : Nat) (js : List Nat) : TE := fun σ H Q => wi σ H fun J H1 => ∀ D, H1 D = none → ∃ (N : Nat) (W : Nat → List V → Hp → Prop), W 0 [] (upd H1 D (.lst [])) ∧ ∀ i ys H2, W i ys H2 →
 (J.stop i H2 ∧ Q (.ref D) H2) ∨ (i < N ∧ J.go i H2 ∧ ∀ v H3, J.yld i H2 v H3 → g v (List.replicate n none ++ caps js σ) H3 fun σ2 H4 => (σ2.length = n + js.length ∧ σ2.drop n = caps js σ) ∧ tt σ2 H4 fun b H5 =>
  if b = true then te σ2 H5 fun y H6 => H6 D = some (.lst ys) ∧ ys.length < sizeLine ∧ W (i + 1) (ys ++ [y]) (upd H6 D (.lst (ys ++ [y]))) else W (i + 1) ys H5)
section
variable {X : Cx}
theorem Inv.but {pins : List (Addr × Obj)} {σ : St} {H : Hp} {s : Shared} {C : Addr} {h' : Heap} (I : Inv X pins σ H s) (f : FpOk X pins H C) (hs : Heap.SameBut C s.heap h') : Inv X pins σ H { s with heap := h' } := by
 have ne : ∀ b, b ∉ [C] → b ≠ C := fun b hb z => hb (by rw [z]; exact .head _)
 refine I.call' (s' := { s with heap := h' }) (ch := [C]) rfl ⟨fun b o e n hb hx => (hs.2 b (ne b hx)).trans e, fun b o e n hb hx => ⟨o.slots, (hs.2 b (ne b hx)).trans e⟩, fun b o e n hx => n, fun b o e hx => ⟨o, (hs.2 b (ne b hx)).trans e⟩, fun b xs e => e, fun b o u e => e, fun b ps e => ⟨#[], by rw [Array.append_empty]; exact e⟩⟩ (hok_keep I.hok fun b o nn e => (hs.2 b (fun z => nn (by rw [z]; exact f.1))).trans e) I.bare fun b hb => ?_
 rw [List.mem_singleton.mp hb]
 exact ⟨f.2.2.2.1, f.2.1, f.2.2.2.2.1, f.2.2.2.2.2⟩
set_option maxHeartbeats 8000000 in
theorem comp_core {elt iter tg : Expr} {pos : Pos} {scope : Scope} {ifs : List Expr} {wi : TI} {g : TG} {tt : TT} {te : TE} {xs ys : List Str} {js : List Nat} {cl : List (Str × Addr)} (hc : X.calm = true) (hi : PI X tg iter wi)
  (hcl : ClOk X scope cl) (hcap : CapOk X scope cl ys js) (hcell : ∀ y ∈ scope.names, y.2 ≠ .cell) (hkind : scope.kind = .function) (hnames : ∀ y ∈ scope.names, y.2 = .local → scope.names.lookup y.1 = some .local)
  (hg : ∀ C s₀ H₀ ex pn, PG (blockCx X scope cl C (xs ++ ys) s₀ H₀ ex pn) tg g) (ht : ∀ C s₀ H₀ ex pn, PTs (blockCx X scope cl C (xs ++ ys) s₀ H₀ ex pn) ifs tt) (hb : ∀ C s₀ H₀ ex pn, PE (blockCx X scope cl C (xs ++ ys) s₀ H₀ ex pn) elt te)
  (hs : ∀ x, foldedSetIterable iter X.env x = pure x) {use : Option (Value → Sem Unit)} {QQ : Value → Shared → Prop} {Q : VK} {pins : List (Addr × Obj)} {s : Shared} {σ : St} {H : Hp} {cp : Pos} (I : Inv X pins σ H s)
  (hfin : ∀ (C D : Addr) (s' : Shared) (H' : Hp), Inv X pins σ H' s' → FpOk X pins H' C → (∃ m, s'.heap.Ns C m) → Q (.ref D) H' → compPost (model X.prog X.w) X.A X.xe use QQ (.ref D) C (.ok .next) s')
  (h : tCompG wi g tt te xs.length js σ H Q) :
  wpAny (model X.prog X.w) X.A (comprehension (.ListComp elt [⟨tg, iter, ifs, 0⟩] scope pos) scope X.env cp (newList []) false (eval iter X.env) use) QQ X.xe s := by
 refine wpAny_comprehension_free rfl hs hcl.clos hkind hnames (thn (hi pins s σ H _ I h) fun v s1 h1 => thn h1 fun itv s2 h2 => ?_)
 obtain ⟨it, fp, tn, J, H2, e, I2, T, st2, f2, q2⟩ := h2
 subst e
 obtain ⟨n, W, w0, turn⟩ := q2 s2.heap.objs.size I2.fresh
 refine wpAny_newObj_type (wpAny_newFunctionEnv hcell (by intro y hy; simp at hy) (fun h₁ hns₁ hsb₁ => ?_) hkind)
 dsimp only at hns₁ hsb₁ ⊢
 have I3 := I2.lnew (ys := []) (its := []) (t' := s2.toks) .nil (Nat.zero_le _)
 generalize hg3 : s2.heap.push { cls := .type "list", dict := none, data := .seq ([] : List Value).toArray } = g3 at hns₁ hsb₁ I3 ⊢
 have sz3 : g3.objs.size = s2.heap.objs.size + 1 := by rw [← hg3, Heap.size_push]
 generalize hC : g3.objs.size = C at hns₁ hsb₁ ⊢
 have old3 : ∀ b o, g3.get? b = some o → h₁.get? b = some o := fun b o q => hsb₁.extBut b o (by rw [← hC]; exact Nat.ne_of_lt (Heap.lt_size q)) (Heap.get?_push_of_some _ q)
 have old2 : ∀ b o, s2.heap.get? b = some o → g3.get? b = some o := fun b o q => by rw [← hg3]; exact Heap.get?_push_of_some _ q
 have fpl : ∀ b ∈ fp, ∃ o, s2.heap.get? b = some o ∧ ∀ v, o.data ≠ .cell v := T.obj _ _ st2
 have fplt : ∀ b ∈ fp, b < s2.heap.objs.size := fun b hb => by obtain ⟨o, q, _⟩ := fpl b hb; exact Heap.lt_size q
 have H3n : ∀ b, b ≠ s2.heap.objs.size → upd H2 s2.heap.objs.size (.lst []) b = H2 b := fun b hb => upd_ne hb
 have fp3 : ∀ b ∈ fp, upd H2 s2.heap.objs.size (.lst []) b = none := fun b hb => by rw [H3n b (Nat.ne_of_lt (fplt b hb))]; exact (f2 b hb).1
 have okX := I3.ok
 have inj : ∀ y z c, cl.lookup y = some c → cl.lookup z = some c → y = z := fun y z c h1 h2 => okX.inj y z c (hcl.sub y c h1) (hcl.sub z c h2)
 have cellE : ∀ y c, cl.lookup y = some c → ∃ v, g3.IsCell c v := fun y c q => I3.cell y c (hcl.sub y c q)
 have st3 : g3.FunFrames X.base X.stack := I3.stack
 have exlt : ∀ b ∈ fp, b ≠ C := fun b hb => by rw [← hC, sz3]; exact Nat.ne_of_lt (Nat.lt_succ_of_lt (fplt b hb))
 have frlt : ∀ b ∈ frs X.stack, b < g3.objs.size := fun b hb => by obtain ⟨_, o, q, _⟩ := st3.mem hb; exact Heap.lt_size q
 have okB : (blockCx X scope cl C (xs ++ ys) { s2 with heap := g3 } (upd H2 s2.heap.objs.size (.lst [])) fp (X.pn ++ pins)).Ok := by
  refine ⟨okX.mod, hkind, okX.glob, okX.blt, Nat.le_of_eq hC, inj, fun y hy => hcl.has y hy, (fun y c hf _ => nomatch hf), okX.hd, okX.frames, .inl rfl, fun b hb => ⟨exlt b hb, fun y c q z => ?_⟩, I3.bs, Nat.le_trans okX.bsz I3.sz, fun b o q hb => ?_, fun b hb => ?_, st3, I3.stkFree⟩
  ·subst z
   exact (f2 c hb).2.2.2.2.1 y c (hcl.sub y c q) rfl
  ·rcases (f2 b hb).2.2.2.1 with z | z
   ·exact okX.noex b o q z
   ·have := Heap.lt_size (okX.bs b o q).1
    exact absurd (Nat.lt_of_lt_of_le this z) (Nat.lt_irrefl _)
  ·intro hz
   rcases List.mem_cons.mp (I3.stkSub b hz) with z | z
   ·exact (f2 b hb).2.1 z
   ·exact (f2 b hb).2.2.1 z
 have tot : ∀ tk : Nat, Inv (blockCx X scope cl C (xs ++ ys) { s2 with heap := g3 } (upd H2 s2.heap.objs.size (.lst [])) fp (X.pn ++ pins)) [] (List.replicate xs.length none ++ caps js σ) (upd H2 s2.heap.objs.size (.lst [])) { s2 with heap := h₁, toks := tk } := fun tk => by
  refine ⟨okB, rfl, I3.bare, Un.kept old3, ⟨_, hns₁, fun i y v' e1 e2 e3 => ?_⟩, fun y c q => ?_, I3.hok.fresh (Nat.le_of_eq hC), fun y c q => ?_, fun p hp => ?_, I3.hok.kept old3, ?_⟩
  ·by_cases hix : i < xs.length
   ·rw [List.getElem?_append_left (by rw [List.length_replicate]; exact hix), List.getElem?_replicate] at e2
    split at e2 <;> cases e2
   ·have hix' : xs.length ≤ i := by lia
    obtain ⟨k, rfl⟩ : ∃ k, i = xs.length + k := ⟨i - xs.length, by lia⟩
    have e1' : ys[k]? = some y := by
     rw [List.getElem?_append_right (by lia)] at e1
     simpa using e1
    have e2' : (caps js σ)[k]? = some (some v') := by
     rw [List.getElem?_append_right (by rw [List.length_replicate]; lia), List.length_replicate] at e2
     simpa using e2
    unfold caps at e2'
    rw [List.getElem?_map] at e2'
    cases ej : js[k]? with
    | none => rw [ej] at e2'; cases e2'
    | some j =>
     rw [ej] at e2'
     have e2'' : (σ[j]?).getD none = some v' := Option.some.inj e2'
     have eσ : σ[j]? = some (some v') := by
      cases es : σ[j]? with
      | none => rw [es] at e2''; cases e2''
      | some z => rw [es] at e2''; have : z = some v' := e2''; rw [this]
     obtain ⟨c1, c2, c3, c4, c5⟩ := hcap.at_ k y j e1' ej
     obtain ⟨m0, hn0, hl0⟩ := I3.loc
     obtain ⟨u, r, l⟩ := hl0 j y v' c1 eσ (c2.elim (fun z => .inr (.inl z)) fun z => .inr (.inr z))
     refine ⟨u, r, .inr ⟨c3, ?_⟩⟩
     rcases l with ⟨l, _⟩ | ⟨_, c, hcc, z⟩
     ·rcases c2 with c2 | c2
      ·rw [c2] at l; cases l
      ·rw [c2] at l; cases l
     ·obtain ⟨o, ho, hd⟩ := z
      exact ⟨c, c5.trans hcc, o, old3 c o ho, hd⟩
  ·obtain ⟨v0, o, ho, hd⟩ := cellE y c q
   exact ⟨v0, o, old3 c o ho, hd⟩
  ·exact I3.freeC y c (hcl.sub y c q)
  ·have hp' : p ∈ X.pn ++ pins := by simpa using hp
   obtain ⟨p1, p2, p3, p4, p5⟩ := I3.pin p hp'
   refine ⟨old3 _ _ p1, p2, ?_, fun hz => ?_, p5⟩
   ·show p.1 ≠ C
    rw [← hC]
    exact Nat.ne_of_lt (Heap.lt_size p1)
   ·rcases List.mem_cons.mp (I3.stkSub p.1 hz) with z | z
    ·exact p3 z
    ·exact p4 z
  ·show (List.replicate xs.length none ++ caps js σ).length = (xs ++ ys).length
   unfold caps
   simp [hcap.len]
 have fpB : ∀ {H' : Hp}, (∀ b ∈ fp, H' b = none) → ∀ b ∈ fp, FpOk (blockCx X scope cl C (xs ++ ys) { s2 with heap := g3 } (upd H2 s2.heap.objs.size (.lst [])) fp (X.pn ++ pins)) [] H' b := fun hn b hb =>
  ⟨hn b hb, exlt b hb, okB.exfs b hb, .inl hb, (okB.exf b hb).2, fun p hp => (f2 b hb).2.2.2.2.2 p (by simpa using hp)⟩
 have fin : ∀ s' : Shared, (∃ i zs σ' H', Inv (blockCx X scope cl C (xs ++ ys) { s2 with heap := g3 } (upd H2 s2.heap.objs.size (.lst [])) fp (X.pn ++ pins)) [] σ' H' s' ∧ W i zs H' ∧ J.stop i H' ∧ Q (.ref s2.heap.objs.size) H') →
   compPost (model X.prog X.w) X.A X.xe use QQ (.ref s2.heap.objs.size) C (.ok .next) s' := by
  rintro s' ⟨i, zs, σ', H', Ib, w, stop, q⟩
  obtain ⟨m', hn', _⟩ := Ib.loc
  have ub := Ib.base
  have un : Un (frs X.stack) fp (upd H2 s2.heap.objs.size (.lst [])) H' g3 s'.heap := ub
  have IX : Inv X pins σ H' s' := I3.call' (s' := s') (ch := fp) Ib.os un Ib.hok Ib.bare fun b hb => ⟨(f2 b hb).2.2.2.1, (f2 b hb).2.1, (f2 b hb).2.2.2.2.1, (f2 b hb).2.2.2.2.2⟩
  exact hfin C _ s' H' IX (I3.fpOk (Nat.le_of_eq hC) Ib.free) ⟨m', hn'⟩ q
 have loop : ∀ s₃ : Shared, (∃ tk, s₃ = { s2 with heap := h₁, toks := tk }) →
   codeAny (model X.prog X.w) X.A (.compLoop (.ListComp elt [⟨tg, iter, ifs, 0⟩] scope pos) 0 (.ref it) (.ref s2.heap.objs.size) (compEnvC scope cl C X.env)) (compPost (model X.prog X.w) X.A X.xe use QQ (.ref s2.heap.objs.size) C) s₃ := by
  rintro s₃ ⟨tk, rfl⟩
  refine comp_loop (fun k s' => ∃ i zs H', k = n + 1 - i ∧ i ≤ n ∧ Inv (blockCx X scope cl C (xs ++ ys) { s2 with heap := g3 } (upd H2 s2.heap.objs.size (.lst [])) fp (X.pn ++ pins)) [] (List.replicate xs.length none ++ caps js σ) H' s' ∧ tn i s'.heap ∧ (∀ b ∈ fp, H' b = none) ∧ W i zs H')
   ?_ (n + 1) ⟨0, [], _, rfl, Nat.zero_le _, tot tk, T.keep _ _ _ st2 fun b hb o q => old3 b o (old2 b o q), fp3, w0⟩
  rintro k s' ⟨i, zs, H', rfl, hin, Ib, st, fr, w⟩
  rcases turn i zs H' w with ⟨stop, qq⟩ | ⟨hlt, go, step⟩
  ·refine wpAny_mono (T.done (blockCx X scope cl C (xs ++ ys) { s2 with heap := g3 } (upd H2 s2.heap.objs.size (.lst [])) fp (X.pn ++ pins)) rfl rfl rfl hc i [] s' _ H' (fun _ _ => False) Ib (fpB fr) st stop) (?_) fun _ _ z => z.elim
   rintro r s4 ⟨hr, I4⟩
   subst hr
   exact fin s4 ⟨i, zs, _, H', I4, w, stop, qq⟩
  ·refine wpAny_mono (T.item (blockCx X scope cl C (xs ++ ys) { s2 with heap := g3 } (upd H2 s2.heap.objs.size (.lst [])) fp (X.pn ++ pins)) rfl rfl rfl hc i [] s' _ H' (fun _ _ => False) Ib (fpB fr) st go) (?_) fun _ _ z => z.elim
   rintro r s4 ⟨u, hr, h4⟩
   subst hr
   refine wpAny_mono h4 (?_) fun _ _ z => z.elim
   rintro _ s5 ⟨v5, H5, I5, r5, y5, st5, fr5⟩
   have I5' := I5.pinned (fpB fr5) (T.obj _ _ st5)
   have hw5 := step v5 H5 y5
   refine wpAny_mono (hg C _ _ fp (X.pn ++ pins) _ s5 _ H5 v5 u _ I5' r5 hw5) (?_) fun _ _ z => z.elim
   rintro _ s6 ⟨σ6, H6, I6, ⟨hl6, hd6⟩, e6⟩
   have back : ∀ {H' : Hp} {s' : Shared} {pins' : List (Addr × Obj)}, Inv (blockCx X scope cl C (xs ++ ys) { s2 with heap := g3 } (upd H2 s2.heap.objs.size (.lst [])) fp (X.pn ++ pins)) pins' σ6 H' s' → Inv (blockCx X scope cl C (xs ++ ys) { s2 with heap := g3 } (upd H2 s2.heap.objs.size (.lst [])) fp (X.pn ++ pins)) pins' (List.replicate xs.length none ++ caps js σ) H' s' := fun I' => by
    refine I'.weak ?_ fun j v' e => ?_
    ·rw [hl6]; unfold caps; simp
    ·by_cases hj : j < xs.length
     ·rw [List.getElem?_append_left (by rw [List.length_replicate]; exact hj), List.getElem?_replicate] at e
      split at e <;> cases e
     ·rw [List.getElem?_append_right (by rw [List.length_replicate]; lia), List.length_replicate, ← hd6, List.getElem?_drop] at e
      rw [← e]
      congr 1
      lia
   refine wpAny_mono (ht C _ _ fp (X.pn ++ pins) _ s6 _ _ _ I6 e6) (?_) fun _ _ z => z.elim
   rintro ok s6b ⟨H6b, I6b, e6b⟩
   cases ok with
   | false =>
    rw [if_neg Bool.false_ne_true]
    have e6c : W (i + 1) zs H6b := by simpa using e6b
    have I8 := back I6b
    refine ⟨n + 1 - (i + 1), by lia, i + 1, zs, _, rfl, hlt, I8.unpinned (pins := []), ?_, fun b hb => ?_, e6c⟩
    ·exact T.keep _ _ _ st5 fun b hb o q => (I8.pin (b, o) (List.mem_append_right _ (List.mem_append_right _ (mem_pinsAt hb q)))).1
    ·obtain ⟨o, q, d⟩ := T.obj _ _ st5 b hb
     exact (I8.pin (b, o) (List.mem_append_right _ (List.mem_append_right _ (mem_pinsAt hb q)))).2.1
   | true =>
    rw [if_pos rfl]
    have e6c := e6b
    rw [if_pos rfl] at e6c
    refine wpAny_mono (hb C _ _ fp (X.pn ++ pins) _ s6b _ _ _ I6b e6c) (?_) fun _ _ z => z.elim
    rintro y s7 ⟨yv, H7, I7, r7, hD, hz, w7⟩
    obtain ⟨z7, its, n7, rv7, hl7, e7⟩ := I7.lstM hD
    refine append_at (n := n7) (its := its.toArray) e7 (fun h₈ sb8 eD8 => ?_) (by rw [List.size_toArray, ← hl7]; exact Nat.le_of_lt hz)
    have I8 : Inv _ _ _ (upd H7 s2.heap.objs.size (.lst (zs ++ [yv]))) { s7 with heap := h₈, toks := s7.toks } := I7.write (x := s2.heap.objs.size) (e := s2.heap.objs.size) (by rw [hD]; exact trivial) (.inl rfl) (fun b u hb q => (sb8.2 b hb).trans q) ⟨_, eD8⟩
     ⟨by rw [List.length_append]; exact hz, its ++ [y], n7 + 1, rv7.append (.cons r7 .nil), by rw [eD8, List.push_toArray]⟩
    have I9 := back I8
    refine ⟨n + 1 - (i + 1), by lia, i + 1, zs ++ [yv], _, rfl, hlt, I9.unpinned (pins := []), ?_, fun b hb => ?_, w7⟩
    ·exact T.keep _ _ _ st5 fun b hb o q => (I8.pin (b, o) (List.mem_append_right _ (List.mem_append_right _ (mem_pinsAt hb q)))).1
    ·obtain ⟨o, q, d⟩ := T.obj _ _ st5 b hb
     exact (I8.pin (b, o) (List.mem_append_right _ (List.mem_append_right _ (mem_pinsAt hb q)))).2.1
 exact codeAny_compStart_list (loop _ ⟨_, rfl⟩) (T.self _ 0 _ _ _ (T.keep _ _ _ st2 fun b hb o q => old3 b o (old2 b o q)) (loop _ ⟨_, rfl⟩))
theorem pe_compG {elt iter tg : Expr} {pos : Pos} {scope : Scope} {ifs : List Expr} {wi : TI} {g : TG} {tt : TT} {te : TE} {xs ys : List Str} {js : List Nat} {cl : List (Str × Addr)} (hc : X.calm = true) (hi : PI X tg iter wi)
  (hcl : ClOk X scope cl) (hcap : CapOk X scope cl ys js) (hcell : ∀ y ∈ scope.names, y.2 ≠ .cell) (hkind : scope.kind = .function) (hnames : ∀ y ∈ scope.names, y.2 = .local → scope.names.lookup y.1 = some .local)
  (hg : ∀ C s₀ H₀ ex pn, PG (blockCx X scope cl C (xs ++ ys) s₀ H₀ ex pn) tg g) (ht : ∀ C s₀ H₀ ex pn, PTs (blockCx X scope cl C (xs ++ ys) s₀ H₀ ex pn) ifs tt) (hb : ∀ C s₀ H₀ ex pn, PE (blockCx X scope cl C (xs ++ ys) s₀ H₀ ex pn) elt te)
  (hs : ∀ x, foldedSetIterable iter X.env x = pure x := by intro _; rfl) :
  PE X (.ListComp elt [⟨tg, iter, ifs, 0⟩] scope pos) (tCompG wi g tt te xs.length js) := by
 intro pins s σ H Q I h
 rw [eval_ListComp]
 exact comp_core hc hi hcl hcap hcell hkind hnames hg ht hb hs (use := none) (QQ := EP X pins σ Q) (Q := Q) I (by rintro C D s' H' IX f ⟨m, hn⟩ q; exact ⟨m, hn, fun h' hs' => ⟨.ref D, H', IX.but f hs', rfl, q⟩⟩) h
theorem ps_compG {elt iter tg : Expr} {pos py spos : Pos} {scope : Scope} {ifs : List Expr} {wi : TI} {g : TG} {tt : TT} {te : TE} {xs ys : List Str} {js : List Nat} {cl : List (Str × Addr)} {i : Nat} {y : Str} (hN : X.N.Nodup) (hiN : X.N[i]? = some y) (hx : Loc X.env.scope y) (hc : X.calm = true) (hi : PI X tg iter wi)
  (hcl : ClOk X scope cl) (hcap : CapOk X scope cl ys js) (hcell : ∀ y ∈ scope.names, y.2 ≠ .cell) (hkind : scope.kind = .function) (hnames : ∀ y ∈ scope.names, y.2 = .local → scope.names.lookup y.1 = some .local)
  (hg : ∀ C s₀ H₀ ex pn, PG (blockCx X scope cl C (xs ++ ys) s₀ H₀ ex pn) tg g) (ht : ∀ C s₀ H₀ ex pn, PTs (blockCx X scope cl C (xs ++ ys) s₀ H₀ ex pn) ifs tt) (hb : ∀ C s₀ H₀ ex pn, PE (blockCx X scope cl C (xs ++ ys) s₀ H₀ ex pn) elt te)
  (hsw : swapsWith (.ListComp elt [⟨tg, iter, ifs, 0⟩] scope pos) (some (.Name y py)) spos.line X.env = pure true) (hs : ∀ x, foldedSetIterable iter X.env x = pure x := by intro _; rfl)
  (hf : X.fn y = true ∨ X.env.scope.names.lookup y = some .local := by first | exact .inl rfl | exact .inr rfl | assumption) :
  PS X (.Assign [.Name y py] (.ListComp elt [⟨tg, iter, ifs, 0⟩] scope pos) spos) (tAsg (tCompG wi g tt te xs.length js) (gName i)) := by
 intro pins s σ H D I h
 rw [exec_Assign_Name_used _ _ _ _ hsw]
 refine wpAny_bind (wpAny_standAt (wpAny_bind ?_))
 show wpAny _ X.A (do let _ ← comprehension (.ListComp elt [⟨tg, iter, ifs, 0⟩] scope pos) scope X.env _ (newList []) false (eval iter X.env) (some (assign (.Name y py) X.env))) _ _ s
 refine wpAny_bind (wpAny_mono (comp_core hc hi hcl hcap hcell hkind hnames hg ht hb hs (use := some (assign (.Name y py) X.env)) (QQ := fun _ s' => ∃ σ' H', Inv X pins σ' H' s' ∧ D.nx σ' H') I (?_) h) (fun _ s' hq => wpAny_pure (wpAny_pure hq)) fun _ _ e => e)
 rintro C L s' H' IX f ⟨m, hn⟩ q
 obtain ⟨o, es, ep, ho, hd, hr⟩ := id hn
 have IP := IX.pinned (fp := [C]) (fun b hb => by rw [List.mem_singleton.mp hb]; exact f) (fun b hb => by rw [List.mem_singleton.mp hb]; exact ⟨o, ho, fun v z => by rw [hd] at z; cases z⟩)
 refine wpAny_mono (pg_name (pos := py) hN hiN hx hf _ s' σ H' (.ref L) (.ref L) _ IP rfl q) (?_) fun _ _ e => e
 rintro _ s2 ⟨σ2, H2, I2, q2⟩
 have pc := I2.pin (C, o) (List.mem_append_right _ (List.mem_append_right _ (mem_pinsAt (.head _) ho)))
 exact ⟨m, ⟨o, es, ep, pc.1, hd, hr⟩, fun h' hs' => ⟨σ2, H2, (I2.unpinned (pins := pins)).but ⟨pc.2.1, f.2⟩ hs', q2⟩⟩
end
end L2

namespace M
open PySem PySem.Spec PyProof.Rows L2
abbrev D := PyData
inductive Res (α : Type) where
 | ok (a : α)
 | exc (C : Addr)
 | bad
def Res.bind {α β : Type} (r : Res α) (f : α → Res β) : Res β := match r with
 | .ok a => f a
 | .exc C => .exc C
 | .bad => .bad
def wpR {α : Type} (r : Res α) (Q : α → Prop) (E : Addr → Prop) : Prop := match r with
 | .ok a => Q a
 | .exc C => E C
 | .bad => False
theorem wpR_bind {α β : Type} {r : Res α} {f : α → Res β} {Q : β → Prop} {E : Addr → Prop} : wpR (r.bind f) Q E = wpR r (fun a => wpR (f a) Q E) E := by cases r <;> rfl
theorem wpR_mono {α : Type} {r : Res α} {Q Q' : α → Prop} {E E' : Addr → Prop} (h : wpR r Q E) (hQ : ∀ a, Q a → Q' a) (hE : ∀ C, E C → E' C) : wpR r Q' E' := by
 cases r with
 | ok a => exact hQ a h
 | exc C => exact hE C h
 | bad => exact h
inductive L where
 | p (d : D)
 | o (d : D)
 | x (C : Addr)
 | h (a : Addr)
inductive Ev where
 | p (d : D)
 | f (d : D)
 | b (d : D)
 | x (C : Addr)
def Ev.c : Ev → Ev
 | .f d => .p d
 | r => r
abbrev En := List (Option L)
def kD : Key → D
 | .inl i => .int i
 | .inr x => .str x
def tkD (ks : List Key) : D := .tuple (ks.map kD)
mutual
inductive Rep (K : PySem.W.Frag) (G : Hp) : V → D → Prop
 | non : Rep K G .non .none
 | bl (b : Bool) : Rep K G (.bl b) (.bool b)
 | int (i : Int) : Rep K G (.int i) (.int i)
 | str (x : Str) : Rep K G (.str x) (.str x)
 | tup {a : Addr} {xs : List V} {ds : List D} : G a = some (.tup xs) → Reps K G xs ds → Rep K G (.ref a) (.tuple ds)
 | lst {a : Addr} {xs : List V} {ds : List D} : Rd G a (.lst xs) → Reps K G xs ds → Rep K G (.ref a) (.list ds)
 | dT {a : Addr} {kv : List (List Key × V)} {kvs : List (D × D)} : G a = some (.dT kv) → RepT K G kv kvs → Rep K G (.ref a) (.dict kvs)
 | dK {a : Addr} {kv : List (Key × V)} {kvs : List (D × D)} : G a = some (.dK kv) → RepK K G kv kvs → Rep K G (.ref a) (.dict ((.none, .none) :: kvs))
inductive Reps (K : PySem.W.Frag) (G : Hp) : List V → List D → Prop
 | nil : Reps K G [] []
 | cons {x : V} {xs : List V} {d : D} {ds : List D} : Rep K G x d → Reps K G xs ds → Reps K G (x :: xs) (d :: ds)
inductive RepT (K : PySem.W.Frag) (G : Hp) : List (List Key × V) → List (D × D) → Prop
 | nil : RepT K G [] []
 | cons {k : List Key} {x : V} {d : D} {kv : List (List Key × V)} {kvs : List (D × D)} : Rep K G x d → RepT K G kv kvs → RepT K G ((k, x) :: kv) ((tkD k, d) :: kvs)
inductive RepK (K : PySem.W.Frag) (G : Hp) : List (Key × V) → List (D × D) → Prop
 | nil : RepK K G [] []
 | cons {k : Key} {x : V} {d : D} {kv : List (Key × V)} {kvs : List (D × D)} : Rep K G x d → RepK K G kv kvs → RepK K G ((k, x) :: kv) ((kD k, d) :: kvs)
end
inductive Cont (K : PySem.W.Frag) (G : Hp) : HO → D → Prop
 | lst {xs : List V} {ds : List D} : Reps K G xs ds → Cont K G (.lst xs) (.list ds)
 | dT {kv : List (List Key × V)} {kvs : List (D × D)} : RepT K G kv kvs → Cont K G (.dT kv) (.dict kvs)
 | dK {kv : List (Key × V)} {kvs : List (D × D)} : RepK K G kv kvs → Cont K G (.dK kv) (.dict ((.none, .none) :: kvs))
section
variable {K : PySem.W.Frag} {G G' H H' : Hp}
theorem rd_mono {a : Addr} {u : HO} (s : Same G G') (h : Rd G a u) : Rd G' a u := by
 rcases h with h | ⟨o, h⟩
 ·exact .inl (s _ _ h)
 ·exact .inr ⟨o, s _ _ h⟩
mutual
theorem Rep.mono (s : Same G G') : ∀ {v : V} {d : D}, Rep K G v d → Rep K G' v d
 | _, _, .non => .non
 | _, _, .bl b => .bl b
 | _, _, .int i => .int i
 | _, _, .str x => .str x
 | _, _, .tup h r => .tup (s _ _ h) (Reps.mono s r)
 | _, _, .lst h r => .lst (rd_mono s h) (Reps.mono s r)
 | _, _, .dT h r => .dT (s _ _ h) (RepT.mono s r)
 | _, _, .dK h r => .dK (s _ _ h) (RepK.mono s r)
theorem Reps.mono (s : Same G G') : ∀ {v : List V} {d : List D}, Reps K G v d → Reps K G' v d
 | _, _, .nil => .nil
 | _, _, .cons h r => .cons (Rep.mono s h) (Reps.mono s r)
theorem RepT.mono (s : Same G G') : ∀ {v : List (List Key × V)} {d : List (D × D)}, RepT K G v d → RepT K G' v d
 | _, _, .nil => .nil
 | _, _, .cons h r => .cons (Rep.mono s h) (RepT.mono s r)
theorem RepK.mono (s : Same G G') : ∀ {v : List (Key × V)} {d : List (D × D)}, RepK K G v d → RepK K G' v d
 | _, _, .nil => .nil
 | _, _, .cons h r => .cons (Rep.mono s h) (RepK.mono s r)
end
theorem Cont.mono (s : Same G G') {o : HO} {d : D} (h : Cont K G o d) : Cont K G' o d := by
 cases h with
 | lst r => exact .lst (r.mono s)
 | dT r => exact .dT (r.mono s)
 | dK r => exact .dK (r.mono s)
theorem Cont.rep {a : Addr} {o : HO} {d : D} (h : Cont K G o d) (e : G a = some o) : Rep K G (.ref a) d := by
 cases h with
 | lst r => exact .lst (.inl e) r
 | dT r => exact .dT e r
 | dK r => exact .dK e r
theorem Reps.length : ∀ {xs : List V} {ds : List D}, Reps K G xs ds → xs.length = ds.length
 | _, _, .nil => rfl
 | _, _, .cons _ r => by rw [List.length_cons, List.length_cons, Reps.length r]
theorem Reps.get' : ∀ {xs : List V} {ds : List D} {i : Nat} {d : D}, Reps K G xs ds → ds[i]? = some d → ∃ x, xs[i]? = some x ∧ Rep K G x d
 | _, _, _, _, .nil, e => by simp at e
 | _, _, 0, _, .cons h _, e => by simp at e; subst e; exact ⟨_, rfl, h⟩
 | _, _, i + 1, _, .cons _ r, e => by
  have := Reps.get' (i := i) r (by simpa using e)
  simpa using this
theorem Reps.append : ∀ {xs ys : List V} {ds es : List D}, Reps K G xs ds → Reps K G ys es → Reps K G (xs ++ ys) (ds ++ es)
 | _, _, _, _, .nil, r => r
 | _, _, _, _, .cons h t, r => .cons h (Reps.append t r)
theorem Reps.take : ∀ {xs : List V} {ds : List D} (n : Nat), Reps K G xs ds → Reps K G (xs.take n) (ds.take n)
 | _, _, 0, _ => .nil
 | _, _, _ + 1, .nil => .nil
 | _, _, n + 1, .cons h t => .cons h (Reps.take n t)
theorem Reps.drop : ∀ {xs : List V} {ds : List D} (n : Nat), Reps K G xs ds → Reps K G (xs.drop n) (ds.drop n)
 | _, _, 0, r => r
 | _, _, _ + 1, .nil => .nil
 | _, _, n + 1, .cons _ t => Reps.drop n t
end
structure Step (G H G' H' : Hp) : Prop where
 g : Same G G'
 h : Same H H'
 gh : Same G' H'
 new : ∀ b, H b ≠ none → G b = none → G' b = none ∨ ∃ xs, H b = some (.tup xs)
theorem Step.off {G H G' H' : Hp} (s : Step G H G' H') {b : Addr} {o : HO} (h : H b = some o) (n : ∀ xs, o ≠ .tup xs) (g : G b = none) : G' b = none := by
 rcases s.new b (by rw [h]; exact fun z => nomatch z) g with z | ⟨xs, z⟩
 ·exact z
 ·rw [h] at z; exact absurd (Option.some.inj z) (n xs)
theorem same_ne {H H' : Hp} (s : Same H H') {b : Addr} (h : H b ≠ none) : H' b ≠ none := by
 cases e : H b with
 | none => exact absurd e h
 | some o => rw [s b o e]; exact fun z => nomatch z
theorem Step.refl {G H : Hp} (s : Same G H) : Step G H G H := ⟨Same.refl _, Same.refl _, s, fun _ _ h => .inl h⟩
theorem Step.trans {G H G1 H1 G2 H2 : Hp} (a : Step G H G1 H1) (b : Step G1 H1 G2 H2) : Step G H G2 H2 :=
 ⟨a.g.trans b.g, a.h.trans b.h, b.gh, fun c hc hg => by
  rcases a.new c hc hg with z | z
  ·rcases b.new c (same_ne a.h hc) z with y | ⟨xs, y⟩
   ·exact .inl y
   ·cases e : H c with
    | none => exact absurd e hc
    | some o =>
     rw [a.h _ _ e] at y
     exact .inr ⟨xs, y⟩
  ·exact .inr z⟩
theorem Step.put {G H : Hp} {a : Addr} {o : HO} (s : Same G H) (e : H a = none) : Step G H (upd G a o) (upd H a o) :=
 ⟨Same.upd (Same.refl _) (s.free e) o, Same.upd (Same.refl _) e o, fun b u q => by
  by_cases z : b = a
  ·subst z; rw [upd_same] at q ⊢; exact q
  ·rw [upd_ne z] at q ⊢; exact s b u q, fun b hb hg => by
  have z : b ≠ a := fun z => hb (z ▸ e)
  rw [upd_ne z]; exact .inl hg⟩
theorem Step.lay {G H : Hp} {a : Addr} {o : HO} (s : Same G H) (e : H a = none) : Step G H G (upd H a o) :=
 ⟨Same.refl _, Same.upd (Same.refl _) e o, Same.upd s e o, fun _ _ h => .inl h⟩
def EOk (K : PySem.W.Frag) (W : Addr → Option Nat) (Hs G H : Hp) (v : V) : Ev → Prop
 | .p d => Rep K G v d
 | .f d => ∃ a o, v = .ref a ∧ Hs a = none ∧ G a = none ∧ H a = some o ∧ Cont K G o d
 | .b d => ∃ a i o, v = .ref a ∧ W a = some i ∧ H a = some o ∧ Cont K G o d
 | .x C => ∃ e, v = .ref e ∧ G e = some (excO e (.ref C))
theorem EOk.step {K : PySem.W.Frag} {W : Addr → Option Nat} {Hs Hs' G H G' H' : Hp} {v : V} {r : Ev} (h : EOk K W Hs G H v r.c) (s : Step G H G' H') : EOk K W Hs' G' H' v r.c := by
 cases r with
 | p d => exact Rep.mono s.g h
 | f d => exact Rep.mono s.g h
 | b d =>
  obtain ⟨a, i, o, h1, h2, h3, h4⟩ := h
  exact ⟨a, i, o, h1, h2, s.h _ _ h3, h4.mono s.g⟩
 | x C =>
  obtain ⟨e, h1, h2⟩ := h
  exact ⟨e, h1, s.g _ _ h2⟩
theorem EOk.c {K : PySem.W.Frag} {W : Addr → Option Nat} {G H G1 H1 : Hp} {v : V} {r : Ev} (s : Step G H G1 H1) (h : EOk K W H G1 H1 v r) : ∃ G2, Step G H G2 H1 ∧ EOk K W H G2 H1 v r.c := by
 cases r with
 | p d => exact ⟨G1, s, h⟩
 | b d => exact ⟨G1, s, h⟩
 | x d => exact ⟨G1, s, h⟩
 | f d =>
  obtain ⟨a, o, rfl, h1, h2, h3, h4⟩ := h
  refine ⟨upd G1 a o, ⟨s.g.trans (Same.upd (Same.refl _) h2 o), s.h, fun b u q => ?_, fun b hb hg => ?_⟩, (h4.mono (Same.upd (Same.refl _) h2 o)).rep upd_same⟩
  ·by_cases z : b = a
   ·subst z; rw [upd_same] at q; rw [h3]; exact q
   ·rw [upd_ne z] at q; exact s.gh b u q
  ·have z : b ≠ a := fun z => hb (z ▸ h1)
   rw [upd_ne z]; exact s.new b hb hg
structure SimH (B G0 G : Hp) (W : Addr → Option Nat) (H : Hp) : Prop where
 gh : Same G H
 bh : Same B H
 g0 : Same G0 G
 gb : ∀ b, G b ≠ none → G0 b ≠ none ∨ B b = none ∨ ∃ xs, B b = some (.tup xs)
 wf : ∀ a i, W a = some i → G a = none ∧ B a = none ∧ ∃ o, H a = some o ∧ ∀ xs, o ≠ .tup xs
theorem SimH.step {B G0 G H G' H' : Hp} {W : Addr → Option Nat} (s : SimH B G0 G W H) (t : Step G H G' H') : SimH B G0 G' W H' := by
 refine ⟨t.gh, s.bh.trans t.h, s.g0.trans t.g, fun b hb => ?_, fun a i e => ?_⟩
 ·by_cases z : G b = none
  ·refine .inr ?_
   by_cases y : H b = none
   ·exact .inl (s.bh.free y)
   ·rcases t.new b y z with q | ⟨xs, q⟩
    ·exact absurd q hb
    ·cases e : B b with
     | none => exact .inl rfl
     | some o => rw [s.bh _ _ e] at q; exact .inr ⟨xs, q⟩
  ·exact s.gb b z
 ·obtain ⟨h1, h2, o, h3, h4⟩ := s.wf a i e
  exact ⟨t.off h3 h4 h1, h2, o, t.h _ _ h3, h4⟩
theorem Cont.mut {K : PySem.W.Frag} {G : Hp} {o : HO} {d : D} (h : Cont K G o d) : ∀ xs, o ≠ .tup xs := by
 intro xs z
 subst z
 cases h
def Slot (K : PySem.W.Frag) (W : Addr → Option Nat) (G H : Hp) (i : Nat) (v : V) : L → Prop
 | .p d => Rep K G v d
 | .o d => ∃ a o, v = .ref a ∧ W a = some i ∧ H a = some o ∧ Cont K G o d
 | .x C => ∃ e, v = .ref e ∧ G e = some (excO e (.ref C))
 | .h a => v = .ref a
def SimS (K : PySem.W.Frag) (W : Addr → Option Nat) (G H : Hp) (σ : L2.St) (en : En) : Prop := σ.length = en.length ∧ ∀ i l, en[i]? = some (some l) → ∃ v, σ[i]? = some (some v) ∧ Slot K W G H i v l
theorem Slot.step {K : PySem.W.Frag} {W : Addr → Option Nat} {G H G' H' : Hp} {i : Nat} {v : V} {l : L} (h : Slot K W G H i v l) (s : Step G H G' H') : Slot K W G' H' i v l := by
 cases l with
 | p d => exact Rep.mono s.g h
 | o d =>
  obtain ⟨a, o, h1, h2, h3, h4⟩ := h
  exact ⟨a, o, h1, h2, s.h _ _ h3, h4.mono s.g⟩
 | x C =>
  obtain ⟨e, h1, h2⟩ := h
  exact ⟨e, h1, s.g _ _ h2⟩
 | h a => exact h
theorem SimS.step {K : PySem.W.Frag} {W : Addr → Option Nat} {G H G' H' : Hp} {σ : L2.St} {en : En} (h : SimS K W G H σ en) (s : Step G H G' H') : SimS K W G' H' σ en :=
 ⟨h.1, fun i l e => by obtain ⟨v, e1, e2⟩ := h.2 i l e; exact ⟨v, e1, e2.step s⟩⟩
def PostE (K : PySem.W.Frag) (W : Addr → Option Nat) (G H : Hp) (Q : VK) (r : Ev) : Prop := ∀ G' H' v, Step G H G' H' → EOk K W H G' H' v r → Q v H'
def PostB (G H : Hp) (Q : Bool → Hp → Prop) (b : Bool) : Prop := ∀ G' H', Step G H G' H' → Q b H'
def EOks (K : PySem.W.Frag) (W : Addr → Option Nat) (Hs G H : Hp) : List V → List Ev → Prop
 | [], [] => True
 | v :: vs, r :: rs => EOk K W Hs G H v r ∧ EOks K W Hs G H vs rs
 | _, _ => False
def PostA (K : PySem.W.Frag) (W : Addr → Option Nat) (G H : Hp) (Q : List V → Hp → Prop) (rs : List Ev) : Prop := ∀ G' H' vs, Step G H G' H' → EOks K W H G' H' vs rs → Q vs H'
def PostX (E : XK) (G H : Hp) (C : Addr) : Prop := ∀ G' H', Step G H G' H' → E (.ref C) none H'
theorem PostE.step {K : PySem.W.Frag} {W : Addr → Option Nat} {G H G' H' : Hp} {Q : VK} {r : Ev} (h : PostE K W G H Q r) (s : Step G H G' H') : PostE K W G' H' Q r := fun G2 H2 v s2 e => h G2 H2 v (s.trans s2) (by
 cases r with
 | p d => exact e
 | b d => exact e
 | x d => exact e
 | f d =>
  obtain ⟨a, o, h1, h2, h3, h4, h5⟩ := e
  exact ⟨a, o, h1, s.h.free h2, h3, h4, h5⟩)
theorem PostX.step {E : XK} {G H G' H' : Hp} {C : Addr} (h : PostX E G H C) (s : Step G H G' H') : PostX E G' H' C := fun G2 H2 s2 => h G2 H2 (s.trans s2)
theorem PostB.step {G H G' H' : Hp} {Q : Bool → Hp → Prop} {b : Bool} (h : PostB G H Q b) (s : Step G H G' H') : PostB G' H' Q b := fun G2 H2 s2 => h G2 H2 (s.trans s2)
def tE (K : PySem.W.Frag) (E : L2.St → XK) (f : En → Res Ev) : TE := fun σ H Q => ∃ B G0 G W en, SimH B G0 G W H ∧ SimS K W G H σ en ∧ wpR (f en) (PostE K W G H Q) (PostX (E σ) G H)
def DE (X : Cx) (E : L2.St → XK) (e : Expr) (f : En → Res Ev) : Prop := PE X e (tE X.K E f)
theorem DE.out {X : Cx} {E : L2.St → XK} {e : Expr} {f : En → Res Ev} (h : DE X E e f) : ∃ t, PE X e t ∧ ∀ B G0 G W H σ en Q, SimH B G0 G W H → SimS X.K W G H σ en → wpR (f en) (PostE X.K W G H Q) (PostX (E σ) G H) → t σ H Q :=
 ⟨_, h, fun B G0 G W H σ en Q h1 h2 h3 => ⟨B, G0, G, W, en, h1, h2, h3⟩⟩
theorem DE.in {X : Cx} {E : L2.St → XK} {e : Expr} {f : En → Res Ev} (h : ∃ t, PE X e t ∧ ∀ B G0 G W H σ en Q, SimH B G0 G W H → SimS X.K W G H σ en → wpR (f en) (PostE X.K W G H Q) (PostX (E σ) G H) → t σ H Q) : DE X E e f :=
 by rintro pins s σ H Q I ⟨B, G0, G, W, en, h1, h2, h3⟩; obtain ⟨_, p, m⟩ := h; exact p pins s σ H Q I (m B G0 G W H σ en Q h1 h2 h3)
def tT (K : PySem.W.Frag) (E : L2.St → XK) (f : En → Res Bool) : TT := fun σ H Q => ∃ B G0 G W en, SimH B G0 G W H ∧ SimS K W G H σ en ∧ wpR (f en) (PostB G H Q) (PostX (E σ) G H)
def tA (K : PySem.W.Frag) (E : L2.St → XK) (f : En → Res (List Ev)) : TA := fun σ H Q => ∃ B G0 G W en, SimH B G0 G W H ∧ SimS K W G H σ en ∧ wpR (f en) (PostA K W G H Q) (PostX (E σ) G H)
def DT (X : Cx) (E : L2.St → XK) (e : Expr) (f : En → Res Bool) : Prop := PT X e (tT X.K E f)
def DW (X : Cx) (E : L2.St → XK) (e : Expr) (f : En → Res Bool) : Prop := PW X e (tT X.K E f)
def DA (X : Cx) (E : L2.St → XK) (es : List Expr) (f : En → Res (List Ev)) : Prop := PA X es (tA X.K E f)
section
variable {X : Cx} {E : L2.St → XK} {e : Expr} {es : List Expr} {f : En → Res Bool} {fr : En → Res (List Ev)}
theorem DT.out (h : DT X E e f) : ∃ t, PT X e t ∧ ∀ B G0 G W H σ en Q, SimH B G0 G W H → SimS X.K W G H σ en → wpR (f en) (PostB G H Q) (PostX (E σ) G H) → t σ H Q :=
 ⟨_, h, fun B G0 G W H σ en Q h1 h2 h3 => ⟨B, G0, G, W, en, h1, h2, h3⟩⟩
theorem DT.in (h : ∃ t, PT X e t ∧ ∀ B G0 G W H σ en Q, SimH B G0 G W H → SimS X.K W G H σ en → wpR (f en) (PostB G H Q) (PostX (E σ) G H) → t σ H Q) : DT X E e f :=
 by rintro pins s σ H Q I ⟨B, G0, G, W, en, h1, h2, h3⟩; obtain ⟨_, p, m⟩ := h; exact p pins s σ H Q I (m B G0 G W H σ en Q h1 h2 h3)
theorem DW.out (h : DW X E e f) : ∃ t, PW X e t ∧ ∀ B G0 G W H σ en Q, SimH B G0 G W H → SimS X.K W G H σ en → wpR (f en) (PostB G H Q) (PostX (E σ) G H) → t σ H Q :=
 ⟨_, h, fun B G0 G W H σ en Q h1 h2 h3 => ⟨B, G0, G, W, en, h1, h2, h3⟩⟩
theorem DW.in (h : ∃ t, PW X e t ∧ ∀ B G0 G W H σ en Q, SimH B G0 G W H → SimS X.K W G H σ en → wpR (f en) (PostB G H Q) (PostX (E σ) G H) → t σ H Q) : DW X E e f :=
 by rintro wh pins s σ H Q I ⟨B, G0, G, W, en, h1, h2, h3⟩; obtain ⟨_, p, m⟩ := h; exact p wh pins s σ H Q I (m B G0 G W H σ en Q h1 h2 h3)
theorem DA.out (h : DA X E es fr) : ∃ t, PA X es t ∧ ∀ B G0 G W H σ en Q, SimH B G0 G W H → SimS X.K W G H σ en → wpR (fr en) (PostA X.K W G H Q) (PostX (E σ) G H) → t σ H Q :=
 ⟨_, h, fun B G0 G W H σ en Q h1 h2 h3 => ⟨B, G0, G, W, en, h1, h2, h3⟩⟩
theorem DA.in (h : ∃ t, PA X es t ∧ ∀ B G0 G W H σ en Q, SimH B G0 G W H → SimS X.K W G H σ en → wpR (fr en) (PostA X.K W G H Q) (PostX (E σ) G H) → t σ H Q) : DA X E es fr :=
 by rintro pos pins s σ H Q I ⟨B, G0, G, W, en, h1, h2, h3⟩; obtain ⟨_, p, m⟩ := h; exact p pos pins s σ H Q I (m B G0 G W H σ en Q h1 h2 h3)
end
theorem DW.t {X : Cx} {E : L2.St → XK} {e : Expr} {f : En → Res Bool} (h : DW X E e f) : DT X E e f := h _
section
variable {X : Cx} {E : L2.St → XK} {a b c e : Expr} {es : List Expr} {fa fb : En → Res Ev} {fr : En → Res (List Ev)} {pos : Pos}
theorem DE.go {K : PySem.W.Frag} {W : Addr → Option Nat} {G H : Hp} {EE : XK} {Q : VK} {r : Res Ev} {k : Ev → Res Ev} {Q' : VK} (hw : wpR (r.bind k) (PostE K W G H Q) (PostX EE G H))
  (h : ∀ (x : Ev) G1 H1 v, Step G H G1 H1 → EOk K W H G1 H1 v x.c → wpR (k x) (PostE K W G1 H1 Q) (PostX EE G1 H1) → Q' v H1) : wpR r (PostE K W G H Q') (PostX EE G H) := by
 rw [wpR_bind] at hw
 refine wpR_mono hw (fun x hx G1 H1 v s e => ?_) fun C h => h
 obtain ⟨G2, s2, e2⟩ := e.c s
 exact h x G2 H1 v s2 e2 (wpR_mono hx (fun r h => h.step s2) fun C h => h.step s2)
theorem DE.goB {K : PySem.W.Frag} {W : Addr → Option Nat} {G H : Hp} {EE : XK} {Q : Bool → Hp → Prop} {r : Res Ev} {k : Ev → Res Bool} {Q' : VK} (hw : wpR (r.bind k) (PostB G H Q) (PostX EE G H))
  (h : ∀ (x : Ev) G1 H1 v, Step G H G1 H1 → EOk K W H G1 H1 v x.c → wpR (k x) (PostB G1 H1 Q) (PostX EE G1 H1) → Q' v H1) : wpR r (PostE K W G H Q') (PostX EE G H) := by
 rw [wpR_bind] at hw
 refine wpR_mono hw (fun x hx G1 H1 v s e => ?_) fun C h => h
 obtain ⟨G2, s2, e2⟩ := e.c s
 exact h x G2 H1 v s2 e2 (wpR_mono hx (fun r h => h.step s2) fun C h => h.step s2)
def OpM (K : PySem.W.Frag) (r : R2) (op : Ev → Ev → Res Ev) : Prop := ∀ (W : Addr → Option Nat) (G H : Hp) (v u : V) (x y : Ev) (Q : VK), Same G H → EOk K W H G H v x.c → EOk K W H G H u y.c → wpR (op x.c y.c) (PostE K W G H Q) (fun _ => False) → r v u H Q
def mBin (op : Ev → Ev → Res Ev) (fa fb : En → Res Ev) : En → Res Ev := fun en => (fa en).bind fun x => (fb en).bind fun y => op x.c y.c
def NoX (op : Ev → Ev → Res Ev) : Prop := ∀ x y C, op x y ≠ .exc C
theorem noX {α : Type} {r : Res α} {Q : α → Prop} {E E' : Addr → Prop} (h : wpR r Q E) (n : ∀ C, r ≠ .exc C) : wpR r Q E' := by
 cases r with
 | ok a => exact h
 | exc C => exact absurd rfl (n C)
 | bad => exact h
theorem op_core {ta tb : TE} {r : R2} {op : Ev → Ev → Res Ev} (ma : ∀ B G0 G W H σ en Q, SimH B G0 G W H → SimS X.K W G H σ en → wpR (fa en) (PostE X.K W G H Q) (PostX (E σ) G H) → ta σ H Q)
  (mb : ∀ B G0 G W H σ en Q, SimH B G0 G W H → SimS X.K W G H σ en → wpR (fb en) (PostE X.K W G H Q) (PostX (E σ) G H) → tb σ H Q) (hm : OpM X.K r op) (hn : NoX op) :
  ∀ B G0 G W H σ en Q, SimH B G0 G W H → SimS X.K W G H σ en → wpR (mBin op fa fb en) (PostE X.K W G H Q) (PostX (E σ) G H) → tOp r ta tb σ H Q := by
 intro B G0 G W H σ en Q hh hs hw
 refine ma B G0 G W H σ en _ hh hs (DE.go hw fun x G1 H1 v s1 e1 h1 => ?_)
 refine mb B G0 G1 W H1 σ en _ (hh.step s1) (hs.step s1) (DE.go h1 fun y G2 H2 u s2 e2 h2 => ?_)
 exact hm W G2 H2 v u x y Q s2.gh (e1.step s2) (by cases y <;> exact e2) (noX h2 (hn _ _))
theorem de_op {op : Operator} {r : R2} {f : Ev → Ev → Res Ev} (ho : OpR X (binaryOp op) r) (hm : OpM X.K r f) (hn : NoX f) (ha : DE X E a fa) (hb : DE X E b fb) : DE X E (.BinOp a op b pos) (mBin f fa fb) := by
 obtain ⟨ta, pa, ma⟩ := ha.out
 obtain ⟨tb, pb, mb⟩ := hb.out
 refine DE.in ?_
 exact ⟨_, pe_op ho pa pb, op_core ma mb hm hn⟩
theorem de_cmp {op : CmpOp} {r : R2} {f : Ev → Ev → Res Ev} (ho : OpR X (compareOp op) r) (hm : OpM X.K r f) (hn : NoX f) (ha : DE X E a fa) (hb : DE X E b fb) (hk : behindInMarks op b = false) : DE X E (.Compare a [op] [b] pos) (mBin f fa fb) := by
 obtain ⟨ta, pa, ma⟩ := ha.out
 obtain ⟨tb, pb, mb⟩ := hb.out
 refine DE.in ?_
 exact ⟨_, pe_cmpR ho pa pb hk, op_core ma mb hm hn⟩
def truthR (r : Ev) : Res Bool := match r with
 | .p (.bool b) => .ok b
 | _ => .bad
def mTru (f : En → Res Ev) : En → Res Bool := fun en => (f en).bind truthR
theorem tru_core {t : TE} (m : ∀ B G0 G W H σ en Q, SimH B G0 G W H → SimS X.K W G H σ en → wpR (fa en) (PostE X.K W G H Q) (PostX (E σ) G H) → t σ H Q) :
  ∀ B G0 G W H σ en Q, SimH B G0 G W H → SimS X.K W G H σ en → wpR (mTru fa en) (PostB G H Q) (PostX (E σ) G H) → t σ H fun x H1 => ∃ k, x = .bl k ∧ Q k H1 := by
 intro B G0 G W H σ en Q hh hs hw
 refine m B G0 G W H σ en _ hh hs (DE.goB hw fun x G1 H1 v s1 e1 h1 => ?_)
 cases x with
 | p d =>
  cases d with
  | bool k => cases e1; exact ⟨k, rfl, h1 G1 H1 (Step.refl s1.gh)⟩
  | _ => exact False.elim h1
 | _ => exact False.elim h1
theorem dt_cmp {op : CmpOp} {r : R2} {f : Ev → Ev → Res Ev} (ho : OpR X (compareOp op) r) (hm : OpM X.K r f) (hn : NoX f) (ha : DE X E a fa) (hb : DE X E b fb) (hk : behindInMarks op b = false) : DT X E (.Compare a [op] [b] pos) (mTru (mBin f fa fb)) := by
 obtain ⟨ta, pa, ma⟩ := ha.out
 obtain ⟨tb, pb, mb⟩ := hb.out
 refine DT.in ?_
 exact ⟨_, pt_cmpR ho pa pb hk, tru_core (op_core ma mb hm hn)⟩
theorem dt_val (h : DE X E e fa) (he : ∀ whole, isTrue e X.env whole = (do let v ← whole; standAt e.pos; holding [v] (truthy v)) := by intro _; rfl) : DT X E e (mTru fa) := by
 obtain ⟨t, p, m⟩ := h.out
 refine DT.in ?_
 exact ⟨_, pt_val p he, tru_core m⟩
def mVar (i : Nat) : En → Res Ev := fun en => match en[i]? with
 | some (some (.p d)) => .ok (.p d)
 | some (some (.o d)) => .ok (.b d)
 | some (some (.x C)) => .ok (.x C)
 | _ => .bad
theorem de_var {i : Nat} {x : Str} (hN : X.N[i]? = some x) (hv : Vis X.env.scope x) (hd : (x == ("__debug__" : Str)) = false := by decide) (hcd : (x == ("__classdict__" : Str)) = false := by decide) : DE X E (.Name x pos) (mVar i) := by
 refine DE.in ?_
 refine ⟨_, pe_var hN hv hd hcd, fun B G0 G W H σ en Q hh hs hw => ?_⟩
 unfold mVar at hw
 split at hw
 ·rename_i d e
  obtain ⟨v, e1, e2⟩ := hs.2 i _ e
  exact ⟨v, e1, hw G H v (Step.refl hh.gh) e2⟩
 ·rename_i d e
  obtain ⟨v, e1, a, o, e2, e3, e4, e5⟩ := hs.2 i _ e
  exact ⟨v, e1, hw G H v (Step.refl hh.gh) ⟨a, i, o, e2, e3, e4, e5⟩⟩
 ·rename_i C e
  obtain ⟨v, e1, e2⟩ := hs.2 i _ e
  exact ⟨v, e1, hw G H v (Step.refl hh.gh) e2⟩
 ·exact hw.elim
def mC (d : D) : En → Res Ev := fun _ => .ok (.p d)
theorem const_core {v : V} {d : D} (h : ∀ G, Rep X.K G v d) : ∀ B G0 G W H σ en Q, SimH B G0 G W H → SimS X.K W G H σ en → wpR (mC d en) (PostE X.K W G H Q) (PostX (E σ) G H) → tC v σ H Q :=
 fun B G0 G W H σ en Q hh hs hw => hw G H v (Step.refl hh.gh) (h G)
theorem de_int {i j} : DE X E (.Constant (.int i) j pos) (mC (.int i)) := DE.in ⟨_, pe_int, const_core fun _ => .int i⟩
theorem de_bl {b j} : DE X E (.Constant (.bool b) j pos) (mC (.bool b)) := DE.in ⟨_, pe_bl, const_core fun _ => .bl b⟩
theorem de_non {j} : DE X E (.Constant .none j pos) (mC .none) := DE.in ⟨_, pe_non, const_core fun _ => .non⟩
theorem de_str {x j} : DE X E (.Constant (.str x) j pos) (mC (.str x)) := DE.in ⟨_, pe_str, const_core fun _ => .str x⟩
variable {ga gb : En → Res Bool} {rest : List Expr}
def mAnd (f g : En → Res Bool) : En → Res Bool := fun en => (f en).bind fun c => if c = true then g en else .ok false
def mOr (f g : En → Res Bool) : En → Res Bool := fun en => (f en).bind fun c => if c = true then .ok true else g en
def mNot (f : En → Res Bool) : En → Res Bool := fun en => (f en).bind fun c => .ok (!c)
theorem dw_and1 (ha : DT X E a ga) : DW X E (.BoolOp .And [a] pos) ga := by obtain ⟨t, p, m⟩ := ha.out; exact DW.in ⟨t, pw_and1 p, m⟩
theorem dw_or1 (ha : DT X E a ga) : DW X E (.BoolOp .Or [a] pos) ga := by obtain ⟨t, p, m⟩ := ha.out; exact DW.in ⟨t, pw_or1 p, m⟩
theorem dw_and (ha : DT X E a ga) (hb : DW X E (.BoolOp .And (b :: rest) pos) gb) : DW X E (.BoolOp .And (a :: b :: rest) pos) (mAnd ga gb) := by
 obtain ⟨ta, pa, ma⟩ := ha.out
 obtain ⟨tb, pb, mb⟩ := hb.out
 refine DW.in ?_
 refine ⟨_, pw_and pa pb, fun B G0 G W H σ en Q hh hs hw => ma B G0 G W H σ en _ hh hs ?_⟩
 have hw : wpR ((ga en).bind _) _ _ := hw
 rw [wpR_bind] at hw
 refine wpR_mono hw (fun c hc G1 H1 s => ?_) fun C h => h
 cases c with
 | true => exact mb B G0 G1 W H1 σ en Q (hh.step s) (hs.step s) (wpR_mono hc (fun _ h => h.step s) fun _ h => h.step s)
 | false => exact hc G1 H1 s
theorem dw_or (ha : DT X E a ga) (hb : DW X E (.BoolOp .Or (b :: rest) pos) gb) : DW X E (.BoolOp .Or (a :: b :: rest) pos) (mOr ga gb) := by
 obtain ⟨ta, pa, ma⟩ := ha.out
 obtain ⟨tb, pb, mb⟩ := hb.out
 refine DW.in ?_
 refine ⟨_, pw_or pa pb, fun B G0 G W H σ en Q hh hs hw => ma B G0 G W H σ en _ hh hs ?_⟩
 have hw : wpR ((ga en).bind _) _ _ := hw
 rw [wpR_bind] at hw
 refine wpR_mono hw (fun c hc G1 H1 s => ?_) fun C h => h
 cases c with
 | false => exact mb B G0 G1 W H1 σ en Q (hh.step s) (hs.step s) (wpR_mono hc (fun _ h => h.step s) fun _ h => h.step s)
 | true => exact hc G1 H1 s
theorem dt_not (ha : DT X E a ga) : DT X E (.UnaryOp .Not a pos) (mNot ga) := by
 obtain ⟨ta, pa, ma⟩ := ha.out
 refine DT.in ?_
 refine ⟨_, pt_not pa, fun B G0 G W H σ en Q hh hs hw => ma B G0 G W H σ en _ hh hs ?_⟩
 have hw : wpR ((ga en).bind _) _ _ := hw
 rw [wpR_bind] at hw
 exact wpR_mono hw (fun c hc => hc) fun C h => h
def mAndV (f g : En → Res Ev) : En → Res Ev := fun en => (f en).bind fun c => match c with
 | .p (.bool true) => g en
 | .p (.bool false) => .ok (.p (.bool false))
 | _ => .bad
def mOrV (f g : En → Res Ev) : En → Res Ev := fun en => (f en).bind fun c => match c with
 | .p (.bool false) => g en
 | .p (.bool true) => .ok (.p (.bool true))
 | _ => .bad
def mNotV (f : En → Res Ev) : En → Res Ev := fun en => (f en).bind fun c => match c with
 | .p (.bool k) => .ok (.p (.bool (!k)))
 | _ => .bad
theorem de_one {op} (h : DE X E a fa) : DE X E (.BoolOp op [a] pos) fa := by obtain ⟨t, p, m⟩ := h.out; exact DE.in ⟨t, pe_one p, m⟩
theorem de_and (ha : DE X E a fa) (hb : DE X E (.BoolOp .And (b :: rest) pos) fb) : DE X E (.BoolOp .And (a :: b :: rest) pos) (mAndV fa fb) := by
 obtain ⟨ta, pa, ma⟩ := ha.out
 obtain ⟨tb, pb, mb⟩ := hb.out
 refine DE.in ?_
 refine ⟨_, pe_and pa pb, fun B G0 G W H σ en Q hh hs hw => ma B G0 G W H σ en _ hh hs (DE.go hw fun x G1 H1 v s1 e1 h1 => ?_)⟩
 cases x with
 | p d =>
  cases d with
  | bool k =>
   cases e1
   cases k with
   | true => exact ⟨true, rfl, mb B G0 G1 W H1 σ en Q (hh.step s1) (hs.step s1) h1⟩
   | false => exact ⟨false, rfl, h1 G1 H1 _ (Step.refl s1.gh) (.bl false)⟩
  | _ => exact False.elim h1
 | _ => exact False.elim h1
def mIf (c : En → Res Bool) (f g : En → Res Ev) : En → Res Ev := fun en => (c en).bind fun k => if k = true then f en else g en
theorem de_if (hc : DT X E c ga) (ha : DE X E a fa) (hb : DE X E b fb) : DE X E (.IfExp c a b pos) (mIf ga fa fb) := by
 obtain ⟨tc, pc, mc⟩ := hc.out
 obtain ⟨ta, pa, ma⟩ := ha.out
 obtain ⟨tb, pb, mb⟩ := hb.out
 refine DE.in ?_
 refine ⟨_, pe_ifExp pc pa pb, fun B G0 G W H σ en Q hh hs hw => mc B G0 G W H σ en _ hh hs ?_⟩
 have hw : wpR ((ga en).bind _) _ _ := hw
 rw [wpR_bind] at hw
 refine wpR_mono hw (fun k hk G1 H1 s => ?_) fun C h => h
 have hk' := wpR_mono hk (fun _ h => PostE.step h s) fun _ h => PostX.step h s
 cases k with
 | true => exact ma B G0 G1 W H1 σ en Q (hh.step s) (hs.step s) hk'
 | false => exact mb B G0 G1 W H1 σ en Q (hh.step s) (hs.step s) hk'
def mNil : En → Res (List Ev) := fun _ => .ok []
def mCons (f : En → Res Ev) (g : En → Res (List Ev)) : En → Res (List Ev) := fun en => (f en).bind fun x => (g en).bind fun xs => .ok (x.c :: xs)
theorem da_nil : DA X E [] mNil := DA.in ⟨_, pa_nil, fun B G0 G W H σ en Q hh hs hw => hw G H [] (Step.refl hh.gh) trivial⟩
theorem EOk.cc {K : PySem.W.Frag} {W : Addr → Option Nat} {Hs Hs' G H : Hp} {v : V} {r : Ev} (h : EOk K W Hs G H v r.c) : EOk K W Hs' G H v r.c := by
 cases r <;> exact h
theorem da_cons (ha : DE X E e fa) (hr : DA X E es fr) (hst : starEach (e :: es) X.env = (false, eval e X.env) :: starEach es X.env := by rfl) : DA X E (e :: es) (mCons fa fr) := by
 obtain ⟨ta, pa, ma⟩ := ha.out
 obtain ⟨tr, pr, mr⟩ := hr.out
 refine DA.in ?_
 refine ⟨_, pa_cons pa pr hst, fun B G0 G W H σ en Q hh hs hw => ma B G0 G W H σ en _ hh hs ?_⟩
 have hw : wpR ((fa en).bind _) _ _ := hw
 rw [wpR_bind] at hw
 refine wpR_mono hw (fun x hx G1 H1 v s e1 => ?_) fun C h => h
 obtain ⟨G2, s2, e2⟩ := e1.c s
 refine mr B G0 G2 W H1 σ en _ (hh.step s2) (hs.step s2) ?_
 rw [wpR_bind] at hx
 refine wpR_mono hx (fun xs hxs G3 H3 vs s3 e3 => ?_) fun C h => h.step s2
 refine hxs G3 H3 (v :: vs) (s2.trans s3) ⟨e2.step s3, ?_⟩
 clear hxs hx hw
 induction xs generalizing vs with
 | nil => cases vs <;> exact e3
 | cons y ys ih =>
  cases vs with
  | nil => exact e3
  | cons u us =>
   refine ⟨?_, ih us e3.2⟩
   have z := e3.1
   cases y with
   | p d => exact z
   | b d => exact z
   | x d => exact z
   | f d =>
    obtain ⟨a, o, h1, h2, h3⟩ := z
    exact ⟨a, o, h1, s2.h.free h2, h3⟩
end
inductive Out where
 | nx (en : En)
 | rt (l : L)
 | bk (en : En)
 | ct (en : En)
 | ex (C : Addr) (en : En)
abbrev MS := En → Option Out
def RetOk (K : PySem.W.Frag) (B G H : Hp) (v : V) : L → Prop
 | .p d => Rep K G v d
 | .o d => ∃ a o, v = .ref a ∧ G a = none ∧ B a = none ∧ H a = some o ∧ Cont K G o d
 | .x C => ∃ e, v = .ref e ∧ G e = some (excO e (.ref C))
 | .h _ => False
def PostS (K : PySem.W.Frag) (B G0 : Hp) (E : L2.St → XK) (Dn : Ends) : Out → Prop
 | .nx en => ∀ G W H σ, SimH B G0 G W H → SimS K W G H σ en → Dn.nx σ H
 | .bk en => ∀ G W H σ, SimH B G0 G W H → SimS K W G H σ en → Dn.bk σ H
 | .ct en => ∀ G W H σ, SimH B G0 G W H → SimS K W G H σ en → Dn.ct σ H
 | .rt l => ∀ G W H v, SimH B G0 G W H → RetOk K B G H v l → Dn.rt v H
 | .ex C en => ∀ G W H σ, SimH B G0 G W H → SimS K W G H σ en → E σ (.ref C) none H
def wpO (o : Option Out) (P : Out → Prop) : Prop := match o with
 | some r => P r
 | none => False
def tS (K : PySem.W.Frag) (E : L2.St → XK) (f : MS) : TS := fun Dn σ H => ∃ B G0 G W en, SimH B G0 G W H ∧ SimS K W G H σ en ∧ wpO (f en) (PostS K B G0 E Dn)
def DS (X : Cx) (E : L2.St → XK) (st : Stmt) (f : MS) : Prop := PS X st (tS X.K E f)
def DSs (X : Cx) (E : L2.St → XK) (st : List Stmt) (f : MS) : Prop := PSs X st (tS X.K E f)
section
variable {X : Cx} {E : L2.St → XK} {st : Stmt} {sts : List Stmt} {f g : MS} {fe : En → Res Ev} {fc : En → Res Bool} {e c : Expr} {pos : Pos}
theorem DS.in (h : ∃ t, PS X st t ∧ ∀ B G0 G W H σ en Dn, SimH B G0 G W H → SimS X.K W G H σ en → wpO (f en) (PostS X.K B G0 E Dn) → t Dn σ H) : DS X E st f :=
 by rintro pins s σ H Dn I ⟨B, G0, G, W, en, h1, h2, h3⟩; obtain ⟨_, p, m⟩ := h; exact p pins s σ H Dn I (m B G0 G W H σ en Dn h1 h2 h3)
theorem DSs.in (h : ∃ t, PSs X sts t ∧ ∀ B G0 G W H σ en Dn, SimH B G0 G W H → SimS X.K W G H σ en → wpO (f en) (PostS X.K B G0 E Dn) → t Dn σ H) : DSs X E sts f :=
 by rintro pins s σ H Dn I ⟨B, G0, G, W, en, h1, h2, h3⟩; obtain ⟨_, p, m⟩ := h; exact p pins s σ H Dn I (m B G0 G W H σ en Dn h1 h2 h3)
theorem DS.out (h : DS X E st f) : ∃ t, PS X st t ∧ ∀ B G0 G W H σ en Dn, SimH B G0 G W H → SimS X.K W G H σ en → wpO (f en) (PostS X.K B G0 E Dn) → t Dn σ H :=
 ⟨_, h, fun B G0 G W H σ en Dn h1 h2 h3 => ⟨B, G0, G, W, en, h1, h2, h3⟩⟩
theorem DSs.out (h : DSs X E sts f) : ∃ t, PSs X sts t ∧ ∀ B G0 G W H σ en Dn, SimH B G0 G W H → SimS X.K W G H σ en → wpO (f en) (PostS X.K B G0 E Dn) → t Dn σ H :=
 ⟨_, h, fun B G0 G W H σ en Dn h1 h2 h3 => ⟨B, G0, G, W, en, h1, h2, h3⟩⟩
def mNext : MS := fun en => some (.nx en)
def mSeq (f g : MS) : MS := fun en => match f en with
 | some (.nx e) => g e
 | r => r
theorem dss_nil : DSs X E [] mNext := DSs.in ⟨_, pss_nil, fun B G0 G W H σ en Dn hh hs hw => hw G W H σ hh hs⟩
theorem dss_one (h : DS X E st f) : DSs X E [st] f := by obtain ⟨t, p, m⟩ := h.out; exact DSs.in ⟨t, pss_one p, m⟩
theorem dss_cons (h1 : DS X E st f) (h2 : DSs X E sts g) : DSs X E (st :: sts) (mSeq f g) := by
 obtain ⟨t, p, m⟩ := h1.out
 obtain ⟨u, q, n⟩ := h2.out
 refine DSs.in ⟨_, pss_cons p q, fun B G0 G W H σ en Dn hh hs hw => m B G0 G W H σ en _ hh hs ?_⟩
 unfold mSeq at hw
 cases ef : f en with
 | none => rw [ef] at hw; exact hw
 | some r =>
  rw [ef] at hw
  cases r with
  | nx e => exact fun G1 W1 H1 σ1 hh1 hs1 => n B G0 G1 W1 H1 σ1 e Dn hh1 hs1 hw
  | rt l => exact hw
  | bk e => exact hw
  | ct e => exact hw
  | ex C e => exact hw
theorem SimS.set {K : PySem.W.Frag} {W : Addr → Option Nat} {G H : Hp} {σ : L2.St} {en : En} {i : Nat} {v : V} {l : L} (h : SimS K W G H σ en) (hl : Slot K W G H i v l) : SimS K W G H (σ.set i (some v)) (en.set i (some l)) := by
 refine ⟨by rw [List.length_set, List.length_set]; exact h.1, fun j m e => ?_⟩
 rw [List.getElem?_set] at e
 rw [List.getElem?_set]
 by_cases hj : i = j
 ·subst hj
  rw [if_pos rfl] at e
  split at e
  ·rename_i hlt
   cases e
   rw [if_pos rfl, if_pos (by rw [h.1]; exact hlt)]
   exact ⟨v, rfl, hl⟩
  ·cases e
 ·rw [if_neg hj] at e ⊢
  exact h.2 j m e
def owner (W : Addr → Option Nat) (a : Addr) (i : Nat) : Addr → Option Nat := fun b => if b = a then some i else W b
theorem take_new {K : PySem.W.Frag} {B G0 G H : Hp} {W : Addr → Option Nat} {σ : L2.St} {en : En} {i : Nat} {a : Addr} {o : HO} {d : D} (hh : SimH B G0 G W H) (hs : SimS K W G H σ en) (hW : W a = none) (hG : G a = none) (hB : B a = none) (hH : H a = some o) (hc : Cont K G o d) :
  SimH B G0 G (owner W a i) H ∧ SimS K (owner W a i) G H (σ.set i (some (.ref a))) (en.set i (some (.o d))) := by
 refine ⟨⟨hh.gh, hh.bh, hh.g0, hh.gb, fun b j e => ?_⟩, SimS.set ⟨hs.1, fun j l e => ?_⟩ ⟨a, o, rfl, if_pos rfl, hH, hc⟩⟩
 ·unfold owner at e
  split at e
  ·rename_i z
   subst z
   exact ⟨hG, hB, o, hH, hc.mut⟩
  ·exact hh.wf b j e
 ·obtain ⟨v, e1, e2⟩ := hs.2 j l e
  refine ⟨v, e1, ?_⟩
  cases l with
  | p d => exact e2
  | x C => exact e2
  | h a => exact e2
  | o d =>
   obtain ⟨b, ob, h1, h2, h3, h4⟩ := e2
   refine ⟨b, ob, h1, ?_, h3, h4⟩
   unfold owner
   rw [if_neg (fun z => by rw [z, hW] at h2; cases h2)]
   exact h2
def mSet (i : Nat) (fe : En → Res Ev) : MS := fun en => match fe en with
 | .ok (.p d) => some (.nx (en.set i (some (.p d))))
 | .ok (.f d) => some (.nx (en.set i (some (.o d))))
 | .ok (.x C) => some (.nx (en.set i (some (.x C))))
 | .ok (.b _) => none
 | .exc C => some (.ex C en)
 | .bad => none
theorem SimH.lone {B G0 G H : Hp} {W : Addr → Option Nat} (hh : SimH B G0 G W H) {a : Addr} (h : H a = none) : W a = none := by
 cases e : W a with
 | none => rfl
 | some i =>
  obtain ⟨_, _, o, q, _⟩ := hh.wf a i e
  rw [h] at q; cases q
theorem set_core {te : TE} {i : Nat} (m : ∀ B G0 G W H σ en Q, SimH B G0 G W H → SimS X.K W G H σ en → wpR (fe en) (PostE X.K W G H Q) (PostX (E σ) G H) → te σ H Q) :
  ∀ B G0 G W H σ en Dn, SimH B G0 G W H → SimS X.K W G H σ en → wpO (mSet i fe en) (PostS X.K B G0 E Dn) → te σ H fun x H1 => Dn.nx (σ.set i (some x)) H1 := by
 intro B G0 G W H σ en Dn hh hs hw
 refine m B G0 G W H σ en _ hh hs ?_
 unfold mSet at hw
 cases ef : fe en with
 | bad => rw [ef] at hw; exact hw
 | exc C => rw [ef] at hw; exact fun G1 H1 s => hw G1 W H1 σ (hh.step s) (hs.step s)
 | ok r =>
  rw [ef] at hw
  cases r with
  | b d => exact hw.elim
  | p d => exact fun G1 H1 v s e => hw G1 W H1 _ (hh.step s) ((hs.step s).set e)
  | x C => exact fun G1 H1 v s e => hw G1 W H1 _ (hh.step s) ((hs.step s).set e)
  | f d =>
   rintro G1 H1 v s ⟨a, o, rfl, h1, h2, h3, h4⟩
   obtain ⟨q1, q2⟩ := take_new (i := i) (hh.step s) (hs.step s) (hh.lone h1) h2 (hh.bh.free h1) h3 h4
   exact hw G1 _ H1 _ q1 q2
theorem ds_set {i : Nat} {x : Str} {pos' : Pos} (hN : X.N.Nodup) (hi : X.N[i]? = some x) (hx : Loc X.env.scope x) (he : DE X E e fe) (hs : swapsWith e (some (.Name x pos')) pos.line X.env = pure false := by rfl) (hf : X.fn x = true ∨ X.env.scope.names.lookup x = some .local := by first | exact .inl rfl | exact .inr rfl | assumption) :
  DS X E (.Assign [.Name x pos'] e pos) (mSet i fe) := by
 obtain ⟨t, p, m⟩ := he.out
 exact DS.in ⟨_, ps_set hN hi hx p hs hf, set_core m⟩
def retL : Ev → L
 | .p d => .p d
 | .f d => .o d
 | .b d => .o d
 | .x C => .x C
def mRet (fe : En → Res Ev) : MS := fun en => match fe en with
 | .ok r => some (.rt (retL r))
 | .exc C => some (.ex C en)
 | .bad => none
theorem ds_ret (he : DE X E e fe) : DS X E (.Return (some e) pos) (mRet fe) := by
 obtain ⟨t, p, m⟩ := he.out
 refine DS.in ⟨_, ps_ret p, fun B G0 G W H σ en Dn hh hs hw => m B G0 G W H σ en _ hh hs ?_⟩
 unfold mRet at hw
 cases ef : fe en with
 | bad => rw [ef] at hw; exact hw
 | exc C => rw [ef] at hw; exact fun G1 H1 s => hw G1 W H1 σ (hh.step s) (hs.step s)
 | ok r =>
  rw [ef] at hw
  intro G1 H1 v s e
  refine hw G1 W H1 v (hh.step s) ?_
  cases r with
  | p d => exact e
  | x C => exact e
  | f d =>
   obtain ⟨a, o, h0, h1, h2, h3, h4⟩ := e
   exact ⟨a, o, h0, h2, hh.bh.free h1, h3, h4⟩
  | b d =>
   obtain ⟨a, i, o, h0, h1, h3, h4⟩ := e
   have z := (hh.step s).wf a i h1
   exact ⟨a, o, h0, z.1, z.2.1, h3, h4⟩
def mIfS (c : En → Res Bool) (f g : MS) : MS := fun en => match c en with
 | .ok k => if k = true then f en else g en
 | .exc C => some (.ex C en)
 | .bad => none
theorem ds_if {A B : List Stmt} (hc : DT X E c fc) (ha : DSs X E A f) (hb : DSs X E B g) : DS X E (.If c A B pos) (mIfS fc f g) := by
 obtain ⟨tc, pc, mc⟩ := hc.out
 obtain ⟨t, p, m⟩ := ha.out
 obtain ⟨u, q, n⟩ := hb.out
 refine DS.in ⟨_, ps_if pc p q, fun B G0 G W H σ en Dn hh hs hw => mc B G0 G W H σ en _ hh hs ?_⟩
 unfold mIfS at hw
 cases ef : fc en with
 | bad => rw [ef] at hw; exact hw
 | exc C => rw [ef] at hw; exact fun G1 H1 s => hw G1 W H1 σ (hh.step s) (hs.step s)
 | ok k =>
  rw [ef] at hw
  intro G1 H1 s
  cases k with
  | true => exact m B G0 G1 W H1 σ en Dn (hh.step s) (hs.step s) hw
  | false => exact n B G0 G1 W H1 σ en Dn (hh.step s) (hs.step s) hw
def frz (i : Nat) (en : En) : En := match en[i]? with
 | some (some (.o d)) => en.set i (some (.p d))
 | _ => en
theorem frz_ok {K : PySem.W.Frag} {B G0 G H : Hp} {W : Addr → Option Nat} {σ : L2.St} {en : En} (i : Nat) (hh : SimH B G0 G W H) (hs : SimS K W G H σ en) : ∃ G' W', SimH B G0 G' W' H ∧ SimS K W' G' H σ (frz i en) := by
 unfold frz
 split
 ·rename_i d e
  obtain ⟨v, e1, a, o, rfl, e2, e3, e4⟩ := hs.2 i _ e
  obtain ⟨w1, w2, w3⟩ := hh.wf a i e2
  have sg : Same G (upd G a o) := Same.upd (Same.refl _) w1 o
  refine ⟨upd G a o, fun b => if b = a then none else W b, ⟨fun b u q => ?_, hh.bh, hh.g0.trans sg, fun b hb => ?_, fun b j e => ?_⟩, by rw [List.length_set]; exact hs.1, fun j l e5 => ?_⟩
  ·by_cases z : b = a
   ·subst z; rw [upd_same] at q; rw [e3]; exact q
   ·rw [upd_ne z] at q; exact hh.gh b u q
  ·by_cases z : b = a
   ·subst z; exact .inr (.inl w2)
   ·rw [upd_ne z] at hb; exact hh.gb b hb
  ·split at e
   ·cases e
   ·rename_i z
    rw [upd_ne z]; exact hh.wf b j e
  ·rw [List.getElem?_set] at e5
   by_cases hj : i = j
   ·subst hj
    rw [if_pos rfl] at e5
    split at e5
    ·cases e5
     exact ⟨_, e1, (e4.mono sg).rep upd_same⟩
    ·cases e5
   ·rw [if_neg hj] at e5
    obtain ⟨v, f1, f2⟩ := hs.2 j l e5
    refine ⟨v, f1, ?_⟩
    cases l with
    | p d => exact f2.mono sg
    | x C => obtain ⟨ea, g1, g2⟩ := f2; exact ⟨ea, g1, sg _ _ g2⟩
    | h a => exact f2
    | o d =>
     obtain ⟨b, ob, g1, g2, g3, g4⟩ := f2
     refine ⟨b, ob, g1, ?_, g3, g4.mono sg⟩
     show (if b = a then none else W b) = some j
     rw [if_neg (fun z => by rw [z, e2] at g2; exact hj (Option.some.inj g2))]
     exact g2
 ·exact ⟨G, W, hh, hs⟩
theorem dss_frz (i : Nat) (h : DSs X E sts f) : DSs X E sts (fun en => f (frz i en)) := by
 obtain ⟨t, p, m⟩ := h.out
 refine DSs.in ⟨t, p, fun B G0 G W H σ en Dn hh hs hw => ?_⟩
 obtain ⟨G', W', h1, h2⟩ := frz_ok i hh hs
 exact m B G0 G' W' H σ _ Dn h1 h2 hw
end
def mWh (c : En → Res Bool) (f : MS) : Nat → MS
 | 0, _ => none
 | n + 1, en => match c en with
  | .bad => none
  | .exc C => some (.ex C en)
  | .ok false => some (.nx en)
  | .ok true => match f en with
   | some (.nx e) => mWh c f n e
   | some (.ct e) => mWh c f n e
   | some (.bk e) => some (.nx e)
   | r => r
theorem mWh_more {c : En → Res Bool} {f : MS} : ∀ {n : Nat} {en : En} {r : Out}, mWh c f n en = some r → mWh c f (n + 1) en = some r
 | 0, _, _, h => by cases h
 | n + 1, en, r, h => by
  unfold mWh at h ⊢
  cases ec : c en with
  | bad => rw [ec] at h; exact h
  | exc C => rw [ec] at h; exact h
  | ok k =>
   rw [ec] at h
   cases k with
   | false => exact h
   | true =>
    dsimp only at h ⊢
    cases ef : f en with
    | none => rw [ef] at h; exact h
    | some o =>
     rw [ef] at h
     cases o with
     | nx e => exact mWh_more (n := n) h
     | ct e => exact mWh_more (n := n) h
     | bk e => exact h
     | rt l => exact h
     | ex C e => exact h
theorem mWh_le {c : En → Res Bool} {f : MS} {n m : Nat} {en : En} {r : Out} (h : mWh c f n en = some r) (l : n ≤ m) : mWh c f m en = some r := by
 induction l with
 | refl => exact h
 | step _ ih => exact mWh_more ih
open Classical in
def mWhile (c : En → Res Bool) (f : MS) : MS := fun en => if h : ∃ n r, mWh c f n en = some r then mWh c f h.choose en else none
theorem mWhile_of {c : En → Res Bool} {f : MS} {n : Nat} {en : En} {r : Out} (h : mWh c f n en = some r) : mWhile c f en = some r := by
 unfold mWhile
 have hx : ∃ n r, mWh c f n en = some r := ⟨n, r, h⟩
 rw [dif_pos hx]
 obtain ⟨r', h'⟩ := hx.choose_spec
 rcases Nat.le_total n hx.choose with l | l
 ·exact mWh_le h l
 ·have := mWh_le h' l
  rw [h] at this
  rw [h']; exact this.symm
theorem mWhile_fuel {c : En → Res Bool} {f : MS} {en : En} {P : Out → Prop} (h : wpO (mWhile c f en) P) : ∃ n, wpO (mWh c f n en) P := by
 unfold mWhile at h
 split at h
 ·exact ⟨_, h⟩
 ·exact h.elim
section
variable {X : Cx} {E : L2.St → XK} {st : Stmt} {sts : List Stmt} {f g : MS} {fe : En → Res Ev} {fc : En → Res Bool} {e c : Expr} {pos : Pos}
theorem ds_while (hp : PassesOwn (model X.prog X.w) X.A X.env X.xe) (hc : DT X E c fc) (hb : DSs X E sts f) : DS X E (.While c sts [] pos) (mWhile fc f) := by
 obtain ⟨tc, pc, mc⟩ := hc.out
 obtain ⟨t, p, m⟩ := hb.out
 refine DS.in ⟨_, ps_while hp pc p, fun B G0 G W H σ en Dn hh hs hw => ?_⟩
 obtain ⟨n0, hw⟩ := mWhile_fuel hw
 refine ⟨fun n σ H => ∃ G W en, SimH B G0 G W H ∧ SimS X.K W G H σ en ∧ wpO (mWh fc f n en) (PostS X.K B G0 E Dn), ⟨n0, G, W, en, hh, hs, hw⟩, ?_⟩
 rintro n σ H ⟨G, W, en, hh, hs, hw⟩
 cases n with
 | zero => exact hw.elim
 | succ n =>
  refine mc B G0 G W H σ en _ hh hs ?_
  unfold mWh at hw
  cases ec : fc en with
  | bad => rw [ec] at hw; exact hw
  | exc C => rw [ec] at hw; exact fun G1 H1 s => hw G1 W H1 σ (hh.step s) (hs.step s)
  | ok k =>
   rw [ec] at hw
   intro G1 H1 s
   cases k with
   | false => exact hw G1 W H1 σ (hh.step s) (hs.step s)
   | true =>
    refine ⟨fun σ' H' => ∃ G W en, SimH B G0 G W H' ∧ SimS X.K W G H' σ' en ∧ wpO (mWh fc f n en) (PostS X.K B G0 E Dn), fun σ' H' q => ⟨n, Nat.lt_succ_self n, q⟩, ?_⟩
    refine m B G0 G1 W H1 σ en _ (hh.step s) (hs.step s) ?_
    dsimp only at hw
    cases ef : f en with
    | none => rw [ef] at hw; exact hw
    | some o =>
     rw [ef] at hw
     cases o with
     | nx e => exact fun G2 W2 H2 σ2 h2 s2 => ⟨G2, W2, e, h2, s2, hw⟩
     | ct e => exact fun G2 W2 H2 σ2 h2 s2 => ⟨G2, W2, e, h2, s2, hw⟩
     | bk e => exact hw
     | rt l => exact hw
     | ex C e => exact hw
end
def IterOk (K : PySem.W.Frag) (ds : List D) (G1 : Hp) (J : It) : Prop := ∀ G H, Same G1 G → Same G H →
 (∀ i d, ds[i]? = some d → J.go i H ∧ ∀ v H', J.yld i H v H' → ∃ G', Step G H G' H' ∧ Rep K G' v d) ∧ J.stop ds.length H
def tI (K : PySem.W.Frag) (E : L2.St → XK) (f : En → Res (List D)) : TI := fun σ H R => ∃ B G0 G W en, SimH B G0 G W H ∧ SimS K W G H σ en ∧ wpR (f en) (fun ds => ∀ G' H' J, Step G H G' H' → IterOk K ds G' J → R J H') (PostX (E σ) G H)
def DI (X : Cx) (E : L2.St → XK) (tg e : Expr) (f : En → Res (List D)) : Prop := PI X tg e (tI X.K E f)
def Kept (ks : List Nat) (σ σ' : L2.St) : Prop := σ'.length = σ.length ∧ ∀ j, j ∉ ks → σ'[j]? = σ[j]?
def tG (K : PySem.W.Frag) (ks : List Nat) (f : D → En → Option En) : TG := fun v σ H Q => ∃ G W en d en', Same G H ∧ SimS K W G H σ en ∧ Rep K G v d ∧ f d en = some en' ∧ ∀ σ', SimS K W G H σ' en' → Kept ks σ σ' → Q σ' H
def tGs (K : PySem.W.Frag) (ks : List Nat) (f : List D → En → Option En) : TGs := fun vs σ H Q => ∃ G W en ds en', Same G H ∧ SimS K W G H σ en ∧ Reps K G vs ds ∧ f ds en = some en' ∧ ∀ σ', SimS K W G H σ' en' → Kept ks σ σ' → Q σ' H
def DG (X : Cx) (tg : Expr) (ks : List Nat) (f : D → En → Option En) : Prop := PG X tg (tG X.K ks f)
def DGs (X : Cx) (tg : List Expr) (ks : List Nat) (f : List D → En → Option En) : Prop := PGs X tg (tGs X.K ks f)
theorem Kept.trans {ks ls : List Nat} {σ σ1 σ2 : L2.St} (a : Kept ks σ σ1) (b : Kept ls σ1 σ2) : Kept (ks ++ ls) σ σ2 :=
 ⟨b.1.trans a.1, fun j hj => (b.2 j fun z => hj (List.mem_append_right _ z)).trans (a.2 j fun z => hj (List.mem_append_left _ z))⟩
def mgName (i : Nat) : D → En → Option En := fun d en => some (en.set i (some (.p d)))
def mgNil : List D → En → Option En := fun ds en => match ds with
 | [] => some en
 | _ => none
def mgCons (f : D → En → Option En) (g : List D → En → Option En) : List D → En → Option En := fun ds en => match ds with
 | [] => none
 | d :: r => match f d en with
  | none => none
  | some e => g r e
def mgTup (n : Nat) (f : List D → En → Option En) : D → En → Option En := fun d en => match d with
 | .tuple ds => if ds.length = n then f ds en else none
 | _ => none
section
variable {X : Cx} {E : L2.St → XK} {pos : Pos}
theorem DI.in {tg e : Expr} {f : En → Res (List D)} (h : ∃ t, PI X tg e t ∧ ∀ B G0 G W H σ en R, SimH B G0 G W H → SimS X.K W G H σ en → wpR (f en) (fun ds => ∀ G' H' J, Step G H G' H' → IterOk X.K ds G' J → R J H') (PostX (E σ) G H) → t σ H R) : DI X E tg e f :=
 by rintro pins s σ H R I ⟨B, G0, G, W, en, h1, h2, h3⟩; obtain ⟨_, p, m⟩ := h; exact p pins s σ H R I (m B G0 G W H σ en R h1 h2 h3)
theorem dg_name {i : Nat} {x : Str} (hN : X.N.Nodup) (hi : X.N[i]? = some x) (hx : Loc X.env.scope x) (hf : X.fn x = true ∨ X.env.scope.names.lookup x = some .local := by first | exact .inl rfl | exact .inr rfl | assumption) : DG X (.Name x pos) [i] (mgName i) := by
 rintro pins s σ H v u Q I r ⟨G, W, en, d, en', h1, h2, h3, h4, h5⟩
 refine pg_name hN hi hx hf pins s σ H v u Q I r ?_
 cases h4
 exact h5 _ (h2.set h3) ⟨List.length_set .., fun j hj => List.getElem?_set_ne (fun z => hj (by rw [z]; exact .head _))⟩
theorem dgs_nil : DGs X [] [] mgNil := by
 rintro pins s σ H vs us Q I r ⟨G, W, en, ds, en', h1, h2, h3, h4, h5⟩
 refine pgs_nil pins s σ H vs us Q I r ?_
 unfold mgNil at h4
 split at h4
 ·cases h4; cases h3; exact ⟨rfl, h5 _ h2 ⟨rfl, fun _ _ => rfl⟩⟩
 ·cases h4
theorem dgs_cons {e : Expr} {es : List Expr} {ks ls : List Nat} {f : D → En → Option En} {g : List D → En → Option En} (h1 : DG X e ks f) (h2 : DGs X es ls g)
  (hs : (assignEach (e :: es) X.env).map (·.2) = assign e X.env :: (assignEach es X.env).map (·.2) := by rfl) : DGs X (e :: es) (ks ++ ls) (mgCons f g) := by
 rintro pins s σ H vs us Q I r ⟨G, W, en, ds, en', k1, k2, k3, k4, k5⟩
 refine pgs_cons h1 h2 hs pins s σ H vs us Q I r ?_
 unfold mgCons at k4
 cases k3 with
 | nil => cases k4
 | @cons x xs d ds hx hr =>
  dsimp only at k4
  split at k4
  ·cases k4
  ·rename_i e1 q1
   exact ⟨x, xs, rfl, G, W, en, d, e1, k1, k2, hx, q1, fun σ' hσ hk => ⟨G, W, e1, ds, en', k1, hσ, hr, k4, fun σ2 q1 q2 => k5 σ2 q1 (hk.trans q2)⟩⟩
theorem dg_tup {es : List Expr} {k : Nat} {ks : List Nat} {f : List D → En → Option En} {n : Nat} (hc : X.calm = true) (h : DGs X es ks f) (hn : (assignEach es X.env).length = n := by rfl) (hst : (assignEach es X.env).findIdx? (·.1) = none := by rfl) : DG X (.Tuple es k pos) ks (mgTup n f) := by
 rintro pins s σ H v u Q I r ⟨G, W, en, d, en', k1, k2, k3, k4, k5⟩
 refine pg_tup hc h hn hst pins s σ H v u Q I r ?_
 unfold mgTup at k4
 split at k4
 ·rename_i ds
  split at k4
  ·rename_i hl
   cases k3 with
   | @tup a xs _ ha hr => exact ⟨a, xs, rfl, SqT.of (k1 _ _ ha), by rw [hr.length]; exact hl, G, W, en, ds, en', k1, k2, hr, k4, k5⟩
  ·cases k4
 ·cases k4
def mLoop (tg : D → En → Option En) (f : MS) : List D → MS
 | [], en => some (.nx en)
 | d :: ds, en => match tg d en with
  | none => none
  | some e1 => match f e1 with
   | some (.nx e2) => mLoop tg f ds e2
   | some (.ct e2) => mLoop tg f ds e2
   | some (.bk e2) => some (.nx e2)
   | r => r
def mFor (fi : En → Res (List D)) (tg : D → En → Option En) (f : MS) : MS := fun en => match fi en with
 | .ok ds => mLoop tg f ds en
 | .exc C => some (.ex C en)
 | .bad => none
theorem SimH.lower {B G0 G1 G H H1 : Hp} {W W1 : Addr → Option Nat} (h : SimH B G1 G W H) (h1 : SimH B G0 G1 W1 H1) : SimH B G0 G W H :=
 ⟨h.gh, h.bh, h1.g0.trans h.g0, fun b hb => (h.gb b hb).elim (fun z => h1.gb b z) .inr, h.wf⟩
theorem SimH.raise {B G0 G H : Hp} {W : Addr → Option Nat} (h : SimH B G0 G W H) : SimH B G G W H := ⟨h.gh, h.bh, Same.refl _, fun _ hb => .inl hb, h.wf⟩
theorem PostS.lower {K : PySem.W.Frag} {B G0 G1 H1 : Hp} {W1 : Addr → Option Nat} {Dn : Ends} {r : Out} (h : PostS K B G0 E Dn r) (h1 : SimH B G0 G1 W1 H1) : PostS K B G1 E Dn r := by
 cases r with
 | nx en => exact fun G W H σ a b => h G W H σ (a.lower h1) b
 | bk en => exact fun G W H σ a b => h G W H σ (a.lower h1) b
 | ct en => exact fun G W H σ a b => h G W H σ (a.lower h1) b
 | rt l => exact fun G W H σ a b => h G W H σ (a.lower h1) b
 | ex C en => exact fun G W H σ a b => h G W H σ (a.lower h1) b
theorem ds_for {tg iter : Expr} {body : List Stmt} {fi : En → Res (List D)} {ks : List Nat} {g : D → En → Option En} {f : MS} (hp : PassesOwn (model X.prog X.w) X.A X.env X.xe) (hc : X.calm = true) (hi : DI X E tg iter fi) (hg : DG X tg ks g) (hb : DSs X E body f)
  (hs : ∀ x, foldedSetIterable iter X.env x = pure x := by intro _; rfl) : DS X E (.For tg iter body [] pos) (mFor fi g f) := by
 obtain ⟨t, p, m⟩ := hb.out
 refine DS.in ⟨_, ps_for hp hc hi hg p hs, fun B G0 G W H σ en Dn hh hs hw => ⟨B, G0, G, W, en, hh, hs, ?_⟩⟩
 unfold mFor at hw
 cases ef : fi en with
 | bad => rw [ef] at hw; exact hw
 | exc C => rw [ef] at hw; exact fun G1 H1 s => hw G1 W H1 σ (hh.step s) (hs.step s)
 | ok ds =>
  rw [ef] at hw
  intro G1 H1 J s1 hJ
  have hh1 := hh.step s1
  refine ⟨fun i n σ H => n = ds.length - i ∧ i ≤ ds.length ∧ ∃ G W en, SimH B G1 G W H ∧ SimS X.K W G H σ en ∧ wpO (mLoop g f (ds.drop i) en) (PostS X.K B G0 E Dn),
   ⟨ds.length, rfl, Nat.zero_le _, G1, W, en, hh1.raise, hs.step s1, hw⟩, ?_⟩
  rintro i n σ H ⟨rfl, hi, G, W, en, hh, hs, hw⟩
  obtain ⟨j1, j2⟩ := hJ G H hh.g0 hh.gh
  by_cases hlt : i < ds.length
  ·refine .inr ?_
   obtain ⟨jg, jy⟩ := j1 i ds[i] (List.getElem?_eq_getElem hlt)
   rw [List.drop_eq_getElem_cons hlt] at hw
   unfold mLoop at hw
   refine ⟨jg, fun σ' H' => ∃ G W en, SimH B G1 G W H' ∧ SimS X.K W G H' σ' en ∧ wpO (mLoop g f (ds.drop (i + 1)) en) (PostS X.K B G0 E Dn), fun σ' H' q => ⟨ds.length - (i + 1), by lia, rfl, hlt, q⟩, fun v H' hy => ?_⟩
   obtain ⟨G2, s2, rv⟩ := jy v H' hy
   cases eg : g ds[i] en with
   | none => rw [eg] at hw; exact hw.elim
   | some e1 =>
    rw [eg] at hw
    dsimp only at hw
    refine ⟨G2, W, en, ds[i], e1, s2.gh, hs.step s2, rv, eg, fun σ' hσ _ => ?_⟩
    refine m B G1 G2 W H' σ' e1 _ (hh.step s2) hσ ?_
    cases ef2 : f e1 with
    | none => rw [ef2] at hw; exact hw
    | some o =>
     rw [ef2] at hw
     cases o with
     | nx e => exact fun G2 W2 H2 σ2 h2 s2 => ⟨G2, W2, e, h2, s2, hw⟩
     | ct e => exact fun G2 W2 H2 σ2 h2 s2 => ⟨G2, W2, e, h2, s2, hw⟩
     | bk e => exact PostS.lower (E := E) (Dn := Dn) (r := .nx e) hw hh1
     | rt l => exact PostS.lower (E := E) (Dn := Dn) (r := .rt l) hw hh1
     | ex C e => exact PostS.lower (E := E) (Dn := Dn) (r := .ex C e) hw hh1
  ·have e : i = ds.length := by lia
   subst e
   rw [List.drop_length] at hw
   exact .inl ⟨j2, hw G W H σ (hh.lower hh1) hs⟩
def listR (r : Ev) : Res (List D) := match r with
 | .p (.list ds) => .ok ds
 | _ => .bad
def mItL (fe : En → Res Ev) : En → Res (List D) := fun en => (fe en).bind fun r => listR r.c
theorem di_list {tg e : Expr} {fe : En → Res Ev} (he : DE X E e fe) : DI X E tg e (mItL fe) := by
 obtain ⟨t, p, m⟩ := he.out
 refine DI.in ⟨_, pi_list p, fun B G0 G W H σ en R hh hs hw => m B G0 G W H σ en _ hh hs ?_⟩
 have hw : wpR ((fe en).bind _) _ _ := hw
 rw [wpR_bind] at hw
 refine wpR_mono hw (fun r hr G1 H1 v s e => ?_) fun C h => h
 obtain ⟨G2, s2, e2⟩ := e.c s
 cases er : r.c with
 | p d =>
  rw [er] at hr e2
  cases d with
  | list ds =>
   cases e2 with
   | @lst a xs _ ha hrs =>
    refine ⟨a, rfl, ⟨xs, s2.gh.seq (.inl ha)⟩, hr G2 H1 _ s2 fun G3 H3 k1 k2 => ⟨fun i d ed => ?_, xs, (k1.trans k2).seq (.inl ha), Nat.le_of_eq hrs.length⟩⟩
    obtain ⟨x, ex, rx⟩ := hrs.get' ed
    refine ⟨⟨xs, x, (k1.trans k2).seq (.inl ha), ex⟩, fun v H' hy => ?_⟩
    obtain ⟨rfl, hy⟩ := hy
    have := hy xs ((k1.trans k2).seq (.inl ha))
    rw [ex] at this
    cases this
    exact ⟨G3, Step.refl k2, rx.mono k1⟩
  | _ => exact False.elim hr
 | f d => rw [er] at hr; exact False.elim hr
 | b d => rw [er] at hr; exact False.elim hr
 | x C => rw [er] at hr; exact False.elim hr
def rngL (lo : Int) (n : Nat) : List D := (List.range n).map fun (k : Nat) => PyData.int (lo + (k : Int))
def rng1R (rs : List Ev) : Res (List D) := match rs with
 | [.p (.int j)] => if -(2 ^ 62) ≤ j ∧ j < 2 ^ 62 then .ok (rngL 0 j.toNat) else .bad
 | _ => .bad
def rng2R (rs : List Ev) : Res (List D) := match rs with
 | [.p (.int i), .p (.int j)] => if -(2 ^ 62) ≤ i ∧ i < 2 ^ 62 ∧ -(2 ^ 62) ≤ j ∧ j < 2 ^ 62 then .ok (rngL i (j - i).toNat) else .bad
 | _ => .bad
theorem iter_range (K : PySem.W.Frag) (lo : Int) (n : Nat) (G1 : Hp) : IterOk K (rngL lo n) G1 (Itr lo n) := fun G H _ k2 => by
 refine ⟨fun i d ed => ?_, by show n ≤ _; unfold rngL; rw [List.length_map, List.length_range]; exact Nat.le_refl _⟩
 unfold rngL at ed
 rw [List.getElem?_map] at ed
 by_cases hi : i < n
 ·rw [List.getElem?_range hi] at ed
  cases ed
  refine ⟨hi, fun v H' hy => ?_⟩
  obtain ⟨rfl, rfl⟩ := hy
  exact ⟨G, Step.refl k2, .int _⟩
 ·rw [List.getElem?_eq_none (by rw [List.length_range]; lia)] at ed
  cases ed
def mItA (r : List Ev → Res (List D)) (fr : En → Res (List Ev)) : En → Res (List D) := fun en => (fr en).bind r
theorem di_range1 {tg a : Expr} {fr : En → Res (List Ev)} {p : Pos} (hg : Gl X "range") (hm : X.mg "range" = none) (ha : DA X E [a] fr) (hs : starEach [a] X.env = [(false, eval a X.env)] := by rfl) : DI X E tg (.Call (.Name "range" p) [a] [] pos) (mItA rng1R fr) := by
 obtain ⟨t, q, m⟩ := ha.out
 refine DI.in ⟨_, pi_range1 hg hm q hs, fun B G0 G W H σ en R hh hs hw => m B G0 G W H σ en _ hh hs ?_⟩
 have hw : wpR ((fr en).bind _) _ _ := hw
 rw [wpR_bind] at hw
 refine wpR_mono hw (fun rs hr G1 H1 vs s e => ?_) fun C h => h
 unfold rng1R at hr
 split at hr
 ·rename_i j
  split at hr
  ·rename_i hj
   match vs, e with
   | [v], ⟨e1, _⟩ =>
    cases e1
    exact ⟨j, rfl, hj.1, hj.2, hr G1 H1 _ s (iter_range _ _ _ _)⟩
  ·exact False.elim hr
 ·exact False.elim hr
theorem di_range2 {tg a b : Expr} {fr : En → Res (List Ev)} {p : Pos} (hg : Gl X "range") (hm : X.mg "range" = none) (ha : DA X E [a, b] fr) (hs : starEach [a, b] X.env = [(false, eval a X.env), (false, eval b X.env)] := by rfl) (hs2 : starEach [b] X.env = [(false, eval b X.env)] := by rfl) :
  DI X E tg (.Call (.Name "range" p) [a, b] [] pos) (mItA rng2R fr) := by
 obtain ⟨t, q, m⟩ := ha.out
 refine DI.in ⟨_, pi_range2 hg hm q hs hs2, fun B G0 G W H σ en R hh hs hw => m B G0 G W H σ en _ hh hs ?_⟩
 have hw : wpR ((fr en).bind _) _ _ := hw
 rw [wpR_bind] at hw
 refine wpR_mono hw (fun rs hr G1 H1 vs s e => ?_) fun C h => h
 unfold rng2R at hr
 split at hr
 ·rename_i i j
  split at hr
  ·rename_i hj
   match vs, e with
   | [v, u], ⟨e1, e2, _⟩ =>
    cases e1
    cases e2
    exact ⟨i, j, rfl, hj, hr G1 H1 _ s (iter_range _ _ _ _)⟩
  ·exact False.elim hr
 ·exact False.elim hr
end
def argL : Ev → Option L
 | .p d => some (.p d)
 | .x C => some (.x C)
 | .b _ => none
 | .f _ => none
def argB : Ev → Option L
 | .p d => some (.p d)
 | .b d => some (.p d)
 | .x _ => none
 | .f _ => none
def argsL (g : Ev → Option L) : List Ev → Option (List L)
 | [] => some []
 | r :: rs => match g r with
  | none => none
  | some l => match argsL g rs with
   | none => none
   | some ls => some (l :: ls)
def retE : L → Ev
 | .p d => .p d
 | .o d => .f d
 | .x C => .x C
 | .h a => .x a
mutual
def lfD : D → Bool
 | .list _ => false
 | .dict _ => false
 | .tuple ds => lfA ds
 | _ => true
def lfA : List D → Bool
 | [] => true
 | d :: ds => lfD d && lfA ds
end
def lfP : List (D × D) → Bool
 | [] => true
 | p :: r => lfD p.2 && lfP r
def flatL : L → Bool
 | .p d => lfD d
 | .o (.list ds) => lfA ds
 | .o (.dict kvs) => lfP kvs
 | _ => false
def callR (n : Nat) (m : List L → Res L) (rs : List Ev) : Res Ev := match argsL argL rs with
 | some ls => if ls.length = n then (m ls).bind fun l => .ok (retE l) else .bad
 | none => match argsL argB rs with
  | some ls => if ls.length = n then (m ls).bind fun l => if flatL l = true then .ok (retE l) else .bad else .bad
  | none => .bad
def mCall (n : Nat) (m : List L → Res L) (fr : En → Res (List Ev)) : En → Res Ev := fun en => (fr en).bind (callR n m)
def ArgOk (K : PySem.W.Frag) (G : Hp) (v : V) : L → Prop
 | .p d => Rep K G v d
 | .o _ => False
 | .x C => ∃ e, v = .ref e ∧ G e = some (excO e (.ref C))
 | .h _ => False
def ArgsOk (K : PySem.W.Frag) (G : Hp) : List V → List L → Prop
 | [], [] => True
 | v :: vs, l :: ls => ArgOk K G v l ∧ ArgsOk K G vs ls
 | _, _ => False
theorem ArgsOk.length {K : PySem.W.Frag} {G : Hp} : ∀ {vs : List V} {ls : List L}, ArgsOk K G vs ls → vs.length = ls.length
 | [], [], _ => rfl
 | _ :: _, _ :: _, h => by rw [List.length_cons, List.length_cons, ArgsOk.length h.2]
def spM (K : PySem.W.Frag) (n : Nat) (m : List L → Res L) : Sp := fun vs H Q E => vs.length = n ∧ ∃ G ls, Same G H ∧ ArgsOk K G vs ls ∧
 wpR (m ls) (fun l => ∀ G' H' v, Step G H G' H' → RetOk K H G' H' v l → Q v H') (fun C => ∀ G' H', Step G H G' H' → E (.ref C) none H')
theorem args_L {K : PySem.W.Frag} {W : Addr → Option Nat} {Hs G H : Hp} : ∀ {rs : List Ev} {ls : List L} {vs : List V}, argsL argL rs = some ls → EOks K W Hs G H vs rs → ArgsOk K G vs ls
 | [], _, [], h, _ => by cases h; exact trivial
 | [], _, _ :: _, _, e => e.elim
 | _ :: _, _, [], _, e => e.elim
 | r :: rs, ls, v :: vs, h, e => by
  unfold argsL at h
  cases r with
  | p d =>
   cases er : argsL argL rs with
   | none => rw [er] at h; cases h
   | some ls' => rw [er] at h; cases h; exact ⟨e.1, args_L er e.2⟩
  | x C =>
   cases er : argsL argL rs with
   | none => rw [er] at h; cases h
   | some ls' => rw [er] at h; cases h; exact ⟨e.1, args_L er e.2⟩
  | b d => cases h
  | f d => cases h
def both (W : Addr → Option Nat) (G H : Hp) : Hp := fun b => match W b with
 | some _ => H b
 | none => G b
theorem both_same {W : Addr → Option Nat} {B G0 G H : Hp} (hh : SimH B G0 G W H) : Same G (both W G H) ∧ Same (both W G H) H := by
 refine ⟨fun b o e => ?_, fun b o e => ?_⟩
 ·unfold both
  cases ew : W b with
  | none => exact e
  | some i => rw [(hh.wf b i ew).1] at e; cases e
 ·unfold both at e
  cases ew : W b with
  | none => rw [ew] at e; exact hh.gh b o e
  | some i => rw [ew] at e; exact e
theorem args_B {K : PySem.W.Frag} {W : Addr → Option Nat} {Hs B G0 G H : Hp} (hh : SimH B G0 G W H) : ∀ {rs : List Ev} {ls : List L} {vs : List V}, argsL argB rs = some ls → EOks K W Hs G H vs rs → ArgsOk K (both W G H) vs ls
 | [], _, [], h, _ => by cases h; exact trivial
 | [], _, _ :: _, _, e => e.elim
 | _ :: _, _, [], _, e => e.elim
 | r :: rs, ls, v :: vs, h, e => by
  unfold argsL at h
  cases r with
  | p d =>
   cases er : argsL argB rs with
   | none => rw [er] at h; cases h
   | some ls' => rw [er] at h; cases h; exact ⟨Rep.mono (both_same hh).1 e.1, args_B hh er e.2⟩
  | b d =>
   cases er : argsL argB rs with
   | none => rw [er] at h; cases h
   | some ls' =>
    rw [er] at h; cases h
    refine ⟨?_, args_B hh er e.2⟩
    obtain ⟨a, i, o, rfl, h1, h2, h3⟩ := e.1
    exact (h3.mono (both_same hh).1).rep (by unfold both; rw [h1]; exact h2)
  | x d => cases h
  | f d => cases h
mutual
theorem lf_rep {K : PySem.W.Frag} {G G' : Hp} (k : ∀ b xs, G b = some (.tup xs) → G' b = some (.tup xs)) : ∀ {v : V} {d : D}, lfD d = true → Rep K G v d → Rep K G' v d
 | _, _, _, .non => .non
 | _, _, _, .bl b => .bl b
 | _, _, _, .int i => .int i
 | _, _, _, .str x => .str x
 | _, _, hf, .tup h r => .tup (k _ _ h) (lf_reps k (by unfold lfD at hf; exact hf) r)
 | _, _, hf, .lst _ _ => by unfold lfD at hf; cases hf
 | _, _, hf, .dT _ _ => by unfold lfD at hf; cases hf
 | _, _, hf, .dK _ _ => by unfold lfD at hf; cases hf
theorem lf_reps {K : PySem.W.Frag} {G G' : Hp} (k : ∀ b xs, G b = some (.tup xs) → G' b = some (.tup xs)) : ∀ {vs : List V} {ds : List D}, lfA ds = true → Reps K G vs ds → Reps K G' vs ds
 | _, _, _, .nil => .nil
 | _, _, hf, .cons h r => by
  unfold lfA at hf
  have hf := Bool.and_eq_true_iff.mp hf
  exact .cons (lf_rep k hf.1 h) (lf_reps k hf.2 r)
end
theorem lf_repT {K : PySem.W.Frag} {G G' : Hp} (k : ∀ b xs, G b = some (.tup xs) → G' b = some (.tup xs)) : ∀ {kv : List (List Key × V)} {kvs : List (D × D)}, lfP kvs = true → RepT K G kv kvs → RepT K G' kv kvs
 | _, _, _, .nil => .nil
 | _, _, hf, .cons h r => by
  unfold lfP at hf
  have hf := Bool.and_eq_true_iff.mp hf
  exact .cons (lf_rep k hf.1 h) (lf_repT k hf.2 r)
theorem lf_repK {K : PySem.W.Frag} {G G' : Hp} (k : ∀ b xs, G b = some (.tup xs) → G' b = some (.tup xs)) : ∀ {kv : List (Key × V)} {kvs : List (D × D)}, lfP kvs = true → RepK K G kv kvs → RepK K G' kv kvs
 | _, _, _, .nil => .nil
 | _, _, hf, .cons h r => by
  unfold lfP at hf
  have hf := Bool.and_eq_true_iff.mp hf
  exact .cons (lf_rep k hf.1 h) (lf_repK k hf.2 r)
def lessW (W : Addr → Option Nat) (G : Hp) : Hp := fun b => match W b with
 | some _ => none
 | none => G b
theorem flat_rep {K : PySem.W.Frag} {W : Addr → Option Nat} {H1 G H Hs : Hp} {v : V} {l : L} (hf : flatL l = true) (hH : Hs = Hs) (hs : ∀ b, H1 b = none → Hs b = none) (k : ∀ b xs, G b = some (.tup xs) → lessW W G b = some (.tup xs)) (h : RetOk K H1 G H v l) : EOk K W Hs (lessW W G) H v (retE l) := by
 have n0 : ∀ b, G b = none → lessW W G b = none := fun b e => by
  unfold lessW
  cases W b with
  | none => exact e
  | some _ => rfl
 cases l with
 | x C => cases hf
 | h a => cases hf
 | p d => exact lf_rep k hf h
 | o d =>
  obtain ⟨a, o, rfl, h1, h2, h3, h4⟩ := h
  refine ⟨a, o, rfl, hs _ h2, n0 _ h1, h3, ?_⟩
  cases h4 with
  | lst r => exact .lst (lf_reps k hf r)
  | dT r => exact .dT (lf_repT k hf r)
  | dK r => exact .dK (lf_repK k (by unfold flatL at hf; unfold lfP at hf; exact (Bool.and_eq_true_iff.mp hf).2) r)
theorem call_core {K : PySem.W.Frag} {W : Addr → Option Nat} {B G0 G H G1 H1 : Hp} {n : Nat} {m : List L → Res L} {rs : List Ev} {vs : List V} {Q : VK} {EE : XK} (hh : SimH B G0 G W H) (s : Step G H G1 H1) (e : EOks K W H G1 H1 vs rs)
  (hr : wpR (callR n m rs) (PostE K W G H Q) (PostX EE G H)) : spM K n m vs H1 Q EE := by
 unfold callR at hr
 split at hr
 ·rename_i ls el
  split at hr
  ·rename_i hn
   have ha := args_L el e
   refine ⟨by rw [ha.length]; exact hn, G1, ls, s.gh, ha, ?_⟩
   rw [wpR_bind] at hr
   refine wpR_mono hr (fun l hl G2 H2 v s2 rv => hl G2 H2 v (s.trans s2) ?_) fun C h G2 H2 s2 => h G2 H2 (s.trans s2)
   cases l with
   | p d => exact rv
   | x C => exact rv
   | h a => exact rv.elim
   | o d =>
    obtain ⟨a, o, h1, h2, h3, h4, h5⟩ := rv
    exact ⟨a, o, h1, s.h.free h3, h2, h4, h5⟩
  ·exact hr.elim
 ·split at hr
  ·rename_i ls el
   split at hr
   ·rename_i hn
    have hh1 := hh.step s
    have ha := args_B hh1 el e
    obtain ⟨k1, k2⟩ := both_same hh1
    refine ⟨by rw [ha.length]; exact hn, both W G1 H1, ls, k2, ha, ?_⟩
    rw [wpR_bind] at hr
    refine wpR_mono hr (fun l hl G2 H2 v s2 rv => ?_) fun C h G2 H2 s2 => h G1 H2 (s.trans ⟨Same.refl _, s2.h, s.gh.trans s2.h, fun _ _ q => .inl q⟩)
    split at hl
    ·rename_i hf
     have kt : ∀ b xs, G2 b = some (.tup xs) → lessW W G2 b = some (.tup xs) := fun b xs eb => by
      unfold lessW
      cases ew : W b with
      | none => exact eb
      | some i =>
       obtain ⟨_, _, o, e1, e2⟩ := hh1.wf b i ew
       have e3 := s2.gh _ _ eb
       rw [s2.h _ _ e1] at e3
       exact absurd (Option.some.inj e3) (e2 xs)
     refine hl (lessW W G2) H2 v ⟨fun b o eb => ?_, s.h.trans s2.h, fun b o eb => ?_, fun b hb hg => ?_⟩ (flat_rep hf rfl (fun b e => s.h.free e) kt rv)
     ·have e1 := s.g _ _ eb
      unfold lessW
      cases ew : W b with
      | none => exact s2.g _ _ (k1 _ _ e1)
      | some i => rw [(hh1.wf b i ew).1] at e1; cases e1
     ·unfold lessW at eb
      cases ew : W b with
      | none => rw [ew] at eb; exact s2.gh _ _ eb
      | some i => rw [ew] at eb; cases eb
     ·unfold lessW
      cases ew : W b with
      | some i => exact .inl rfl
      | none =>
       rcases s.new b hb hg with z | z
       ·have z2 : both W G1 H1 b = none := by unfold both; rw [ew]; exact z
        rcases s2.new b (same_ne s.h hb) z2 with y | ⟨xs, y⟩
        ·exact .inl y
        ·cases e : H b with
         | none => exact absurd e hb
         | some o => rw [s.h _ _ e] at y; exact .inr ⟨xs, y⟩
       ·exact .inr z
    ·exact hl.elim
   ·exact hr.elim
  ·exact hr.elim
section
variable {X : Cx} {E : L2.St → XK} {k : Nat} {f : Addr} {fd : FuncData} {ps : List Str} {x : Str} {p pos : Pos} {e : Expr} {es : List Expr} {fr : En → Res (List Ev)} {n : Nat} {m : List L → Res L}
theorem de_call (F : FnOk X.prog X.w X.K X.mg X.base (CXr X.prog X.w) k f fd ps (spM X.K n m)) (hr : Room k X.A) (hg : Gl X x) (hm : X.mg x = some (.ref f)) (hk : PySem.W.keepIn X.K (.ref f) = true) (hb : Binds X.K fd ps []) (hx : PassesS (CXr X.prog X.w) X E)
  (ha : DA X E (e :: es) fr) (hdb : (x == ("__debug__" : Str)) = false := by decide) (he : starEach (e :: es) X.env = (false, eval e X.env) :: starEach es X.env := by rfl) (hpl : (backTo pos (starEach es X.env)).any (·.1) = false := by rfl) :
  DE X E (.Call (.Name x p) (e :: es) [] pos) (mCall n m fr) := by
 obtain ⟨t, q, mm⟩ := ha.out
 refine DE.in ⟨_, pe_callS F hr hg hm hk hb hx q hdb he hpl, fun B G0 G W H σ en Q hh hs hw => mm B G0 G W H σ en _ hh hs ?_⟩
 have hw : wpR ((fr en).bind _) _ _ := hw
 rw [wpR_bind] at hw
 exact wpR_mono hw (fun rs hr G1 H1 vs s e => call_core hh s e hr) fun C h => h
def CallM (K : PySem.W.Frag) (r : List V → Hp → VK → Prop) (f : List Ev → Res Ev) : Prop := ∀ (W : Addr → Option Nat) (Hs G H : Hp) (vs : List V) (rs : List Ev) (Q : VK), Same G H → EOks K W Hs G H vs rs → wpR (f rs) (PostE K W G H Q) (fun _ => False) → r vs H Q
def NoXs (f : List Ev → Res Ev) : Prop := ∀ rs C, f rs ≠ .exc C
def mCallB (f : List Ev → Res Ev) (fr : En → Res (List Ev)) : En → Res Ev := fun en => (fr en).bind f
theorem callB_core {r : List V → Hp → VK → Prop} {f : List Ev → Res Ev} {t : TA} (hm : CallM X.K r f) (hn : NoXs f) (mm : ∀ B G0 G W H σ en Q, SimH B G0 G W H → SimS X.K W G H σ en → wpR (fr en) (PostA X.K W G H Q) (PostX (E σ) G H) → t σ H Q) :
  ∀ B G0 G W H σ en Q, SimH B G0 G W H → SimS X.K W G H σ en → wpR (mCallB f fr en) (PostE X.K W G H Q) (PostX (E σ) G H) → tCB r t σ H Q := by
 intro B G0 G W H σ en Q hh hs hw
 refine mm B G0 G W H σ en _ hh hs ?_
 have hw : wpR ((fr en).bind _) _ _ := hw
 rw [wpR_bind] at hw
 exact wpR_mono hw (fun rs hr G1 H1 vs s e => hm W H G1 H1 vs rs Q s.gh e (noX (wpR_mono hr (fun _ h => h.step s) fun _ h => h) (hn rs))) fun C h => h
theorem de_callB {id : String} {r : List V → Hp → VK → Prop} {f : List Ev → Res Ev} (hc : CallR X (.builtin id) r) (hM : CallM X.K r f) (hn : NoXs f) (hg : Gl X x) (hm : X.mg x = none) (hv : bootBuiltins x = some (.builtin id)) (ha : DA X E (e :: es) fr) (hnn : x ≠ "__name__" := by decide) (hdb : (x == ("__debug__" : Str)) = false := by decide)
  (he : starEach (e :: es) X.env = (false, eval e X.env) :: starEach es X.env := by rfl) (hpl : (backTo pos (starEach es X.env)).any (·.1) = false := by rfl) : DE X E (.Call (.Name x p) (e :: es) [] pos) (mCallB f fr) := by
 obtain ⟨t, q, mm⟩ := ha.out
 exact DE.in ⟨_, pe_callB hc hg hm hv q hnn hdb he hpl, callB_core hM hn mm⟩
theorem de_callTy {T : String} {r : List V → Hp → VK → Prop} {f : List Ev → Res Ev} (hc : CallR X (.type T) r) (hM : CallM X.K r f) (hn : NoXs f) (hg : Gl X x) (hm : X.mg x = none) (hv : bootBuiltins x = some (.type T)) (ha : DA X E (e :: es) fr) (hnn : x ≠ "__name__" := by decide) (hdb : (x == ("__debug__" : Str)) = false := by decide)
  (he : starEach (e :: es) X.env = (false, eval e X.env) :: starEach es X.env := by rfl) (hpl : (backTo pos (starEach es X.env)).any (·.1) = false := by rfl) : DE X E (.Call (.Name x p) (e :: es) [] pos) (mCallB f fr) := by
 obtain ⟨t, q, mm⟩ := ha.out
 exact DE.in ⟨_, pe_callTy hc hg hm hv q hnn hdb he hpl, callB_core hM hn mm⟩
end
def startE (n : Nat) (ls : List L) : En := ls.map some ++ List.replicate (n - ls.length) none
def runF (n : Nat) (f : MS) (ls : List L) : Res L := match f (startE n ls) with
 | some (.nx _) => .ok (.p .none)
 | some (.rt l) => .ok l
 | some (.ex C _) => .exc C
 | _ => .bad
theorem args_slots {K : PySem.W.Frag} {W : Addr → Option Nat} {G H : Hp} : ∀ {vs : List V} {ls : List L} (i : Nat) (l : L), ArgsOk K G vs ls → ls[i]? = some l → ∃ v, vs[i]? = some v ∧ ∀ j, Slot K W G H j v l
 | [], [], _, _, _, e => by simp at e
 | v :: vs, l :: ls, 0, m, h, e => by
  simp at e; subst e
  refine ⟨v, rfl, fun j => ?_⟩
  have z := h.1
  cases l with
  | p d => exact z
  | x C => exact z
  | h a => exact z.elim
  | o d => exact z.elim
 | v :: vs, l :: ls, i + 1, m, h, e => by
  have := args_slots (W := W) (H := H) i m h.2 (by simpa using e)
  simpa using this
theorem start_sim {K : PySem.W.Frag} {W : Addr → Option Nat} {G H : Hp} {N : List Str} {vs : List V} {ls : List L} (h : ArgsOk K G vs ls) : SimS K W G H (L2.start N vs) (startE N.length ls) := by
 have hl := h.length
 refine ⟨by unfold L2.start startE; simp [hl], fun i l e => ?_⟩
 unfold startE at e
 by_cases hi : i < ls.length
 ·rw [List.getElem?_append_left (by rw [List.length_map]; exact hi), List.getElem?_map] at e
  cases e2 : ls[i]? with
  | none => rw [e2] at e; cases e
  | some l' =>
   rw [e2] at e
   cases e
   obtain ⟨v, e3, e4⟩ := args_slots (W := W) (H := H) i l h e2
   refine ⟨v, ?_, e4 i⟩
   unfold L2.start
   rw [List.getElem?_append_left (by rw [List.length_map, hl]; exact hi), List.getElem?_map, e3]
   rfl
 ·rw [List.getElem?_append_right (by rw [List.length_map]; lia), List.getElem?_replicate] at e
  split at e <;> cases e
theorem step_of {G H G' H' : Hp} {W : Addr → Option Nat} (h : SimH H G G' W H') : Step G H G' H' := ⟨h.g0, h.bh, h.gh, fun b hb hg => by
 cases e : G' b with
 | none => exact .inl rfl
 | some o =>
  rcases h.gb b (by rw [e]; exact fun z => nomatch z) with z | z | z
  ·exact absurd hg z
  ·exact absurd z hb
  ·exact .inr z⟩
theorem body_core {K : PySem.W.Frag} {N : List Str} {n : Nat} {m : List L → Res L} {fm : MS} {vs : List V} {H : Hp} {Q : VK} {E : XK} (h : spM K n m vs H Q E) (hm : ∀ ls, m ls = .bad ∨ runF N.length fm ls = m ls) :
  tS K (fun _ => E) fm { nx := fun _ H' => Q .non H', rt := Q } (L2.start N vs) H := by
 obtain ⟨hl, G, ls, gh, ha, hw⟩ := h
 refine ⟨H, G, G, fun _ => none, startE N.length ls, ⟨gh, Same.refl _, Same.refl _, fun _ hb => .inl hb, fun a i e => nomatch e⟩, start_sim ha, ?_⟩
 rcases hm ls with e | e
 ·rw [e] at hw; exact hw.elim
 ·rw [← e] at hw
  unfold runF at hw
  cases ef : fm (startE N.length ls) with
  | none => rw [ef] at hw; exact hw
  | some o =>
   rw [ef] at hw
   cases o with
   | nx en => exact fun G' W' H' σ' h1 _ => hw G' H' .non (step_of h1) .non
   | rt l => exact fun G' W' H' v h1 h2 => hw G' H' v (step_of h1) h2
   | bk en => exact hw.elim
   | ct en => exact hw.elim
   | ex C en => exact fun G' W' H' σ' h1 _ => hw G' H' (step_of h1)
section
variable {P : Program} {w : World} {K : PySem.W.Frag} {mg : Str → Option Value} {base : Heap}
theorem passS {N : List Str} {qual : Str} {scope : Scope} {f : Addr} {cd : Value} {A : Around} {outer : List Env} {s : Shared} {H : Hp} {E : XK} : PassesS (CXr P w) (cxOf (CXr P w) P w K mg base N qual scope f cd A outer s H E) (fun _ => E) :=
 fun pins σ H s e s' I h => passR pins σ H s e s' I h
theorem passF {X : Cx} : PassesS (CXr P w) X (fun _ => E0) := by rintro _ _ _ _ _ _ _ ⟨_, _, _, _, _, _, _, z⟩; exact z.elim
theorem fnM {x qual : Str} {st : Stmt} {f : Addr} {fd : FuncData} {N ps : List Str} {k n : Nat} {m : List L → Res L} (F : Fun K x qual st f fd) (S : FnScope N ps (defScope st)) (hn : n = ps.length)
  (hbody : ∀ (cdv : Value) (A : Around) (outer : List Env) (s : Shared) (H : Hp) (E : XK), Room k (A.deeper (envOfC qual (defScope st) s.heap.objs.size f cdv)) →
   ∃ fm, DSs (cxOf (CXr P w) P w K mg base N qual (defScope st) f cdv A outer s H E) (fun _ => E) (defBody st) fm ∧ ∀ ls, m ls = .bad ∨ runF N.length fm ls = m ls) : FnOk P w K mg base (CXr P w) (k + 1) f fd ps (spM K n m) := by
 refine F.okX S (fun vs H Q E h => ?_) (fun cdv A outer s H vs Q E hr h => ?_)
 ·rw [← hn]; exact h.1
 ·obtain ⟨fm, hd, hm⟩ := hbody cdv A outer s H E hr
  exact ⟨_, hd, body_core h hm⟩
end
def mRaise (C : Addr) (fr : En → Res (List Ev)) : MS := fun en => match fr en with
 | .ok rs => if rs.length ≤ 1000 then some (.ex C en) else none
 | .exc C => some (.ex C en)
 | .bad => none
theorem EOks.length {K : PySem.W.Frag} {W : Addr → Option Nat} {Hs G H : Hp} : ∀ {vs : List V} {rs : List Ev}, EOks K W Hs G H vs rs → vs.length = rs.length
 | [], [], _ => rfl
 | [], _ :: _, h => h.elim
 | _ :: _, [], h => h.elim
 | _ :: _, _ :: _, h => by rw [List.length_cons, List.length_cons, EOks.length h.2]
section
variable {X : Cx}
theorem ds_raise {E : XK} {x : Str} {e₀ : Expr} {rest : List Expr} {fr : En → Res (List Ev)} {C : Addr} {bm : List Value} {B newId initId : String} {np cpos pos : Pos} (hx : Raises X E) (hc : X.calm = true) (hg : Gl X x) (O : OwnCls x C bm newId X.mg X.base)
  (FB : ExcBaseFacts B newId initId bm) (ha : DA X (fun _ => E) (e₀ :: rest) fr) (hdb : (x == ("__debug__" : Str)) = false := by decide)
  (he : starEach (e₀ :: rest) X.env = (false, eval e₀ X.env) :: starEach rest X.env := by rfl) (hpl : (backTo cpos (starEach rest X.env)).any (·.1) = false := by rfl) :
  DS X (fun _ => E) (.Raise (some (.Call (.Name x np) (e₀ :: rest) [] cpos)) none pos) (mRaise C fr) := by
 obtain ⟨t, q, m⟩ := ha.out
 refine DS.in ⟨_, ps_raise hx hc hg O FB q hdb he hpl, fun B G0 G W H σ en Dn hh hs hw => m B G0 G W H σ en _ hh hs ?_⟩
 unfold mRaise at hw
 cases ef : fr en with
 | bad => rw [ef] at hw; exact hw
 | exc C => rw [ef] at hw; exact fun G1 H1 s => hw G1 W H1 σ (hh.step s) (hs.step s)
 | ok rs =>
  rw [ef] at hw
  intro G1 H1 vs s e
  dsimp only at hw
  split at hw
  ·rename_i hl
   exact ⟨by rw [e.length]; exact Nat.le_trans hl (by decide), hw G1 W H1 σ (hh.step s) (hs.step s)⟩
  ·exact hw.elim
end
def pureL : List Ev → Option (List D)
 | [] => some []
 | r :: rs => match r with
  | .p d => match pureL rs with
   | some ds => some (d :: ds)
   | none => none
  | _ => none
theorem pure_reps {K : PySem.W.Frag} {W : Addr → Option Nat} {Hs G H : Hp} : ∀ {rs : List Ev} {ds : List D} {vs : List V}, pureL rs = some ds → EOks K W Hs G H vs rs → Reps K G vs ds
 | [], _, [], h, _ => by cases h; exact .nil
 | [], _, _ :: _, _, e => e.elim
 | _ :: _, _, [], _, e => e.elim
 | r :: rs, ds, v :: vs, h, e => by
  unfold pureL at h
  cases r with
  | p d =>
   dsimp only at h
   cases er : pureL rs with
   | none => rw [er] at h; cases h
   | some ds' => rw [er] at h; cases h; exact .cons e.1 (pure_reps er e.2)
  | x C => cases h
  | b d => cases h
  | f d => cases h
def tupR' (rs : List Ev) : Res Ev := match pureL rs with
 | some ds => if ds.length ≤ 1000 then .ok (.p (.tuple ds)) else .bad
 | none => .bad
def lstR' (rs : List Ev) : Res Ev := match pureL rs with
 | some ds => if ds.length ≤ 1000 then .ok (.f (.list ds)) else .bad
 | none => .bad
section
variable {X : Cx} {E : L2.St → XK} {es : List Expr} {fr : En → Res (List Ev)} {pos : Pos}
theorem de_tup {x1} (h : DA X E es fr) : DE X E (.Tuple es x1 pos) (mCallB tupR' fr) := by
 obtain ⟨t, q, m⟩ := h.out
 refine DE.in ⟨_, pe_tup q, fun B G0 G W H σ en Q hh hs hw => m B G0 G W H σ en _ hh hs ?_⟩
 have hw : wpR ((fr en).bind _) _ _ := hw
 rw [wpR_bind] at hw
 refine wpR_mono hw (fun rs hr G1 H1 vs s e => ?_) fun C h => h
 unfold tupR' at hr
 split at hr
 ·rename_i ds el
  have rp := pure_reps el e
  split at hr
  ·rename_i hl
   refine ⟨by rw [rp.length]; exact Nat.le_trans hl (by decide), fun p hp => ?_⟩
   have st := Step.put (o := .tup vs) s.gh hp
   exact hr _ _ _ (s.trans st) (.tup upd_same (rp.mono st.g))
  ·exact False.elim hr
 ·exact False.elim hr
theorem de_lst (h : DA X E es fr) : DE X E (.List es pos) (mCallB lstR' fr) := by
 obtain ⟨t, q, m⟩ := h.out
 refine DE.in ⟨_, pe_lst q, fun B G0 G W H σ en Q hh hs hw => m B G0 G W H σ en _ hh hs ?_⟩
 have hw : wpR ((fr en).bind _) _ _ := hw
 rw [wpR_bind] at hw
 refine wpR_mono hw (fun rs hr G1 H1 vs s e => ?_) fun C h => h
 unfold lstR' at hr
 split at hr
 ·rename_i ds el
  have rp := pure_reps el e
  split at hr
  ·rename_i hl
   refine ⟨by rw [rp.length]; exact Nat.le_trans hl (by decide), fun p hp => ?_⟩
   have st := Step.lay (o := .lst vs) s.gh hp
   exact hr _ _ _ (s.trans st) ⟨p, _, rfl, s.h.free hp, s.gh.free hp, upd_same, .lst rp⟩
  ·exact False.elim hr
 ·exact False.elim hr
end
def mapO (g : D → Option (Option D)) : List D → Option (List D)
 | [] => some []
 | d :: ds => match g d with
  | none => none
  | some o => match mapO g ds with
   | none => none
   | some r => some (match o with
    | some y => y :: r
    | none => r)
def capO (o : Option (Option L)) : Option L := match o with
 | some (some (.p d)) => some (.p d)
 | some (some (.x C)) => some (.x C)
 | _ => none
def capE (js : List Nat) (en : En) : En := js.map fun j => capO en[j]?
def mYes : En → Res Bool := fun _ => .ok true
def compItem (n : Nat) (js : List Nat) (tg : D → En → Option En) (ft : En → Res Bool) (fe : En → Res Ev) (en : En) (d : D) : Option (Option D) := match tg d (List.replicate n none ++ capE js en) with
 | none => none
 | some e => match ft e with
  | .ok true => match fe e with
   | .ok r => match r.c with
    | .p y => some (some y)
    | _ => none
   | _ => none
  | .ok false => some none
  | _ => none
def compR (g : D → Option (Option D)) (ds : List D) : Res Ev := if ds.length ≤ 100000 then match mapO g ds with
  | some r => .ok (.f (.list r))
  | none => .bad
 else .bad
def mComp (n : Nat) (js : List Nat) (fi : En → Res (List D)) (tg : D → En → Option En) (ft : En → Res Bool) (fe : En → Res Ev) : En → Res Ev := fun en => (fi en).bind fun ds => compR (compItem n js tg ft fe en) ds
def DTs (X : Cx) (ifs : List Expr) (f : En → Res Bool) : Prop := PTs X ifs (tT X.K (fun _ => E0) f)
theorem sim0 {G H : Hp} (h : Same G H) : SimH H G G (fun _ => none) H := ⟨h, Same.refl _, Same.refl _, fun _ hb => .inl hb, fun a i e => nomatch e⟩
theorem caps_sim {K : PySem.W.Frag} {W : Addr → Option Nat} {G H : Hp} {σ : L2.St} {en : En} (n : Nat) (js : List Nat) (h : SimS K W G H σ en) : SimS K (fun _ => none) G H (List.replicate n none ++ caps js σ) (List.replicate n none ++ capE js en) := by
 refine ⟨by unfold caps capE; simp, fun i l e => ?_⟩
 by_cases hi : i < n
 ·rw [List.getElem?_append_left (by rw [List.length_replicate]; exact hi), List.getElem?_replicate] at e
  split at e <;> cases e
 ·rw [List.getElem?_append_right (by rw [List.length_replicate]; lia), List.length_replicate] at e ⊢
  unfold capE at e
  unfold caps
  rw [List.getElem?_map] at e ⊢
  cases ej : js[i - n]? with
  | none => rw [ej] at e; cases e
  | some j =>
   rw [ej] at e
   have e' : capO en[j]? = some l := Option.some.inj e
   unfold capO at e'
   split at e'
   ·rename_i d q
    cases e'
    obtain ⟨v, h1, h2⟩ := h.2 j _ q
    exact ⟨v, by show some ((σ[j]?).getD none) = _; rw [h1]; rfl, h2⟩
   ·rename_i d q
    cases e'
    obtain ⟨v, h1, h2⟩ := h.2 j _ q
    exact ⟨v, by show some ((σ[j]?).getD none) = _; rw [h1]; rfl, h2⟩
   ·cases e'
section
variable {X : Cx} {E : L2.St → XK} {pos : Pos}
theorem dts_nil : DTs X [] mYes := by rintro pins s σ H Q I ⟨B, G0, G, W, en, h1, h2, h3⟩; exact pts_nil pins s σ H Q I (h3 G H (Step.refl h1.gh))
theorem dts_one {c : Expr} {f : En → Res Bool} (h : DT X (fun _ => E0) c f) : DTs X [c] f := pts_one h
theorem comp_sim {elt iter tg : Expr} {scope : Scope} {ifs : List Expr} {n : Nat} {js ks : List Nat} {fi : En → Res (List D)} {g : D → En → Option En} {ft : En → Res Bool} {fe : En → Res Ev} {xs ys : List Str} {cl : List (Str × Addr)} (hc : X.calm = true) (hi : DI X E tg iter fi)
  (hcl : ClOk X scope cl) (hcap : CapOk X scope cl ys js) (hcell : ∀ y ∈ scope.names, y.2 ≠ .cell) (hkind : scope.kind = .function) (hnames : ∀ y ∈ scope.names, y.2 = .local → scope.names.lookup y.1 = some .local) (hn : xs.length = n) (hks : ∀ j ∈ ks, j < n)
  (hg : ∀ C s₀ H₀ ex pn, DG (blockCx X scope cl C (xs ++ ys) s₀ H₀ ex pn) tg ks g) (ht : ∀ C s₀ H₀ ex pn, DTs (blockCx X scope cl C (xs ++ ys) s₀ H₀ ex pn) ifs ft) (hb : ∀ C s₀ H₀ ex pn, DE (blockCx X scope cl C (xs ++ ys) s₀ H₀ ex pn) (fun _ => E0) elt fe)
  : ∀ B G0 G W H σ en Q, SimH B G0 G W H → SimS X.K W G H σ en → wpR (mComp n js fi g ft fe en) (PostE X.K W G H Q) (PostX (E σ) G H) → tCompG (tI X.K E fi) (tG X.K ks g) (tT X.K (fun _ => E0) ft) (tE X.K (fun _ => E0) fe) xs.length js σ H Q := by
 subst hn
 refine fun B G0 G W H σ en Q hh hs hw => ⟨B, G0, G, W, en, hh, hs, ?_⟩
 have hw : wpR ((fi en).bind _) _ _ := hw
 rw [wpR_bind] at hw
 refine wpR_mono hw (fun ds hds G1 H1 J s1 hJ D hD => ?_) fun C h => h
 unfold compR at hds
 split at hds
 case isFalse => exact hds.elim
 rename_i hlen
 split at hds
 case h_2 => exact hds.elim
 rename_i r em
 have gD : G1 D = none := s1.gh.free hD
 have keyH : ∀ {G2 H2 : Hp} {y : List V}, Step G1 H1 G2 H2 → G2 D = none → Step G1 H1 G2 (upd H2 D (.lst y)) := fun st hg2 => by
  refine ⟨st.g, fun b o e => ?_, fun b o e => ?_, st.new⟩
  ·rw [upd_ne (ne_of_none e hD)]; exact st.h b o e
  ·rw [upd_ne (ne_of_none e hg2)]; exact st.gh b o e
 refine ⟨ds.length, fun i ys H2 => i ≤ ds.length ∧ ys.length ≤ i ∧ ∃ G2 rs rest, Step G1 H1 G2 H2 ∧ G2 D = none ∧ H2 D = some (.lst ys) ∧ Reps X.K G2 ys rs ∧ mapO (compItem xs.length js g ft fe en) (ds.drop i) = some rest ∧ rs ++ rest = r,
  ⟨Nat.zero_le _, Nat.zero_le _, G1, [], r, Step.lay s1.gh hD, gD, upd_same, .nil, em, rfl⟩, ?_⟩
 rintro i zs H2 ⟨hi, hzl, G2, rs, rest, st, g2, h2, rp, em2, er⟩
 obtain ⟨j1, j2⟩ := hJ G2 H2 st.g st.gh
 by_cases hlt : i < ds.length
 ·refine .inr ⟨hlt, ?_⟩
  obtain ⟨jg, jy⟩ := j1 i ds[i] (List.getElem?_eq_getElem hlt)
  refine ⟨jg, fun v H3 hy => ?_⟩
  obtain ⟨G3, s3, rv⟩ := jy v H3 hy
  rw [List.drop_eq_getElem_cons hlt] at em2
  unfold mapO at em2
  cases ec : compItem xs.length js g ft fe en ds[i] with
  | none => rw [ec] at em2; cases em2
  | some o =>
   rw [ec] at em2
   dsimp only at em2
   cases em3 : mapO (compItem xs.length js g ft fe en) (ds.drop (i + 1)) with
   | none => rw [em3] at em2; cases em2
   | some rest' =>
    rw [em3] at em2
    have em2 := Option.some.inj em2
    unfold compItem at ec
    split at ec
    ·cases ec
    ·rename_i e eg
     have in3 := caps_sim xs.length js (hs.step ((s1.trans st).trans s3))
     refine ⟨G3, fun _ => none, _, ds[i], e, s3.gh, in3, rv, eg, fun σ' hσ hk => ⟨⟨?_, ?_⟩, ?_⟩⟩
     ·rw [hk.1]; unfold caps; simp
     ·refine List.ext_getElem? fun j => ?_
      rw [List.getElem?_drop, hk.2 (xs.length + j) fun z => absurd (hks _ z) (by lia), List.getElem?_append_right (by rw [List.length_replicate]; lia), List.length_replicate]
      congr 1
      lia
     ·refine ⟨_, _, G3, fun _ => none, e, sim0 s3.gh, hσ, ?_⟩
      cases et : ft e with
      | bad => rw [et] at ec; cases ec
      | exc C => rw [et] at ec; cases ec
      | ok k =>
       rw [et] at ec
       intro G5 H5 s5
       cases k with
       | false =>
        cases ec
        rw [if_neg Bool.false_ne_true]
        have s25 := s3.trans s5
        exact ⟨hlt, Nat.le_succ_of_le hzl, G5, rs, rest', st.trans s25, s25.off h2 (fun xs z => nomatch z) g2, s25.h _ _ h2, rp.mono s25.g, em3, by rw [← er, ← em2]⟩
       | true =>
        rw [if_pos rfl]
        refine ⟨_, _, G5, fun _ => none, e, sim0 s5.gh, hσ.step s5, ?_⟩
        dsimp only at ec
        cases ee : fe e with
        | bad => rw [ee] at ec; cases ec
        | exc C => rw [ee] at ec; cases ec
        | ok q =>
         rw [ee] at ec
         intro G6 H6 y s6 ey
         obtain ⟨G7, s7, e7⟩ := EOk.c s6 ey
         dsimp only at ec
         split at ec
         ·rename_i y' eq
          cases ec
          rw [eq] at e7
          have s27 := (s3.trans s5).trans s7
          have g7 := s27.off h2 (fun xs z => nomatch z) g2
          refine ⟨s27.h _ _ h2, Nat.lt_of_le_of_lt (Nat.le_trans hzl (Nat.le_trans hi hlen)) (by decide), hlt, by rw [List.length_append]; exact Nat.succ_le_succ hzl, G7, rs ++ [y'], rest', keyH (st.trans s27) g7, g7, upd_same, (rp.mono s27.g).append (.cons e7 .nil), em3, ?_⟩
          rw [← er, ← em2, List.append_assoc]
          rfl
         ·cases ec
 ·have e : i = ds.length := by lia
  subst e
  rw [List.drop_length] at em2
  cases em2
  rw [List.append_nil] at er
  subst er
  exact .inl ⟨j2, hds G2 H2 _ (s1.trans st) ⟨D, _, rfl, s1.h.free hD, g2, h2, .lst rp⟩⟩
theorem de_comp {elt iter tg : Expr} {scope : Scope} {ifs : List Expr} {n : Nat} {js ks : List Nat} {fi : En → Res (List D)} {g : D → En → Option En} {ft : En → Res Bool} {fe : En → Res Ev} {xs ys : List Str} {cl : List (Str × Addr)} (hc : X.calm = true) (hi : DI X E tg iter fi)
  (hcl : ClOk X scope cl) (hcap : CapOk X scope cl ys js) (hcell : ∀ y ∈ scope.names, y.2 ≠ .cell) (hkind : scope.kind = .function) (hnames : ∀ y ∈ scope.names, y.2 = .local → scope.names.lookup y.1 = some .local) (hn : xs.length = n) (hks : ∀ j ∈ ks, j < n)
  (hg : ∀ C s₀ H₀ ex pn, DG (blockCx X scope cl C (xs ++ ys) s₀ H₀ ex pn) tg ks g) (ht : ∀ C s₀ H₀ ex pn, DTs (blockCx X scope cl C (xs ++ ys) s₀ H₀ ex pn) ifs ft) (hb : ∀ C s₀ H₀ ex pn, DE (blockCx X scope cl C (xs ++ ys) s₀ H₀ ex pn) (fun _ => E0) elt fe)
  (hs : ∀ x, foldedSetIterable iter X.env x = pure x := by intro _; rfl) : DE X E (.ListComp elt [⟨tg, iter, ifs, 0⟩] scope pos) (mComp n js fi g ft fe) :=
 DE.in ⟨_, pe_compG (xs := xs) (g := tG X.K ks g) (tt := tT X.K (fun _ => E0) ft) (te := tE X.K (fun _ => E0) fe) hc hi hcl hcap hcell hkind hnames hg ht hb hs, comp_sim hc hi hcl hcap hcell hkind hnames hn hks hg ht hb⟩
theorem ds_setC {i : Nat} {y : Str} {py spos : Pos} (hN : X.N.Nodup) (hiN : X.N[i]? = some y) (hx : Loc X.env.scope y) {elt iter tg : Expr} {scope : Scope} {ifs : List Expr} {n : Nat} {js ks : List Nat} {fi : En → Res (List D)} {g : D → En → Option En} {ft : En → Res Bool} {fe : En → Res Ev} {xs ys : List Str} {cl : List (Str × Addr)} (hc : X.calm = true) (hi : DI X E tg iter fi)
  (hcl : ClOk X scope cl) (hcap : CapOk X scope cl ys js) (hcell : ∀ y ∈ scope.names, y.2 ≠ .cell) (hkind : scope.kind = .function) (hnames : ∀ y ∈ scope.names, y.2 = .local → scope.names.lookup y.1 = some .local) (hn : xs.length = n) (hks : ∀ j ∈ ks, j < n)
  (hg : ∀ C s₀ H₀ ex pn, DG (blockCx X scope cl C (xs ++ ys) s₀ H₀ ex pn) tg ks g) (ht : ∀ C s₀ H₀ ex pn, DTs (blockCx X scope cl C (xs ++ ys) s₀ H₀ ex pn) ifs ft) (hb : ∀ C s₀ H₀ ex pn, DE (blockCx X scope cl C (xs ++ ys) s₀ H₀ ex pn) (fun _ => E0) elt fe)
  (hsw : swapsWith (.ListComp elt [⟨tg, iter, ifs, 0⟩] scope pos) (some (.Name y py)) spos.line X.env = pure true := by rfl) (hs : ∀ x, foldedSetIterable iter X.env x = pure x := by intro _; rfl)
  (hf : X.fn y = true ∨ X.env.scope.names.lookup y = some .local := by first | exact .inl rfl | exact .inr rfl | assumption) : DS X E (.Assign [.Name y py] (.ListComp elt [⟨tg, iter, ifs, 0⟩] scope pos) spos) (mSet i (mComp n js fi g ft fe)) :=
 DS.in ⟨_, ps_compG (xs := xs) (g := tG X.K ks g) (tt := tT X.K (fun _ => E0) ft) (te := tE X.K (fun _ => E0) fe) hN hiN hx hc hi hcl hcap hcell hkind hnames hg ht hb hsw hs hf, set_core (comp_sim hc hi hcl hcap hcell hkind hnames hn hks hg ht hb)⟩
end
section
variable {X : Cx} {K : PySem.W.Frag}
def rOr (r r' : R2) : R2 := fun x y H Q => r x y H Q ∨ r' x y H Q
theorem OpR.or' {f : Value → Value → Sem Value} {r r' : R2} (h : OpR X f r) (h' : OpR X f r') : OpR X f (rOr r r') := OpR.or h h'
def rCatR : R2 := fun x y H Q => ∃ l b xs zs, x = .ref l ∧ y = .ref b ∧ Rd H l (.lst xs) ∧ Rd H b (.lst zs) ∧ xs.length + zs.length ≤ sizeLine ∧ ∀ p, H p = none → Q (.ref p) (upd H p (.lst (xs ++ zs)))
theorem op_catR : OpR X (binaryOp .Add) rCatR := by
 intro pins s σ H x y v u Q I rx ry h
 obtain ⟨l, b, xs, zs, rfl, rfl, hH, hB, hz, q⟩ := h
 cases rx
 cases ry
 obtain ⟨z, its, n, r, e⟩ := hH.ok I.hok
 obtain ⟨z2, its2, n2, r2, e2⟩ := hB.ok I.hok
 have hl := r.length
 have hl2 := r2.length
 refine PySem.P.add_list e e2 ?_ (by rw [List.size_toArray, List.size_toArray]; lia)
 have ea : its.toArray ++ its2.toArray = (its ++ its2).toArray := by simp
 rw [ea]
 exact ⟨.ref _, _, I.lnew (t' := s.toks) (r.append r2) (by rw [List.length_append]; lia), rfl, q _ I.fresh⟩
def rStrCat : R2 := fun x y H Q => ∃ i j, x = .str i ∧ y = .str j ∧ i.length + j.length ≤ sizeLine ∧ Q (.str (i ++ j)) H
def lstOf : Ev → Option (List D)
 | .p (.list ds) => some ds
 | .b (.list ds) => some ds
 | _ => none
theorem lst_at {W : Addr → Option Nat} {Hs G H : Hp} {v : V} {r : Ev} {ds : List D} (gh : Same G H) (h : EOk K W Hs G H v r) (e : lstOf r = some ds) : ∃ a xs, v = .ref a ∧ Rd H a (.lst xs) ∧ Reps K G xs ds := by
 cases r with
 | p d =>
  cases d with
  | list es =>
   cases e
   cases h with
   | @lst a xs _ h1 h2 => exact ⟨a, xs, rfl, rd_mono gh h1, h2⟩
  | _ => cases e
 | b d =>
  cases d with
  | list es =>
   cases e
   obtain ⟨a, i, o, rfl, h1, h2, h3⟩ := h
   cases h3 with
   | @lst xs _ h4 => exact ⟨a, xs, rfl, .inl h2, h4⟩
  | _ => cases e
 | f d => cases e
 | x C => cases e
def dat : Ev → Option D
 | .p d => some d
 | .b d => some d
 | _ => none
theorem EOk.read {W : Addr → Option Nat} {Hs G H : Hp} {v : V} {r : Ev} {d : D} (gh : Same G H) (h : EOk K W Hs G H v r) (e : dat r = some d) : Rep K H v d := by
 cases r with
 | p d => cases e; exact Rep.mono gh h
 | b d =>
  cases e
  obtain ⟨a, i, o, rfl, h1, h2, h3⟩ := h
  exact (h3.mono gh).rep h2
 | f d => cases e
 | x C => cases e
open Classical in
def intE (C : Int → Int → Prop) (g : Int → Int → D) (x y : Ev) : Res Ev := match x, y with
 | .p (.int i), .p (.int j) => if C i j then .ok (.p (g i j)) else .bad
 | _, _ => .bad
def intE0 (g : Int → Int → D) (x y : Ev) : Res Ev := match x, y with
 | .p (.int i), .p (.int j) => .ok (.p (g i j))
 | _, _ => .bad
theorem noX_intE {C : Int → Int → Prop} {g : Int → Int → D} : NoX (intE C g) := by
 intro x y A h
 unfold intE at h
 split at h
 ·split at h <;> cases h
 ·cases h
theorem noX_intE0 {g : Int → Int → D} : NoX (intE0 g) := by
 intro x y A h
 unfold intE0 at h
 split at h <;> cases h
theorem om_int {C : Int → Int → Prop} {g : Int → Int → D} {gv : Int → Int → V} (hg : ∀ G i j, Rep K G (gv i j) (g i j)) : OpM K (rI C gv) (intE C g) := by
 intro W G H v u x y Q gh hx hy hw
 unfold intE at hw
 split at hw
 ·rename_i i j e1 e2
  rw [e1] at hx; rw [e2] at hy
  cases hx; cases hy
  split at hw
  ·rename_i hc
   exact ⟨i, j, rfl, rfl, hc, hw G H _ (Step.refl gh) (hg G i j)⟩
  ·exact hw.elim
 ·exact hw.elim
theorem om_int0 {g : Int → Int → D} {gv : Int → Int → V} (hg : ∀ G i j, Rep K G (gv i j) (g i j)) : OpM K (rI0 gv) (intE0 g) := by
 intro W G H v u x y Q gh hx hy hw
 unfold intE0 at hw
 split at hw
 ·rename_i i j e1 e2
  rw [e1] at hx; rw [e2] at hy
  cases hx; cases hy
  exact ⟨i, j, rfl, rfl, hw G H _ (Step.refl gh) (hg G i j)⟩
 ·exact hw.elim
noncomputable abbrev mulE : Ev → Ev → Res Ev := intE CMulW fun i j => .int (i * j)
noncomputable abbrev fdivE : Ev → Ev → Res Ev := intE CDivW fun i j => .int (i.fdiv j)
noncomputable abbrev modE : Ev → Ev → Res Ev := intE (fun _ j => j ≠ 0) fun i j => .int (i.fmod j)
noncomputable abbrev powE : Ev → Ev → Res Ev := intE CPow fun i j => .int (i ^ j.toNat)
abbrev subE : Ev → Ev → Res Ev := intE0 fun i j => .int (i - j)
abbrev ltE : Ev → Ev → Res Ev := intE0 fun i j => .bool (decide (i < j))
abbrev leE : Ev → Ev → Res Ev := intE0 fun i j => .bool (decide (i ≤ j))
abbrev gtE : Ev → Ev → Res Ev := intE0 fun i j => .bool (decide (j < i))
theorem om_mul : OpM K (rI CMulW fun i j => .int (i * j)) mulE := om_int fun _ _ _ => .int _
theorem om_fdiv : OpM K (rI CDivW fun i j => .int (i.fdiv j)) fdivE := om_int fun _ _ _ => .int _
theorem om_mod : OpM K (rI (fun _ j => j ≠ 0) fun i j => .int (i.fmod j)) modE := om_int fun _ _ _ => .int _
theorem om_pow : OpM K (rI CPow fun i j => .int (i ^ j.toNat)) powE := om_int fun _ _ _ => .int _
theorem om_sub : OpM K (rI0 fun i j => .int (i - j)) subE := om_int0 fun _ _ _ => .int _
def addE (x y : Ev) : Res Ev := match x, y with
 | .p (.int i), .p (.int j) => .ok (.p (.int (i + j)))
 | .p (.str i), .p (.str j) => if i.length + j.length ≤ 100000 then .ok (.p (.str (i ++ j))) else .bad
 | x, y => match lstOf x, lstOf y with
  | some ds, some es => if ds.length + es.length ≤ 100000 then .ok (.f (.list (ds ++ es))) else .bad
  | _, _ => .bad
theorem noX_add : NoX addE := by
 intro x y A h
 unfold addE at h
 split at h
 ·cases h
 ·split at h <;> cases h
 ·split at h
  ·split at h <;> cases h
  ·cases h
abbrev rAddA : R2 := rOr (rI0 fun i j => .int (i + j)) (rOr rStrCat rCatR)
theorem op_addA : OpR X (binaryOp .Add) rAddA := OpR.or' op_add (OpR.or' op_add_str op_catR)
theorem om_add : OpM K rAddA addE := by
 intro W G H v u x y Q gh hx hy hw
 unfold addE at hw
 split at hw
 ·rename_i i j e1 e2
  rw [e1] at hx; rw [e2] at hy
  cases hx; cases hy
  exact .inl ⟨i, j, rfl, rfl, hw G H _ (Step.refl gh) (.int _)⟩
 ·rename_i i j e1 e2
  rw [e1] at hx; rw [e2] at hy
  cases hx; cases hy
  split at hw
  ·rename_i hl
   exact .inr (.inl ⟨i, j, rfl, rfl, Nat.le_trans hl (by decide), hw G H _ (Step.refl gh) (.str _)⟩)
  ·exact hw.elim
 ·split at hw
  ·rename_i ds es e1 e2
   obtain ⟨a, xs, rfl, h1, h2⟩ := lst_at gh hx e1
   obtain ⟨b, ys, rfl, h3, h4⟩ := lst_at gh hy e2
   split at hw
   ·rename_i hl
    refine .inr (.inr ⟨a, b, xs, ys, rfl, rfl, h1, h3, by rw [h2.length, h4.length]; exact Nat.le_trans hl (by decide), fun p hp => ?_⟩)
    exact hw _ _ _ (Step.lay gh hp) ⟨p, _, rfl, hp, gh.free hp, upd_same, .lst (h2.append h4)⟩
   ·exact hw.elim
  ·exact hw.elim
theorem om_cmp {p : Int → Int → Bool} : OpM K (rI0 fun i j => .bl (p i j)) (intE0 fun i j => .bool (p i j)) := om_int0 fun _ _ _ => .bl _
mutual
theorem Rep.reads {P : Program} {w : World} {H : Hp} {h : Heap} (ok : HOk P w H h) : ∀ {v : V} {d : D}, Rep K H v d → d.canLay0 = true → ∀ {u : Value}, RelV v u → ∃ as, Reads h u d as
 | _, _, .non, _, _, e => by cases e; exact ⟨_, Reads.none⟩
 | _, _, .bl b, _, _, e => by cases e; exact ⟨_, Reads.bool b⟩
 | _, _, .int i, _, _, ⟨t, e⟩ => by subst e; exact ⟨_, Reads.int i t⟩
 | _, _, .str i, _, _, ⟨t, e⟩ => by subst e; exact ⟨_, Reads.str i t⟩
 | _, _, .tup hh r, hc, _, e => by
  have e : _ = Value.ref _ := e
  subst e
  obtain ⟨_, its, rv, o, ho, hcl, n, hd⟩ := (show ObjOk P w H h _ _ from ok _ _ hh)
  obtain ⟨as, q⟩ := Reps.reads ok r (by simpa [PyData.canLay0] using hc) rv
  exact ⟨as, reads_tuple_at ho hcl hd (by simpa using q)⟩
 | _, _, .lst hh r, hc, _, e => by
  have e : _ = Value.ref _ := e
  subst e
  obtain ⟨_, its, n, rv, ho⟩ := hh.ok ok
  obtain ⟨as, q⟩ := Reps.reads ok r (by simpa [PyData.canLay0] using hc) rv
  exact ⟨_, reads_list_at ho rfl rfl (by simpa using q)⟩
 | _, _, .dT _ _, hc, _, _ => by simp [PyData.canLay0] at hc
 | _, _, .dK _ _, hc, _, _ => by simp [PyData.canLay0] at hc
theorem Reps.reads {P : Program} {w : World} {H : Hp} {h : Heap} (ok : HOk P w H h) : ∀ {vs : List V} {ds : List D}, Reps K H vs ds → PyData.canLayAll0 ds = true → ∀ {us : List Value}, Vals vs us → ∃ as, ReadsAll h us ds as
 | _, _, .nil, _, _, .nil => ⟨_, ReadsAll.nil⟩
 | _, _, .cons hd r, hc, _, .cons rv rt => by
  simp only [PyData.canLayAll0, Bool.and_eq_true] at hc
  obtain ⟨as, q⟩ := Rep.reads ok hd hc.1 rv
  obtain ⟨bs, p⟩ := Reps.reads ok r hc.2 rt
  exact ⟨_, ReadsAll.cons q p⟩
end
def rEqP (K : PySem.W.Frag) (ng : Bool) : R2 := fun x y H Q => ∃ d e, Rep K H x d ∧ Rep K H y e ∧ SeqAt.shaped d = true ∧ SeqAt.shaped e = true ∧ Q (.bl (if ng then !PyData.eqv d e else PyData.eqv d e)) H
theorem op_eqP {K : PySem.W.Frag} (hu : X.A.units + 64 < cLine) : OpR X (compareOp .Eq) (rEqP K false) := by
 intro pins s σ H x y v u Q I rx ry h
 obtain ⟨d, e, h1, h2, o1, o2, q⟩ := h
 obtain ⟨as, r1⟩ := h1.reads I.hok (Bool.and_eq_true_iff.mp o1).1 rx
 obtain ⟨bs, r2⟩ := h2.reads I.hok (Bool.and_eq_true_iff.mp o2).1 ry
 exact eq_dataH r1 r2 o1 o2 hu ⟨.bl _, H, I, rfl, q⟩
theorem op_neP {K : PySem.W.Frag} (hu : X.A.units + 64 < cLine) : OpR X (compareOp .NotEq) (rEqP K true) := by
 intro pins s σ H x y v u Q I rx ry h
 obtain ⟨d, e, h1, h2, o1, o2, q⟩ := h
 obtain ⟨as, r1⟩ := h1.reads I.hok (Bool.and_eq_true_iff.mp o1).1 rx
 obtain ⟨bs, r2⟩ := h2.reads I.hok (Bool.and_eq_true_iff.mp o2).1 ry
 exact ne_dataH r1 r2 o1 o2 hu ⟨.bl _, H, I, rfl, q⟩
def eqE (ng : Bool) (x y : Ev) : Res Ev := match dat x, dat y with
 | some d, some e => if SeqAt.shaped d = true ∧ SeqAt.shaped e = true then .ok (.p (.bool (if ng then !PyData.eqv d e else PyData.eqv d e))) else .bad
 | _, _ => .bad
theorem noX_eq {ng : Bool} : NoX (eqE ng) := by
 intro x y A h
 unfold eqE at h
 split at h
 ·split at h <;> cases h
 ·cases h
theorem om_eq {ng : Bool} : OpM K (rEqP K ng) (eqE ng) := by
 intro W G H v u x y Q gh hx hy hw
 unfold eqE at hw
 split at hw
 ·rename_i d e e1 e2
  split at hw
  ·rename_i hs
   exact ⟨d, e, hx.read gh e1, hy.read gh e2, hs.1, hs.2, hw G H _ (Step.refl gh) (.bl _)⟩
  ·exact hw.elim
 ·exact hw.elim
def isnE (ng : Bool) (x : Ev) : Res Ev := match x with
 | .p .none => .ok (.p (.bool (!ng)))
 | .p _ => .ok (.p (.bool ng))
 | .b _ => .ok (.p (.bool ng))
 | _ => .bad
def mUn (op : Ev → Res Ev) (fa : En → Res Ev) : En → Res Ev := fun en => (fa en).bind fun x => op x.c
variable {E : L2.St → XK} {a b : Expr} {fa fb : En → Res Ev} {pos : Pos}
theorem isn_core {ng : Bool} {W : Addr → Option Nat} {G H : Hp} {v : V} {x : Ev} {Q : VK} (gh : Same G H) (hx : EOk K W H G H v x.c) {EE : XK} (hw : wpR (isnE ng x.c) (PostE K W G H Q) (PostX EE G H)) : Q (.bl (if ng then !decide (v = .non) else decide (v = .non))) H := by
 unfold isnE at hw
 split at hw
 ·rename_i e
  rw [e] at hx
  cases hx
  have z := hw G H _ (Step.refl gh) (.bl _)
  cases ng <;> exact z
 ·rename_i d e e2
  rw [e2] at hx
  have nv : v ≠ .non := by
   intro z
   subst z
   have hx : Rep K G V.non d := hx
   cases hx
   exact e rfl
  have z := hw G H _ (Step.refl gh) (.bl _)
  rw [decide_eq_false nv]
  cases ng <;> exact z
 ·rename_i d e
  rw [e] at hx
  obtain ⟨a, i, o, rfl, h1⟩ := hx
  have z := hw G H _ (Step.refl gh) (.bl _)
  cases ng <;> exact z
 ·exact hw.elim
theorem de_isN {j pos'} (ha : DE X E a fa) : DE X E (.Compare a [.Is] [.Constant .none j pos'] pos) (mUn (isnE false) fa) := by
 obtain ⟨t, p, m⟩ := ha.out
 refine DE.in ⟨_, pe_cmp (pc_isN p), fun B G0 G W H σ en Q hh hs hw => m B G0 G W H σ en _ hh hs (DE.go hw fun x G1 H1 v s1 e1 h1 => ?_)⟩
 exact isn_core (ng := false) s1.gh e1.cc h1
theorem dt_isN {j pos'} (ha : DE X E a fa) : DT X E (.Compare a [.Is] [.Constant .none j pos'] pos) (mTru (mUn (isnE false) fa)) := by
 obtain ⟨t, p, m⟩ := ha.out
 refine DT.in ⟨_, pt_cmp (pc_isN p), fun B G0 G W H σ en Q hh hs hw => ?_⟩
 have k := (de_isN (pos := pos) (j := j) (pos' := pos') ha)
 refine tru_core (t := tIsN t) (fa := mUn (isnE false) fa) (E := E) (X := X) (fun B G0 G W H σ en Q hh hs hw => m B G0 G W H σ en _ hh hs (DE.go hw fun x G1 H1 v s1 e1 h1 => isn_core (ng := false) s1.gh e1.cc h1)) B G0 G W H σ en Q hh hs hw
theorem dt_notN {j pos'} (ha : DE X E a fa) : DT X E (.Compare a [.IsNot] [.Constant .none j pos'] pos) (mTru (mUn (isnE true) fa)) := by
 obtain ⟨t, p, m⟩ := ha.out
 refine DT.in ⟨_, pt_cmp (pc_notN p), fun B G0 G W H σ en Q hh hs hw => ?_⟩
 refine tru_core (t := tNotN t) (fa := mUn (isnE true) fa) (E := E) (X := X) (fun B G0 G W H σ en Q hh hs hw => m B G0 G W H σ en _ hh hs (DE.go hw fun x G1 H1 v s1 e1 h1 => isn_core (ng := true) s1.gh e1.cc h1)) B G0 G W H σ en Q hh hs hw
def negE (x : Ev) : Res Ev := match x with
 | .p (.int i) => .ok (.p (.int (-i)))
 | _ => .bad
theorem de_neg (ha : DE X E a fa) : DE X E (.UnaryOp .USub a pos) (mUn negE fa) := by
 obtain ⟨t, p, m⟩ := ha.out
 refine DE.in ⟨_, pe_un un_neg p, fun B G0 G W H σ en Q hh hs hw => m B G0 G W H σ en _ hh hs (DE.go hw fun x G1 H1 v s1 e1 h1 => ?_)⟩
 unfold negE at h1
 split at h1
 ·rename_i i e
  rw [e] at e1
  cases e1
  exact ⟨i, rfl, h1 G1 H1 _ (Step.refl s1.gh) (.int _)⟩
 ·exact h1.elim
def seqOf : Ev → Option (List D)
 | .p (.list ds) => some ds
 | .b (.list ds) => some ds
 | .p (.tuple ds) => some ds
 | _ => none
def ixE (x y : Ev) : Res Ev := match y with
 | .p (.int i) => match seqOf x with
  | some ds => match atI ds i with
   | some d => .ok (.p d)
   | none => .bad
  | none => .bad
 | _ => .bad
theorem noX_ix : NoX ixE := by
 intro x y A h
 unfold ixE at h
 split at h
 ·split at h
  ·split at h <;> cases h
  ·cases h
 ·cases h
theorem reps_at {G : Hp} {xs : List V} {ds : List D} {i : Int} {d : D} (r : Reps K G xs ds) (h : atI ds i = some d) : ∃ x, atI xs i = some x ∧ Rep K G x d := by
 unfold atI at h ⊢
 rw [r.length]
 cases e : ixN ds.length i with
 | none => rw [e] at h; cases h
 | some j =>
  rw [e] at h
  exact r.get' h
def rIxA (K : PySem.W.Frag) : R2 := fun x y H Q => rIxL K x y H Q ∨ rIxT K x y H Q
theorem ix_A : IxR X (rIxA X.K) := ix_list.or ix_tup
theorem om_ix : OpM K (rIxA K) ixE := by
 intro W G H v u x y Q gh hx hy hw
 unfold ixE at hw
 split at hw
 ·rename_i i ey
  rw [ey] at hy
  cases hy
  split at hw
  ·rename_i ds ed
   split at hw
   ·rename_i d ea
    cases ex : x.c with
    | p dd =>
     rw [ex] at ed hx
     cases dd with
     | list es =>
      cases ed
      cases hx with
      | @lst a xs _ h1 h2 =>
       obtain ⟨z, h3, h4⟩ := reps_at h2 ea
       exact .inl ⟨a, xs, i, z, rfl, rfl, .inl (rd_mono gh h1), h3, hw G H _ (Step.refl gh) h4⟩
     | tuple es =>
      cases ed
      cases hx with
      | @tup a xs _ h1 h2 =>
       obtain ⟨z, h3, h4⟩ := reps_at h2 ea
       exact .inr ⟨a, xs, i, z, rfl, rfl, SqT.of (gh _ _ h1), h3, hw G H _ (Step.refl gh) h4⟩
     | _ => cases ed
    | b dd =>
     rw [ex] at ed hx
     cases dd with
     | list es =>
      cases ed
      obtain ⟨a, k, o, rfl, h1, h2, h3⟩ := hx
      cases h3 with
      | @lst xs _ h4 =>
       obtain ⟨z, h5, h6⟩ := reps_at h4 ea
       exact .inl ⟨a, xs, i, z, rfl, rfl, .inl (.inl h2), h5, hw G H _ (Step.refl gh) h6⟩
     | _ => cases ed
    | f dd => rw [ex] at ed; cases ed
    | x C => rw [ex] at ed; cases ed
   ·exact hw.elim
  ·exact hw.elim
 ·exact hw.elim
theorem de_ix (ha : DE X E a fa) (hb : DE X E b fb) (hs : PlainIx b) : DE X E (.Subscript a b pos) (mBin ixE fa fb) := by
 obtain ⟨ta, pa, ma⟩ := ha.out
 obtain ⟨tb, pb, mb⟩ := hb.out
 exact DE.in ⟨_, pe_ix ix_A pa pb hs, op_core ma mb om_ix noX_ix⟩
def lenE (rs : List Ev) : Res Ev := match rs with
 | [x] => match seqOf x with
  | some ds => .ok (.p (.int ds.length))
  | none => .bad
 | _ => .bad
theorem noX_len : NoXs lenE := by
 intro rs C h
 unfold lenE at h
 split at h
 ·split at h <;> cases h
 ·cases h
theorem cm_len : CallM K (fun xs H Q => ∃ p ys, xs = [.ref p] ∧ (SqL K H p ys ∨ SqT K H p ys) ∧ Q (.int ys.length) H) lenE := by
 intro W Hs G H vs rs Q gh he hw
 unfold lenE at hw
 split at hw
 ·rename_i x
  match vs, he with
  | [v], ⟨h1, _⟩ =>
   split at hw
   ·rename_i ds ed
    cases x with
    | p dd =>
     cases dd with
     | list es =>
      cases ed
      cases h1 with
      | @lst a xs _ k1 k2 => exact ⟨a, xs, rfl, .inl (.inl (rd_mono gh k1)), by rw [k2.length]; exact hw G H _ (Step.refl gh) (.int _)⟩
     | tuple es =>
      cases ed
      cases h1 with
      | @tup a xs _ k1 k2 => exact ⟨a, xs, rfl, .inr (SqT.of (gh _ _ k1)), by rw [k2.length]; exact hw G H _ (Step.refl gh) (.int _)⟩
     | _ => cases ed
    | b dd =>
     cases dd with
     | list es =>
      cases ed
      obtain ⟨a, k, o, rfl, k1, k2, k3⟩ := h1
      cases k3 with
      | @lst xs _ k4 => exact ⟨a, xs, rfl, .inl (.inl (.inl k2)), by rw [k4.length]; exact hw G H _ (Step.refl gh) (.int _)⟩
     | _ => cases ed
    | f dd => cases ed
    | x C => cases ed
   ·exact hw.elim
 ·exact hw.elim
def absE (rs : List Ev) : Res Ev := match rs with
 | [.p (.int i)] => .ok (.p (.int (if i < 0 then -i else i)))
 | _ => .bad
theorem noX_abs : NoXs absE := by
 intro rs C h
 unfold absE at h
 split at h <;> cases h
theorem cm_abs : CallM K (fun xs H Q => ∃ i, xs = [.int i] ∧ Q (.int (if i < 0 then -i else i)) H) absE := by
 intro W Hs G H vs rs Q gh he hw
 unfold absE at hw
 split at hw
 ·rename_i i
  match vs, he with
  | [v], ⟨h1, _⟩ => cases h1; exact ⟨i, rfl, hw G H _ (Step.refl gh) (.int _)⟩
 ·exact hw.elim
def mm2E (f : Int → Int → Int) (rs : List Ev) : Res Ev := match rs with
 | [.p (.int i), .p (.int j)] => .ok (.p (.int (f i j)))
 | _ => .bad
theorem noX_mm2 {f : Int → Int → Int} : NoXs (mm2E f) := by
 intro rs C h
 unfold mm2E at h
 split at h <;> cases h
theorem cm_mm2 {f : Int → Int → Int} : CallM K (fun xs H Q => ∃ i j, xs = [.int i, .int j] ∧ Q (.int (f i j)) H) (mm2E f) := by
 intro W Hs G H vs rs Q gh he hw
 unfold mm2E at hw
 split at hw
 ·rename_i i j
  match vs, he with
  | [v, u], ⟨h1, h2, _⟩ => cases h1; cases h2; exact ⟨i, j, rfl, hw G H _ (Step.refl gh) (.int _)⟩
 ·exact hw.elim
def blsOf : List D → Option (List Bool)
 | [] => some []
 | .bool b :: ds => match blsOf ds with
  | some bs => some (b :: bs)
  | none => none
 | _ => none
theorem bls_reps {G : Hp} : ∀ {ds : List D} {bs : List Bool} {xs : List V}, blsOf ds = some bs → Reps K G xs ds → xs = bs.map V.bl
 | [], _, _, h, .nil => by cases h; rfl
 | d :: ds, bs, _, h, .cons r t => by
  cases d with
  | bool b =>
   unfold blsOf at h
   cases e : blsOf ds with
   | none => rw [e] at h; cases h
   | some bs' =>
    rw [e] at h
    cases h
    cases r
    rw [bls_reps e t]
    rfl
  | _ => cases h
def anyE (rs : List Ev) : Res Ev := match rs with
 | [x] => match lstOf x with
  | some ds => match blsOf ds with
   | some bs => .ok (.p (.bool (bs.any id)))
   | none => .bad
  | none => .bad
 | _ => .bad
theorem noX_any : NoXs anyE := by
 intro rs C h
 unfold anyE at h
 split at h
 ·split at h
  ·split at h <;> cases h
  ·cases h
 ·cases h
theorem cm_any : CallM K (rAny K) anyE := by
 intro W Hs G H vs rs Q gh he hw
 unfold anyE at hw
 split at hw
 ·rename_i x
  match vs, he with
  | [v], ⟨h1, _⟩ =>
   split at hw
   ·rename_i ds ed
    obtain ⟨a, xs, rfl, k1, k2⟩ := lst_at gh h1 ed
    split at hw
    ·rename_i bs eb
     have := bls_reps eb k2
     subst this
     exact ⟨a, bs, rfl, .inl k1, hw G H _ (Step.refl gh) (.bl _)⟩
    ·exact hw.elim
   ·exact hw.elim
 ·exact hw.elim
def listE (rs : List Ev) : Res Ev := match rs with
 | [x] => match seqOf x with
  | some ds => .ok (.f (.list ds))
  | none => .bad
 | _ => .bad
theorem noX_list : NoXs listE := by
 intro rs C h
 unfold listE at h
 split at h
 ·split at h <;> cases h
 ·cases h
theorem cm_list : CallM K (fun xs H Q => ∃ p ys, xs = [.ref p] ∧ (SqL K H p ys ∨ SqT K H p ys) ∧ ∀ l, H l = none → Q (.ref l) (upd H l (.lst ys))) listE := by
 intro W Hs G H vs rs Q gh he hw
 unfold listE at hw
 split at hw
 ·rename_i x
  match vs, he with
  | [v], ⟨h1, _⟩ =>
   split at hw
   ·rename_i ds ed
    have fin : ∀ {xs : List V}, Reps K G xs ds → ∀ l, H l = none → Q (.ref l) (upd H l (.lst xs)) := fun r l hl =>
     hw _ _ _ (Step.lay gh hl) ⟨l, _, rfl, hl, gh.free hl, upd_same, .lst r⟩
    cases x with
    | p dd =>
     cases dd with
     | list es =>
      cases ed
      cases h1 with
      | @lst a xs _ k1 k2 => exact ⟨a, xs, rfl, .inl (.inl (rd_mono gh k1)), fin k2⟩
     | tuple es =>
      cases ed
      cases h1 with
      | @tup a xs _ k1 k2 => exact ⟨a, xs, rfl, .inr (SqT.of (gh _ _ k1)), fin k2⟩
     | _ => cases ed
    | b dd =>
     cases dd with
     | list es =>
      cases ed
      obtain ⟨a, k, o, rfl, k1, k2, k3⟩ := h1
      cases k3 with
      | @lst xs _ k4 => exact ⟨a, xs, rfl, .inl (.inl (.inl k2)), fin k4⟩
     | _ => cases ed
    | f dd => cases ed
    | x C => cases ed
   ·exact hw.elim
 ·exact hw.elim
end
section
variable {P : Program} {w : World} {K : PySem.W.Frag} {mg : Str → Option Value} {base : Heap}
structure Def (K : PySem.W.Frag) (mg : Str → Option Value) (x : Str) (ps : List Str) (st : Stmt) : Prop where
 ex : ∃ f fd, Fun K x x st f fd ∧ Binds K fd ps [] ∧ PySem.W.keepIn K (.ref f) = true ∧ mg x = some (.ref f)
structure Cal (P : Program) (w : World) (K : PySem.W.Frag) (mg : Str → Option Value) (base : Heap) (k : Nat) (x : Str) (n : Nat) (m : List L → Res L) : Prop where
 ex : ∃ f fd ps, FnOk P w K mg base (CXr P w) k f fd ps (spM K n m) ∧ Binds K fd ps [] ∧ PySem.W.keepIn K (.ref f) = true ∧ mg x = some (.ref f)
theorem calM {x : Str} {st : Stmt} {N ps : List Str} {k n : Nat} {m : List L → Res L} (Df : Def K mg x ps st) (S : FnScope N ps (defScope st)) (hn : n = ps.length)
  (hbody : ∀ (f : Addr) (cdv : Value) (A : Around) (outer : List Env) (s : Shared) (H : Hp) (E : XK), Room k (A.deeper (envOfC x (defScope st) s.heap.objs.size f cdv)) →
   ∃ fm, DSs (cxOf (CXr P w) P w K mg base N x (defScope st) f cdv A outer s H E) (fun _ => E) (defBody st) fm ∧ ∀ ls, m ls = .bad ∨ runF N.length fm ls = m ls) : Cal P w K mg base (k + 1) x n m := by
 obtain ⟨f, fd, F, b, kp, h⟩ := Df.ex
 exact ⟨f, fd, ps, fnM F S hn fun cdv A outer s H E hr => hbody f cdv A outer s H E hr, b, kp, h⟩
end
section
variable {X : Cx} {E : L2.St → XK} {k j : Nat} {x : Str} {p pos : Pos} {e : Expr} {es : List Expr} {fr : En → Res (List Ev)} {n : Nat} {m : List L → Res L}
theorem de_callC (c : Cal X.prog X.w X.K X.mg X.base j x n m) (hr : Room k X.A) (hx : PassesS (CXr X.prog X.w) X E) (ha : DA X E (e :: es) fr) (hg : Gl X x := by rfl) (hjk : j ≤ k := by decide) (hdb : (x == ("__debug__" : Str)) = false := by decide)
  (he : starEach (e :: es) X.env = (false, eval e X.env) :: starEach es X.env := by rfl) (hpl : (backTo pos (starEach es X.env)).any (·.1) = false := by rfl) :
  DE X E (.Call (.Name x p) (e :: es) [] pos) (mCall n m fr) := by
 obtain ⟨f, fd, ps, F, b, kp, h⟩ := c.ex
 exact de_call (F.mono hjk) hr hg h kp b hx ha hdb he hpl
theorem dv (i : Nat) (hN : X.N[i]? = some x := by rfl) (hv : Vis X.env.scope x := by first | exact Or.inl rfl | exact Or.inr (Or.inl rfl) | exact Or.inr (Or.inr rfl)) (hd : (x == ("__debug__" : Str)) = false := by decide) (hcd : (x == ("__classdict__" : Str)) = false := by decide) :
  DE X E (.Name x pos) (mVar i) := de_var hN hv hd hcd
theorem u64 {A : Around} (hr : Room k A) : A.units + 64 < cLine := by have := hr.un; lia
theorem u1 {A : Around} (hr : Room k A) : A.units + 1 < cLine := by have := hr.un; lia
theorem cap_nil {scope : Scope} {cl : List (Str × Addr)} : CapOk X scope cl [] [] := ⟨rfl, fun i y j h _ => by simp at h⟩
theorem cap_cons {scope : Scope} {cl : List (Str × Addr)} {y : Str} {ys : List Str} {j : Nat} {js : List Nat} (h : X.N[j]? = some y ∧ (X.env.kindOf y = some .cell ∨ X.env.kindOf y = some .free) ∧ ((relabel scope X.env).names.lookup y = some .cell ∨ (relabel scope X.env).names.lookup y = some .free) ∧ (X.env.cells.lookup y).isSome = true ∧ cl.lookup y = X.env.cells.lookup y)
  (t : CapOk X scope cl ys js) : CapOk X scope cl (y :: ys) (j :: js) :=
 ⟨by rw [List.length_cons, List.length_cons, t.len], fun i z q e1 e2 => by
  cases i with
  | zero => simp at e1 e2; subst e1 e2; exact h
  | succ i => exact t.at_ i z q (by simpa using e1) (by simpa using e2)⟩
theorem cl_ok {scope : Scope} {cl : List (Str × Addr)} {ys : List Str} {js : List Nat} (clos : closureFor scope X.env = pure cl) (sub : ∀ q ∈ cl, X.env.cells.lookup q.1 = some q.2) (cap : CapOk X scope cl ys js) (hcell : ∀ y ∈ scope.names, y.2 ≠ .cell) (hfree : ∀ q ∈ scope.names, q.2 = .free → q.1 ∈ ys) : ClOk X scope cl := by
 refine ⟨clos, fun y c h => sub _ (PySem.mem_of_lookup h), fun y hy => ?_⟩
 have hm : y ∈ ys := by
  rcases hy with hy | hy
  ·have m := PySem.mem_of_lookup hy
   obtain ⟨⟨n0, k0⟩, m0, e0⟩ := List.mem_map.mp m
   dsimp only at e0
   split at e0
   ·rename_i z
    injection e0 with e1 e2
    subst e1
    have : k0 = .free := by
     cases k0 <;> simp at z ⊢
    exact hfree _ m0 this
   ·injection e0 with e1 e2
    exact absurd e2 (hcell _ m0)
  ·have m := PySem.mem_of_lookup hy
   obtain ⟨⟨n0, k0⟩, m0, e0⟩ := List.mem_map.mp m
   dsimp only at e0
   split at e0
   ·injection e0 with e1 e2
    cases e2
   ·injection e0 with e1 e2
    subst e1
    exact hfree _ m0 e2
 obtain ⟨i, hi, e⟩ := List.mem_iff_getElem.mp hm
 have hj : i < js.length := by rw [← cap.len]; exact hi
 obtain ⟨_, _, _, h4, h5⟩ := cap.at_ i y js[i] (by rw [List.getElem?_eq_getElem hi, e]) (List.getElem?_eq_getElem hj)
 rw [h5]
 exact Option.isSome_iff_exists.mp h4
theorem write_ok {K : PySem.W.Frag} {B G0 G H : Hp} {W : Addr → Option Nat} {σ : L2.St} {en : En} {i : Nat} {a : Addr} {o' : HO} {d' : D} (hh : SimH B G0 G W H) (hs : SimS K W G H σ en) (hW : W a = some i) (hv : σ[i]? = some (some (.ref a))) (hc : Cont K G o' d') :
  SimH B G0 G W (upd H a o') ∧ SimS K W G (upd H a o') σ (en.set i (some (.o d'))) := by
 obtain ⟨g1, g2, g3⟩ := hh.wf a i hW
 refine ⟨⟨fun b o e => ?_, fun b o e => ?_, hh.g0, hh.gb, fun b j e => ?_⟩, by rw [List.length_set]; exact hs.1, fun j l e => ?_⟩
 ·rw [upd_ne (ne_of_none e g1)]; exact hh.gh b o e
 ·rw [upd_ne (ne_of_none e g2)]; exact hh.bh b o e
 ·obtain ⟨k1, k2, o, k3, k4⟩ := hh.wf b j e
  refine ⟨k1, k2, ?_⟩
  by_cases z : b = a
  ·rw [z, upd_same]; exact ⟨_, rfl, hc.mut⟩
  ·rw [upd_ne z]; exact ⟨o, k3, k4⟩
 ·rw [List.getElem?_set] at e
  by_cases hj : i = j
  ·subst hj
   rw [if_pos rfl] at e
   split at e
   ·cases e
    exact ⟨_, hv, a, o', rfl, hW, upd_same, hc⟩
   ·cases e
  ·rw [if_neg hj] at e
   obtain ⟨v, e1, e2⟩ := hs.2 j l e
   refine ⟨v, e1, ?_⟩
   cases l with
   | p d => exact e2
   | x C => exact e2
   | h a => exact e2
   | o d =>
    obtain ⟨b, ob, h1, h2, h3, h4⟩ := e2
    refine ⟨b, ob, h1, h2, ?_, h4⟩
    rw [upd_ne (fun z => by rw [z, hW] at h2; exact hj (Option.some.inj h2))]
    exact h3
def mAppend (i : Nat) (fe : En → Res Ev) : MS := fun en => match en[i]? with
 | some (some (.o (.list ds))) => match fe en with
  | .ok r => match r.c with
   | .p d => if ds.length ≤ 100000 then some (.nx (en.set i (some (.o (.list (ds ++ [d])))))) else none
   | _ => none
  | .exc C => some (.ex C en)
  | .bad => none
 | _ => none
theorem ds_append {i : Nat} {fe : En → Res Ev} {st : Stmt} (he : DE X E e fe) (hp : ∀ t, PE X e t → PS X st (tDrop (tBM X.K "list" rAppend (tVar i) (tCons t tNil)))) : DS X E st (mAppend i fe) := by
 obtain ⟨t, q, mm⟩ := he.out
 refine DS.in ⟨_, hp t q, fun B G0 G W H σ en Dn hh hs hw => ?_⟩
 unfold mAppend at hw
 split at hw
 ·rename_i ds ei
  obtain ⟨v, e1, a, o, rfl, e2, e3, e4⟩ := hs.2 i _ ei
  cases e4 with
  | @lst xs _ rp =>
  refine ⟨_, e1, .inl ⟨rfl, _, SqL.of e3⟩, mm B G0 G W H σ en _ hh hs ?_⟩
  cases ef : fe en with
  | bad => rw [ef] at hw; exact hw
  | exc C => rw [ef] at hw; exact fun G1 H1 s => hw G1 W H1 σ (hh.step s) (hs.step s)
  | ok r =>
   rw [ef] at hw
   intro G1 H1 y s ey
   obtain ⟨G2, s2, ey2⟩ := ey.c s
   dsimp only at hw
   cases er : r.c with
   | p d =>
    rw [er] at hw ey2
    dsimp only at hw
    split at hw
    ·rename_i hl
     have hx := s2.h _ _ e3
     refine ⟨a, xs, y, rfl, rfl, hx, Nat.lt_of_le_of_lt (by rw [rp.length]; exact hl) (by decide), ?_⟩
     obtain ⟨w1, w2⟩ := write_ok (o' := .lst (xs ++ [y])) (d' := .list (ds ++ [d])) (hh.step s2) (hs.step s2) e2 e1 (.lst ((rp.mono s2.g).append (.cons ey2 .nil)))
     exact hw _ _ _ _ w1 w2
    ·exact hw.elim
   | f d => rw [er] at hw; exact hw.elim
   | b d => rw [er] at hw; exact hw.elim
   | x C => rw [er] at hw; exact hw.elim
 ·exact hw.elim
end
section
variable {X : Cx} {K : PySem.W.Frag} {E : L2.St → XK} {a b : Expr} {fa fb : En → Res Ev} {pos : Pos}
def keyK : D → Option Key
 | .int i => some (.inl i)
 | .str x => some (.inr x)
 | _ => none
def keysK : List D → Option (List Key)
 | [] => some []
 | d :: ds => match keyK d with
  | none => none
  | some k => match keysK ds with
   | none => none
   | some ks => some (k :: ks)
def keyT : D → Option (List Key)
 | .tuple ds => keysK ds
 | _ => none
theorem keyK_eq {d : D} {k : Key} (h : keyK d = some k) : d = kD k := by
 cases d <;> first | (cases h; rfl) | cases h
theorem keyK_kD (k : Key) : keyK (kD k) = some k := by cases k <;> rfl
theorem keysK_eq : ∀ {ds : List D} {ks : List Key}, keysK ds = some ks → ds = ks.map kD
 | [], _, h => by cases h; rfl
 | d :: ds, ks, h => by
  unfold keysK at h
  cases e : keyK d with
  | none => rw [e] at h; cases h
  | some k =>
   rw [e] at h
   cases e2 : keysK ds with
   | none => rw [e2] at h; cases h
   | some ks' =>
    rw [e2] at h
    cases h
    rw [keyK_eq e, keysK_eq e2]
    rfl
theorem keysK_kD : ∀ ks : List Key, keysK (ks.map kD) = some ks
 | [] => rfl
 | k :: ks => by
  show (match keyK (kD k) with | none => none | some k => match keysK (ks.map kD) with | none => none | some ks => some (k :: ks)) = _
  rw [keyK_kD, keysK_kD ks]
theorem keyT_eq {d : D} {ks : List Key} (h : keyT d = some ks) : d = tkD ks := by
 cases d with
 | tuple ds => unfold tkD; rw [← keysK_eq h]
 | _ => cases h
theorem keyT_tkD (ks : List Key) : keyT (tkD ks) = some ks := keysK_kD ks
theorem tkD_inj {k k' : List Key} (h : tkD k = tkD k') : k = k' := by
 have := keyT_tkD k
 rw [h, keyT_tkD] at this
 exact (Option.some.inj this).symm
theorem kD_inj {k k' : Key} (h : kD k = kD k') : k = k' := by
 have := keyK_kD k
 rw [h, keyK_kD] at this
 exact (Option.some.inj this).symm
theorem reps_kV {G : Hp} : ∀ {ks : List Key} {xs : List V}, Reps K G xs (ks.map kD) → xs = ks.map kV
 | [], _, .nil => rfl
 | k :: ks, _, .cons r t => by
  rw [reps_kV t]
  cases k with
  | inl i => cases r; rfl
  | inr x => cases r; rfl
theorem key_at {G : Hp} {v : V} {d : D} {ks : List Key} (h : Rep K G v d) (e : keyT d = some ks) : ∃ b, v = .ref b ∧ G b = some (.tup (ks.map kV)) := by
 have := keyT_eq e
 subst this
 cases h with
 | @tup b xs _ h1 h2 =>
  rw [reps_kV h2] at h1
  exact ⟨b, rfl, h1⟩
theorem key_atK {G : Hp} {v : V} {d : D} {k : Key} (h : Rep K G v d) (e : keyK d = some k) : v = kV k := by
 have := keyK_eq e
 subst this
 cases k with
 | inl i => cases h; rfl
 | inr x => cases h; rfl
open Classical in
def kget : List (D × D) → D → Option D
 | [], _ => none
 | p :: r, k => if p.1 = k then some p.2 else kget r k
open Classical in
def kset (k v : D) : List (D × D) → List (D × D)
 | [] => []
 | p :: r => (if p.1 = k then (p.1, v) else p) :: kset k v r
open Classical in
def kput (kvs : List (D × D)) (k v : D) : List (D × D) := if (kget kvs k).isSome = true then kset k v kvs else kvs ++ [(k, v)]
theorem getT {G : Hp} (ks : List Key) : ∀ {kv : List (List Key × V)} {kvs : List (D × D)}, RepT K G kv kvs → (kget kvs (tkD ks) = none ∧ valV kv ks = none) ∨ ∃ d v, kget kvs (tkD ks) = some d ∧ valV kv ks = some v ∧ Rep K G v d
 | _, _, .nil => .inl ⟨rfl, rfl⟩
 | _, _, .cons (k := k) (x := x) (d := d) r t => by
  by_cases e : k = ks
  ·subst e
   refine .inr ⟨d, x, ?_, valV_pos (p := (k, x)) rfl, r⟩
   unfold kget
   rw [if_pos rfl]
  ·have e2 : tkD k ≠ tkD ks := fun z => e (tkD_inj z)
   unfold kget
   rw [if_neg e2, valV_neg (p := (k, x)) e]
   exact getT ks t
theorem getK {G : Hp} (ks : Key) : ∀ {kv : List (Key × V)} {kvs : List (D × D)}, RepK K G kv kvs → (kget kvs (kD ks) = none ∧ valV kv ks = none) ∨ ∃ d v, kget kvs (kD ks) = some d ∧ valV kv ks = some v ∧ Rep K G v d
 | _, _, .nil => .inl ⟨rfl, rfl⟩
 | _, _, .cons (k := k) (x := x) (d := d) r t => by
  by_cases e : k = ks
  ·subst e
   refine .inr ⟨d, x, ?_, valV_pos (p := (k, x)) rfl, r⟩
   unfold kget
   rw [if_pos rfl]
  ·have e2 : kD k ≠ kD ks := fun z => e (kD_inj z)
   unfold kget
   rw [if_neg e2, valV_neg (p := (k, x)) e]
   exact getK ks t
theorem setT {G : Hp} {ks : List Key} {v : V} {d : D} (h : Rep K G v d) : ∀ {kv : List (List Key × V)} {kvs : List (D × D)}, RepT K G kv kvs → RepT K G (kv.map fun p => if p.1 = ks then (p.1, v) else p) (kset (tkD ks) d kvs)
 | _, _, .nil => .nil
 | _, _, .cons (k := k) (x := x) (d := d0) r t => by
  unfold kset
  rw [List.map_cons]
  by_cases e : k = ks
  ·subst e
   rw [if_pos rfl, if_pos rfl]
   exact .cons h (setT h t)
  ·have e2 : tkD k ≠ tkD ks := fun z => e (tkD_inj z)
   rw [if_neg e, if_neg e2]
   exact .cons r (setT h t)
theorem setK {G : Hp} {ks : Key} {v : V} {d : D} (h : Rep K G v d) : ∀ {kv : List (Key × V)} {kvs : List (D × D)}, RepK K G kv kvs → RepK K G (kv.map fun p => if p.1 = ks then (p.1, v) else p) (kset (kD ks) d kvs)
 | _, _, .nil => .nil
 | _, _, .cons (k := k) (x := x) (d := d0) r t => by
  unfold kset
  rw [List.map_cons]
  by_cases e : k = ks
  ·subst e
   rw [if_pos rfl, if_pos rfl]
   exact .cons h (setK h t)
  ·have e2 : kD k ≠ kD ks := fun z => e (kD_inj z)
   rw [if_neg e, if_neg e2]
   exact .cons r (setK h t)
theorem RepT.app {G : Hp} : ∀ {kv kv' : List (List Key × V)} {kvs kvs' : List (D × D)}, RepT K G kv kvs → RepT K G kv' kvs' → RepT K G (kv ++ kv') (kvs ++ kvs')
 | _, _, _, _, .nil, r => r
 | _, _, _, _, .cons h t, r => .cons h (RepT.app t r)
theorem RepK.app {G : Hp} : ∀ {kv kv' : List (Key × V)} {kvs kvs' : List (D × D)}, RepK K G kv kvs → RepK K G kv' kvs' → RepK K G (kv ++ kv') (kvs ++ kvs')
 | _, _, _, _, .nil, r => r
 | _, _, _, _, .cons h t, r => .cons h (RepK.app t r)
theorem RepT.len {G : Hp} : ∀ {kv : List (List Key × V)} {kvs : List (D × D)}, RepT K G kv kvs → kv.length = kvs.length
 | _, _, .nil => rfl
 | _, _, .cons _ r => by rw [List.length_cons, List.length_cons, RepT.len r]
theorem RepK.len {G : Hp} : ∀ {kv : List (Key × V)} {kvs : List (D × D)}, RepK K G kv kvs → kv.length = kvs.length
 | _, _, .nil => rfl
 | _, _, .cons _ r => by rw [List.length_cons, List.length_cons, RepK.len r]
theorem putT {G : Hp} {ks : List Key} {v : V} {d : D} (h : Rep K G v d) {kv : List (List Key × V)} {kvs : List (D × D)} (r : RepT K G kv kvs) : RepT K G (putK kv ks v) (kput kvs (tkD ks) d) := by
 unfold putK kput
 rw [valV_any]
 rcases getT ks r with ⟨e1, e2⟩ | ⟨d0, v0, e1, e2, _⟩
 ·rw [e1, e2, if_neg (by simp), if_neg (by simp)]
  exact r.app (.cons h .nil)
 ·rw [e1, e2, if_pos (show (some v0).isSome = true from rfl), if_pos (show (some d0).isSome = true from rfl)]
  exact setT h r
theorem putKK {G : Hp} {ks : Key} {v : V} {d : D} (h : Rep K G v d) {kv : List (Key × V)} {kvs : List (D × D)} (r : RepK K G kv kvs) : RepK K G (putK kv ks v) (kput kvs (kD ks) d) := by
 unfold putK kput
 rw [valV_any]
 rcases getK ks r with ⟨e1, e2⟩ | ⟨d0, v0, e1, e2, _⟩
 ·rw [e1, e2, if_neg (by simp), if_neg (by simp)]
  exact r.app (.cons h .nil)
 ·rw [e1, e2, if_pos (show (some v0).isSome = true from rfl), if_pos (show (some d0).isSome = true from rfl)]
  exact setK h r
def dsp (kvs : List (D × D)) : Bool × List (D × D) := match kvs with
 | (.none, .none) :: r => (true, r)
 | r => (false, r)
theorem dsp_T {G : Hp} {kv : List (List Key × V)} {kvs : List (D × D)} (r : RepT K G kv kvs) : dsp kvs = (false, kvs) := by
 cases r with
 | nil => rfl
 | cons _ _ => rfl
def dctOf : Ev → Option (List (D × D))
 | .p (.dict kvs) => some kvs
 | .b (.dict kvs) => some kvs
 | _ => none
def dlook (kvs : List (D × D)) (k : D) : Option (Option D) := match dsp kvs with
 | (true, r) => if (keyK k).isSome = true then some (kget r k) else none
 | (false, r) => if (keyT k).isSome = true then some (kget r k) else none
theorem dct_at {W : Addr → Option Nat} {Hs G H : Hp} {v : V} {r : Ev} {kvs : List (D × D)} (gh : Same G H) (h : EOk K W Hs G H v r) (e : dctOf r = some kvs) :
  ∃ a, v = .ref a ∧ ((∃ kv, H a = some (.dT kv) ∧ RepT K G kv kvs) ∨ ∃ kv r, kvs = (.none, .none) :: r ∧ H a = some (.dK kv) ∧ RepK K G kv r) := by
 cases r with
 | p d =>
  cases d with
  | dict es =>
   cases e
   cases h with
   | @dT a kv _ h1 h2 => exact ⟨a, rfl, .inl ⟨kv, gh _ _ h1, h2⟩⟩
   | @dK a kv r h1 h2 => exact ⟨a, rfl, .inr ⟨kv, r, rfl, gh _ _ h1, h2⟩⟩
  | _ => cases e
 | b d =>
  cases d with
  | dict es =>
   cases e
   obtain ⟨a, i, o, rfl, h1, h2, h3⟩ := h
   cases h3 with
   | @dT kv _ h4 => exact ⟨a, rfl, .inl ⟨kv, h2, h4⟩⟩
   | @dK kv r h4 => exact ⟨a, rfl, .inr ⟨kv, r, rfl, h2, h4⟩⟩
  | _ => cases e
 | f d => cases e
 | x C => cases e
def LookR (K : PySem.W.Frag) (G : Hp) : Option D → Option V → Prop
 | none, w => w = none
 | some d, w => ∃ x, w = some x ∧ Rep K G x d
theorem look_at {W : Addr → Option Nat} {Hs Hs' G H : Hp} {v u : V} {r : Ev} {k : D} {kvs : List (D × D)} {o : Option D} (gh : Same G H) (h : EOk K W Hs G H v r) (e : dctOf r = some kvs) (hk : Rep K G u k) (el : dlook kvs k = some o) :
  ∃ a w, v = .ref a ∧ DGet H a u w ∧ LookR K G o w := by
 obtain ⟨a, rfl, hh⟩ := dct_at gh h e
 rcases hh with ⟨kv, h1, h2⟩ | ⟨kv, r, rfl, h1, h2⟩
 ·unfold dlook at el
  rw [dsp_T h2] at el
  dsimp only at el
  split at el
  ·rename_i z
   obtain ⟨ks, ek⟩ := Option.isSome_iff_exists.mp z
   obtain ⟨b, rfl, hb⟩ := key_at hk ek
   have := keyT_eq ek
   subst this
   cases el
   refine ⟨a, valV kv ks, rfl, .t h1 (gh _ _ hb), ?_⟩
   rcases getT ks h2 with ⟨e1, e2⟩ | ⟨d0, v0, e1, e2, e3⟩
   ·rw [e1, e2]; exact rfl
   ·rw [e1, e2]; exact ⟨v0, rfl, e3⟩
  ·cases el
 ·unfold dlook at el
  dsimp only [dsp] at el
  split at el
  ·rename_i z
   obtain ⟨ks, ek⟩ := Option.isSome_iff_exists.mp z
   have hb := key_atK hk ek
   subst hb
   have := keyK_eq ek
   subst this
   cases el
   refine ⟨a, valV kv ks, rfl, .k h1, ?_⟩
   rcases getK ks h2 with ⟨e1, e2⟩ | ⟨d0, v0, e1, e2, e3⟩
   ·rw [e1, e2]; exact rfl
   ·rw [e1, e2]; exact ⟨v0, rfl, e3⟩
  ·cases el
def dgetE (x y : Ev) : Res Ev := match y with
 | .p k => match dctOf x with
  | some kvs => match dlook kvs k with
   | some (some d) => .ok (.p d)
   | _ => .bad
  | none => .bad
 | _ => .bad
def dinE (ng : Bool) (y x : Ev) : Res Ev := match y with
 | .p k => match dctOf x with
  | some kvs => match dlook kvs k with
   | some o => .ok (.p (.bool (if ng then !o.isSome else o.isSome)))
   | none => .bad
  | none => .bad
 | _ => .bad
theorem de_dget (hu : X.A.units + 1 < cLine) (ha : DE X E a fa) (hb : DE X E b fb) (hs : NoSl b) : DE X E (.Subscript a b pos) (mBin dgetE fa fb) := by
 obtain ⟨ta, pa, ma⟩ := ha.out
 obtain ⟨tb, pb, mb⟩ := hb.out
 refine DE.in ⟨_, pe_dget hu pa pb hs, fun B G0 G W H σ en Q hh hs hw => ma B G0 G W H σ en _ hh hs (DE.go hw fun x G1 H1 v s1 e1 h1 => ?_)⟩
 refine mb B G0 G1 W H1 σ en _ (hh.step s1) (hs.step s1) (DE.go h1 fun y G2 H2 u s2 e2 h2 => ?_)
 unfold dgetE at h2
 split at h2
 ·rename_i k ey
  rw [ey] at e2
  split at h2
  ·rename_i kvs ed
   split at h2
   ·rename_i d el
    obtain ⟨a, w, rfl, hg, x, rfl, hx⟩ := look_at (Hs' := H1) s2.gh (e1.step (Hs' := H1) s2) ed e2 el
    exact ⟨a, x, rfl, hg, h2 G2 H2 _ (Step.refl s2.gh) hx⟩
   ·exact h2.elim
  ·exact h2.elim
 ·exact h2.elim
theorem din_core {ta tb : TE} {ng : Bool} (ma : ∀ B G0 G W H σ en Q, SimH B G0 G W H → SimS X.K W G H σ en → wpR (fa en) (PostE X.K W G H Q) (PostX (E σ) G H) → ta σ H Q)
  (mb : ∀ B G0 G W H σ en Q, SimH B G0 G W H → SimS X.K W G H σ en → wpR (fb en) (PostE X.K W G H Q) (PostX (E σ) G H) → tb σ H Q) :
  ∀ B G0 G W H σ en Q, SimH B G0 G W H → SimS X.K W G H σ en → wpR (mBin (dinE ng) fa fb en) (PostE X.K W G H Q) (PostX (E σ) G H) →
   ta σ H fun y H1 => tb σ H1 fun x H2 => ∃ a o, x = .ref a ∧ DGet H2 a y o ∧ Q (.bl (if ng then !o.isSome else o.isSome)) H2 := by
 intro B G0 G W H σ en Q hh hs hw
 refine ma B G0 G W H σ en _ hh hs (DE.go hw fun y G1 H1 u s1 e1 h1 => ?_)
 refine mb B G0 G1 W H1 σ en _ (hh.step s1) (hs.step s1) (DE.go h1 fun x G2 H2 v s2 e2 h2 => ?_)
 have e1' := e1.step (Hs' := H1) s2
 unfold dinE at h2
 split at h2
 ·rename_i k ey
  rw [ey] at e1'
  split at h2
  ·rename_i kvs ed
   split at h2
   ·rename_i o el
    obtain ⟨a, w, rfl, hg, hx⟩ := look_at (Hs' := H1) s2.gh e2 ed e1' el
    refine ⟨a, w, rfl, hg, ?_⟩
    have z := h2 G2 H2 _ (Step.refl s2.gh) (.bl _)
    cases o with
    | none => rw [show w = none from hx]; exact z
    | some d => obtain ⟨x', rfl, _⟩ := hx; exact z
   ·exact h2.elim
  ·exact h2.elim
 ·exact h2.elim
theorem dt_din (hu : X.A.units + 1 < cLine) (ha : DE X E a fa) (hb : DE X E b fb) (hk : behindInMarks .In b = false := by with_unfolding_all rfl) : DT X E (.Compare a [.In] [b] pos) (mTru (mBin (dinE false) fa fb)) := by
 obtain ⟨ta, pa, ma⟩ := ha.out
 obtain ⟨tb, pb, mb⟩ := hb.out
 exact DT.in ⟨_, pt_cmp (pc_din hu pa pb) hk, tru_core (t := tDIn ta tb) (din_core (ng := false) ma mb)⟩
theorem dt_dnotin (hu : X.A.units + 1 < cLine) (ha : DE X E a fa) (hb : DE X E b fb) (hk : behindInMarks .NotIn b = false := by with_unfolding_all rfl) : DT X E (.Compare a [.NotIn] [b] pos) (mTru (mBin (dinE true) fa fb)) := by
 obtain ⟨ta, pa, ma⟩ := ha.out
 obtain ⟨tb, pb, mb⟩ := hb.out
 exact DT.in ⟨_, pt_cmp (pc_dnotin hu pa pb) hk, tru_core (t := tDNotIn ta tb) (din_core (ng := true) ma mb)⟩
def mDT : En → Res Ev := fun _ => .ok (.f (.dict []))
theorem de_dnewT : DE X E (.Dict [] [] pos) mDT :=
 DE.in ⟨_, pe_dnewT, fun B G0 G W H σ en Q hh hs hw p hp => hw _ _ _ (Step.lay hh.gh hp) ⟨p, _, rfl, hp, hh.gh.free hp, upd_same, .dT .nil⟩⟩
def dputD (kvs : List (D × D)) (k v : D) : Option (List (D × D)) := match dsp kvs with
 | (true, r) => if (keyK k).isSome = true ∧ r.length ≤ 100000 then some ((.none, .none) :: kput r k v) else none
 | (false, r) => if (keyT k).isSome = true ∧ r.length ≤ 100000 then some (kput r k v) else none
def mDput (i : Nat) (fk fv : En → Res Ev) : MS := fun en => match en[i]? with
 | some (some (.o (.dict kvs))) => match fv en with
  | .exc C => some (.ex C en)
  | .bad => none
  | .ok rv => match fk en with
   | .exc C => some (.ex C en)
   | .bad => none
   | .ok rk => match rv.c with
    | .p v => match rk.c with
     | .p k => match dputD kvs k v with
      | some kvs' => some (.nx (en.set i (some (.o (.dict kvs')))))
      | none => none
     | _ => none
    | _ => none
 | _ => none
theorem ds_dput {i : Nat} {x : Str} {pos' np : Pos} {ek ev : Expr} {fk fv : En → Res Ev} (hu : X.A.units + 1 < cLine) (hd : PE X (.Name x np) (tVar i)) (hk : DE X E ek fk) (hv : DE X E ev fv) (hs : swapsWith ev (some (.Subscript (.Name x np) ek pos')) pos.line X.env = pure false) :
  DS X E (.Assign [.Subscript (.Name x np) ek pos'] ev pos) (mDput i fk fv) := by
 obtain ⟨tk, pk, mk⟩ := hk.out
 obtain ⟨tv, pv', mv⟩ := hv.out
 refine DS.in ⟨_, ps_dput hu hd pk pv' hs, fun B G0 G W H σ en Dn hh hs hw => mv B G0 G W H σ en _ hh hs ?_⟩
 unfold mDput at hw
 split at hw
 ·rename_i kvs ei
  obtain ⟨v0, f1, a, o, rfl, f2, f3, f4⟩ := hs.2 i _ ei
  cases ev' : fv en with
  | bad => rw [ev'] at hw; exact hw
  | exc C => rw [ev'] at hw; exact fun G1 H1 s => hw G1 W H1 σ (hh.step s) (hs.step s)
  | ok rv =>
   rw [ev'] at hw
   intro G1 H1 v s1 e1
   obtain ⟨G2, s2, e2⟩ := e1.c s1
   dsimp only at hw
   refine ⟨_, f1, mk B G0 G2 W H1 σ en _ (hh.step s2) (hs.step s2) ?_⟩
   cases ek' : fk en with
   | bad => rw [ek'] at hw; exact hw
   | exc C => rw [ek'] at hw; exact fun G3 H3 s => hw G3 W H3 σ ((hh.step s2).step s) ((hs.step s2).step s)
   | ok rk =>
    rw [ek'] at hw
    intro G3 H3 u s3 e3
    obtain ⟨G4, s4, e4⟩ := e3.c s3
    have e2' := e2.step (Hs' := H1) s4
    have s24 := s2.trans s4
    dsimp only at hw
    split at hw
    ·rename_i vd erv
     rw [erv] at e2'
     split at hw
     ·rename_i kd erk
      rw [erk] at e4
      split at hw
      ·rename_i kvs' ep
       have hx := s24.h _ _ f3
       refine ⟨a, ?_⟩
       unfold dputD at ep
       have f5 := f4.mono s24.g
       cases f5 with
       | @dT kv _ rT =>
        rw [dsp_T rT] at ep
        dsimp only at ep
        split at ep
        ·rename_i hz
         cases ep
         obtain ⟨ks, ek⟩ := Option.isSome_iff_exists.mp hz.1
         obtain ⟨b, rfl, hb⟩ := key_at e4 ek
         have := keyT_eq ek
         subst this
         obtain ⟨w1, w2⟩ := write_ok (o' := .dT (putK kv ks v)) (d' := .dict (kput kvs (tkD ks) vd)) (hh.step s24) (hs.step s24) f2 f1 (.dT (putT e2' rT))
         exact ⟨_, rfl, .t hx (s4.gh _ _ hb) (Nat.lt_of_le_of_lt (by rw [rT.len]; exact hz.2) (by decide)), hw _ _ _ _ w1 w2⟩
        ·cases ep
       | @dK kv r rK =>
        dsimp only [dsp] at ep
        split at ep
        ·rename_i hz
         cases ep
         obtain ⟨ks, ek⟩ := Option.isSome_iff_exists.mp hz.1
         have hb := key_atK e4 ek
         subst hb
         have := keyK_eq ek
         subst this
         obtain ⟨w1, w2⟩ := write_ok (o' := .dK (putK kv ks v)) (d' := .dict ((.none, .none) :: kput r (kD ks) vd)) (hh.step s24) (hs.step s24) f2 f1 (.dK (putKK e2' rK))
         exact ⟨_, rfl, .k hx (Nat.lt_of_le_of_lt (by rw [rK.len]; exact hz.2) (by decide)), hw _ _ _ _ w1 w2⟩
        ·cases ep
      ·exact hw.elim
     ·exact hw.elim
    ·exact hw.elim
 ·exact hw.elim
def lenDE (rs : List Ev) : Res Ev := match rs with
 | [x] => match dctOf x with
  | some kvs => .ok (.p (.int ((dsp kvs).2.length : Nat)))
  | none => .bad
 | _ => .bad
theorem noX_lenD : NoXs lenDE := by
 intro rs C h
 unfold lenDE at h
 split at h
 ·split at h <;> cases h
 ·cases h
end
end M

namespace SRT
open PySem PySem.W PyProof.Rows
structure Ord (lt : Nat → Nat → Bool) : Prop where
 as : ∀ i j, lt i j = true → lt j i = false
 tr : ∀ i j k, lt j i = false → lt k j = false → lt k i = false
section
variable {lt : Nat → Nat → Bool} {n : Nat} {cmp : Nat → Nat → (Bool → Shared → Prop) → Shared → Prop} {s : Shared}
def le (lt : Nat → Nat → Bool) (a b : Nat) : Prop := lt b a = false
theorem Ord.rf (o : Ord lt) (i : Nat) : le lt i i := by
 cases e : lt i i with
 | false => exact e
 | true => have := o.as i i e; rw [e] at this; cases this
theorem Ord.tot (o : Ord lt) {i j : Nat} (h : lt i j = true) : le lt i j := o.as i j h
def Pt (p : Array Nat) (i : Nat) : Nat := p.getD i 0
def Sd (lt : Nat → Nat → Bool) (p : Array Nat) (m : Nat) : Prop := ∀ i j, i ≤ j → j < m → le lt (Pt p i) (Pt p j)
def NI (lt : Nat → Nat → Bool) (p : Array Nat) (m : Nat) : Prop := ∀ i j, i ≤ j → j < m → le lt (Pt p j) (Pt p i)
def Pm (n : Nat) (p : Array Nat) : Prop := p.Perm (List.range n).toArray
theorem Pm.size {p : Array Nat} (h : Pm n p) : p.size = n := by
 have := h.size_eq
 simpa using this
theorem Pm.bd {p : Array Nat} (h : Pm n p) (hn : 0 < n) (i : Nat) : Pt p i < n := by
 unfold Pt
 by_cases hi : i < p.size
 ·have e : p.getD i 0 = p[i] := by simp [Array.getD, hi]
  rw [e]
  have : p[i] ∈ (List.range n).toArray := h.mem_iff.mp (Array.getElem_mem hi)
  simpa using this
 ·have e : p.getD i 0 = 0 := by simp [Array.getD, hi]
  rw [e]; exact hn
theorem Pt_of {p q : Array Nat} {i j : Nat} (h : p[i]? = q[j]?) : Pt p i = Pt q j := by
 unfold Pt
 rw [Array.getD_eq_getD_getElem?, Array.getD_eq_getD_getElem?, h]
theorem rev_pm {p : Array Nat} (h : Pm n p) (i j : Nat) : Pm n (kas_rev p i j) := (mirror_perm _ _ _ _).trans h
theorem rev_pt {p : Array Nat} {i j : Nat} (hj : j ≤ p.size) (k : Nat) : Pt (kas_rev p i j) k = if i ≤ k ∧ k < j then Pt p (i + j - 1 - k) else Pt p k := by
 have e := getElem?_mirror_all (xs := p) (i := i) hj k
 split
 ·rename_i h
  rw [if_pos h] at e
  exact Pt_of e
 ·rename_i h
  rw [if_neg h] at e
  exact Pt_of e
variable (hc : ∀ i j C, i < n → j < n → C (lt i j) s → cmp i j C s) (hn : 0 < n) (o : Ord lt)
include hc hn
theorem asc_wp {Q : Nat → Shared → Prop} {p : Array Nat} (hp : Pm n p) : ∀ (f a : Nat), (∀ m, a ≤ m → m ≤ a + f → (∀ k, a ≤ k → k < m → le lt (Pt p (k - 1)) (Pt p k)) → (m < a + f → lt (Pt p m) (Pt p (m - 1)) = true) → Q m s) →
  (kas_asc p f a).kasWp cmp Q s
 | 0, a, h => h a (Nat.le_refl _) (Nat.le_refl _) (fun k h1 h2 => absurd h2 (by lia)) (fun h => absurd h (by lia))
 | f + 1, a, h => by
  refine hc _ _ _ (hp.bd hn _) (hp.bd hn _) ?_
  show KasT.kasWp cmp (if lt (Pt p a) (Pt p (a - 1)) = true then .ret a else kas_asc p f (a + 1)) Q s
  cases e : lt (Pt p a) (Pt p (a - 1)) with
  | true =>
   rw [if_pos rfl]
   exact h a (Nat.le_refl _) (by lia) (fun k h1 h2 => absurd h2 (by lia)) fun _ => e
  | false =>
   rw [if_neg Bool.false_ne_true]
   refine asc_wp hp f (a + 1) fun m h1 h2 h3 h4 => h m (by lia) (by lia) (fun k k1 k2 => ?_) fun z => h4 (by lia)
   by_cases ek : k = a
   ·subst ek; exact e
   ·exact h3 k (by lia) k2
include o
omit hc hn in
theorem sd_up {p : Array Nat} {a m : Nat} (h1 : 1 ≤ a) (hs : Sd lt p a) (hk : ∀ k, a ≤ k → k < m → le lt (Pt p (k - 1)) (Pt p k)) : Sd lt p m := by
 intro i j hij hj
 induction j with
 | zero =>
  have : i = 0 := by lia
  subst this
  exact o.rf _
 | succ j ih =>
  by_cases e : i = j + 1
  ·subst e; exact o.rf _
  ·have ih := ih (by lia) (by lia)
   by_cases hja : j + 1 < a
   ·exact hs i (j + 1) hij hja
   ·have := hk (j + 1) (by lia) hj
    exact o.tr _ _ _ ih this
omit hc hn in
theorem ni_rev {p : Array Nat} {m : Nat} (hm : m ≤ p.size) (h : NI lt p m) : Sd lt (kas_rev p 0 m) m := by
 intro i j hij hj
 rw [rev_pt hm, rev_pt hm, if_pos ⟨Nat.zero_le _, by lia⟩, if_pos ⟨Nat.zero_le _, hj⟩]
 exact h _ _ (by lia) (by lia)
theorem tail_wp {Q : Nat × Array Nat → Shared → Prop} {p : Array Nat} {a r : Nat} (hp : Pm n p) (h1 : 1 ≤ a) (ha : a ≤ r) (hr : r ≤ n) (hni : NI lt p a) (h : ∀ m q, 1 ≤ m → m ≤ r → Pm n q → Sd lt q m → Q (m, q) s) : (kas_tail3 a r p).kasWp cmp Q s := by
 unfold kas_tail3
 rw [KasT.kasWp_bind]
 have hz : a ≤ p.size := by rw [hp.size]; lia
 refine asc_wp hc hn (rev_pm hp 0 a) _ _ fun m h2 h3 h4 _ => ?_
 exact h m _ (by lia) (by lia) (rev_pm hp 0 a) (sd_up o h1 (ni_rev o hz hni) h4)
omit hc hn in
theorem rev_eq {p : Array Nat} {i j : Nat} (hj : j ≤ p.size) (he : ∀ a b, i ≤ a → a < j → i ≤ b → b < j → le lt (Pt p a) (Pt p b)) (k : Nat) : le lt (Pt (kas_rev p i j) k) (Pt p k) ∧ le lt (Pt p k) (Pt (kas_rev p i j) k) := by
 rw [rev_pt hj]
 split
 ·rename_i h
  exact ⟨he _ _ (by lia) (by lia) h.1 h.2, he _ _ h.1 h.2 (by lia) (by lia)⟩
 ·exact ⟨o.rf _, o.rf _⟩
omit hc hn in
theorem ni_rev_eq {p : Array Nat} {i j m : Nat} (hj : j ≤ p.size) (he : ∀ a b, i ≤ a → a < j → i ≤ b → b < j → le lt (Pt p a) (Pt p b)) (h : NI lt p m) : NI lt (kas_rev p i j) m := fun a b hab hb =>
 o.tr _ _ _ (rev_eq o hj he b).1 (o.tr _ _ _ (h a b hab hb) (rev_eq o hj he a).2)
theorem desc_wp {Q : Array Nat × Nat × Nat → Shared → Prop} {r : Nat} (hr : r ≤ n) : ∀ (f : Nat) (p : Array Nat) (a q : Nat), Pm n p → a + f ≤ r → q + 1 ≤ a → NI lt p a → (∀ x y, a - (q + 1) ≤ x → x < a → a - (q + 1) ≤ y → y < a → le lt (Pt p x) (Pt p y)) →
  (∀ p' a' q', Pm n p' → a ≤ a' → a' ≤ r → q' + 1 ≤ a' → NI lt p' a' → (∀ x y, a' - (q' + 1) ≤ x → x < a' → a' - (q' + 1) ≤ y → y < a' → le lt (Pt p' x) (Pt p' y)) → Q (p', a', q') s) → (kas_desc f p a q).kasWp cmp Q s
 | 0, p, a, q, hp, hf, hq, hni, he, h => h p a q hp (Nat.le_refl _) (by lia) hq hni he
 | f + 1, p, a, q, hp, hf, hq, hni, he, h => by
  have hz : a ≤ p.size := by rw [hp.size]; lia
  refine hc _ _ _ (hp.bd hn _) (hp.bd hn _) ?_
  show KasT.kasWp cmp (if lt (Pt p a) (Pt p (a - 1)) = true then (if q > 0 then kas_desc f (kas_rev p (a - (q + 1)) a) (a + 1) 0 else kas_desc f p (a + 1) 0)
   else .ask (Pt p (a - 1)) (Pt p a) fun d => if d = true then .ret (p, a, q) else kas_desc f p (a + 1) (q + 1)) Q s
  have grow : ∀ {p' : Array Nat}, NI lt p' a → le lt (Pt p' a) (Pt p' (a - 1)) → NI lt p' (a + 1) := fun {p'} h1 h2 i j hij hj => by
   by_cases e : j = a
   ·subst e
    by_cases e2 : i = j
    ·subst e2; exact o.rf _
    ·exact o.tr _ _ _ h2 (h1 i (j - 1) (by lia) (by lia))
   ·exact h1 i j hij (by lia)
  cases e : lt (Pt p a) (Pt p (a - 1)) with
  | true =>
   rw [if_pos rfl]
   by_cases hq0 : q > 0
   ·rw [if_pos hq0]
    have n1 := ni_rev_eq o hz he hni
    have e1 : Pt (kas_rev p (a - (q + 1)) a) a = Pt p a := by rw [rev_pt hz, if_neg (by lia)]
    have le1 : le lt (Pt (kas_rev p (a - (q + 1)) a) a) (Pt (kas_rev p (a - (q + 1)) a) (a - 1)) := by
     rw [e1]
     exact o.tr _ _ _ (o.tot e) (rev_eq o hz he (a - 1)).2
    refine desc_wp hr f _ (a + 1) 0 (rev_pm hp _ _) (by lia) (by lia) (grow n1 le1) (fun x y h1 h2 h3 h4 => ?_) fun p' a' q' k1 k2 k3 k4 k5 k6 => h p' a' q' k1 (by lia) k3 k4 k5 k6
    have : x = y := by lia
    subst this; exact o.rf _
   ·rw [if_neg hq0]
    refine desc_wp hr f _ (a + 1) 0 hp (by lia) (by lia) (grow hni (o.tot e)) (fun x y h1 h2 h3 h4 => ?_) fun p' a' q' k1 k2 k3 k4 k5 k6 => h p' a' q' k1 (by lia) k3 k4 k5 k6
    have : x = y := by lia
    subst this; exact o.rf _
  | false =>
   rw [if_neg Bool.false_ne_true]
   refine hc _ _ _ (hp.bd hn _) (hp.bd hn _) ?_
   show KasT.kasWp cmp (if lt (Pt p (a - 1)) (Pt p a) = true then .ret (p, a, q) else kas_desc f p (a + 1) (q + 1)) Q s
   cases e2 : lt (Pt p (a - 1)) (Pt p a) with
   | true =>
    rw [if_pos rfl]
    exact h p a q hp (Nat.le_refl _) (by lia) hq hni he
   | false =>
    rw [if_neg Bool.false_ne_true]
    have eq1 : le lt (Pt p (a - 1)) (Pt p a) := e
    have eq2 : le lt (Pt p a) (Pt p (a - 1)) := e2
    refine desc_wp hr f p (a + 1) (q + 1) hp (by lia) (by lia) (grow hni eq2) (fun x y h1 h2 h3 h4 => ?_) fun p' a' q' k1 k2 k3 k4 k5 k6 => h p' a' q' k1 (by lia) k3 k4 k5 k6
    by_cases hx : x = a
    ·subst hx
     by_cases hy : y = x
     ·subst hy; exact o.rf _
     ·exact o.tr _ _ _ eq2 (he _ _ (by lia) (by lia) (by lia) (by lia))
    ·by_cases hy : y = a
     ·subst hy
      exact o.tr _ _ _ (he _ (y - 1) (by lia) (by lia) (by lia) (by lia)) eq1
     ·exact he _ _ (by lia) (by lia) (by lia) (by lia)
theorem descPart_wp {Q : Nat × Array Nat → Shared → Prop} {p : Array Nat} {a r : Nat} (hp : Pm n p) (h1 : 1 ≤ a) (ha : a + 1 ≤ r) (hr : r ≤ n) (hni : NI lt p (a + 1)) (h : ∀ m q, 1 ≤ m → m ≤ r → Pm n q → Sd lt q m → Q (m, q) s) : (kas_descPart a r p).kasWp cmp Q s := by
 unfold kas_descPart
 rw [KasT.kasWp_bind]
 refine desc_wp hc hn o hr _ p (a + 1) 0 hp (by lia) (by lia) hni (fun x y h1 h2 h3 h4 => ?_) fun p' a' q' k1 k2 k3 k4 k5 k6 => ?_
 ·have : x = y := by lia
  subst this; exact o.rf _
 ·have hz : a' ≤ p'.size := by rw [k1.size]; lia
  show KasT.kasWp cmp (if q' > 0 then kas_tail3 a' r (kas_rev p' (a' - (q' + 1)) a') else kas_tail3 a' r p') Q s
  by_cases hq : q' > 0
  ·rw [if_pos hq]
   exact tail_wp hc hn o (rev_pm k1 _ _) (by lia) k3 hr (ni_rev_eq o hz k6 k5) h
  ·rw [if_neg hq]
   exact tail_wp hc hn o k1 (by lia) k3 hr k5 h
theorem count_wp {Q : Nat × Array Nat → Shared → Prop} {p : Array Nat} {r : Nat} (hp : Pm n p) (h1 : 1 ≤ r) (hr : r ≤ n) (h : ∀ m q, 1 ≤ m → m ≤ r → Pm n q → Sd lt q m → Q (m, q) s) : (kas_count r p).kasWp cmp Q s := by
 unfold kas_count
 rw [KasT.kasWp_bind]
 have s1 : Sd lt p 1 := fun i j hij hj => by
  have : i = j := by lia
  subst this; exact o.rf _
 refine asc_wp hc hn hp _ _ fun m h2 h3 h4 h5 => ?_
 have sm := sd_up o (Nat.le_refl 1) s1 h4
 show KasT.kasWp cmp (if (m == r) = true then .ret (m, p) else if m > 1 then .ask (Pt p 0) (Pt p (m - 1)) fun c => if c = true then .ret (m, p) else kas_descPart m r (kas_rev p 0 m) else kas_descPart m r p) Q s
 by_cases em : m = r
 ·rw [if_pos (by simp [em])]
  exact h m p h2 (by lia) hp sm
 ·rw [if_neg (by simp [em])]
  have hlt := h5 (by lia)
  have hz : m ≤ p.size := by rw [hp.size]; lia
  by_cases hm : m > 1
  ·rw [if_pos hm]
   refine hc _ _ _ (hp.bd hn _) (hp.bd hn _) ?_
   show KasT.kasWp cmp (if lt (Pt p 0) (Pt p (m - 1)) = true then .ret (m, p) else kas_descPart m r (kas_rev p 0 m)) Q s
   cases e : lt (Pt p 0) (Pt p (m - 1)) with
   | true => rw [if_pos rfl]; exact h m p h2 (by lia) hp sm
   | false =>
    rw [if_neg Bool.false_ne_true]
    have e : le lt (Pt p (m - 1)) (Pt p 0) := e
    have he : ∀ a b, 0 ≤ a → a < m → 0 ≤ b → b < m → le lt (Pt p a) (Pt p b) := fun a b _ ha _ hb =>
     o.tr _ _ _ (sm a (m - 1) (by lia) (by lia)) (o.tr _ _ _ e (sm 0 b (by lia) hb))
    have nm : NI lt p m := fun i j hij hj => he j i (by lia) hj (by lia) (by lia)
    have n2 := ni_rev_eq o hz he nm
    have em1 : Pt (kas_rev p 0 m) m = Pt p m := by rw [rev_pt hz, if_neg (by lia)]
    refine descPart_wp hc hn o (rev_pm hp 0 m) (by lia) (by lia) hr (fun i j hij hj => ?_) h
    by_cases ej : j = m
    ·subst ej
     by_cases ei : i = j
     ·subst ei; exact o.rf _
     ·rw [em1]
      refine o.tr _ _ _ (o.tot hlt) (o.tr _ _ _ (rev_eq o hz he (j - 1)).2 ?_)
      exact n2 i (j - 1) (by lia) (by lia)
    ·exact n2 i j hij (by lia)
  ·rw [if_neg hm]
   have e1 : m = 1 := by lia
   subst e1
   refine descPart_wp hc hn o hp (Nat.le_refl 1) (by lia) hr (fun i j hij hj => ?_) h
   by_cases ei : i = j
   ·subst ei; exact o.rf _
   ·have : i = 0 ∧ j = 1 := by lia
    obtain ⟨rfl, rfl⟩ := this
    exact o.tot hlt
theorem place_wp {Q : Nat → Shared → Prop} {p : Array Nat} {k : Nat} (hp : Pm n p) (hs : Sd lt p k) : ∀ (f l r : Nat), l ≤ r → r ≤ k → r - l ≤ f → (∀ i, i < l → le lt (Pt p i) (Pt p k)) → (∀ i, r ≤ i → i < k → lt (Pt p k) (Pt p i) = true) →
  (∀ m, m ≤ k → (∀ i, i < m → le lt (Pt p i) (Pt p k)) → (∀ i, m ≤ i → i < k → lt (Pt p k) (Pt p i) = true) → Q m s) → (kas_place p k f l r).kasWp cmp Q s
 | 0, l, r, h1, h2, h3, h4, h5, h => by
  have : l = r := by lia
  subst this
  exact h l h2 h4 h5
 | f + 1, l, r, h1, h2, h3, h4, h5, h => by
  unfold kas_place
  by_cases e : l ≥ r
  ·rw [if_pos e]
   have : l = r := by lia
   subst this
   exact h l h2 h4 h5
  ·rw [if_neg e]
   refine hc _ _ _ (hp.bd hn _) (hp.bd hn _) ?_
   show KasT.kasWp cmp (if lt (Pt p k) (Pt p ((l + r) / 2)) = true then kas_place p k f l ((l + r) / 2) else kas_place p k f ((l + r) / 2 + 1) r) Q s
   cases ec : lt (Pt p k) (Pt p ((l + r) / 2)) with
   | true =>
    rw [if_pos rfl]
    refine place_wp hp hs f l ((l + r) / 2) (by lia) (by lia) (by lia) h4 (fun i i1 i2 => ?_) h
    cases ei : lt (Pt p k) (Pt p i) with
    | true => rfl
    | false =>
     have := o.tr _ _ _ (hs ((l + r) / 2) i i1 i2) ei
     rw [ec] at this; cases this
   | false =>
    rw [if_neg Bool.false_ne_true]
    refine place_wp hp hs f ((l + r) / 2 + 1) r (by lia) h2 (by lia) (fun i i1 => ?_) h5 h
    exact o.tr _ _ _ (hs i ((l + r) / 2) (by lia) (by lia)) ec
omit hc hn in
theorem bub_pt {p : Array Nat} {k l : Nat} (hk : k < p.size) (hl : l ≤ k) (i : Nat) : Pt (bubble p k (k - l)) i = if i = l then Pt p k else if l < i ∧ i ≤ k then Pt p (i - 1) else Pt p i := by
 have e := getElem?_bubble hk (k - l) (by lia) i
 have e1 : k - (k - l) = l := by lia
 rw [e1] at e
 repeat' split
 ·rename_i h; rw [if_pos h] at e; exact Pt_of e
 ·rename_i h h2; rw [if_neg h, if_pos h2] at e; exact Pt_of e
 ·rename_i h h2; rw [if_neg h, if_neg h2] at e; exact Pt_of e
theorem bin_wp {Q : Array Nat → Shared → Prop} : ∀ (f : Nat) (p : Array Nat) (k : Nat), Pm n p → k + f ≤ n → Sd lt p k → (∀ q, Pm n q → Sd lt q (k + f) → Q q s) → (kas_bin f p k).kasWp cmp Q s
 | 0, p, k, hp, _, hs, h => h p hp hs
 | f + 1, p, k, hp, hk, hs, h => by
  unfold kas_bin
  rw [KasT.kasWp_bind]
  have hz : k < p.size := by rw [hp.size]; lia
  refine place_wp hc hn o hp hs k 0 k (Nat.zero_le _) (Nat.le_refl _) (by lia) (fun i h => absurd h (by lia)) (fun i h1 h2 => absurd h2 (by lia)) fun l hl h1 h2 => ?_
  refine bin_wp f _ (k + 1) ((bubble_perm _ _ _).trans hp) (by lia) (fun i j hij hj => ?_) fun q q1 q2 => h q q1 (by rw [show k + (f + 1) = k + 1 + f by lia]; exact q2)
  rw [bub_pt o hz hl, bub_pt o hz hl]
  by_cases ei : i = l
  ·rw [if_pos ei]
   by_cases ej : j = l
   ·rw [if_pos ej]; exact o.rf _
   ·rw [if_neg ej, if_pos ⟨by lia, by lia⟩]
    exact o.tot (h2 (j - 1) (by lia) (by lia))
  ·rw [if_neg ei]
   by_cases ej : j = l
   ·rw [if_pos ej, if_neg (by lia)]
    exact h1 i (by lia)
   ·rw [if_neg ej]
    by_cases hi : l < i ∧ i ≤ k
    ·rw [if_pos hi, if_pos ⟨by lia, by lia⟩]
     exact hs _ _ (by lia) (by lia)
    ·rw [if_neg hi]
     by_cases hj2 : l < j ∧ j ≤ k
     ·rw [if_pos hj2]
      exact hs _ _ (by lia) (by lia)
     ·rw [if_neg hj2]
      exact hs _ _ (by lia) (by lia)
theorem sort_wp {Q : Array Nat → Shared → Prop} (h : ∀ q, Pm n q → Sd lt q n → Q q s) : (kas_sort n).kasWp cmp Q s := by
 unfold kas_sort
 rw [KasT.kasWp_bind]
 refine count_wp hc hn o (Array.Perm.refl _) hn (Nat.le_refl n) fun m q h1 h2 h3 h4 => ?_
 show KasT.kasWp cmp (if m < n then kas_bin (n - max m 1) q (max m 1) else .ret q) Q s
 have em : max m 1 = m := by lia
 by_cases e : m < n
 ·rw [if_pos e, em]
  refine bin_wp hc hn o _ _ _ h3 (by lia) h4 fun q' k1 k2 => h q' k1 (by rw [show m + (n - m) = n by lia] at k2; exact k2)
 ·rw [if_neg e]
  have : m = n := by lia
  subst this
  exact h q h3 h4
end
end SRT

namespace SRT
open PySem PySem.W PyProof.Rows L2
def TupI (h : Heap) (v : Value) (ns : List Int) : Prop := ∃ t o xs c, v = .ref t ∧ h.get? t = some o ∧ o.cls = .type "tuple" ∧ o.data = .seq xs c ∧ IntsAre xs.toList ns
theorem TupI.at {h h' : Heap} {v : Value} {ns : List Int} (x : TupI h v ns) (k : ∀ t o, v = .ref t → h.get? t = some o → h'.get? t = some o) : TupI h' v ns :=
 by obtain ⟨t, o, xs, c, e, ho, r⟩ := x; exact ⟨t, o, xs, c, e, k t o e ho, r⟩
theorem ints_len : ∀ {vs : List Value} {ns : List Int}, IntsAre vs ns → vs.length = ns.length
 | _, _, .nil => rfl
 | _, _, .cons _ _ r => by rw [List.length_cons, List.length_cons, ints_len r]
theorem lex_as : ∀ a b : List Int, HT.lexLt a b = true → HT.lexLt b a = false
 | [], [], h => by cases h
 | [], _ :: _, _ => rfl
 | _ :: _, [], h => by cases h
 | x :: a, y :: b, h => by
  rw [HT.lexLt_cons] at h ⊢
  by_cases e : x = y
  ·rw [if_pos e] at h; rw [if_pos e.symm]; exact lex_as a b h
  ·rw [if_neg e] at h; rw [if_neg (Ne.symm e)]
   have := of_decide_eq_true h
   exact decide_eq_false (by lia)
theorem lex_tr : ∀ a b c : List Int, HT.lexLt b a = false → HT.lexLt c b = false → HT.lexLt c a = false
 | [], _, [], _, _ => rfl
 | [], b, _ :: _, _, _ => rfl
 | _ :: _, [], _, h, _ => by cases h
 | x :: a, y :: b, [], _, h => by cases h
 | x :: a, y :: b, z :: c, h1, h2 => by
  rw [HT.lexLt_cons] at h1 h2 ⊢
  by_cases e1 : y = x
  ·subst e1
   rw [if_pos rfl] at h1
   by_cases e2 : z = y
   ·subst e2
    rw [if_pos rfl] at h2 ⊢
    exact lex_tr a b c h1 h2
   ·rw [if_neg e2] at h2 ⊢
    exact h2
  ·rw [if_neg e1] at h1
   have q1 := of_decide_eq_false h1
   by_cases e2 : z = y
   ·subst e2
    rw [if_neg e1]
    exact h1
   ·rw [if_neg e2] at h2
    have q2 := of_decide_eq_false h2
    have e3 : z ≠ x := by lia
    rw [if_neg e3]
    exact decide_eq_false (by lia)
theorem lex_eq : ∀ a b : List Int, HT.lexLt a b = false → HT.lexLt b a = false → a = b
 | [], [], _, _ => rfl
 | [], _ :: _, h, _ => by cases h
 | _ :: _, [], _, h => by cases h
 | x :: a, y :: b, h1, h2 => by
  rw [HT.lexLt_cons] at h1 h2
  by_cases e : x = y
  ·subst e
   rw [if_pos rfl] at h1 h2
   rw [lex_eq a b h1 h2]
  ·rw [if_neg e] at h1; rw [if_neg (Ne.symm e)] at h2
   have q1 := of_decide_eq_false h1
   have q2 := of_decide_eq_false h2
   lia
theorem lex_ord (ks : List (List Int)) : Ord fun i j => HT.lexLt (ks.getD i []) (ks.getD j []) := ⟨fun _ _ => lex_as _ _, fun _ _ _ => lex_tr _ _ _⟩
section
variable {prog : Program} {w : World} {A : Around} {E : Value → Shared → Prop} {s : Shared}
theorem katlex {b fin : Bool} {Q : Bool → Shared → Prop} : ∀ {us ws : List Value} {ns ms : List Int} (i : Nat), IntsAre us ns → IntsAre ws ms → (fin = decide (ns.length < ms.length)) → Q (HT.lexLt ns ms) s → KatLex prog w A b fin Q (us.zip ws) i s
 | _, _, [], [], i, .nil, .nil, hf, q => by
  rw [hf]; exact q
 | _, _, [], m :: ms, i, .nil, .cons _ _ _, hf, q => by
  rw [hf]
  show Q (decide (0 < ms.length + 1)) s
  rw [decide_eq_true (Nat.succ_pos _)]
  exact q
 | _, _, n :: ns, [], i, .cons _ _ _, .nil, hf, q => by
  rw [hf]
  show Q (decide (ns.length + 1 < 0)) s
  rw [decide_eq_false (Nat.not_lt_zero _)]
  exact q
 | _, _, n :: ns, m :: ms, i, .cons _ t hi, .cons _ u hj, hf, q => by
  rw [HT.lexLt_cons] at q
  refine kat_cons (wpAny_eqBool_int ?_)
  by_cases e : n = m
  ·rw [if_pos e] at q
   rw [show (n == m) = true by simp [e]]
   exact kat_yes (katlex (i + 1) hi hj (by rw [hf]; simp) q)
  ·rw [if_neg e] at q
   rw [show (n == m) = false by simp [e]]
   refine kat_no ?_
   cases eb : (b && i == 0) with
   | true => exact oneLt_int q
   | false => exact kat_one _ _ (lt_int q)
theorem keyLt_at {x y : Value} {ns ms : List Int} {Q : Bool → Shared → Prop} (b : Bool) (hx : TupI s.heap x ns) (hy : TupI s.heap y ms) (q : Q (HT.lexLt ns ms) s) : wpAny (model prog w) A (keyLt' (tuples' b) x y) Q E s := by
 obtain ⟨t, o, xs, c, rfl, ho, hc, hd, hi⟩ := hx
 obtain ⟨t2, o2, xs2, c2, rfl, ho2, hc2, hd2, hi2⟩ := hy
 refine kat_lt ho hd ho2 hd2 (katlex 0 hi hi2 ?_ q)
 have e1 := ints_len hi
 have e2 := ints_len hi2
 rw [Array.length_toList] at e1 e2
 rw [e1, e2]
def TupsI (h : Heap) (vs : List Value) (ks : List (List Int)) : Prop := vs.length = ks.length ∧ ∀ (i : Nat) (v : Value) (k : List Int), vs[i]? = some v → ks[i]? = some k → TupI h v k ∧ k ≠ []
theorem TupsI.cons {h : Heap} {v : Value} {vs : List Value} {ks : List (List Int)} (x : TupsI h (v :: vs) ks) : ∃ k r, ks = k :: r ∧ TupI h v k ∧ k ≠ [] ∧ TupsI h vs r := by
 obtain ⟨hl, ha⟩ := x
 cases ks with
 | nil => simp at hl
 | cons k r =>
  obtain ⟨h1, h2⟩ := ha 0 v k rfl rfl
  exact ⟨k, r, rfl, h1, h2, by simpa using hl, fun i v k e1 e2 => ha (i + 1) v k (by simpa using e1) (by simpa using e2)⟩
theorem kats {h : Heap} : ∀ {vs : List Value} {ks : List (List Int)}, TupsI h vs ks → ∃ fs, KatTups h vs fs ∧ fs.length = vs.length ∧ ∀ f ∈ fs, ∃ i t, f = Value.int i t
 | [], _, _ => ⟨[], KatTups.nil, rfl, fun _ z => nomatch z⟩
 | v :: vs, ks, x => by
  obtain ⟨k, r, rfl, ⟨t, o, xs, c, rfl, ho, hc, hd, hi⟩, hk, hr⟩ := x.cons
  obtain ⟨fs, h1, h2, h3⟩ := kats hr
  cases k with
  | nil => exact absurd rfl hk
  | cons n k =>
   cases hx : xs.toList with
   | nil => rw [hx] at hi; cases hi
   | cons y ys =>
    rw [hx] at hi
    cases hi with
    | cons _ tt _ =>
     refine ⟨.int n tt :: fs, KatTups.cons ho hc hd ?_ h1, by simp [h2], fun f hf => ?_⟩
     ·have : xs.toList[0]? = some (Value.int n tt) := by rw [hx]; rfl
      simpa using this
     ·rcases List.mem_cons.mp hf with rfl | hf
      ·exact ⟨n, tt, rfl⟩
      ·exact h3 f hf
theorem range_getD (vs : List Value) : ((List.range vs.length).map fun i => vs.getD i Value.none) = vs := by
 refine List.ext_getElem? fun i => ?_
 rw [List.getElem?_map]
 by_cases hi : i < vs.length
 ·rw [List.getElem?_range hi]
  simp [hi]
 ·rw [List.getElem?_eq_none (by rw [List.length_range]; lia), List.getElem?_eq_none (by lia)]
  rfl
theorem list_sort_tup {a : Addr} {vs : List Value} {n : Nat} {ks : List (List Int)} {P : PySem.Fin → Shared → Prop} (ho : s.heap.get? a = some (seqObj "list" vs.toArray n)) (ht : TupsI s.heap vs ks) (hna : ∀ v ∈ vs, v ≠ .ref a) (h64 : vs.length < 64)
  (h : ∀ q : Array Nat, Pm vs.length q → Sd (fun i j => HT.lexLt (ks.getD i []) (ks.getD j [])) q vs.length → P (.done (.ret .none)) { s with heap := sortedHeap s.heap a vs (q.toList.map fun i => vs.getD i Value.none).toArray }) :
  wpAny (model prog w) A (Builtin.«list.sort» ⟨[.ref a], []⟩) P E s := by
 rw [list_sort_plain]
 have ha : a < s.heap.objs.size := Heap.lt_size ho
 refine wpAny_bind (listItems_at ho rfl ?_)
 refine wpAny_bind (listUpdate_at ho rfl ?_ (by rw [List.size_toArray, sizeLine_eq]; lia) (Nat.zero_le _))
 obtain ⟨e1, ho1⟩ : ∃ e1, (s.heap.update a (Obj.mapSeq fun _ => (#[] : Array Value))).get? a = some (seqObj "list" #[] e1) := ⟨_, get?_update_seq ho (fun _ => #[])⟩
 refine wpAny_bind (seqEpoch_at ho1 rfl ?_)
 refine wpAny_bind (wpAny_newTuple ?_ (by show vs.length ≤ _; rw [sizeLine_eq]; lia))
 refine wpAny_bind (wpAny_newList ?_ (Nat.zero_le _))
 refine wpAny_holding ?_
 have keep : ∀ b o, b ≠ a → s.heap.get? b = some o → (((s.heap.update a (Obj.mapSeq fun _ => (#[] : Array Value))).push (seqObj "tuple" vs.toArray 0)).push (seqObj "list" #[] 0)).get? b = some o := fun b o hb e => by
  refine Heap.get?_push_of_some _ (Heap.get?_push_of_some _ ?_)
  rw [Heap.get?_update_ne _ _ _ _ hb]
  exact e
 have ho6 : (((s.heap.update a (Obj.mapSeq fun _ => (#[] : Array Value))).push (seqObj "tuple" vs.toArray 0)).push (seqObj "list" #[] 0)).get? a = some (seqObj "list" #[] e1) := Heap.get?_push_of_some _ (Heap.get?_push_of_some _ ho1)
 show wpAny (model prog w) A _ P E { s with heap := ((s.heap.update a (Obj.mapSeq fun _ => (#[] : Array Value))).push (seqObj "tuple" vs.toArray 0)).push (seqObj "list" #[] 0) }
 dsimp only
 by_cases h2 : vs.toArray.size < 2
 ·rw [if_pos h2, if_pos h2]
  refine wpAny_bind (wpAny_pure ?_)
  rw [StateT.run_pure]
  refine wpAny_bind (wpAny_pure ?_)
  dsimp only
  have e0 : (arrOf (SortSt.mk' general' (vs.toArray.zip vs.toArray) #[] 7 none)).map (·.2) = ((List.range vs.length).toArray.toList.map fun i => vs.getD i Value.none).toArray := by
   show (vs.toArray.zip vs.toArray).map (·.2) = _
   rw [List.toList_toArray, range_getD]
   apply Array.toList_inj.mp
   simp [List.map_snd_zip]
  rw [e0]
  refine wpAny_bind (seqEpoch_at ho6 rfl ?_)
  refine wpAny_bind (listUpdate_at ho6 rfl ?_ (Nat.zero_le _) (by rw [List.toList_toArray, range_getD, List.size_toArray, sizeLine_eq]; lia))
  simp only [bne_self_eq_false, Bool.false_eq_true, if_false]
  refine wpAny_pure (h (List.range vs.length).toArray (Array.Perm.refl _) fun i j hij hj => ?_)
  have : i = j := by rw [List.size_toArray] at h2; lia
  subst this
  exact (lex_ord ks).rf _
 ·rw [if_neg h2, if_neg h2]
  have h2' : 2 ≤ vs.length := by rw [List.size_toArray] at h2; lia
  have ht6 : TupsI (((s.heap.update a (Obj.mapSeq fun _ => (#[] : Array Value))).push (seqObj "tuple" vs.toArray 0)).push (seqObj "list" #[] 0)) vs ks := ⟨ht.1, fun i v k q1 q2 => by
   obtain ⟨z1, z2⟩ := ht.2 i v k q1 q2
   exact ⟨z1.at fun t o ev et => keep t o (fun z => hna v (List.mem_of_getElem? q1) (by rw [ev, z])) et, z2⟩⟩
  obtain ⟨fs, f1, f2, f3⟩ := kats ht6
  refine wpAny_bind (kat_kind (T := .type "int") f1 (by rw [f2]; lia) (fun v hv => ?_) rfl ?_)
  ·obtain ⟨i, t, rfl⟩ := f3 v hv
   exact .now
  refine wpAny_bind (wpAny_mono (kat_run (κ := tuples' (Value.type "int" != Value.type "tuple")) (ks := vs) (Q := fun st' s' => ∃ p : Array Nat, s' = { s with heap := ((s.heap.update a (Obj.mapSeq fun _ => (#[] : Array Value))).push (seqObj "tuple" vs.toArray 0)).push (seqObj "list" #[] 0) } ∧ p.size = vs.length ∧ arrOf st' = p.map (kas_item (vs.toArray.zip vs.toArray)) ∧ failedOf st' = none ∧ Pm vs.length p ∧ Sd (fun i j => HT.lexLt (ks.getD i []) (ks.getD j [])) p vs.length)
   (G := fun p s' => s' = { s with heap := ((s.heap.update a (Obj.mapSeq fun _ => (#[] : Array Value))).push (seqObj "tuple" vs.toArray 0)).push (seqObj "list" #[] 0) } ∧ Pm vs.length p ∧ Sd (fun i j => HT.lexLt (ks.getD i []) (ks.getD j [])) p vs.length)
   rfl h2' h64 (fun p st' s' a1 a2 a3 a4 => ⟨p, a4.1, a1, a2, a3, a4.2⟩) (sort_wp (n := vs.length) (lt := fun i j => HT.lexLt (ks.getD i []) (ks.getD j [])) (fun i j C hi hj hC => ?_) (by lia) (lex_ord ks) fun q q1 q2 => ⟨rfl, q1, q2⟩)) ?_ fun _ _ e => e)
  ·unfold kas_ask
   have hi' : vs[i]? = some vs[i] := List.getElem?_eq_getElem hi
   have hj' : vs[j]? = some vs[j] := List.getElem?_eq_getElem hj
   have ki : i < ks.length := by rw [← ht.1]; exact hi
   have kj : j < ks.length := by rw [← ht.1]; exact hj
   have di : vs.getD i Value.none = vs[i] := by simp [hi]
   have dj : vs.getD j Value.none = vs[j] := by simp [hj]
   have ei : ks.getD i [] = ks[i] := by simp [ki]
   have ej : ks.getD j [] = ks[j] := by simp [kj]
   rw [di, dj]
   rw [ei, ej] at hC
   exact keyLt_at _ (ht6.2 i _ _ hi' (List.getElem?_eq_getElem ki)).1 (ht6.2 j _ _ hj' (List.getElem?_eq_getElem kj)).1 hC
  ·rintro ⟨⟨⟩, st'⟩ s' ⟨p, rfl, hp, har, hf, hpm, hsd⟩
   dsimp only
   have hout := kat_snds (ks := vs) (vs := vs) rfl har
   have hsz : (List.toArray (p.toList.map fun i => vs.getD i Value.none)).size = vs.length := by rw [List.size_toArray, List.length_map, Array.length_toList, hp]
   rw [hout]
   refine wpAny_bind (seqEpoch_at ho6 rfl ?_)
   refine wpAny_bind (listUpdate_at ho6 rfl ?_ (Nat.zero_le _) (Nat.le_trans (Nat.le_of_eq hsz) (by rw [sizeLine_eq]; lia)))
   rw [hf]
   simp only [bne_self_eq_false, Bool.false_eq_true, if_false]
   exact wpAny_pure (h p hpm hsd)
theorem sorted_keep {h : Heap} {a : Addr} {vs : List Value} {out : Array Value} {b : Addr} {o : Obj} (hb : b ≠ a) (e : h.get? b = some o) : (sortedHeap h a vs out).get? b = some o := by
 unfold sortedHeap
 rw [Heap.get?_update_ne _ _ _ _ hb]
 refine Heap.get?_push_of_some _ (Heap.get?_push_of_some _ ?_)
 rw [Heap.get?_update_ne _ _ _ _ hb]
 exact e
theorem sorted_here {h : Heap} {a : Addr} {vs : List Value} {n : Nat} {out : Array Value} (e : h.get? a = some (seqObj "list" vs.toArray n)) : ∃ c, (sortedHeap h a vs out).get? a = some (seqObj "list" out c) := by
 obtain ⟨e1, ho1⟩ : ∃ e1, (h.update a (Obj.mapSeq fun _ => (#[] : Array Value))).get? a = some (seqObj "list" #[] e1) := ⟨_, get?_update_seq e (fun _ => #[])⟩
 exact ⟨_, get?_update_seq (Heap.get?_push_of_some _ (Heap.get?_push_of_some _ ho1)) fun _ => out⟩
theorem sorted_tup {r : Addr} {Q : Value → Shared → Prop} {Ok : List Value → Prop} (hcol : ∀ R : List Value → Shared → Prop, (∀ h' tk vs, (∀ b o, s.heap.get? b = some o → h'.get? b = some o) → Ok vs → R vs { s with heap := h', toks := tk }) → wpAny (model prog w) A.in1 (collect (.ref r)) R E s)
  (ks : List (List Int)) (hok : ∀ vs, Ok vs → TupsI s.heap vs ks ∧ vs.length < 64)
  (h : ∀ (h' hf : Heap) (tk c : Nat) (vs : List Value) (q : Array Nat), (∀ b o, s.heap.get? b = some o → h'.get? b = some o) → (∀ b o, h'.get? b = some o → hf.get? b = some o) → Ok vs → Pm vs.length q → Sd (fun i j => HT.lexLt (ks.getD i []) (ks.getD j [])) q vs.length →
   hf.get? h'.objs.size = some (seqObj "list" (q.toList.map fun i => vs.getD i Value.none).toArray c) → Q (.ref h'.objs.size) { s with heap := hf, toks := tk }) :
  wpAny (model prog w) A (call (.builtin "sorted") [.ref r]) Q E s := by
 refine Calls.call_function_entry kind_sorted plain_sorted entry_sorted (args_sorted1 _) ?_
 unfold Builtin.«sorted»
 refine wpAny_bind (m := checkCount "sorted" 1 1 _) (wpAny_pure ?_)
 refine wpAny_bind (hcol _ fun h' tk vs keep ov => ?_)
 obtain ⟨ht, h64⟩ := hok vs ov
 refine wpAny_bind (wpAny_newList ?_ (by rw [sizeLine_eq]; lia))
 have hoL : (h'.push (seqObj "list" vs.toArray 0)).get? h'.objs.size = some (seqObj "list" vs.toArray 0) := Heap.get?_push_size _ rfl
 have keep2 : ∀ b o, s.heap.get? b = some o → (h'.push (seqObj "list" vs.toArray 0)).get? b = some o := fun b o e => Heap.get?_push_of_some _ (keep b o e)
 have lt : ∀ b o, s.heap.get? b = some o → b ≠ h'.objs.size := fun b o e => Nat.ne_of_lt (Heap.lt_size (keep b o e))
 have tat : ∀ v ∈ vs, ∃ t o, v = .ref t ∧ s.heap.get? t = some o := fun v hv => by
  obtain ⟨i, hi, e⟩ := List.mem_iff_getElem.mp hv
  have ki : i < ks.length := by rw [← ht.1]; exact hi
  obtain ⟨⟨t, o, _, _, e1, e2, _⟩, _⟩ := ht.2 i v ks[i] (by rw [List.getElem?_eq_getElem hi, e]) (List.getElem?_eq_getElem ki)
  exact ⟨t, o, e1, e2⟩
 have ht2 : TupsI (h'.push (seqObj "list" vs.toArray 0)) vs ks := ⟨ht.1, fun i v k q1 q2 => by obtain ⟨z1, z2⟩ := ht.2 i v k q1 q2; exact ⟨z1.at fun t o _ et => keep2 t o et, z2⟩⟩
 refine wpAny_bind (wpAny_holding (wpAny_call_entry slot_list_sort ⟨_, hoL, rfl⟩ entry_list_sort (list_sort_tup (s := { s with heap := h'.push (seqObj "list" vs.toArray 0), toks := tk }) hoL ht2 (fun v hv z => ?_) h64 fun q a1 a2 => ⟨_, rfl, ?_⟩) (args_list_sort _)))
 ·obtain ⟨t, o, e1, e2⟩ := tat v hv
  rw [e1] at z
  injection z with z
  exact lt t o e2 z
 ·obtain ⟨c, hc⟩ := sorted_here (out := (q.toList.map fun i => vs.getD i Value.none).toArray) hoL
  exact wpAny_pure ⟨_, rfl, h h' _ tk c vs q keep (fun b o e => sorted_keep (Nat.ne_of_lt (Heap.lt_size e)) (Heap.get?_push_of_some _ e)) ov a1 a2 hc⟩
def RefI (H : Hp) (ts : List V) (ks : List (List Int)) : Prop := ts.length = ks.length ∧ ∀ (i : Nat) (t : V) (k : List Int), ts[i]? = some t → ks[i]? = some k → (∃ b, t = .ref b ∧ H b = some (.tup (k.map V.int))) ∧ k ≠ []
end
theorem refI_tups {P : Program} {w : World} {H : Hp} {h : Heap} {ts : List V} {ks : List (List Int)} {vs : List Value} (ok : HOk P w H h) (r : RefI H ts ks) (v : Vals ts vs) : TupsI h vs ks := by
 have hl := v.length
 refine ⟨by rw [← hl]; exact r.1, fun i u k e1 e2 => ?_⟩
 have hi : i < ts.length := by
  have := (List.getElem?_eq_some_iff.mp e1).1
  lia
 obtain ⟨⟨b, eb, hb⟩, hk⟩ := r.2 i ts[i] k (List.getElem?_eq_getElem hi) e2
 obtain ⟨u', e3, ru⟩ := v.get (i := i) (x := ts[i]) (List.getElem?_eq_getElem hi)
 rw [e1] at e3
 cases e3
 rw [eb] at ru
 cases (show u = Value.ref b from ru)
 obtain ⟨_, its, rv, o, ho, hc, n, hd⟩ := (show ObjOk P w H h b (.tup (k.map V.int)) from ok b _ hb)
 exact ⟨⟨b, o, _, n, rfl, ho, hc, hd, by rw [List.toList_toArray]; exact intsAre_of rv⟩, hk⟩
def lexOf (ks : List (List Int)) : Nat → Nat → Bool := fun i j => HT.lexLt (ks.getD i []) (ks.getD j [])
theorem vals_pick {ts : List V} {vs : List Value} (v : Vals ts vs) : ∀ (l : List Nat), (∀ i ∈ l, i < ts.length) → Vals (l.map fun i => ts.getD i .non) (l.map fun i => vs.getD i Value.none)
 | [], _ => .nil
 | i :: l, h => by
  have hi := h i (.head _)
  obtain ⟨u, e, r⟩ := v.get (i := i) (x := ts[i]) (List.getElem?_eq_getElem hi)
  have e1 : ts.getD i .non = ts[i] := by simp [hi]
  have e2 : vs.getD i Value.none = u := by simp [e]
  refine .cons ?_ (vals_pick v l fun j hj => h j (.tail _ hj))
  show RelV (ts.getD i .non) (vs.getD i Value.none)
  rw [e1, e2]; exact r
theorem Paired.get {α β : Type} {F : α → β → Prop} : ∀ {l₁ : List α} {l₂ : List β} {i : Nat} {a : α}, Paired F l₁ l₂ → l₁[i]? = some a → ∃ b, l₂[i]? = some b ∧ F a b
 | _, _, _, _, .nil, e => by simp at e
 | _, _, 0, _, .cons h _, e => by simp at e; subst e; exact ⟨_, rfl, h⟩
 | _, _, i + 1, _, .cons _ r, e => by
  have := Paired.get (i := i) r (by simpa using e)
  simpa using this
theorem vals_refs {κ : Type} : ∀ l : List (κ × Addr × Value), Vals (l.map fun x => V.ref x.2.1) (l.map fun x => Value.ref x.2.1)
 | [] => .nil
 | _ :: l => .cons rfl (vals_refs l)
section
variable {X : Cx}
theorem sort_inv {pins : List (Addr × Obj)} {σ : L2.St} {H : Hp} {s : Shared} {Q : VK} {ts : List V} {vs : List Value} {h' hf : Heap} {tk c : Nat} {q : Array Nat} (I : Inv X pins σ H s) (v : Vals ts vs) (h64 : vs.length < 64) (k1 : ∀ b o, s.heap.get? b = some o → h'.get? b = some o) (k2 : ∀ b o, h'.get? b = some o → hf.get? b = some o) (hp : Pm vs.length q)
  (hc : hf.get? h'.objs.size = some (seqObj "list" (q.toList.map fun i => vs.getD i Value.none).toArray c)) (hq : ∀ D, H D = none → Q (.ref D) (upd H D (.lst (q.toList.map fun i => ts.getD i .non)))) : EP X pins σ Q (.ref h'.objs.size) { s with heap := hf, toks := tk } := by
 have I1 : Inv X pins σ H { s with heap := h', toks := tk } := I.kept (t' := tk) k1
 have hb : ∀ i ∈ q.toList, i < ts.length := fun i hi => by
  have : i ∈ (List.range vs.length).toArray := hp.mem_iff.mp (Array.mem_toList_iff.mp hi)
  rw [v.length]
  simpa using this
 have hl : q.toList.length = vs.length := by rw [Array.length_toList]; exact hp.size
 refine ⟨.ref h'.objs.size, _, I1.laid (a := h'.objs.size) (o := .lst (q.toList.map fun i => ts.getD i .non)) (t' := tk) k2 (Nat.le_refl _) ⟨?_, _, c, vals_pick v _ hb, hc⟩, rfl, hq _ (I1.hok.fresh (Nat.le_refl _))⟩
 rw [List.length_map, hl, sizeLine_eq]
 lia
def rSortD : List V → Hp → VK → Prop := fun xs H Q => ∃ a kv ks, xs = [.ref a] ∧ H a = some (.dT kv) ∧ kv.map (·.1) = ks.map (List.map Sum.inl) ∧ (∀ k ∈ ks, k ≠ []) ∧ kv.length < 64 ∧
 ∀ ts D q, RefI H ts ks → H D = none → Pm ts.length q → Sd (lexOf ks) q ts.length → Q (.ref D) (upd H D (.lst (q.toList.map fun i => ts.getD i .non)))
theorem call_sortD (hcm : X.calm = true) : CallR X (.builtin "sorted") rSortD := by
 intro pins s σ H xs us Q I r h
 obtain ⟨a, kv, ks, rfl, ha, hk, hne, h64, q⟩ := h
 obtain ⟨u, rfl, ru⟩ := vals1 r
 cases (show u = Value.ref a from ru)
 obtain ⟨hz, hsys, es0, rel, o, es, ep, h1, h2, h3, h4, h5⟩ := (show ObjOk X.prog X.w H s.heap a (.dT kv) from I.hok a _ ha)
 have hraw : RawD s.heap a es ep := ⟨o, h1, h2, h3⟩
 have len1 : kv.length = es0.length := rel.length
 have len2 : es.size = es0.length := by rw [← Array.length_toList, h4, List.length_map]
 have len3 : ks.length = kv.length := by
  have := congrArg List.length hk
  simpa using this.symm
 have hts : RefI H (es0.map fun x => V.ref x.2.1) ks := by
  refine ⟨by rw [List.length_map]; lia, fun i t k e1 e2 => ?_⟩
  rw [List.getElem?_map] at e1
  cases ex : es0[i]? with
  | none => rw [ex] at e1; cases e1
  | some x =>
   rw [ex] at e1
   cases e1
   have hi : i < kv.length := by rw [len1]; exact (List.getElem?_eq_some_iff.mp ex).1
   obtain ⟨y, ey, hy1, hy2, _⟩ := Paired.get rel (List.getElem?_eq_getElem hi)
   rw [ex] at ey
   cases ey
   refine ⟨⟨x.2.1, rfl, ?_⟩, hne k (List.mem_of_getElem? e2)⟩
   have hkk : (kv.map (·.1))[i]? = (ks.map (List.map Sum.inl))[i]? := by rw [hk]
   rw [List.getElem?_map, List.getElem?_map, List.getElem?_eq_getElem hi, e2] at hkk
   have hkk : kv[i].1 = k.map Sum.inl := Option.some.inj hkk
   rw [hkk, List.map_map] at hy2
   exact hy2
 have hvs : ∀ vs : List Value, vs.length = es.size → (∀ (j : Nat) v, vs[j]? = some v → ∃ e, es[j]? = some e ∧ v = e.key) → Vals (es0.map fun x => V.ref x.2.1) vs := fun vs hl hv => by
  have ev : vs = es0.map fun x => Value.ref x.2.1 := by
   refine List.ext_getElem? fun i => ?_
   rw [List.getElem?_map]
   by_cases hi : i < vs.length
   ·have hi2 : i < es0.length := by lia
    obtain ⟨e, e1, e2⟩ := hv i vs[i] (List.getElem?_eq_getElem hi)
    have e3 : es.toList[i]? = some e := by simpa using e1
    rw [h4, List.getElem?_map, List.getElem?_eq_getElem hi2] at e3
    have e3 := Option.some.inj e3
    rw [List.getElem?_eq_getElem hi, List.getElem?_eq_getElem hi2, e2, ← e3]
    rfl
   ·rw [List.getElem?_eq_none (by lia), List.getElem?_eq_none (by lia)]
    rfl
  rw [ev]
  exact vals_refs _
 refine sorted_tup (Ok := fun vs => vs.length = es.size ∧ ∀ (j : Nat) v, vs[j]? = some v → ∃ e, es[j]? = some e ∧ v = e.key) (fun R hR => ?_) ks (fun vs e => ⟨refI_tups I.hok hts (hvs vs e.1 e.2), by lia⟩) fun h' hf tk c vs q' k1 k2 e p1 p2 hc => ?_
 ·refine kdu_collect (A := X.A.in1) (raw_src (prog := X.prog) (w := X.w) (ep := ep) (es := es) hsys) (I.ok.hd hcm) hraw (by lia) fun h' tk acc hk hacc => hR h' tk _ hk ⟨by rw [Array.length_toList]; exact hacc.1, fun j v e => hacc.2 j v (by simpa using e)⟩
 ·have rv := hvs vs e.1 e.2
  have hlen := rv.length
  exact sort_inv I rv (by lia) k1 k2 p1 hc fun D hD => q _ D q' hts hD (hlen ▸ p1) (hlen ▸ p2)
end
end SRT

namespace M
open PySem PySem.Spec PyProof.Rows L2 SRT
def tupD (k : List Int) : D := .tuple (k.map .int)
def intsK : List D → Option (List Int)
 | [] => some []
 | .int i :: ds => match intsK ds with
  | some r => some (i :: r)
  | none => none
 | _ => none
def intsD : D → Option (List Int)
 | .tuple ds => intsK ds
 | _ => none
def keysD : List D → Option (List (List Int))
 | [] => some []
 | d :: ds => match intsD d with
  | none => none
  | some k => match keysD ds with
   | none => none
   | some ks => some (k :: ks)
theorem intsK_eq : ∀ {ds : List D} {k : List Int}, intsK ds = some k → ds = k.map .int
 | [], _, h => by cases h; rfl
 | d :: ds, k, h => by
  cases d with
  | int i =>
   unfold intsK at h
   cases e : intsK ds with
   | none => rw [e] at h; cases h
   | some r => rw [e] at h; cases h; rw [intsK_eq e]; rfl
  | _ => cases h
theorem intsK_map : ∀ k : List Int, intsK (k.map .int) = some k
 | [] => rfl
 | i :: k => by
  show (match intsK (k.map .int) with | some r => some (i :: r) | none => none) = _
  rw [intsK_map k]
theorem intsD_tup (k : List Int) : intsD (tupD k) = some k := intsK_map k
theorem intsD_eq {d : D} {k : List Int} (h : intsD d = some k) : d = tupD k := by
 cases d with
 | tuple ds => unfold tupD; rw [← intsK_eq h]
 | _ => cases h
theorem keysD_eq : ∀ {ds : List D} {ks : List (List Int)}, keysD ds = some ks → ds = ks.map tupD
 | [], _, h => by cases h; rfl
 | d :: ds, ks, h => by
  unfold keysD at h
  cases e : intsD d with
  | none => rw [e] at h; cases h
  | some k =>
   rw [e] at h
   cases e2 : keysD ds with
   | none => rw [e2] at h; cases h
   | some ks' => rw [e2] at h; cases h; rw [intsD_eq e, keysD_eq e2]; rfl
theorem keysD_map : ∀ ks : List (List Int), keysD (ks.map tupD) = some ks
 | [] => rfl
 | k :: ks => by
  show (match intsD (tupD k) with | none => none | some k => match keysD (ks.map tupD) with | none => none | some ks => some (k :: ks)) = _
  rw [intsD_tup, keysD_map ks]
def insK (k : List Int) : List (List Int) → List (List Int)
 | [] => [k]
 | x :: r => if HT.lexLt k x = true then k :: x :: r else x :: insK k r
def sortK : List (List Int) → List (List Int)
 | [] => []
 | k :: ks => insK k (sortK ks)
def leK (a b : List Int) : Prop := HT.lexLt b a = false
theorem insK_perm (k : List Int) : ∀ l, (insK k l).Perm (k :: l)
 | [] => .refl _
 | x :: r => by
  unfold insK
  split
  ·exact .refl _
  ·exact ((insK_perm k r).cons x).trans (List.Perm.swap k x r)
theorem sortK_perm : ∀ l, (sortK l).Perm l
 | [] => .refl _
 | k :: ks => (insK_perm k _).trans ((sortK_perm ks).cons k)
theorem insK_mem {k y : List Int} {l : List (List Int)} (h : y ∈ insK k l) : y = k ∨ y ∈ l := by
 have := (insK_perm k l).mem_iff.mp h
 exact List.mem_cons.mp this
theorem insK_sorted (k : List Int) : ∀ l, l.Pairwise leK → (insK k l).Pairwise leK
 | [], _ => List.pairwise_singleton _ _
 | x :: r, h => by
  unfold insK
  obtain ⟨h1, h2⟩ := List.pairwise_cons.mp h
  split
  ·rename_i e
   have e1 := lex_as _ _ e
   exact List.pairwise_cons.mpr ⟨fun y hy => by
    rcases List.mem_cons.mp hy with rfl | hy
    ·exact e1
    ·exact lex_tr _ _ _ e1 (h1 y hy), h⟩
  ·rename_i e
   refine List.pairwise_cons.mpr ⟨fun y hy => ?_, insK_sorted k r h2⟩
   rcases insK_mem hy with rfl | hy
   ·exact Bool.eq_false_iff.mpr e
   ·exact h1 y hy
theorem sortK_sorted : ∀ l, (sortK l).Pairwise leK
 | [] => .nil
 | k :: ks => insK_sorted k _ (sortK_sorted ks)
theorem sorted_uniq : ∀ {a b : List (List Int)}, a.Perm b → a.Pairwise leK → b.Pairwise leK → a = b
 | [], b, p, _, _ => (List.Perm.nil_eq p)
 | x :: a, [], p, _, _ => absurd p.length_eq (by simp)
 | x :: a, y :: b, p, ha, hb => by
  obtain ⟨a1, a2⟩ := List.pairwise_cons.mp ha
  obtain ⟨b1, b2⟩ := List.pairwise_cons.mp hb
  have hx : x ∈ y :: b := p.mem_iff.mp (.head _)
  have hy : y ∈ x :: a := p.mem_iff.mpr (.head _)
  have e : x = y := by
   rcases List.mem_cons.mp hx with e | hx
   ·exact e
   ·rcases List.mem_cons.mp hy with e | hy
    ·exact e.symm
    ·exact lex_eq _ _ (b1 x hx) (a1 y hy)
  subst e
  rw [sorted_uniq (List.Perm.cons_inv p) a2 b2]
theorem picked {ks : List (List Int)} {q : Array Nat} {n : Nat} (hn : n = ks.length) (hp : Pm n q) (hs : Sd (lexOf ks) q n) : (q.toList.map fun i => ks.getD i []) = sortK ks := by
 subst hn
 have e0 : ((List.range ks.length).map fun i => ks.getD i []) = ks := by
  refine List.ext_getElem? fun i => ?_
  rw [List.getElem?_map]
  by_cases hi : i < ks.length
  ·rw [List.getElem?_range hi]; simp [hi]
  ·rw [List.getElem?_eq_none (by rw [List.length_range]; lia), List.getElem?_eq_none (by lia)]; rfl
 have p1 : q.toList.Perm (List.range ks.length) := by
  have := hp.toList
  simpa using this
 have p2 : (q.toList.map fun i => ks.getD i []).Perm ks := by
  have := p1.map (fun i => ks.getD i [])
  rwa [e0] at this
 refine sorted_uniq (p2.trans (sortK_perm ks).symm) ?_ (sortK_sorted ks)
 rw [List.pairwise_iff_getElem]
 intro i j hi hj hij
 rw [List.length_map] at hi hj
 rw [List.getElem_map, List.getElem_map]
 have sz : q.toList.length = ks.length := by rw [Array.length_toList]; exact hp.size
 have := hs i j (Nat.le_of_lt hij) (by lia)
 unfold SRT.le lexOf Pt at this
 have e1 : q.getD i 0 = q.toList[i] := by
  have : i < q.size := by rw [← Array.length_toList]; exact hi
  simp [Array.getD, this]
 have e2 : q.getD j 0 = q.toList[j] := by
  have : j < q.size := by rw [← Array.length_toList]; exact hj
  simp [Array.getD, this]
 rw [e1, e2] at this
 exact this
section
variable {X : Cx} {K : PySem.W.Frag}
theorem tupD_rep {G : Hp} {b : Addr} {k : List Int} (h : G b = some (.tup (k.map V.int))) : Rep K G (.ref b) (tupD k) := by
 refine .tup h ?_
 clear h
 induction k with
 | nil => exact .nil
 | cons i k ih => exact .cons (.int i) ih
theorem pick_reps {G : Hp} {ts : List V} {ks : List (List Int)} (h : ∀ (i : Nat), i < ks.length → Rep K G (ts.getD i .non) (tupD (ks.getD i []))) : ∀ l : List Nat, (∀ i ∈ l, i < ks.length) → Reps K G (l.map fun i => ts.getD i .non) ((l.map fun i => ks.getD i []).map tupD)
 | [], _ => .nil
 | i :: l, hl => .cons (h i (hl i (.head _))) (pick_reps h l fun j hj => hl j (.tail _ hj))
theorem pm_lt {n : Nat} {q : Array Nat} (hp : Pm n q) : ∀ i ∈ q.toList, i < n := fun i hi => by
 have : i ∈ (List.range n).toArray := hp.mem_iff.mp (Array.mem_toList_iff.mp hi)
 simpa using this
theorem ne_of_all {ks : List (List Int)} (h : (ks.all fun k => !k.isEmpty) = true) : ∀ k ∈ ks, k ≠ [] := fun k hk z => by
 have := List.all_eq_true.mp h k hk
 rw [z] at this
 cases this
def wt (G H : Hp) : Hp := fun b => match G b with
 | some o => some o
 | none => match H b with
  | some (.tup xs) => some (.tup xs)
  | _ => none
theorem wt_same {G H : Hp} : Same G (wt G H) := fun b o e => by unfold wt; rw [e]
theorem wt_in {G H : Hp} (gh : Same G H) : Same (wt G H) H := fun b o e => by
 unfold wt at e
 cases eg : G b with
 | some u => rw [eg] at e; cases e; exact gh _ _ eg
 | none =>
  rw [eg] at e
  dsimp only at e
  split at e
  ·rename_i xs eh
   cases e; exact eh
  ·cases e
theorem wt_tup {G H : Hp} (gh : Same G H) {b : Addr} {xs : List V} (e : H b = some (.tup xs)) : wt G H b = some (.tup xs) := by
 unfold wt
 cases eg : G b with
 | some u =>
  have := gh _ _ eg
  rw [e] at this
  exact this.symm
 | none => dsimp only; rw [e]
theorem wt_step {G H : Hp} (gh : Same G H) : Step G H (wt G H) H := ⟨wt_same, Same.refl _, wt_in gh, fun b hb hg => by
 unfold wt
 rw [hg]
 dsimp only
 split
 ·rename_i xs eh; exact .inr ⟨xs, eh⟩
 ·exact .inl rfl⟩
def sortedDE (rs : List Ev) : Res Ev := match rs with
 | [x] => match dctOf x with
  | some kvs => if (dsp kvs).1 = false then match keysD (kvs.map (·.1)) with
    | some ks => if (ks.all fun k => !k.isEmpty) = true ∧ ks.length < 64 then .ok (.f (.list ((sortK ks).map tupD))) else .bad
    | none => .bad
   else .bad
  | none => .bad
 | _ => .bad
theorem noX_sortedD : NoXs sortedDE := by
 intro rs C h
 unfold sortedDE at h
 split at h
 ·split at h
  ·split at h
   ·split at h
    ·split at h <;> cases h
    ·cases h
   ·cases h
  ·cases h
 ·cases h
theorem tkD_tupD {k : List Key} {n : List Int} (h : tkD k = tupD n) : k = n.map Sum.inl := by
 unfold tkD tupD at h
 injection h with h
 induction k generalizing n with
 | nil => cases n with
  | nil => rfl
  | cons _ _ => cases h
 | cons x k ih =>
  cases n with
  | nil => cases h
  | cons y n =>
   rw [List.map_cons, List.map_cons] at h
   injection h with h1 h2
   cases x with
   | inl i => cases h1; rw [ih h2]; rfl
   | inr i => cases h1
theorem repT_keys {G : Hp} : ∀ {kv : List (List Key × V)} {kvs : List (D × D)} {ks : List (List Int)}, RepT K G kv kvs → kvs.map (·.1) = ks.map tupD → kv.map (·.1) = ks.map (List.map Sum.inl)
 | _, _, [], .nil, _ => rfl
 | _, _, _ :: _, .nil, h => by cases h
 | _, _, [], .cons _ _, h => by cases h
 | _, _, k :: ks, .cons _ t, h => by
  rw [List.map_cons, List.map_cons] at h
  injection h with h1 h2
  rw [List.map_cons, List.map_cons, repT_keys t h2, tkD_tupD h1]
theorem cm_sortedD : CallM K rSortD sortedDE := by
 intro W Hs G H vs rs Q gh he hw
 unfold sortedDE at hw
 split at hw
 ·rename_i x
  match vs, he with
  | [v], ⟨h1, _⟩ =>
   split at hw
   ·rename_i kvs ed
    obtain ⟨a, rfl, hd⟩ := dct_at gh h1 ed
    split at hw
    ·rename_i hk
     rcases hd with ⟨kv, k1, k2⟩ | ⟨kv, r, rfl, k1, k2⟩
     ·split at hw
      ·rename_i ks ek
       split at hw
       ·rename_i hz
        have ek := keysD_eq ek
        have hne := ne_of_all hz.1
        have hl : kv.length = ks.length := by rw [k2.len, ← List.length_map (f := (·.1)), ek, List.length_map]
        refine ⟨a, kv, ks, rfl, k1, repT_keys k2 ek, hne, by lia, fun ts D q rI hD hp hs => ?_⟩
        have hl2 : ts.length = ks.length := rI.1
        have ep := picked hl2 hp hs
        have st := (wt_step gh).trans (Step.lay (o := .lst (q.toList.map fun i => ts.getD i .non)) (wt_in gh) hD)
        refine hw _ _ _ st ⟨D, _, rfl, hD, (wt_in gh).free hD, upd_same, .lst ?_⟩
        rw [← ep]
        refine pick_reps (fun i hi => ?_) _ fun i hi => by rw [← hl2]; exact pm_lt hp i hi
        have hi' : i < ts.length := by lia
        obtain ⟨⟨b, eb, hb⟩, _⟩ := rI.2 i ts[i] ks[i] (List.getElem?_eq_getElem hi') (List.getElem?_eq_getElem hi)
        have e1 : ts.getD i .non = ts[i] := by simp [hi']
        have e2 : ks.getD i [] = ks[i] := by simp [hi]
        rw [e1, e2, eb]
        exact tupD_rep (wt_tup gh hb)
       ·exact hw.elim
      ·exact hw.elim
     ·cases hk
    ·exact hw.elim
   ·exact hw.elim
 ·exact hw.elim
theorem raw_len {prog : Program} {w : World} {A : Around} {E : Value → Shared → Prop} {s : Shared} {d : Addr} {es : Array DictEntry} {ep : Nat} {Q : Value → Shared → Prop} (hd : (d == sysModules) = false) (hm : RawD s.heap d es ep) (hfit : (es.size : Int) < 2 ^ 63)
  (h : Q (.int es.size (s.toks + 1)) { s with toks := s.toks + 1 + 1 }) : wpAny (model prog w) A (call (.builtin "len") [.ref d]) Q E s := by
 refine Calls.call_function_entry kind_len plain_len entry_len (args_len1 _) ?_
 unfold Builtin.«len»
 refine wpAny_bind (m := oneArg "len" _) (wpAny_pure ?_)
 have meets : MeetsIn prog w (Builtin.«dict.__len__» ⟨[.ref d], []⟩) (fun _ R s => RawD s.heap d es ep ∧ R (.ok (.ret (.int es.size s.toks))) { s with toks := s.toks + 1 }) :=
  .of_wp <| by
   rintro A R s ⟨hm, h⟩
   obtain ⟨o, ho, hc, hdat⟩ := hm
   show wpAny _ _ (dictSize d >>= _) _ _ s
   unfold dictSize
   refine wpAny_bind (wpAny_bind (wpAny_dictEntries ho hdat (wpAny_pure ?_)))
   show wpAny _ _ (Builtin.Dict.pendingCount d >>= _) _ _ s
   refine wpAny_bind (wpAny_pendingCount_other hd ?_)
   refine wpAny_ret_mkInt ?_
   rw [Nat.add_zero]; exact h
 refine wpAny_bind (m := callSpecial? (.ref d) (Str.ofString "__len__")) (wpAny_callSpecial?_slot (name := Str.ofString "__len__") hm.ty F.slot_dict_len
  (call_meetsIn F.slot_dict_len hm.ty F.entry_dict_len (F.args_dict_len_1 _) meets ⟨hm, ?_⟩))
 show wpAny _ _ _ _ _ { s with toks := s.toks + 1 }
 refine wpAny_bind (wpAny_holding (wpAny_pure ?_))
 refine wpAny_bind (wpAny_letGo ?_)
 show wpAny _ _ (if ((es.size : Nat) : Int) < 0 then _ else _) _ _ _
 rw [if_neg (by lia)]
 show wpAny _ _ (if ((es.size : Nat) : Int) ≥ 2 ^ 63 then _ else _) _ _ _
 rw [if_neg (by lia)]
 exact wpAny_bind (wpAny_mkInt (wpAny_pure ⟨_, rfl, h⟩))
def rLenD : List V → Hp → VK → Prop := fun xs H Q => ∃ a, xs = [.ref a] ∧ ((∃ kv, H a = some (.dT kv) ∧ Q (.int kv.length) H) ∨ ∃ kv, H a = some (.dK kv) ∧ Q (.int kv.length) H)
theorem call_lenDE : CallR X (.builtin "len") rLenD := by
 intro pins s σ H xs us Q I r h
 obtain ⟨a, rfl, h⟩ := h
 obtain ⟨u, rfl, ru⟩ := vals1 r
 cases (show u = Value.ref a from ru)
 rcases h with ⟨kv, ha, q⟩ | ⟨kv, ha, q⟩
 ·obtain ⟨hz, hsys, es0, rel, o, es, ep, h1, h2, h3, h4, h5⟩ := (show ObjOk X.prog X.w H s.heap a (.dT kv) from I.hok a _ ha)
  have len1 : kv.length = es0.length := rel.length
  have len2 : es.size = es0.length := by rw [← Array.length_toList, h4, List.length_map]
  rw [sizeLine_eq] at hz
  refine raw_len hsys ⟨o, h1, h2, h3⟩ (by lia) ⟨.int kv.length, H, I.tok _, ⟨s.toks + 1, by rw [len2, len1]⟩, q⟩
 ·exact d_len I (.inl ha) fun t s' I' => ⟨.int kv.length, H, I', ⟨t, rfl⟩, q⟩
theorem cm_lenD : CallM K rLenD lenDE := by
 intro W Hs G H vs rs Q gh he hw
 unfold lenDE at hw
 split at hw
 ·rename_i x
  match vs, he with
  | [v], ⟨h1, _⟩ =>
   split at hw
   ·rename_i kvs ed
    obtain ⟨a, rfl, hd⟩ := dct_at gh h1 ed
    refine ⟨a, rfl, ?_⟩
    rcases hd with ⟨kv, k1, k2⟩ | ⟨kv, r, rfl, k1, k2⟩
    ·refine .inl ⟨kv, k1, ?_⟩
     rw [dsp_T k2] at hw
     rw [k2.len]
     exact hw G H _ (Step.refl gh) (.int _)
    ·refine .inr ⟨kv, k1, ?_⟩
     rw [k2.len]
     exact hw G H _ (Step.refl gh) (.int _)
   ·exact hw.elim
 ·exact hw.elim
end
end M

namespace L2
open PySem PySem.Spec PyProof.Rows
def Ite (K : PySem.W.Frag) (a : Addr) : It :=
 ⟨fun i H => ∃ xs x, SqL K H a xs ∧ xs[i]? = some x, fun i H v H' => ∃ p x, H p = none ∧ v = .ref p ∧ (∀ xs, SqL K H a xs → xs[i]? = some x) ∧ H' = upd H p (.tup [.int i, x]), fun i H => ∃ xs, SqL K H a xs ∧ xs.length ≤ i⟩
theorem turn_enum {P : Program} {w : World} {K : PySem.W.Frag} {elts : List Expr} {x1} {tp : Pos} (a e it : Addr) (hne : e ≠ it) : Turn P w K (.Tuple elts x1 tp) (Ite K a) [e, it] e (fun i h => (∃ old, IsEnum h e it ((i : Nat) : Int) old) ∧ h.IsListIter it a i) where
 mem := by simp
 obj := fun i h st b hb => by
  rcases List.mem_cons.mp hb with rfl | hb
  ·obtain ⟨⟨old, q⟩, _⟩ := st
   exact ⟨_, q, fun v z => nomatch z⟩
  ·have : b = it := by simpa using hb
   subst this
   obtain ⟨_, o, q, c, d⟩ := st
   exact ⟨o, q, fun v z => by rw [d] at z; cases z⟩
 keep := fun i h h' st k => ⟨(by obtain ⟨old, q⟩ := st.1; exact ⟨old, k e (by simp) _ q⟩), st.2.at fun o q => k it (by simp) o q⟩
 item := by
  intro X hP hw hK hc i pins s σ H E I hf st hg
  subst hP hw hK
  obtain ⟨⟨old, he⟩, hit⟩ := st
  obtain ⟨xs, x, hq, hx⟩ := hg
  obtain ⟨its, rv, p, hz⟩ := I.list hq
  obtain ⟨u, hu, ru⟩ := rv.get hx
  obtain ⟨f0, f1, f2, f3, f4, f5⟩ := hf e (by simp)
  obtain ⟨g0, g1, g2, g3, g4, g5⟩ := hf it (by simp)
  refine wpAny_pyNext_enum_item he hit p.isList (x := u) (by simpa using hu) hne fun h₁ heo hit₁ ht₁ hz₁ hk₁ => ?_
  refine ⟨_, rfl, wpAny_letOwnedTupleGo_enum heo fun h₂ he₂ hs₂ => ?_⟩
  have hs₂ : Heap.SameBut e h₁ h₂ := hs₂
  have hn : H s.heap.objs.size = none := I.fresh
  have nn : ∀ b o, H b = some o → b ≠ s.heap.objs.size := fun b o q => ne_of_none q hn
  have eE : e < s.heap.objs.size := Heap.lt_size he
  have keep : ∀ b o, b ∉ [e, it] → s.heap.get? b = some o → h₂.get? b = some o := fun b o hb q => by
   have b1 : b ≠ e := fun z => hb (by simp [z])
   have b2 : b ≠ it := fun z => hb (by simp [z])
   exact (hs₂.2 b b1).trans (hk₁ b o b1 b2 q)
  have trk : ∀ b o, H b = some o → b ∉ [e, it] := fun b o q hb => by
   rcases List.mem_cons.mp hb with z | hb
   ·rw [z, f0] at q; cases q
   ·rw [List.mem_singleton.mp hb, g0] at q; cases q
  refine ⟨.ref s.heap.objs.size, upd H s.heap.objs.size (.tup [.int i, x]), ?_, rfl, ⟨_, x, hn, rfl, fun ys hy => by rw [I.list_inj hy hq]; exact hx, rfl⟩, ⟨⟨u, ?_⟩, ?_⟩, fun b hb => ?_⟩
  ·refine Inv.step (X := X) (pins := pins) (σ := σ) (H := H) (s := s) (H' := upd H s.heap.objs.size (.tup [.int i, x])) (h' := h₂) (g' := s.gens) (d' := s.drawn) (t' := s.toks + 1) (ch := [e, it]) I (fun b hb => ?_) (fun b o _ _ hb q _ => keep b o hb q) (fun b o _ _ hb q _ => ⟨o.slots, keep b o hb q⟩) (fun b o _ q n => ?_) (fun b o hb q => ⟨o, keep b o hb q⟩)
    (fun b ys q => ?_) (fun b o v q => ?_) (fun b ps q => ⟨#[], ?_⟩) (fun m hm => ?_) (fun b v q => ?_) I.bare
   ·rcases List.mem_cons.mp hb with z | hb
    ·subst z; exact ⟨f3, f1, f4, f5⟩
    ·have z := List.mem_singleton.mp hb
     subst z; exact ⟨g3, g1, g4, g5⟩
   ·rw [upd_ne (Nat.ne_of_lt (Heap.lt_size q))]; exact n
   ·rw [upd_ne (nn b _ q)]; exact q
   ·rw [upd_ne (nn b _ q)]; exact q
   ·rw [upd_ne (nn b _ q), q]; simp
   ·obtain ⟨o, es, ep, ho, r⟩ := hm
    exact ⟨o, es, ep, keep _ o (fun z => by
     rcases List.mem_cons.mp z with y | y
     ·exact f1 y.symm
     ·exact g1 (List.mem_singleton.mp y).symm) ho, r⟩
   ·by_cases hb : b = s.heap.objs.size
    ·subst hb
     rw [upd_same] at q
     cases q
     refine ⟨by show 2 ≤ sizeLine; decide, [.int i s.toks, u], .cons ⟨_, rfl⟩ (.cons ru .nil), _, (hs₂.2 _ (Nat.ne_of_gt eE)).trans ht₁, rfl, _, rfl⟩
    ·rw [upd_ne hb] at q
     refine (I.hok b v q).stay (fun c w' hc q' => keep c w' ?_ q') (fun c q' => ?_) fun c ys q' => ?_
     ·rcases hc with z | z
      ·rw [z]; exact trk b v q
      ·exact trk c _ z
     ·rw [upd_ne (nn c _ q')]; exact q'
     ·rw [upd_ne (nn c _ q')]; exact q'
  ·have : (((i + 1 : Nat)) : Int) = (i : Int) + 1 := by push_cast; rfl
   rw [this]; exact he₂
  ·exact hit₁.at fun o q => (hs₂.2 it (Ne.symm hne)).trans q
  ·have hb' := (hf b hb).1
   have : b ≠ s.heap.objs.size := by
    rcases List.mem_cons.mp hb with z | z
    ·rw [z]; exact Nat.ne_of_lt eE
    ·rw [List.mem_singleton.mp z]
     obtain ⟨o, q, _⟩ := id hit
     exact Nat.ne_of_lt (Heap.lt_size q)
   rw [upd_ne this]; exact hb'
 done := by
  intro X hP hw hK hc i pins s σ H E I hf st hg
  subst hP hw hK
  obtain ⟨⟨old, he⟩, hit⟩ := st
  obtain ⟨xs, hq, hx⟩ := hg
  obtain ⟨its, rv, p, hz⟩ := I.list hq
  obtain ⟨g0, g1, g2, g3, g4, g5⟩ := hf it (by simp)
  have hl := rv.length
  exact wpAny_pyNext_enum_end (I.ok.hd hc) he hit p.isList (by simp; lia) fun h' eb => ⟨rfl, I.turned (t' := s.toks) (fun b o hb q => eb b o hb q) g0 g1 g3 g4 g5⟩
 self := fun _ _ _ _ _ st h => by obtain ⟨_, q⟩ := st.1; exact wpAny_pyIter_enum q h
section
variable {X : Cx}
def iEnum (K : PySem.W.Frag) (ta : TA) : TI := fun σ H R => ta σ H fun vs H1 => ∃ a xs, vs = [.ref a] ∧ Rd H1 a (.lst xs) ∧ R (Ite K a) H1
theorem boot_enum : bootBuiltins "enumerate" = some (.type "enumerate") := by decide +kernel
theorem pi_enum {a : Expr} {ta : TA} {p pos tp : Pos} {elts : List Expr} {x1} (hg : Gl X "enumerate") (hm : X.mg "enumerate" = none) (ha : PA X [a] ta) (hs : starEach [a] X.env = [(false, eval a X.env)] := by rfl) : PI X (.Tuple elts x1 tp) (.Call (.Name "enumerate" p) [a] [] pos) (iEnum X.K ta) := by
 intro pins s σ H R I h
 refine Call_ (ld_blt I hg hm boot_enum (PyProof.Rows.callWith_type1 (thn (ha pos pins s σ H _ I h) ?_) hs rfl))
 rintro us s1 ⟨vs, H1, I1, r1, q1⟩
 obtain ⟨a, xs, rfl, hr, q⟩ := q1
 obtain ⟨u, rfl, ru⟩ := vals1 r1
 cases (show u = Value.ref a from ru)
 obtain ⟨_, its, n, rv, ho⟩ := hr.ok I1.hok
 refine call_enumerate_1 ho fun h' he hit hz hk => ?_
 refine wpAny_pyIter_enum (s := { s1 with heap := h' }) he ?_
 refine ⟨s1.heap.objs.size + 1, [s1.heap.objs.size + 1, s1.heap.objs.size], _, _, H1, rfl, I1.kept (t' := s1.toks) hk, turn_enum a _ _ (Nat.ne_of_gt (Nat.lt_succ_self _)), ⟨⟨_, he⟩, hit⟩, fun b hb => ?_, q⟩
 have hle : s1.heap.objs.size ≤ b := by
  rcases List.mem_cons.mp hb with z | z
  ·rw [z]; exact Nat.le_succ _
  ·rw [List.mem_singleton.mp z]; exact Nat.le_refl _
 exact I1.fpOk hle (I1.hok.fresh hle)
end
end L2
namespace M
open PySem PySem.Spec PyProof.Rows L2
def enumL (k : Nat) : List D → List D
 | [] => []
 | d :: ds => .tuple [.int (k : Int), d] :: enumL (k + 1) ds
theorem enumL_len : ∀ (ds : List D) (k : Nat), (enumL k ds).length = ds.length
 | [], _ => rfl
 | _ :: ds, k => by unfold enumL; rw [List.length_cons, List.length_cons, enumL_len ds]
theorem enumL_get : ∀ (ds : List D) (k i : Nat), (enumL k ds)[i]? = (ds[i]?).map fun d => .tuple [.int ((k + i : Nat) : Int), d]
 | [], _, _ => by simp [enumL]
 | d :: ds, k, 0 => by simp [enumL]
 | d :: ds, k, i + 1 => by
  unfold enumL
  rw [List.getElem?_cons_succ, List.getElem?_cons_succ, enumL_get ds (k + 1) i]
  have : k + 1 + i = k + (i + 1) := by lia
  rw [this]
def enumR (rs : List Ev) : Res (List D) := match rs with
 | [.p (.list ds)] => .ok (enumL 0 ds)
 | _ => .bad
theorem di_enum {X : Cx} {E : L2.St → XK} {a : Expr} {fr : En → Res (List Ev)} {p pos tp : Pos} {elts : List Expr} {x1} (hg : Gl X "enumerate") (hm : X.mg "enumerate" = none) (ha : DA X E [a] fr) (hs : starEach [a] X.env = [(false, eval a X.env)] := by rfl) :
  DI X E (.Tuple elts x1 tp) (.Call (.Name "enumerate" p) [a] [] pos) (mItA enumR fr) := by
 obtain ⟨t, q, m⟩ := ha.out
 refine DI.in ⟨_, pi_enum hg hm q hs, fun B G0 G W H σ en R hh hs hw => m B G0 G W H σ en _ hh hs ?_⟩
 have hw : wpR ((fr en).bind _) _ _ := hw
 rw [wpR_bind] at hw
 refine wpR_mono hw (fun rs hr G1 H1 vs s e => ?_) fun C h => h
 unfold enumR at hr
 split at hr
 ·rename_i ds
  match vs, e with
  | [v], ⟨e1, _⟩ =>
   cases e1 with
   | @lst a xs _ h1 h2 =>
    refine ⟨a, xs, rfl, rd_mono s.gh h1, hr G1 H1 _ s fun G3 H3 k1 k2 => ⟨fun i d ed => ?_, ?_⟩⟩
    ·rw [enumL_get, Option.map_eq_some_iff] at ed
     obtain ⟨d', ed, rfl⟩ := ed
     obtain ⟨x, ex, rx⟩ := h2.get' ed
     have sq : SqL X.K H3 a xs := .inl (rd_mono (k1.trans k2) h1)
     refine ⟨⟨xs, x, sq, ex⟩, fun v H' hy => ?_⟩
     obtain ⟨p, x', hp, rfl, hy, rfl⟩ := hy
     have := hy xs sq
     rw [ex] at this
     cases this
     have st := Step.put (o := .tup [.int i, x]) k2 hp
     refine ⟨_, st, .tup upd_same (.cons ?_ (.cons (rx.mono (k1.trans st.g)) .nil))⟩
     have : ((0 + i : Nat) : Int) = (i : Int) := by simp
     rw [this]
     exact .int _
    ·refine ⟨xs, .inl (rd_mono (k1.trans k2) h1), ?_⟩
     rw [enumL_len, h2.length]
     exact Nat.le_refl _
 ·exact hr.elim
section
variable {X : Cx} {E : L2.St → XK}
def cutD (ds : List D) (lo hi : Option Int) : List D := (ds.drop (HT.sIx ds.length 0 lo)).take (HT.sIx ds.length ds.length hi - HT.sIx ds.length 0 lo)
theorem Reps.cut {K : PySem.W.Frag} {G : Hp} {xs : List V} {ds : List D} (r : Reps K G xs ds) (lo hi : Option Int) : Reps K G (cutV xs lo hi) (cutD ds lo hi) := by
 unfold cutV cutD
 rw [r.length]
 exact (r.drop _).take _
def mNoP : En → Res (Option Int) := fun _ => .ok none
def mPt (fe : En → Res Ev) : En → Res (Option Int) := fun en => (fe en).bind fun x => match x.c with
 | .p (.int i) => .ok (some i)
 | _ => .bad
def tP (K : PySem.W.Frag) (E : L2.St → XK) (f : En → Res (Option Int)) : TO := fun σ H R => ∃ B G0 G W en, SimH B G0 G W H ∧ SimS K W G H σ en ∧ wpR (f en) (fun k => ∀ G' H', Step G H G' H' → R k H') (PostX (E σ) G H)
def DP (X : Cx) (E : L2.St → XK) (o : Option Expr) (f : En → Res (Option Int)) : Prop := PO X o (tP X.K E f)
theorem dp_none : DP X E none mNoP := by rintro pins s σ H R I ⟨B, G0, G, W, en, hh, hs, hw⟩; exact po_none pins s σ H R I (hw G H (Step.refl hh.gh))
theorem dp_some {e : Expr} {fe : En → Res Ev} (he : DE X E e fe) : DP X E (some e) (mPt fe) := by
 rintro pins s σ H R I ⟨B, G0, G, W, en, hh, hs, hw⟩
 obtain ⟨t, p, m⟩ := he.out
 refine po_some p pins s σ H R I (m B G0 G W H σ en _ hh hs ?_)
 unfold mPt at hw
 rw [wpR_bind] at hw
 refine wpR_mono hw (fun x hx G1 H1 v s1 e1 => ?_) fun C h => h
 obtain ⟨G2, s2, e2⟩ := e1.c s1
 cases ex : x.c with
 | p d =>
  rw [ex] at hx e2
  cases d with
  | int i => cases e2; exact ⟨i, rfl, hx G2 H1 s2⟩
  | _ => exact hx.elim
 | f d => rw [ex] at hx; exact hx.elim
 | b d => rw [ex] at hx; exact hx.elim
 | x C => rw [ex] at hx; exact hx.elim
def mSl (fe : En → Res Ev) (fl fh : En → Res (Option Int)) : En → Res Ev := fun en => (fe en).bind fun x => (fl en).bind fun l => (fh en).bind fun u => match lstOf x.c with
 | some ds => .ok (.f (.list (cutD ds l u)))
 | none => .bad
theorem de_sl {e : Expr} {lo hi : Option Expr} {fe : En → Res Ev} {fl fh : En → Res (Option Int)} {p2 pos : Pos} (he : DE X E e fe) (hl : DP X E lo fl) (hu : DP X E hi fh) : DE X E (.Subscript e (.Slice lo hi none p2) pos) (mSl fe fl fh) := by
 obtain ⟨t, p, m⟩ := he.out
 refine DE.in ⟨_, pe_slice sl_list p hl hu, fun B G0 G W H σ en Q hh hs hw => ?_⟩
 unfold mSl at hw
 refine m B G0 G W H σ en _ hh hs (DE.go hw fun x G1 H1 v s1 e1 h1 => ?_)
 refine ⟨B, G0, G1, W, en, hh.step s1, hs.step s1, ?_⟩
 rw [wpR_bind] at h1
 refine wpR_mono h1 (fun l hx G2 H2 s2 => ?_) fun C h => h
 refine ⟨B, G0, G2, W, en, (hh.step s1).step s2, (hs.step s1).step s2, ?_⟩
 have hx' := wpR_mono hx (fun r h => h.step s2) (fun C h => h.step s2)
 rw [wpR_bind] at hx'
 refine wpR_mono hx' (fun u hy G3 H3 s3 => ?_) fun C h => h
 cases ex : lstOf x.c with
 | none => rw [ex] at hy; exact hy.elim
 | some ds =>
  rw [ex] at hy
  obtain ⟨a, xs, rfl, rd, rp⟩ := lst_at (Hs := H) s3.gh (e1.step (s2.trans s3)) ex
  exact ⟨a, xs, rfl, .inl rd, fun p hp => hy _ _ _ (s3.trans (Step.lay s3.gh hp)) ⟨p, _, rfl, s3.h.free hp, s3.gh.free hp, upd_same, .lst (rp.cut l u)⟩⟩
def mPar (i j : Nat) (fr : En → Res (List Ev)) : MS := fun en => match fr en with
 | .ok rs => match rs with
  | [.p d, .p e] => some (.nx ((en.set i (some (.p d))).set j (some (.p e))))
  | _ => none
 | .exc C => some (.ex C en)
 | .bad => none
theorem ds_par {i j : Nat} {x y : Str} {a b : Expr} {fr : En → Res (List Ev)} {px py pt pos : Pos} {kt k2 pt2} (hc : X.calm = true) (hN : X.N.Nodup) (hi : X.N[i]? = some x) (hj : X.N[j]? = some y) (hij : i ≠ j)
  (hx : X.env.scope.names.lookup x = some .local) (hy : X.env.scope.names.lookup y = some .local) (ha : DA X E [a, b] fr)
  (hw : swappedStores [.Tuple [.Name x px, .Name y py] kt pt] (.Tuple [a, b] k2 pt2) X.env = pure (some [x, y]) := by rfl)
  (hs : swapsWithSole [.Tuple [.Name x px, .Name y py] kt pt] (.Tuple [a, b] k2 pt2) pos.line X.env = pure false := by rfl) :
  DS X E (.Assign [.Tuple [.Name x px, .Name y py] kt pt] (.Tuple [a, b] k2 pt2) pos) (mPar i j fr) := by
 obtain ⟨t, p, m⟩ := ha.out
 refine DS.in ⟨_, ps_par hc hN hi hj hij hx hy p hw hs, fun B G0 G W H σ en Dn hh hs hw => m B G0 G W H σ en _ hh hs ?_⟩
 unfold mPar at hw
 cases ef : fr en with
 | bad => rw [ef] at hw; exact hw
 | exc C => rw [ef] at hw; exact fun G1 H1 s => hw G1 W H1 σ (hh.step s) (hs.step s)
 | ok rs =>
  rw [ef] at hw
  dsimp only at hw
  split at hw
  ·rename_i d e
   intro G1 H1 vs s ev
   match vs, ev with
   | [v, w], ⟨e1, e2, _⟩ => exact ⟨v, w, rfl, hw G1 W H1 _ (hh.step s) (((hs.step s).set (i := i) (l := .p d) e1).set (i := j) (l := .p e) e2)⟩
  ·exact hw.elim
end
section
variable {K : PySem.W.Frag}
end
end M

namespace L2
open PySem PySem.Spec PyProof.Rows
def Itz (K : PySem.W.Frag) (a b : Addr) : It :=
 ⟨fun i H => ∃ xs ys x y, SqL K H a xs ∧ xs[i]? = some x ∧ SqL K H b ys ∧ ys[i]? = some y,
   fun i H v H' => ∃ p x y, H p = none ∧ v = .ref p ∧ (∀ xs, SqL K H a xs → xs[i]? = some x) ∧ (∀ ys, SqL K H b ys → ys[i]? = some y) ∧ H' = upd H p (.tup [x, y]),
   fun i H => ∃ xs ys, SqL K H a xs ∧ SqL K H b ys ∧ (xs.length ≤ i ∨ ys.length ≤ i)⟩
theorem turn_zip {P : Program} {w : World} {K : PySem.W.Frag} {elts : List Expr} {x1} {tp : Pos} {l1 l2 z TI TO i1 i2 : Addr} (D : ZipApart z TI TO i1 i2 l1 l2) : Turn P w K (.Tuple elts x1 tp) (Itz K l1 l2) [z, TI, TO, i1, i2] z
  (fun i h => IsZip h z TI TO Value.none ∧ IsPair h TI (.ref i1) (.ref i2) ∧ (∃ a b, IsPair h TO a b) ∧ h.IsListIter i1 l1 i ∧ h.IsListIter i2 l2 i) where
 mem := by simp
 obj := fun i h st b hb => by
  obtain ⟨s1, s2, ⟨_, _, s3⟩, ⟨o4, q4, _, d4⟩, ⟨o5, q5, _, d5⟩⟩ := st
  simp only [List.mem_cons, List.not_mem_nil, or_false] at hb
  rcases hb with rfl | rfl | rfl | rfl | rfl
  ·exact ⟨_, s1, fun v z => nomatch z⟩
  ·exact ⟨_, s2, fun v z => nomatch z⟩
  ·exact ⟨_, s3, fun v z => nomatch z⟩
  ·exact ⟨o4, q4, fun v z => by rw [d4] at z; cases z⟩
  ·exact ⟨o5, q5, fun v z => by rw [d5] at z; cases z⟩
 keep := fun i h h' st k => by
  obtain ⟨s1, s2, ⟨a, b, s3⟩, s4, s5⟩ := st
  exact ⟨k _ (by simp) _ s1, k _ (by simp) _ s2, ⟨a, b, k _ (by simp) _ s3⟩, s4.at fun o q => k _ (by simp) o q, s5.at fun o q => k _ (by simp) o q⟩
 item := by
  intro X hP hw hK hc i pins s σ H E I hf st hg
  subst hP hw hK
  obtain ⟨s1, s2, ⟨a0, b0, s3⟩, s4, s5⟩ := st
  obtain ⟨xs, ys, x, y, hq, hx, hq2, hy⟩ := hg
  obtain ⟨its, rv, p, hz⟩ := I.list hq
  obtain ⟨its2, rv2, p2, hz2⟩ := I.list hq2
  obtain ⟨u, hu, ru⟩ := rv.get hx
  obtain ⟨u2, hu2, ru2⟩ := rv2.get hy
  have hfz := hf z (by simp)
  have hfT := hf TO (by simp)
  have hf1 := hf i1 (by simp)
  have hf2 := hf i2 (by simp)
  refine wpAny_pyNext_zip_item D s1 s2 s3 s4 s5 p.isList p2.isList (x := u) (y := u2) (by simpa using hu) (by simpa using hu2) fun h₁ z1 to1 it1 it2 tt1 hz₁ hk₁ => ?_
  refine ⟨_, rfl, wpAny_letOwnedTupleGo_zip z1 fun h₂ z2 hs₂ => ?_⟩
  have hs₂ : Heap.SameBut z h₁ h₂ := hs₂
  have hn : H s.heap.objs.size = none := I.fresh
  have nn : ∀ b o, H b = some o → b ≠ s.heap.objs.size := fun b o q => ne_of_none q hn
  have eE : z < s.heap.objs.size := Heap.lt_size s1
  have keep : ∀ b o, b ∉ [z, TO, i1, i2] → s.heap.get? b = some o → h₂.get? b = some o := fun b o hb q => by
   simp only [List.mem_cons, List.not_mem_nil, or_false, not_or] at hb
   exact (hs₂.2 b hb.1).trans (hk₁ b o hb.1 hb.2.1 hb.2.2.1 hb.2.2.2 q)
  have trk : ∀ b o, H b = some o → b ∉ [z, TO, i1, i2] := fun b o q hb => by
   have hm : b ∈ [z, TI, TO, i1, i2] := by
    simp only [List.mem_cons, List.not_mem_nil, or_false] at hb ⊢
    rcases hb with h | h | h | h <;> simp [h]
   rw [(hf b hm).1] at q; cases q
  refine ⟨.ref s.heap.objs.size, upd H s.heap.objs.size (.tup [x, y]), ?_, rfl, ⟨_, x, y, hn, rfl, fun zs hz' => by rw [I.list_inj hz' hq]; exact hx, fun zs hz' => by rw [I.list_inj hz' hq2]; exact hy, rfl⟩, ⟨z2, keep _ _ ?_ s2, ⟨_, _, (hs₂.2 _ D.TOz).trans to1⟩, it1.at fun o q => (hs₂.2 _ D.i1z).trans q, it2.at fun o q => (hs₂.2 _ D.i2z).trans q⟩, fun b hb => ?_⟩
  ·refine Inv.step (X := X) (pins := pins) (σ := σ) (H := H) (s := s) (H' := upd H s.heap.objs.size (.tup [x, y])) (h' := h₂) (g' := s.gens) (d' := s.drawn) (t' := s.toks) (ch := [z, TO, i1, i2]) I (fun b hb => ?_) (fun b o _ _ hb q _ => keep b o hb q) (fun b o _ _ hb q _ => ⟨o.slots, keep b o hb q⟩) (fun b o _ q n => ?_) (fun b o hb q => ⟨o, keep b o hb q⟩)
    (fun b ys q => ?_) (fun b o v q => ?_) (fun b ps q => ⟨#[], ?_⟩) (fun m hm => ?_) (fun b v q => ?_) I.bare
   ·have hm : b ∈ [z, TI, TO, i1, i2] := by
     simp only [List.mem_cons, List.not_mem_nil, or_false] at hb ⊢
     rcases hb with h | h | h | h <;> simp [h]
    obtain ⟨f0, f1, f2, f3, f4, f5⟩ := hf b hm
    exact ⟨f3, f1, f4, f5⟩
   ·rw [upd_ne (Nat.ne_of_lt (Heap.lt_size q))]; exact n
   ·rw [upd_ne (nn b _ q)]; exact q
   ·rw [upd_ne (nn b _ q)]; exact q
   ·rw [upd_ne (nn b _ q), q]; simp
   ·obtain ⟨o, es, ep, ho, r⟩ := hm
    refine ⟨o, es, ep, keep _ o (fun zz => ?_) ho, r⟩
    simp only [List.mem_cons, List.not_mem_nil, or_false] at zz
    rcases zz with h | h | h | h
    ·exact hfz.2.1 h.symm
    ·exact hfT.2.1 h.symm
    ·exact hf1.2.1 h.symm
    ·exact hf2.2.1 h.symm
   ·by_cases hb : b = s.heap.objs.size
    ·subst hb
     rw [upd_same] at q
     cases q
     refine ⟨by show 2 ≤ sizeLine; decide, [u, u2], .cons ru (.cons ru2 .nil), _, (hs₂.2 _ (Nat.ne_of_gt eE)).trans tt1, rfl, _, rfl⟩
    ·rw [upd_ne hb] at q
     refine (I.hok b v q).stay (fun c w' hc q' => keep c w' ?_ q') (fun c q' => ?_) fun c ys q' => ?_
     ·rcases hc with zz | zz
      ·rw [zz]; exact trk b v q
      ·exact trk c _ zz
     ·rw [upd_ne (nn c _ q')]; exact q'
     ·rw [upd_ne (nn c _ q')]; exact q'
  ·simp only [List.mem_cons, List.not_mem_nil, or_false, not_or]
   exact ⟨D.TIz, D.TITO, D.TIi1, D.TIi2⟩
  ·have hb' := (hf b hb).1
   have : b ≠ s.heap.objs.size := by
    simp only [List.mem_cons, List.not_mem_nil, or_false] at hb
    obtain ⟨o4, q4, _⟩ := id s4
    obtain ⟨o5, q5, _⟩ := id s5
    rcases hb with h | h | h | h | h <;> rw [h]
    ·exact Nat.ne_of_lt eE
    ·exact Nat.ne_of_lt (Heap.lt_size s2)
    ·exact Nat.ne_of_lt (Heap.lt_size s3)
    ·exact Nat.ne_of_lt (Heap.lt_size q4)
    ·exact Nat.ne_of_lt (Heap.lt_size q5)
   rw [upd_ne this]; exact hb'
 done := by
  intro X hP hw hK hc i pins s σ H E I hf st hg
  subst hP hw hK
  obtain ⟨s1, s2, ⟨a0, b0, s3⟩, s4, s5⟩ := st
  obtain ⟨xs, ys, hq, hq2, hx⟩ := hg
  obtain ⟨its, rv, p, hz⟩ := I.list hq
  obtain ⟨its2, rv2, p2, hz2⟩ := I.list hq2
  have hl := rv.length
  have hl2 := rv2.length
  refine wpAny_pyNext_zip_end (I.ok.hd hc) D s1 s2 s3 s4 s5 p.isList p2.isList (hx.imp (fun h => by simp; lia) fun h => by simp; lia) fun h' hk => ⟨rfl, ?_⟩
  have keep : ∀ b o, b ∉ [z, TO, i1, i2] → s.heap.get? b = some o → h'.get? b = some o := fun b o hb q => by
   simp only [List.mem_cons, List.not_mem_nil, or_false, not_or] at hb
   exact hk b o hb.1 hb.2.1 hb.2.2.1 hb.2.2.2 q
  have hin : ∀ b, b ∈ [z, TO, i1, i2] → b ∈ [z, TI, TO, i1, i2] := fun b hb => by
   simp only [List.mem_cons, List.not_mem_nil, or_false] at hb ⊢
   rcases hb with h | h | h | h <;> simp [h]
  have trk : ∀ b o, H b = some o → b ∉ [z, TO, i1, i2] := fun b o q hb => by rw [(hf b (hin b hb)).1] at q; cases q
  refine Inv.step (X := X) (pins := pins) (σ := σ) (H := H) (s := s) (H' := H) (h' := h') (g' := s.gens) (d' := s.drawn) (t' := s.toks) (ch := [z, TO, i1, i2]) I (fun b hb => ?_) (fun b o _ _ hb q _ => keep b o hb q) (fun b o _ _ hb q _ => ⟨o.slots, keep b o hb q⟩) (fun b o _ q n => n) (fun b o hb q => ⟨o, keep b o hb q⟩)
   (fun _ _ q => q) (fun _ _ _ q => q) (fun b ps q => ⟨#[], by rw [q]; simp⟩) (fun m hm => ?_) (fun b v q => ?_) I.bare
  ·obtain ⟨f0, f1, f2, f3, f4, f5⟩ := hf b (hin b hb)
   exact ⟨f3, f1, f4, f5⟩
  ·obtain ⟨o, es, ep, ho, r⟩ := hm
   exact ⟨o, es, ep, keep _ o (fun zz => (hf _ (hin _ zz)).2.1 rfl) ho, r⟩
  ·refine (I.hok b v q).stay (fun c w' hc q' => keep c w' ?_ q') (fun _ q' => q') fun _ _ q' => q'
   rcases hc with zz | zz
   ·rw [zz]; exact trk b v q
   ·exact trk c _ zz
 self := fun _ _ _ _ _ st h => wpAny_pyIter_zip st.1 h
section
variable {X : Cx}
def iZip (K : PySem.W.Frag) (ta : TA) : TI := fun σ H R => ta σ H fun vs H1 => ∃ a b xs ys, vs = [.ref a, .ref b] ∧ Rd H1 a (.lst xs) ∧ Rd H1 b (.lst ys) ∧ R (Itz K a b) H1
theorem bT_zip0 : bootBuiltins "zip" = some (.type "zip") := by decide +kernel
theorem pi_zip {a b : Expr} {ta : TA} {p pos tp : Pos} {elts : List Expr} {x1} (hg : Gl X "zip") (hm : X.mg "zip" = none) (ha : PA X [a, b] ta) (hs : starEach [a, b] X.env = [(false, eval a X.env), (false, eval b X.env)] := by rfl) (hs2 : starEach [b] X.env = [(false, eval b X.env)] := by rfl) : PI X (.Tuple elts x1 tp) (.Call (.Name "zip" p) [a, b] [] pos) (iZip X.K ta) := by
 intro pins s σ H R I h
 refine Call_ (ld_blt I hg hm bT_zip0 (PyProof.Rows.callWith_type1 (thn (ha pos pins s σ H _ I h) ?_) (by rw [hs, hs2]) (by rw [hs2]; rfl)))
 rintro us s1 ⟨vs, H1, I1, r1, q1⟩
 obtain ⟨a, b, xs, ys, rfl, hr, hr2, q⟩ := q1
 obtain ⟨u, u2, rfl, ru, ru2⟩ := vals2 r1
 cases (show u = Value.ref a from ru)
 cases (show u2 = Value.ref b from ru2)
 obtain ⟨_, its, n, rv, ho⟩ := hr.ok I1.hok
 obtain ⟨_, its2, n2, rv2, ho2⟩ := hr2.ok I1.hok
 refine call_zip_2 ⟨_, ho, rfl, _, rfl⟩ ⟨_, ho2, rfl, _, rfl⟩ fun h' he hp1 hp2 hit hit2 hz hk => ?_
 refine wpAny_pyIter_zip (s := { s1 with heap := h' }) he ?_
 refine ⟨s1.heap.objs.size + 4, [s1.heap.objs.size + 4, s1.heap.objs.size + 2, s1.heap.objs.size + 3, s1.heap.objs.size, s1.heap.objs.size + 1], _, _, H1, rfl, I1.kept (t' := s1.toks) hk, turn_zip (zipApart_new (Heap.lt_size ho) (Heap.lt_size ho2)), ⟨he, hp1, ⟨_, _, hp2⟩, hit, hit2⟩, fun b hb => ?_, q⟩
 have hle : s1.heap.objs.size ≤ b := by
  simp only [List.mem_cons, List.not_mem_nil, or_false] at hb
  rcases hb with h | h | h | h | h <;> rw [h]
  ·exact Nat.le_add_right _ _
  ·exact Nat.le_add_right _ _
  ·exact Nat.le_add_right _ _
  ·exact Nat.le_refl _
  ·exact Nat.le_add_right _ _
 exact I1.fpOk hle (I1.hok.fresh hle)
end
end L2
namespace M
open PySem PySem.Spec PyProof.Rows L2
def zipL : List D → List D → List D
 | x :: xs, y :: ys => .tuple [x, y] :: zipL xs ys
 | _, _ => []
theorem zipL_get : ∀ (xs ys : List D) (i : Nat), (zipL xs ys)[i]? = match xs[i]?, ys[i]? with
  | some x, some y => some (.tuple [x, y])
  | _, _ => none
 | [], _, i => by simp [zipL]
 | _ :: _, [], i => by cases i <;> simp [zipL]
 | x :: xs, y :: ys, 0 => by simp [zipL]
 | x :: xs, y :: ys, i + 1 => by
  unfold zipL
  rw [List.getElem?_cons_succ, List.getElem?_cons_succ, List.getElem?_cons_succ, zipL_get xs ys i]
theorem zipL_len : ∀ (xs ys : List D), xs.length ≤ (zipL xs ys).length ∨ ys.length ≤ (zipL xs ys).length
 | [], _ => .inl (Nat.zero_le _)
 | _ :: _, [] => .inr (Nat.zero_le _)
 | x :: xs, y :: ys => by
  unfold zipL
  rcases zipL_len xs ys with h | h
  ·exact .inl (Nat.succ_le_succ h)
  ·exact .inr (Nat.succ_le_succ h)
def zipR (rs : List Ev) : Res (List D) := match rs with
 | [.p (.list xs), .p (.list ys)] => .ok (zipL xs ys)
 | _ => .bad
theorem di_zip {X : Cx} {E : L2.St → XK} {a b : Expr} {fr : En → Res (List Ev)} {p pos tp : Pos} {elts : List Expr} {x1} (hg : Gl X "zip") (hm : X.mg "zip" = none) (ha : DA X E [a, b] fr) (hs : starEach [a, b] X.env = [(false, eval a X.env), (false, eval b X.env)] := by rfl) (hs2 : starEach [b] X.env = [(false, eval b X.env)] := by rfl) :
  DI X E (.Tuple elts x1 tp) (.Call (.Name "zip" p) [a, b] [] pos) (mItA zipR fr) := by
 obtain ⟨t, q, m⟩ := ha.out
 refine DI.in ⟨_, pi_zip hg hm q hs hs2, fun B G0 G W H σ en R hh hs hw => m B G0 G W H σ en _ hh hs ?_⟩
 have hw : wpR ((fr en).bind _) _ _ := hw
 rw [wpR_bind] at hw
 refine wpR_mono hw (fun rs hr G1 H1 vs s e => ?_) fun C h => h
 unfold zipR at hr
 split at hr
 ·rename_i ds es
  match vs, e with
  | [v, v2], ⟨e1, e2, _⟩ =>
   cases e1 with
   | @lst a xs _ h1 h2 =>
    cases e2 with
    | @lst b ys _ g1 g2 =>
     refine ⟨a, b, xs, ys, rfl, rd_mono s.gh h1, rd_mono s.gh g1, hr G1 H1 _ s fun G3 H3 k1 k2 => ⟨fun i d ed => ?_, ?_⟩⟩
     ·rw [zipL_get] at ed
      cases ex0 : ds[i]? with
      | none => rw [ex0] at ed; cases ed
      | some d1 =>
       cases ey0 : es[i]? with
       | none => rw [ex0, ey0] at ed; cases ed
       | some d2 =>
        rw [ex0, ey0] at ed
        cases ed
        obtain ⟨x, ex, rx⟩ := h2.get' ex0
        obtain ⟨y, ey, ry⟩ := g2.get' ey0
        have sq : SqL X.K H3 a xs := .inl (rd_mono (k1.trans k2) h1)
        have sq2 : SqL X.K H3 b ys := .inl (rd_mono (k1.trans k2) g1)
        refine ⟨⟨xs, ys, x, y, sq, ex, sq2, ey⟩, fun v H' hy => ?_⟩
        obtain ⟨p, x', y', hp, rfl, hx', hy', rfl⟩ := hy
        have e1 := hx' xs sq
        have e2 := hy' ys sq2
        rw [ex] at e1
        rw [ey] at e2
        cases e1
        cases e2
        have st := Step.put (o := .tup [x, y]) k2 hp
        exact ⟨_, st, .tup upd_same (.cons (rx.mono (k1.trans st.g)) (.cons (ry.mono (k1.trans st.g)) .nil))⟩
     ·refine ⟨xs, ys, .inl (rd_mono (k1.trans k2) h1), .inl (rd_mono (k1.trans k2) g1), ?_⟩
      rw [h2.length, g2.length]
      exact zipL_len ds es
 ·exact hr.elim
end M

namespace L2
open PySem PySem.Spec PyProof.Rows
section
variable {X : Cx}
end
end L2
namespace M
open PySem PySem.Spec PyProof.Rows L2
variable {K : PySem.W.Frag}
end M

namespace M
open PySem PySem.Spec PyProof.Rows L2
section
variable {X : Cx} {E : L2.St → XK} {e : Expr}
def mExtend (i : Nat) (fe : En → Res Ev) : MS := fun en => match en[i]? with
 | some (some (.o (.list ds))) => match fe en with
  | .ok (.f (.list es)) => if ds.length + es.length ≤ 100000 then some (.nx (en.set i (some (.o (.list (ds ++ es)))))) else none
  | .exc C => some (.ex C en)
  | _ => none
 | _ => none
theorem ds_extend {i : Nat} {fe : En → Res Ev} {st : Stmt} (he : DE X E e fe) (hp : ∀ t, PE X e t → PS X st (tDrop (tBM X.K "list" rExtend (tVar i) (tCons t tNil)))) : DS X E st (mExtend i fe) := by
 obtain ⟨t, q, mm⟩ := he.out
 refine DS.in ⟨_, hp t q, fun B G0 G W H σ en Dn hh hs hw => ?_⟩
 unfold mExtend at hw
 split at hw
 ·rename_i ds ei
  obtain ⟨v, e1, a, o, rfl, e2, e3, e4⟩ := hs.2 i _ ei
  cases e4 with
  | @lst xs _ rp =>
  refine ⟨_, e1, .inl ⟨rfl, _, SqL.of e3⟩, mm B G0 G W H σ en _ hh hs ?_⟩
  cases ef : fe en with
  | bad => rw [ef] at hw; exact hw
  | exc C => rw [ef] at hw; exact fun G1 H1 s => hw G1 W H1 σ (hh.step s) (hs.step s)
  | ok r =>
   rw [ef] at hw
   cases r with
   | p d => exact hw.elim
   | b d => exact hw.elim
   | x C => exact hw.elim
   | f d =>
    cases d with
    | list es =>
     dsimp only at hw
     split at hw
     ·rename_i hl
      rintro G1 H1 y s ⟨b, ob, rfl, k1, k2, k3, k4⟩
      cases k4 with
      | @lst zs _ rz =>
      have hx := s.h _ _ e3
      refine ⟨a, b, xs, zs, rfl, rfl, hx, k3, Nat.le_trans (by rw [rp.length, rz.length]; exact hl) (by decide), ?_⟩
      obtain ⟨w1, w2⟩ := write_ok (o' := .lst (xs ++ zs)) (d' := .list (ds ++ es)) (hh.step s) (hs.step s) e2 e1 (.lst ((rp.mono s.g).append rz))
      exact hw _ _ _ _ w1 w2
     ·exact hw.elim
    | _ => exact hw.elim
 ·exact hw.elim
end
section
variable {X : Cx} {K : PySem.W.Frag}
def rInP (K : PySem.W.Frag) (ng : Bool) : R2 := fun x y H Q => ∃ d ds, Rep K H x d ∧ Rep K H y (.list ds) ∧ SeqAt.shaped d = true ∧ SeqAt.shaped (.list ds) = true ∧ (∀ z ∈ ds, SeqAt.noMix z d = true) ∧ Q (.bl (if ng then !decide (countIn d ds ≠ 0) else decide (countIn d ds ≠ 0))) H
theorem op_ninP {K : PySem.W.Frag} (hu : X.A.units + 65 < cLine) : OpR X (compareOp .NotIn) (rInP K true) := by
 intro pins s σ H x y v u Q I rx ry h
 obtain ⟨d, ds, h1, h2, o1, o2, hm, q⟩ := h
 obtain ⟨as, r1⟩ := h1.reads I.hok (Bool.and_eq_true_iff.mp o1).1 rx
 obtain ⟨bs, r2⟩ := h2.reads I.hok (Bool.and_eq_true_iff.mp o2).1 ry
 exact notIn_list_dataH r2 r1 o2 o1 hu hm ⟨.bl _, H, I, rfl, q⟩
open Classical in
def inPE (ng : Bool) (x y : Ev) : Res Ev := match dat x, dat y with
 | some d, some (.list ds) => if SeqAt.shaped d = true ∧ SeqAt.shaped (.list ds) = true ∧ ∀ z ∈ ds, SeqAt.noMix z d = true then .ok (.p (.bool (if ng then !decide (countIn d ds ≠ 0) else decide (countIn d ds ≠ 0)))) else .bad
 | _, _ => .bad
theorem noX_inP {ng : Bool} : NoX (inPE ng) := by
 intro x y A h
 unfold inPE at h
 split at h
 ·split at h <;> cases h
 ·cases h
theorem om_inP {ng : Bool} : OpM K (rInP K ng) (inPE ng) := by
 intro W G H v u x y Q gh hx hy hw
 unfold inPE at hw
 split at hw
 ·rename_i d ds e1 e2
  split at hw
  ·rename_i hs
   exact ⟨d, ds, hx.read gh e1, hy.read gh e2, hs.1, hs.2.1, hs.2.2, hw G H _ (Step.refl gh) (.bl _)⟩
  ·exact hw.elim
 ·exact hw.elim
end
theorem u65 {k : Nat} {A : Around} (hr : Room k A) : A.units + 65 < cLine := by have := hr.un; lia
end M

namespace L2
open PySem PySem.Spec PyProof.Rows
section
variable {X : Cx}
end
end L2
namespace M
open PySem PySem.Spec PyProof.Rows L2
end M

namespace L2
open PySem PySem.Spec PyProof.Rows
section
variable {X : Cx}
theorem vals_intsT : ∀ {is : List Int} {us : List Value}, Vals (is.map V.int) us → ∃ ts : List (Int × Tok), us = ts.map (fun p => Value.int p.1 p.2) ∧ ts.map (·.1) = is
 | [], _, .nil => ⟨[], rfl, rfl⟩
 | i :: is, _, .cons r t => by
  obtain ⟨tk, e⟩ := r
  obtain ⟨ts, e1, e2⟩ := vals_intsT t
  refine ⟨(i, tk) :: ts, ?_, ?_⟩
  ·rw [e, e1]; rfl
  ·rw [List.map_cons, e2]
end
end L2
namespace M
open PySem PySem.Spec PyProof.Rows L2
variable {K : PySem.W.Frag}
def intsOf : List D → Option (List Int)
 | [] => some []
 | .int b :: ds => match intsOf ds with
  | some bs => some (b :: bs)
  | none => none
 | _ => none
theorem intsOf_map : ∀ is : List Int, intsOf (is.map .int) = some is
 | [] => rfl
 | i :: is => by
  show (match intsOf (is.map .int) with | some bs => some (i :: bs) | none => none) = _
  rw [intsOf_map is]
theorem ints_reps {G : Hp} : ∀ {ds : List D} {bs : List Int} {xs : List V}, intsOf ds = some bs → Reps K G xs ds → xs = bs.map V.int
 | [], _, _, h, .nil => by cases h; rfl
 | d :: ds, bs, _, h, .cons r t => by
  cases d with
  | int b =>
   unfold intsOf at h
   cases e : intsOf ds with
   | none => rw [e] at h; cases h
   | some bs' =>
    rw [e] at h
    cases h
    cases r
    rw [ints_reps e t]
    rfl
  | _ => cases h
end M

namespace L2
open PySem PySem.Spec PyProof.Rows
section
variable {X : Cx} {tg : Expr}
end
end L2
namespace M
open PySem PySem.Spec PyProof.Rows L2
section
variable {X : Cx} {E : L2.St → XK} {pos : Pos}
end
end M
namespace L2
open PySem PySem.Spec PyProof.Rows M
section
variable {X : Cx}
end
end L2
namespace M
open PySem PySem.Spec PyProof.Rows L2
variable {K : PySem.W.Frag}
end M

namespace L2
open PySem PySem.Spec PyProof.Rows
end L2
namespace M
open PySem PySem.Spec PyProof.Rows L2
section
variable {X : Cx} {E : L2.St → XK}
end
variable {K : PySem.W.Frag}
end M

namespace L2
open PySem PySem.Spec PyProof.Rows M
section
variable {X : Cx}
end
end L2
namespace M
open PySem PySem.Spec PyProof.Rows L2
variable {K : PySem.W.Frag}
end M

namespace L2
open PySem PySem.Spec PyProof.Rows
end L2
namespace M
open PySem PySem.Spec PyProof.Rows L2
variable {K : PySem.W.Frag}
end M

namespace L2
open PySem PySem.Spec PyProof.Rows M SRT
section
variable {prog : Program} {w : World} {A : Around} {E : Value → Shared → Prop} {s : Shared}
end
section
variable {X : Cx}
end
end L2
namespace M
open PySem PySem.Spec PyProof.Rows L2 SRT
variable {K : PySem.W.Frag}
end M

namespace L2
open PySem PySem.Spec PyProof.Rows
section
variable {X : Cx} {CX : CXT} {k : Nat} {f : Addr} {fd : FuncData} {ps : List Str} {sp : Sp} {E : St → XK} {x : Str} {p pos : Pos}
end
end L2
namespace M
open PySem PySem.Spec PyProof.Rows L2
section
variable {X : Cx} {E : L2.St → XK} {k j : Nat} {x : Str} {p pos : Pos} {n : Nat} {m : List L → Res L}
end
end M

namespace L2
open PySem PySem.Spec PyProof.Rows
section
variable {X : Cx} {pos : Pos}
end
end L2
namespace M
open PySem PySem.Spec PyProof.Rows L2
section
variable {X : Cx} {E : L2.St → XK} {pos : Pos}
end
end M

namespace L2
open PySem PySem.Spec PyProof.Rows
section
variable {X : Cx}
def rSum (K : PySem.W.Frag) : List V → Hp → VK → Prop := fun xs H Q => ∃ (a : Addr) (is : List Int), xs = [.ref a] ∧ SqL K H a (is.map V.int) ∧ Q (.int is.sum) H
theorem preSum_sum (f : Nat → Int) : ∀ (is : List Int), (∀ j, j < is.length → f j = (is[j]?).getD 0) → preSum f is.length = is.sum := by
 have gen : ∀ (n : Nat) (is : List Int), is.length = n → (∀ j, j < is.length → f j = (is[j]?).getD 0) → preSum f n = is.sum := by
  intro n
  induction n with
  | zero =>
   intro is h _
   rw [List.length_eq_zero_iff.mp h]
   rfl
  | succ n ih =>
   intro is h hj
   have hne : is ≠ [] := fun z => by rw [z] at h; cases h
   have e : is = is.dropLast ++ [is.getLast hne] := (List.dropLast_concat_getLast hne).symm
   have hl : is.dropLast.length = n := by rw [List.length_dropLast]; lia
   have h1 := ih is.dropLast hl fun j hj' => by
    rw [hj j (by lia)]
    conv => lhs; rw [e]
    rw [List.getElem?_append_left hj']
   show preSum f n + f n = is.sum
   rw [h1, hj n (by lia)]
   conv => rhs; rw [e, List.sum_append]
   conv => lhs; rw [e]
   rw [List.getElem?_append_right (by lia), hl]
   simp
 exact fun is hj => gen _ is rfl hj
theorem call_sumL (hc : X.calm = true) {K : PySem.W.Frag} (hK : X.K = K) : CallR X (.builtin "sum") (rSum K) := by
 subst hK
 intro pins s σ H xs us Q I r h
 obtain ⟨a, is, rfl, hq, q⟩ := h
 obtain ⟨u, rfl, ru⟩ := vals1 r
 cases ru
 obtain ⟨its, rv, p, hz⟩ := I.list hq
 obtain ⟨ts, e1, e2⟩ := vals_intsT rv
 have hl : s.heap.IsList a (intItems ts.toArray) := by
  have h := p.isList
  rw [e1] at h
  simpa [intItems] using h
 have hn : ts.length = is.length := by
  have := congrArg List.length e2
  rw [List.length_map] at this
  exact this
 have num : ∀ j, numAt ts.toArray j = (is[j]?).getD 0 := fun j => by
  rw [← e2]
  simp [numAt]
 refine sum_intListG (A := X.A) (I.ok.hd hc) hl fun h' tk t' hk => ⟨.int is.sum, H, I.kept hk, ?_, q⟩
 refine ⟨t', ?_⟩
 rw [List.size_toArray, hn, preSum_sum _ is fun j _ => num j]
end
end L2
namespace M
open PySem PySem.Spec PyProof.Rows L2
section
variable {K : PySem.W.Frag}
def sumE (rs : List Ev) : Res Ev := match rs with
 | [x] => match lstOf x with
  | some ds => match intsOf ds with
   | some is => .ok (.p (.int is.sum))
   | none => .bad
  | none => .bad
 | _ => .bad
theorem noX_sum : NoXs sumE := by
 intro rs C h
 unfold sumE at h
 split at h
 ·split at h
  ·split at h <;> cases h
  ·cases h
 ·cases h
theorem cm_sum : CallM K (rSum K) sumE := by
 intro W Hs G H vs rs Q gh he hw
 unfold sumE at hw
 split at hw
 ·rename_i x
  match vs, he with
  | [v], ⟨h1, _⟩ =>
   split at hw
   ·rename_i ds ed
    obtain ⟨a, xs, rfl, k1, k2⟩ := lst_at gh h1 ed
    split at hw
    ·rename_i is eb
     have := ints_reps eb k2
     subst this
     exact ⟨a, is, rfl, .inl k1, hw G H _ (Step.refl gh) (.int _)⟩
    ·exact hw.elim
   ·exact hw.elim
 ·exact hw.elim
end
end M
namespace L2
open PySem PySem.Spec PyProof.Rows
section
variable {X : Cx}
end
end L2
namespace M
open PySem PySem.Spec PyProof.Rows L2
end M

namespace L2
open PySem PySem.Spec PyProof.Rows
section
variable {prog : Program} {w : World} {A : Around} {E : Value → Shared → Prop} {s : Shared}
theorem flt_one {α : Type} (f : α → Int) : ∀ {l : List α}, (l.map f).Nodup → ∀ e ∈ l, (l.filter fun x => f x == f e).length ≤ 1
 | x :: l, h, e, he => by
  rw [List.map_cons, List.nodup_cons] at h
  rw [List.filter_cons]
  rcases List.mem_cons.mp he with z | z
  ·subst z
   have : l.filter (fun y => f y == f e) = [] := List.filter_eq_nil_iff.mpr fun y hy w => h.1 (List.mem_map.mpr ⟨y, hy, by simpa using w⟩)
   rw [this]
   split <;> simp
  ·have ne : ¬ ((f x == f e) = true) := fun w => h.1 (List.mem_map.mpr ⟨e, z, by simpa using (beq_iff_eq.mp w).symm⟩)
   rw [if_neg ne]
   exact flt_one f h.2 e z
theorem entriesT {id : String} {d : Addr} {o : Obj} {es : Array DictEntry} {ep : Nat} {Q : Array DictEntry → Shared → Prop} (ho : s.heap.get? d = some o) (hd : o.data = .dict es ep) (hk : ∀ e ∈ es.toList, ∃ a, e.key = .ref a ∧ s.TypeIs (.ref a) "tuple") (hh : (es.toList.map (·.hash)).Nodup) (h : Q es s) :
  wpAny (model prog w) A (Builtin.Dict.entriesForEmpty id d) Q E s := by
 unfold Builtin.Dict.entriesForEmpty
 refine wpAny_bind (wpAny_dictEntries ho hd ?_)
 refine wpAny_bind (wpAny_forIn_array' _ (fun rest _ s' => s' = s ∧ ∀ e ∈ rest, e ∈ es.toList) _ ?_ ?_ es PUnit.unit ⟨rfl, fun _ h => h⟩)
 ·rintro x rest b s1 ⟨rfl, hx⟩
  obtain ⟨a, ek, ta⟩ := hk x (hx x (.head _))
  have h1 := flt_one (fun e : DictEntry => e.hash) hh x (hx x (.head _))
  unfold Builtin.Dict.quietEq
  rw [ek]
  refine wpAny_bind (wpAny_bind (wpAny_specialOf ta F.slot_tuple_eq.lookup (wpAny_pure ?_)))
  have e0 : ((some (Value.builtin "tuple.__eq__")) == some (Value.builtin "object.__eq__")) = false := by decide
  rw [e0]
  simp only [Bool.not_false, if_true]
  rw [if_neg (by
   have : (es.filter fun e => e.hash == x.hash).size = (es.toList.filter fun e => e.hash == x.hash).length := by
    rw [← Array.toList_filter, Array.length_toList]
   rw [this]
   have h1 : (es.toList.filter fun e => e.hash == x.hash).length ≤ 1 := h1
   lia)]
  exact wpAny_pure ⟨rfl, fun e he => hx e (.tail _ he)⟩
 ·rintro b s1 ⟨rfl, _⟩
  exact wpAny_pure h
theorem mergeT {nm : String} {d o : Addr} {od oo : Obj} {es : Array DictEntry} {epd ep : Nat} {Q : Unit → Shared → Prop} (hdo : d ≠ o) (hoS : (o == sysModules) = false)
  (hod : s.heap.get? d = some od) (hdd : od.data = .dict #[] epd) (hoo : s.heap.get? o = some oo) (hdo' : oo.data = .dict es ep) (hne : es.toList ≠ []) (hk : ∀ e ∈ es.toList, ∃ a, e.key = .ref a ∧ s.TypeIs (.ref a) "tuple") (hh : (es.toList.map (·.hash)).Nodup) (hsz : es.size ≤ sizeLine + 1)
  (hQ : Q () { s with heap := s.heap.update d (Obj.mapDictKeys fun _ => es) }) : wpAny (model prog w) A (Builtin.Dict.mergeDict nm d o) Q E s := by
 obtain ⟨e0, he0⟩ := List.exists_mem_of_ne_nil _ hne
 obtain ⟨a0, ea, _⟩ := hk e0 he0
 unfold Builtin.Dict.mergeDict
 rw [if_neg (by simpa using hdo)]
 unfold Builtin.Dict.showsAll
 rw [if_neg (by rw [hoS]; exact Bool.false_ne_true)]
 refine wpAny_bind (wpAny_pure ?_)
 refine wpAny_bind (wpAny_dictEntries hoo hdo' ?_)
 have few : (decide (es.size ≤ 8) && es.all fun e => (keyPart e.key).isSome) = false := by
  rw [Bool.and_eq_false_iff]
  right
  rw [Bool.eq_false_iff]
  intro z
  rw [Array.all_eq_true_iff_forall_mem] at z
  have := z e0 (Array.mem_toList_iff.mp he0)
  rw [ea] at this
  simp [keyPart] at this
 dsimp only
 rw [few]
 simp only [Bool.not_false, if_true]
 refine wpAny_bind (wpAny_dictEntries hod hdd ?_)
 rw [if_pos (by rfl)]
 refine wpAny_bind (entriesT hoo hdo' hk hh ?_)
 have hemp : (!es.isEmpty) = true := by
  cases h : es.isEmpty with
  | false => rfl
  | true => exact absurd (by rw [Array.isEmpty_iff.mp h]) hne
 rw [if_pos hemp]
 exact wpAny_bind (wpAny_updateDictKeysTo hod hdd (wpAny_pure hQ) hsz)
end
def hIJ (i j : Int) : Int := reduceHash (Builtin.Tuple.tupleHashOf [hashInt i, hashInt j])
theorem hIJ_nd : ((List.range 81).map fun n : Nat => hIJ ((n / 9 : Nat) : Int) ((n % 9 : Nat) : Int)).Nodup := by decide +kernel
theorem nd_at {α : Type} {f : Nat → α} {n : Nat} (h : ((List.range n).map f).Nodup) {a b : Nat} (ha : a < n) (hb : b < n) (e : f a = f b) : a = b := by
 have p := List.pairwise_iff_getElem.mp h
 rcases Nat.lt_trichotomy a b with z | z | z
 ·have := p a b (by simpa using ha) (by simpa using hb) z
  simp at this
  exact absurd e this
 ·exact z
 ·have := p b a (by simpa using hb) (by simpa using ha) z
  simp at this
  exact absurd e.symm this
theorem hIJ_inj {i j k l : Int} (hi : 0 ≤ i ∧ i ≤ 8) (hj : 0 ≤ j ∧ j ≤ 8) (hk : 0 ≤ k ∧ k ≤ 8) (hl : 0 ≤ l ∧ l ≤ 8) (e : hIJ i j = hIJ k l) : i = k ∧ j = l := by
 have q : ∀ {a b : Int}, (0 ≤ a ∧ a ≤ 8) → (0 ≤ b ∧ b ≤ 8) → (((9 * a + b).toNat / 9 : Nat) : Int) = a ∧ (((9 * a + b).toNat % 9 : Nat) : Int) = b := fun h1 h2 => by lia
 have e1 := q hi hj
 have e2 := q hk hl
 have := nd_at hIJ_nd (a := (9 * i + j).toNat) (b := (9 * k + l).toNat) (by lia) (by lia) (by
  show hIJ _ _ = hIJ _ _
  rw [e1.1, e1.2, e2.1, e2.2]
  exact e)
 lia
theorem hIJ_key (P : Program) (w : World) (i j : Int) : tupleKeyHash (mixKind P w) [Sum.inl i, Sum.inl j] = hIJ i j := congrArg (fun l => reduceHash (Builtin.Tuple.tupleHashOf l)) (show ([Sum.inl i, Sum.inl j] : List Key).map (mixKind P w).hash = [hashInt i, hashInt j] from rfl)
theorem nd_gen {T : List Key → Int} (hT : ∀ {i j k l : Int}, (0 ≤ i ∧ i ≤ 8) → (0 ≤ j ∧ j ≤ 8) → (0 ≤ k ∧ k ≤ 8) → (0 ≤ l ∧ l ≤ 8) → T [Sum.inl i, Sum.inl j] = T [Sum.inl k, Sum.inl l] → i = k ∧ j = l) {ks : List (List Int)} (hbox : ∀ k ∈ ks, ∃ i j : Int, k = [i, j] ∧ (0 ≤ i ∧ i ≤ 8) ∧ (0 ≤ j ∧ j ≤ 8)) (nd : ks.Nodup) : ((ks.map (List.map Sum.inl)).map T).Nodup := by
 rw [List.map_map]
 refine List.pairwise_map.mpr (List.Pairwise.imp_of_mem (fun {x y} hx hy w' z => w' ?_) nd)
 obtain ⟨i, j, rfl, hi, hj⟩ := hbox x hx
 obtain ⟨k, l, rfl, hk', hl'⟩ := hbox y hy
 obtain ⟨e1, e2⟩ := hT hi hj hk' hl' z
 rw [e1, e2]
theorem hT_box (P : Program) (w : World) {i j k l : Int} (hi : 0 ≤ i ∧ i ≤ 8) (hj : 0 ≤ j ∧ j ≤ 8) (hk : 0 ≤ k ∧ k ≤ 8) (hl : 0 ≤ l ∧ l ≤ 8) (e : tupleKeyHash (mixKind P w) [Sum.inl i, Sum.inl j] = tupleKeyHash (mixKind P w) [Sum.inl k, Sum.inl l]) : i = k ∧ j = l := hIJ_inj hi hj hk hl ((hIJ_key P w i j).symm.trans (e.trans (hIJ_key P w k l)))
theorem ent_hash {P : Program} {w : World} {knd : HeapKind P w (List Key)} {es0 : List (List Key × Addr × Value)} : (es0.map (entryOfKey knd)).map (·.hash) = (es0.map (·.1)).map knd.hash := by
 rw [List.map_map, List.map_map]
 rfl
theorem hash_nd {P : Program} {w : World} {ks : List (List Int)} {es0 : List (List Key × Addr × Value)} {es : Array DictEntry} (hbox : ∀ k ∈ ks, ∃ i j : Int, k = [i, j] ∧ (0 ≤ i ∧ i ≤ 8) ∧ (0 ≤ j ∧ j ≤ 8)) (h5 : (es0.map (·.1)).Nodup) (keys : es0.map (·.1) = ks.map (List.map Sum.inl)) (h4 : es.toList = es0.map (entryOfKey (tupleKind (mixKind P w)))) : (es.toList.map (·.hash)).Nodup := by
 have nd : ks.Nodup := by
  have := h5
  rw [keys] at this
  exact List.Pairwise.of_map (List.map Sum.inl) (fun x y w z => w (by rw [z])) this
 have g := nd_gen (hT_box P w) hbox nd
 rw [h4, ent_hash, keys]
 exact g
section
variable {X : Cx}
def rDictT : List V → Hp → VK → Prop := fun xs H Q => ∃ (a : Addr) (kv : List (List Key × V)) (ks : List (List Int)), xs = [.ref a] ∧ H a = some (.dT kv) ∧ kv.map (·.1) = ks.map (List.map Sum.inl) ∧ ks ≠ [] ∧ (∀ k ∈ ks, ∃ i j : Int, k = [i, j] ∧ (0 ≤ i ∧ i ≤ 8) ∧ (0 ≤ j ∧ j ≤ 8)) ∧ ∀ l, H l = none → Q (.ref l) (upd H l (.dT kv))
theorem call_dictT : CallR X (.type "dict") rDictT := by
 intro pins s σ H xs us Q I r h
 obtain ⟨a, kv, ks, rfl, ha, hk, hne, hbox, q⟩ := h
 obtain ⟨u, rfl, ru⟩ := vals1 r
 cases (show u = Value.ref a from ru)
 obtain ⟨hz, hsys, es0, rel, o, es, ep, h1, h2, h3, h4, h5⟩ := (show ObjOk X.prog X.w H s.heap a (.dT kv) from I.hok a _ ha)
 obtain ⟨_, _, es1, rel1, o1, es1', ep1, g1, g2, g3, g4, g5, g6⟩ := dt_of I.hok ha
 have keys : es0.map (·.1) = ks.map (List.map Sum.inl) := by
  rw [← hk]
  have : ∀ {l : List (List Key × V)} {m : List (List Key × Addr × Value)}, KT H l m → m.map (·.1) = l.map (·.1) := by
   intro l m z
   induction z with
   | nil => rfl
   | cons hq t ih => rw [List.map_cons, List.map_cons, ih, hq.1]
  exact this rel
 have hlen : es.size = es0.length := by
  have := congrArg List.length h4
  rw [List.length_map, Array.length_toList] at this
  exact this
 have kvl : kv.length = es0.length := rel.length
 have hash : (es.toList.map (·.hash)).Nodup := by
  exact hash_nd (P := X.prog) (w := X.w) hbox h5 keys h4
 have hkey : ∀ e ∈ es.toList, ∃ b, e.key = .ref b ∧ s.TypeIs (.ref b) "tuple" := fun e he => by
  rw [h4] at he
  obtain ⟨x, hx, rfl⟩ := List.mem_map.mp he
  have all : ∀ {l : List (List Key × V)} {m : List (List Key × Addr × Value)}, KT H l m → ∀ x ∈ m, (tupleKind (mixKind X.prog X.w)).is s.heap x.1 x.2.1 := by
   intro l m q
   induction q with
   | nil => intro x hx; exact nomatch hx
   | @cons p q ps qs hq t ih =>
    intro x hx
    rcases List.mem_cons.mp hx with e | hx
    ·subst e
     exact key_of I.hok (by rw [← hq.1]; exact hq.2.1)
    ·exact ih x hx
  exact ⟨x.2.1, rfl, IsTupleKey.typeIs (all rel x hx)⟩
 have esn : es.toList ≠ [] := fun z => by
  rw [h4] at z
  have : es0 = [] := List.map_eq_nil_iff.mp z
  rw [this] at keys
  exact hne (List.map_eq_nil_iff.mp keys.symm)
 have tk0 := I.big
 refine callType_codes (Q₁ := fun obj s₁ => obj = .ref s.heap.objs.size ∧ s₁ = { s with heap := s.heap.push { cls := .type "dict", data := .dict #[] } }) F.kt_called_dict (F.kt_typeCall_dict_1 _) F.entry_dict_init (kt_code_dict_new _ ⟨rfl, rfl⟩) ?_
 rintro obj s₁ ⟨rfl, rfl⟩
 have hnew : (s.heap.push { cls := .type "dict", data := .dict #[] }).get? s.heap.objs.size = some { cls := .type "dict", data := .dict #[] } := Heap.get?_push_size _ rfl
 have tnew : ({ s with heap := s.heap.push { cls := .type "dict", data := .dict #[] } } : Shared).TypeIs (.ref s.heap.objs.size) "dict" := ⟨_, hnew, rfl⟩
 have kp : ∀ b o', s.heap.get? b = some o' → (s.heap.push { cls := .type "dict", data := .dict #[] }).get? b = some o' := fun b o' e => Heap.get?_push_of_some _ e
 have told : ({ s with heap := s.heap.push { cls := .type "dict", data := .dict #[] } } : Shared).TypeIs (.ref a) "dict" := ⟨o, kp a o h1, h2.1⟩
 refine ⟨tnew, F.args_dict_init_2 _ _, ?_⟩
 unfold Builtin.«dict.__init__»
 refine wpAny_bind ?_
 unfold Builtin.Dict.selfAndRest
 refine wpAny_bind (wpAny_notOrdered_dict tnew ?_)
 show wpAny _ _ (pure (s.heap.objs.size, [Value.ref a])) _ _ _
 refine wpAny_pure ?_
 show wpAny _ _ (Builtin.Dict.updateFrom "dict.__init__" s.heap.objs.size (.ref a) [] .none) _ _ _
 unfold Builtin.Dict.updateFrom
 refine wpAny_bind (wpAny_typeOf told ?_)
 rw [if_neg (by decide)]
 refine wpAny_bind ?_
 unfold Builtin.Dict.merge
 refine wpAny_bind ?_
 unfold Builtin.Dict.readDirectly
 refine wpAny_bind (wpAny_isInstance told isSubtype_dict_dict ?_)
 simp only [Bool.not_true, Bool.false_eq_true, if_false]
 refine wpAny_bind (wpAny_specialOf told F.slot_dict_iter.lookup (wpAny_pure ?_))
 simp only [beq_self_eq_true, if_true]
 refine wpAny_bind (wpAny_pure ?_)
 have alt : a < s.heap.objs.size := Heap.lt_size h1
 refine mergeT (es := es) (Ne.symm (Nat.ne_of_lt alt)) hsys hnew rfl (kp a o h1) h3 esn (fun e he => by
  obtain ⟨b, eb, p, hp1, hp2⟩ := hkey e he
  exact ⟨b, eb, p, kp b p hp1, hp2⟩) hash (by rw [hlen, ← kvl]; lia) ?_
 show wpAny _ _ (Builtin.Dict.addKeywords s.heap.objs.size [] >>= _) _ _ _
 refine wpAny_bind (wpAny_pure (wpAny_pure ⟨rfl, ?_⟩))
 have fr := I.hok.fresh (Nat.le_refl s.heap.objs.size)
 have sb : Heap.SameBut s.heap.objs.size (s.heap.push { cls := .type "dict", data := .dict #[] }) ((s.heap.push { cls := .type "dict", data := .dict #[] }).update s.heap.objs.size (Obj.mapDictKeys fun _ => es)) := Heap.SameBut.update ..
 refine ⟨.ref s.heap.objs.size, _, I.laid (t' := s.toks) (fun b o' e => (sb.2 b (Nat.ne_of_lt (Heap.lt_size e))).trans (kp b o' e)) (Nat.le_refl _) ?_, rfl, q _ fr⟩
 show ObjOk X.prog X.w _ _ _ (.dT kv)
 refine ⟨hz, by simpa using (Nat.ne_of_gt tk0), es0, KT.keeps rel fun b ys e => by rw [upd_ne (fun z => by rw [z, fr] at e; cases e)]; exact e, _, es, 1, Heap.get?_update_self _ hnew (Obj.isFreed_of_dict (Obj.data_mapDictKeys rfl _)), ?_, Obj.data_mapDictKeys rfl _, h4, h5⟩
 exact Obj.ExactDict.mapDictKeys ⟨rfl, rfl, rfl⟩ _
end
end L2
namespace M
open PySem PySem.Spec PyProof.Rows L2
section
variable {K : PySem.W.Frag}
def small2 : List Int → Bool
 | [i, j] => decide (0 ≤ i ∧ i ≤ 8) && decide (0 ≤ j ∧ j ≤ 8)
 | _ => false
def dictE (rs : List Ev) : Res Ev := match rs with
 | [x] => match dctOf x with
  | some kvs => if (dsp kvs).1 = false then match keysD (kvs.map (·.1)) with
    | some ks => if (!ks.isEmpty && ks.all small2) = true then .ok (.f (.dict kvs)) else .bad
    | none => .bad
   else .bad
  | none => .bad
 | _ => .bad
theorem noX_dict : NoXs dictE := by
 intro rs C h
 unfold dictE at h
 split at h
 ·split at h
  ·split at h
   ·split at h
    ·split at h <;> cases h
    ·cases h
   ·cases h
  ·cases h
 ·cases h
theorem cm_dict : CallM K rDictT dictE := by
 intro W Hs G H vs rs Q gh he hw
 unfold dictE at hw
 split at hw
 ·rename_i x
  match vs, he with
  | [v], ⟨h1, _⟩ =>
   split at hw
   ·rename_i kvs ed
    obtain ⟨a, rfl, hd⟩ := dct_at gh h1 ed
    split at hw
    ·rename_i hk
     rcases hd with ⟨kv, k1, k2⟩ | ⟨kv, r, rfl, k1, k2⟩
     ·split at hw
      ·rename_i ks ek
       split at hw
       ·rename_i hz
        have ek := keysD_eq ek
        rw [Bool.and_eq_true] at hz
        refine ⟨a, kv, ks, rfl, k1, repT_keys k2 ek, fun z => by rw [z] at hz; exact absurd hz.1 (by decide), fun k hk => ?_, fun l hl => ?_⟩
        ·have := List.all_eq_true.mp hz.2 k hk
         unfold small2 at this
         split at this
         ·rename_i i j
          rw [Bool.and_eq_true] at this
          exact ⟨i, j, rfl, of_decide_eq_true this.1, of_decide_eq_true this.2⟩
         ·cases this
        ·exact hw _ _ _ (Step.lay gh hl) ⟨l, _, rfl, hl, gh.free hl, upd_same, .dT k2⟩
       ·exact hw.elim
      ·exact hw.elim
     ·simp [dsp] at hk
    ·exact hw.elim
   ·exact hw.elim
 ·exact hw.elim
end
end M

namespace L2
open PySem PySem.Spec PyProof.Rows
section
variable {X : Cx}
def minL (i : Int) (is : List Int) : Int := is.foldl (fun a b => if b < a then b else a) i
def rMinL (K : PySem.W.Frag) : List V → Hp → VK → Prop := fun xs H Q => ∃ a i is, xs = [.ref a] ∧ SqL K H a ((i :: is).map V.int) ∧ Q (.int (minL i is)) H
theorem argBest_minL (f : Nat → Int) : ∀ k, f (argBest (fun i j => decide (f i < f j)) k) = minL (f 0) ((List.range k).map fun j => f (j + 1))
 | 0 => rfl
 | k + 1 => by
  have ih := argBest_minL f k
  unfold minL at ih ⊢
  rw [List.range_succ, List.map_append, List.foldl_append, ← ih]
  show f (if decide (f (k + 1) < f (argBest (fun i j => decide (f i < f j)) k)) = true then k + 1 else argBest (fun i j => decide (f i < f j)) k) = if f (k + 1) < f (argBest (fun i j => decide (f i < f j)) k) then f (k + 1) else f (argBest (fun i j => decide (f i < f j)) k)
  by_cases h : f (k + 1) < f (argBest (fun i j => decide (f i < f j)) k)
  ·rw [if_pos h, if_pos (decide_eq_true h)]
  ·rw [if_neg h, if_neg (by simpa using h)]
theorem call_minL (hc : X.calm = true) {K : PySem.W.Frag} (hK : X.K = K) : CallR X (.builtin "min") (rMinL K) := by
 subst hK
 intro pins s σ H xs us Q I r h
 obtain ⟨a, i, is, rfl, hq, q⟩ := h
 obtain ⟨u, rfl, ru⟩ := vals1 r
 cases ru
 obtain ⟨its, rv, p, hz⟩ := I.list hq
 obtain ⟨ts, e1, e2⟩ := vals_intsT rv
 have hn : ts.length = is.length + 1 := by
  have := congrArg List.length e2
  rw [List.length_map, List.length_cons] at this
  exact this
 have hl : s.heap.IsList a (intItems ts.toArray) := by
  have h := p.isList
  rw [e1] at h
  simpa [intItems] using h
 have num : ∀ j, numAt ts.toArray j = ((i :: is)[j]?).getD 0 := fun j => by
  rw [← e2]
  simp [numAt]
 refine min_intList (A := X.A) (I.ok.hd hc) hl (by simp; lia) fun v h' tk hP hk => ⟨.int (minL i is), H, I.kept hk, ?_, q⟩
 obtain ⟨t, rfl⟩ := intItems_at hP
 refine ⟨t, ?_⟩
 rw [argBest_minL (numAt ts.toArray)]
 have e0 : numAt ts.toArray 0 = i := by rw [num]; rfl
 have e3 : ((List.range (ts.toArray.size - 1)).map fun j => numAt ts.toArray (j + 1)) = is := by
  rw [List.size_toArray, hn, Nat.add_sub_cancel]
  apply List.ext_getElem
  ·simp
  ·intro j h1 h2
   simp [num, h2]
 rw [e0, e3]
end
end L2
namespace M
open PySem PySem.Spec PyProof.Rows L2
variable {K : PySem.W.Frag}
def minE (rs : List Ev) : Res Ev := match rs with
 | [x] => match lstOf x with
  | some ds => match intsOf ds with
   | some (i :: is) => .ok (.p (.int (minL i is)))
   | _ => .bad
  | none => .bad
 | _ => .bad
theorem noX_minL : NoXs minE := by
 intro rs C h
 unfold minE at h
 split at h
 ·split at h
  ·split at h <;> cases h
  ·cases h
 ·cases h
theorem cm_minL : CallM K (rMinL K) minE := by
 intro W Hs G H vs rs Q gh he hw
 unfold minE at hw
 split at hw
 ·rename_i x
  match vs, he with
  | [v], ⟨h1, _⟩ =>
   split at hw
   ·rename_i ds ed
    obtain ⟨a, xs, rfl, k1, k2⟩ := lst_at gh h1 ed
    split at hw
    ·rename_i i is eb
     have := ints_reps eb k2
     subst this
     exact ⟨a, i, is, rfl, .inl k1, hw G H _ (Step.refl gh) (.int _)⟩
    ·exact hw.elim
   ·exact hw.elim
 ·exact hw.elim
end M

namespace N
open PySem PySem.Spec PyProof.Rows L2 M
def frD (x : Int × Int) : D := .tuple [.int x.1, .int x.2]
abbrev Pl := Int × Int × (Int × Int)
def plD (p : Pl) : D := .tuple [.int p.1, .int p.2.1, frD p.2.2]
def slD (p : Int × Int) : D := .tuple [.int p.1, .int p.2]
theorem at0 {α : Type} (x : α) (r : List α) : atI (x :: r) 0 = some x := atI_nat (j := 0) rfl
theorem at1 {α : Type} (x y : α) (r : List α) : atI (x :: y :: r) 1 = some y := atI_nat (j := 1) rfl
theorem at2 {α : Type} (x y z : α) (r : List α) : atI (x :: y :: z :: r) 2 = some z := atI_nat (j := 2) rfl
theorem eqv_ii (i j : Int) : PyData.eqv (.int i) (.int j) = (i == j) := by simp [PyData.eqv]
theorem sh_int (i : Int) : SeqAt.shaped (.int i) = true := by simp [SeqAt.shaped, PyData.canLay0, PyData.depth]
def decL {α : Type} (f : D → Option α) : List D → Option (List α)
 | [] => some []
 | d :: r => match f d with
  | none => none
  | some a => match decL f r with
   | none => none
   | some as => some (a :: as)
theorem decL_map {α : Type} {f : D → Option α} {enc : α → D} (h : ∀ a, f (enc a) = some a) : ∀ xs : List α, decL f (xs.map enc) = some xs
 | [] => rfl
 | x :: xs => by
  show (match f (enc x) with | none => none | some a => match decL f (xs.map enc) with | none => none | some as => some (a :: as)) = _
  rw [h x, decL_map h xs]
def frOf : D → Option (Int × Int)
 | .tuple [.int a, .int b] => some (a, b)
 | _ => none
def plOf : D → Option Pl
 | .tuple [.int i, .int j, .tuple [.int a, .int b]] => some (i, j, (a, b))
 | _ => none
theorem frOf_frD (x : Int × Int) : frOf (frD x) = some x := rfl
theorem plOf_plD (x : Pl) : plOf (plD x) = some x := rfl
theorem mapO_map {α : Type} {g : D → Option (Option D)} {enc : α → D} {out : α → D} : ∀ xs : List α, (∀ x ∈ xs, g (enc x) = some (some (out x))) → mapO g (xs.map enc) = some (xs.map out)
 | [], _ => rfl
 | x :: xs, h => by
  show (match g (enc x) with | none => none | some o => match mapO g (xs.map enc) with | none => none | some r => some (match o with | some y => y :: r | none => r)) = _
  rw [h x (.head _), mapO_map xs fun y hy => h y (.tail _ hy)]
  rfl
def ltF (x y : Int × Int) : Bool := decide (x.1 * y.2 < y.1 * x.2)
def best (b : Int × Int) : List (Int × Int) → Int × Int
 | [] => b
 | x :: r => best (if ltF b x = true then x else b) r
def FSz (n : Nat) (x : Int × Int) : Prop := Sz n x.1 ∧ Sz n x.2
def Good (n : Nat) (x : Int × Int) : Prop := 1 ≤ x.2 ∧ Sz n x.1 ∧ Sz n x.2
theorem Good.fsz {n : Nat} {x : Int × Int} (h : Good n x) : FSz n x := h.2
theorem Good.mono {m n : Nat} {x : Int × Int} (h : Good m x) (l : m ≤ n) : Good n x := ⟨h.1, h.2.1.mono l, h.2.2.mono l⟩
theorem mk_good {n : Nat} {t b : Int} (ht : Sz n t) (hb : Sz n b) (h0 : b ≠ 0) : Good n (FR.mk t b) := ⟨(FR.mk_fr h0).1.pos, Sz.le ht (natAbs_fdiv_le _ _), Sz.le hb (natAbs_fdiv_le _ _)⟩
def hT (i : Int) (x : Int × Int) : Int × Int := FR.mk (i * x.1) (1 * x.2)
def hP (x y : Int × Int) : Int × Int := FR.mk (x.1 * y.2 + y.1 * x.2) (x.2 * y.2)
theorem good_T {m n : Nat} {i : Int} {x : Int × Int} (hi : Sz m i) (hx : Good n x) : Good (m + n) (hT i x) :=
 mk_good (Sz.mul hi hx.2.1) (by rw [Int.one_mul]; exact hx.2.2.mono (Nat.le_add_left _ _)) (by have := hx.1; lia)
theorem good_P {m n : Nat} {x y : Int × Int} (hx : Good m x) (hy : Good n y) : Good (m + n + 1) (hP x y) :=
 mk_good (Sz.add (Sz.mul hx.2.1 hy.2.2) ((Sz.mul hy.2.1 hx.2.2).mono (by lia))) ((Sz.mul hx.2.2 hy.2.2).mono (by lia)) (fun z => by
  rcases Int.mul_eq_zero.mp z with q | q
  ·have := hx.1; lia
  ·have := hy.1; lia)
theorem Good.ne {m n : Nat} {x y : Int × Int} (hx : Good m x) (hy : Good n y) : x.2 * y.2 ≠ 0 := fun z => by
 rcases Int.mul_eq_zero.mp z with q | q
 ·have := hx.1; lia
 ·have := hy.1; lia
theorem sz_one : Sz 2000 (1 : Int) := by unfold Sz; exact Nat.one_lt_two_pow (by decide)
open Classical in
def mOf {α : Type} (enc : α → List L) (P : α → Prop) (g : α → Res L) (ls : List L) : Res L := if h : ∃ a, enc a = ls ∧ P a then g h.choose else .bad
theorem mOf_at {α : Type} {enc : α → List L} {P : α → Prop} {g : α → Res L} (inj : ∀ a b, enc a = enc b → a = b) {a : α} (h : P a) : mOf enc P g (enc a) = g a := by
 have hx : ∃ b, enc b = enc a ∧ P b := ⟨a, rfl, h⟩
 unfold mOf
 rw [dif_pos hx, inj _ _ hx.choose_spec.1]
theorem mOf_eq {α : Type} {enc : α → List L} {P : α → Prop} {g : α → Res L} {n : Nat} {f : MS} (h : ∀ a, P a → runF n f (enc a) = g a) : ∀ ls, mOf enc P g ls = .bad ∨ runF n f ls = mOf enc P g ls := by
 intro ls
 unfold mOf
 by_cases hx : ∃ a, enc a = ls ∧ P a
 ·rw [dif_pos hx]
  exact .inr ((congrArg _ hx.choose_spec.1.symm).trans (h _ hx.choose_spec.2))
 ·exact .inl (dif_neg hx)
theorem frI {a b : Int × Int} (h : frD a = frD b) : a = b := Option.some.inj (congrArg frOf h)
theorem plI {a b : Pl} (h : plD a = plD b) : a = b := Option.some.inj (congrArg plOf h)
theorem plsI {a b : List Pl} (h : a.map plD = b.map plD) : a = b := by
 have e := congrArg (decL plOf) h
 rw [decL_map plOf_plD, decL_map plOf_plD] at e
 exact Option.some.inj e
theorem ptI {x y : (Int × Int) × (Int × Int)} (h : PyData.tuple [frD x.1, frD x.2] = .tuple [frD y.1, frD y.2]) : x = y := by
 injection h with h
 injection h with h1 h2
 injection h2 with h2 _
 exact Prod.ext (frI h1) (frI h2)
theorem ix_t0 (a : D) (r : List D) : ixE (.p (.tuple (a :: r))) (.p (.int 0)) = .ok (.p a) := by simp [ixE, seqOf, at0]
theorem ix_t1 (a b : D) (r : List D) : ixE (.p (.tuple (a :: b :: r))) (.p (.int 1)) = .ok (.p b) := by simp [ixE, seqOf, at1]
theorem ix_t2 (a b d : D) (r : List D) : ixE (.p (.tuple (a :: b :: d :: r))) (.p (.int 2)) = .ok (.p d) := by simp [ixE, seqOf, at2]
theorem ix_pl0 (p : Pl) : ixE (.p (plD p)) (.p (.int 0)) = .ok (.p (.int p.1)) := ix_t0 _ _
theorem ix_pl1 (p : Pl) : ixE (.p (plD p)) (.p (.int 1)) = .ok (.p (.int p.2.1)) := ix_t1 _ _ _
theorem ix_pl2 (p : Pl) : ixE (.p (plD p)) (.p (.int 2)) = .ok (.p (frD p.2.2)) := ix_t2 _ _ _ _
theorem ix_fr0 (p : Int × Int) : ixE (.p (frD p)) (.p (.int 0)) = .ok (.p (.int p.1)) := ix_t0 _ _
theorem ix_fr1 (p : Int × Int) : ixE (.p (frD p)) (.p (.int 1)) = .ok (.p (.int p.2)) := ix_t1 _ _ _
section
variable {κ α : Type} [DecidableEq κ]
def aget : List (κ × α) → κ → Option α
 | [], _ => none
 | p :: r, k => if p.1 = k then some p.2 else aget r k
def aset (k : κ) (v : α) : List (κ × α) → List (κ × α)
 | [] => []
 | p :: r => (if p.1 = k then (p.1, v) else p) :: aset k v r
def aput (m : List (κ × α)) (k : κ) (v : α) : List (κ × α) := if (aget m k).isSome = true then aset k v m else m ++ [(k, v)]
def encM (ek : κ → D) (ev : α → D) (m : List (κ × α)) : List (D × D) := m.map fun p => (ek p.1, ev p.2)
variable {ek : κ → D} {ev : α → D} (inj : ∀ a b, ek a = ek b → a = b)
include inj
theorem kget_enc (k : κ) : ∀ m : List (κ × α), kget (encM ek ev m) (ek k) = (aget m k).map ev
 | [] => rfl
 | p :: r => by
  unfold encM
  rw [List.map_cons]
  unfold kget aget
  by_cases e : p.1 = k
  ·rw [if_pos (by rw [e]), if_pos e]; rfl
  ·rw [if_neg (fun z => e (inj _ _ z)), if_neg e]
   exact kget_enc k r
theorem kset_enc (k : κ) (v : α) : ∀ m : List (κ × α), kset (ek k) (ev v) (encM ek ev m) = encM ek ev (aset k v m)
 | [] => rfl
 | p :: r => by
  have ih := kset_enc k v r
  unfold encM at ih ⊢
  rw [List.map_cons]
  unfold kset aset
  rw [List.map_cons, ih]
  by_cases e : p.1 = k
  ·rw [if_pos (by rw [e]), if_pos e]
  ·rw [if_neg (fun z => e (inj _ _ z)), if_neg e]
theorem kput_enc (k : κ) (v : α) (m : List (κ × α)) : kput (encM ek ev m) (ek k) (ev v) = encM ek ev (aput m k v) := by
 unfold kput aput
 rw [kget_enc inj]
 cases e : aget m k with
 | none =>
  rw [if_neg (by simp), if_neg (by simp)]
  unfold encM
  rw [List.map_append]
  rfl
 | some x =>
  rw [if_pos (by rfl), if_pos (by rfl)]
  exact kset_enc inj k v m
end
theorem slD_inj (a b : Int × Int) (h : slD a = slD b) : a = b := by
 unfold slD at h
 injection h with h
 injection h with h1 h2
 injection h2 with h2 _
 injection h1 with h1
 injection h2 with h2
 exact Prod.ext h1 h2
theorem dsp_sl {α : Type} {ev : α → D} (m : List ((Int × Int) × α)) : dsp (encM slD ev m) = (false, encM slD ev m) := by
 cases m <;> rfl
theorem keyT_sl (s : Int × Int) : (keyT (slD s)).isSome = true := rfl
theorem dlook_sl {α : Type} {ev : α → D} (m : List ((Int × Int) × α)) (s : Int × Int) : dlook (encM slD ev m) (slD s) = some ((aget m s).map ev) := by
 unfold dlook
 rw [dsp_sl]
 dsimp only
 rw [if_pos (keyT_sl s), kget_enc slD_inj]
theorem dput_sl {α : Type} {ev : α → D} (m : List ((Int × Int) × α)) (s : Int × Int) (v : α) (h : m.length ≤ 100000) : dputD (encM slD ev m) (slD s) (ev v) = some (encM slD ev (aput m s v)) := by
 unfold dputD
 rw [dsp_sl]
 dsimp only
 rw [if_pos ⟨keyT_sl s, by unfold encM; rw [List.length_map]; exact h⟩, kput_enc slD_inj]
theorem aget_aset {α κ : Type} [DecidableEq κ] (k : κ) (v : α) (j : κ) : ∀ m : List (κ × α), aget (aset k v m) j = if j = k then (aget m k).map (fun _ => v) else aget m j
 | [] => by unfold aset aget; split <;> rfl
 | p :: r => by
  have ih := aget_aset k v j r
  unfold aset aget
  by_cases e : p.1 = k
  ·rw [if_pos e]
   by_cases e2 : p.1 = j
   ·have : j = k := by rw [← e2, e]
    rw [if_pos e2, if_pos this, if_pos e]; rfl
   ·have : j ≠ k := fun z => e2 (by rw [e, z])
    rw [if_neg e2, if_neg this, if_neg e2]
    rw [if_neg this] at ih
    exact ih
  ·rw [if_neg e]
   by_cases e2 : p.1 = j
   ·have : j ≠ k := fun z => e (by rw [e2, z])
    rw [if_pos e2, if_neg this, if_pos e2]
   ·rw [if_neg e2, ih]
    by_cases e3 : j = k
    ·rw [if_pos e3, if_pos e3, if_neg e]
    ·rw [if_neg e3, if_neg e3, if_neg e2]
theorem aget_app {α κ : Type} [DecidableEq κ] (j : κ) (l : List (κ × α)) : ∀ m : List (κ × α), aget (m ++ l) j = match aget m j with
  | some x => some x
  | none => aget l j
 | [] => rfl
 | p :: r => by
  have ih := aget_app j l r
  rw [List.cons_append]
  show (if p.1 = j then some p.2 else aget (r ++ l) j) = match (if p.1 = j then some p.2 else aget r j) with
   | some x => some x
   | none => aget l j
  by_cases e : p.1 = j
  ·rw [if_pos e, if_pos e]
  ·rw [if_neg e, if_neg e]; exact ih
theorem aget_aput {α κ : Type} [DecidableEq κ] (m : List (κ × α)) (k : κ) (v : α) (j : κ) : aget (aput m k v) j = if j = k then some v else aget m j := by
 unfold aput
 cases e : aget m k with
 | none =>
  rw [if_neg (by simp), aget_app]
  by_cases ej : j = k
  ·subst ej; rw [e, if_pos rfl]; unfold aget; rw [if_pos rfl]
  ·rw [if_neg ej]
   cases e2 : aget m j with
   | some x => rfl
   | none => unfold aget; rw [if_neg (fun z => ej z.symm)]; rfl
 | some x =>
  rw [if_pos (by rfl), aget_aset]
  by_cases ej : j = k
  ·rw [if_pos ej, if_pos ej, e]; rfl
  ·rw [if_neg ej, if_neg ej]
def slp (p : Pl) : Int × Int := (p.1, p.2.1)
def kys {α : Type} (m : List ((Int × Int) × α)) : List (List Int) := m.map fun e => [e.1.1, e.1.2]
def un2 (k : List Int) : Int × Int := (k.getD 0 0, k.getD 1 0)
def pget {α : Type} (m : List ((Int × Int) × α)) (d : α) (k : List Int) : α := (aget m (un2 k)).getD d
theorem keys_enc {α : Type} {ev : α → D} (m : List ((Int × Int) × α)) : (encM slD ev m).map (·.1) = (kys m).map tupD := by
 unfold encM kys
 rw [List.map_map, List.map_map]
 rfl
theorem kys_ne {α : Type} (m : List ((Int × Int) × α)) : ((kys m).all fun k => !k.isEmpty) = true := by
 unfold kys
 rw [List.all_map]
 exact List.all_eq_true.mpr fun _ _ => rfl
theorem sorted_sl {α : Type} {ev : α → D} (m : List ((Int × Int) × α)) (h : m.length < 64) : sortedDE [.p (.dict (encM slD ev m))] = .ok (.f (.list ((sortK (kys m)).map tupD))) := by
 unfold sortedDE
 simp only [dctOf, dsp_sl, keys_enc, keysD_map]
 rw [if_pos trivial, if_pos ⟨kys_ne m, by unfold kys; rw [List.length_map]; exact h⟩]
theorem aget_mem {α κ : Type} [DecidableEq κ] : ∀ {m : List (κ × α)} {e : κ × α}, e ∈ m → ∃ v, aget m e.1 = some v
 | p :: r, e, h => by
  unfold aget
  by_cases q : p.1 = e.1
  ·rw [if_pos q]; exact ⟨_, rfl⟩
  ·rw [if_neg q]
   rcases List.mem_cons.mp h with z | z
   ·exact absurd (by rw [z]) q
   ·exact aget_mem z
theorem key_in {α : Type} {m : List ((Int × Int) × α)} {k : List Int} (h : k ∈ sortK (kys m)) (d : α) : tupD k = slD (un2 k) ∧ k = [(un2 k).1, (un2 k).2] ∧ aget m (un2 k) = some (pget m d k) := by
 have h1 := (sortK_perm (kys m)).mem_iff.mp h
 obtain ⟨e, he, rfl⟩ := List.mem_map.mp h1
 obtain ⟨v, hv⟩ := aget_mem he
 have hu : un2 [e.1.1, e.1.2] = e.1 := rfl
 refine ⟨rfl, rfl, ?_⟩
 unfold pget
 rw [hu, hv]
 rfl
theorem bls_map {α : Type} (f : α → Bool) : ∀ xs : List α, blsOf (xs.map fun x => PyData.bool (f x)) = some (xs.map f)
 | [] => rfl
 | x :: xs => by
  show (match blsOf (xs.map fun x => PyData.bool (f x)) with | some bs => some (f x :: bs) | none => none) = _
  rw [bls_map f xs]
  rfl
theorem any_map {α : Type} (f : α → Bool) (xs : List α) : (xs.map f).any id = xs.any f := by rw [List.any_map]; rfl
theorem sz_of {x : Int} (n : Nat) (h : x.natAbs < 2 ^ n) : Sz n x := h
theorem fmod_pos {a b : Int} (hb : 0 < b) : 0 ≤ a.fmod b ∧ a.fmod b < b := by
 rw [Int.fmod_eq_emod_of_nonneg a (Int.le_of_lt hb)]
 exact ⟨Int.emod_nonneg a (by lia), Int.emod_lt_of_pos a hb⟩
theorem seq_nx {f g : MS} {en e1 : En} (h : f en = some (.nx e1)) : mSeq f g en = g e1 := by unfold mSeq; rw [h]
theorem seq_rt {f g : MS} {en : En} {l : L} (h : f en = some (.rt l)) : mSeq f g en = some (.rt l) := by unfold mSeq; rw [h]
theorem set_p {i : Nat} {fe : En → Res Ev} {en : En} {d : D} (h : fe en = .ok (.p d)) : mSet i fe en = some (.nx (en.set i (some (.p d)))) := by unfold mSet; rw [h]
theorem set_f {i : Nat} {fe : En → Res Ev} {en : En} {d : D} (h : fe en = .ok (.f d)) : mSet i fe en = some (.nx (en.set i (some (.o d)))) := by unfold mSet; rw [h]
theorem if_t {ft : En → Res Bool} {f g : MS} {en : En} (h : ft en = .ok true) : mIfS ft f g en = f en := by unfold mIfS; rw [h]; rfl
theorem if_f {ft : En → Res Bool} {f g : MS} {en : En} (h : ft en = .ok false) : mIfS ft f g en = g en := by unfold mIfS; rw [h]; rfl
theorem run_rt {n : Nat} {f : MS} {ls : List L} {l : L} (h : f (startE n ls) = some (.rt l)) : runF n f ls = .ok l := by unfold runF; rw [h]
theorem can_all {α : Type} (f : α → D) (h : ∀ a, PyData.canLay0 (f a) = true) : ∀ xs : List α, PyData.canLayAll0 (xs.map f) = true
 | [] => rfl
 | x :: xs => by rw [List.map_cons, PyData.canLayAll0, h x, can_all f h xs]; rfl
theorem dep_all {α : Type} (f : α → D) (n : Nat) (h : ∀ a, PyData.depth (f a) ≤ n) : ∀ xs : List α, PyData.depthAll (xs.map f) ≤ n
 | [] => Nat.zero_le _
 | x :: xs => by
  rw [List.map_cons, PyData.depthAll]
  exact Nat.max_le.mpr ⟨h x, dep_all f n h xs⟩
theorem can_pl (p : Pl) : PyData.canLay0 (plD p) = true := by simp [plD, frD, PyData.canLay0, PyData.canLayAll0]
theorem dep_pl (p : Pl) : PyData.depth (plD p) ≤ 9 := by simp [plD, frD, PyData.depth, PyData.depthAll]
theorem sh_list {α : Type} (f : α → D) (h1 : ∀ a, PyData.canLay0 (f a) = true) (h2 : ∀ a, PyData.depth (f a) ≤ 9) (xs : List α) : SeqAt.shaped (.list (xs.map f)) = true := by
 have a : PyData.canLay0 (.list (xs.map f)) = true := by rw [PyData.canLay0]; exact can_all f h1 xs
 have b : PyData.depth (.list (xs.map f)) ≤ 64 := by
  rw [PyData.depth]
  have := dep_all f 9 h2 xs
  lia
 unfold SeqAt.shaped
 rw [a, decide_eq_true b]
 rfl
theorem eqE_same {x y : Ev} {d : D} (h1 : dat x = some d) (h2 : dat y = some d) (hs : SeqAt.shaped d = true) (ng : Bool) : eqE ng x y = .ok (.p (.bool (!ng))) := by
 have hc : PyData.canLay0 d = true := by
  unfold SeqAt.shaped at hs
  exact (Bool.and_eq_true_iff.mp hs).1
 unfold eqE
 rw [h1, h2]
 dsimp only
 rw [if_pos ⟨hs, hs⟩, SeqAt.eqv_refl d hc]
 cases ng <;> rfl
theorem sh_pls (ps : List Pl) : SeqAt.shaped (.list (ps.map plD)) = true := sh_list plD can_pl dep_pl ps
theorem for_l {fi : En → Res (List D)} {tg : D → En → Option En} {f : MS} {en : En} {ds : List D} (h : fi en = .ok ds) : mFor fi tg f en = mLoop tg f ds en := by unfold mFor; rw [h]
theorem mapO_flt {α : Type} {g : D → Option (Option D)} {enc : α → D} {out : α → D} {p : α → Bool} : ∀ xs : List α, (∀ x ∈ xs, g (enc x) = some (if p x = true then some (out x) else none)) → mapO g (xs.map enc) = some ((xs.filter p).map out)
 | [], _ => rfl
 | x :: xs, h => by
  show (match g (enc x) with | none => none | some o => match mapO g (xs.map enc) with | none => none | some r => some (match o with | some y => y :: r | none => r)) = _
  rw [h x (.head _), mapO_flt xs fun y hy => h y (.tail _ hy), List.filter_cons]
  cases p x <;> rfl
theorem zipL_map {α : Type} (f g : α → D) : ∀ xs : List α, zipL (xs.map f) (xs.map g) = xs.map fun x => .tuple [f x, g x]
 | [] => rfl
 | x :: xs => by
  show PyData.tuple [f x, g x] :: zipL (xs.map f) (xs.map g) = _
  rw [zipL_map f g xs]
  rfl
theorem eqv_fr (x y : Int × Int) : PyData.eqv (frD x) (frD y) = decide (x = y) := by
 have : PyData.eqv (frD x) (frD y) = (x.1 == y.1 && (x.2 == y.2 && true)) := by simp [frD, PyData.eqv, PyData.eqvAll]
 rw [this]
 by_cases h : x = y
 ·subst h; simp
 ·rw [decide_eq_false h]
  by_cases h1 : x.1 = y.1
  ·have h2 : ¬ x.2 = y.2 := fun h2 => h (Prod.ext h1 h2)
   simp [h1, h2]
  ·simp [h1]
theorem lf_fr (x : Int × Int) : lfD (frD x) = true := by simp [frD, lfD, lfA]
theorem Sz.addM {m n : Nat} {x y : Int} (hx : Sz m x) (hy : Sz n y) : Sz (max m n + 1) (x + y) := Sz.add (hx.mono (Nat.le_max_left _ _)) (hy.mono (Nat.le_max_right _ _))
theorem Sz.subM {m n : Nat} {x y : Int} (hx : Sz m x) (hy : Sz n y) : Sz (max m n + 1) (x - y) := Sz.sub (hx.mono (Nat.le_max_left _ _)) (hy.mono (Nat.le_max_right _ _))
theorem sz_lit4 {x : Int} (h : x.natAbs < 2 ^ 4) : Sz 4 x := h
theorem sz_lit70 {x : Int} (h : x.natAbs < 2 ^ 70) : Sz 70 x := h
theorem sz_lit {x : Int} (h : x.natAbs < 2 ^ 20) : Sz 20 x := h
theorem sz_big {x : Int} (h : x.natAbs < 2 ^ 200) : Sz 200 x := h
theorem sz_fmod {n : Nat} {a b : Int} (h : 0 < b) (hb : Sz n b) : Sz n (a.fmod b) := by
 have := fmod_pos (a := a) h
 exact Sz.le hb (by lia)
theorem sz_fdiv {n : Nat} {a b : Int} (ha : Sz n a) : Sz n (a.fdiv b) := Sz.le ha (natAbs_fdiv_le _ _)
theorem cm2 {m n : Nat} {i j : Int} (h1 : Sz m i) (h2 : Sz n j) (hm : m ≤ 60000) (hn : n ≤ 60000) : CMulW i j := ⟨h1.mono hm, h2.mono hn⟩
theorem cd2 {m : Nat} {j : Int} (i : Int) (h0 : j ≠ 0) (h1 : Sz m j) (hm : m ≤ 8000) : CDivW i j := ⟨h0, h1.mono hm⟩
theorem mul_ok {i j : Int} (h : CMulW i j) : mulE (.p (.int i)) (.p (.int j)) = .ok (.p (.int (i * j))) := by simp [mulE, intE, h]
theorem fdiv_ok {i j : Int} (h : CDivW i j) : fdivE (.p (.int i)) (.p (.int j)) = .ok (.p (.int (i.fdiv j))) := by simp [fdivE, intE, h]
theorem mod_ok {i j : Int} (h : j ≠ 0) : modE (.p (.int i)) (.p (.int j)) = .ok (.p (.int (i.fmod j))) := by simp [modE, intE, h]
theorem pow_ok {i j : Int} (h : CPow i j) : powE (.p (.int i)) (.p (.int j)) = .ok (.p (.int (i ^ j.toNat))) := by simp [powE, intE, h]
def eII (a : Int × Int) : List L := [.p (.int a.1), .p (.int a.2)]
theorem eII_inj (a b : Int × Int) (h : eII a = eII b) : a = b := by
 unfold eII at h
 injection h with h1 h2
 injection h2 with h2 _
 injection h1 with h1
 injection h2 with h2
 injection h1 with h1
 injection h2 with h2
 exact Prod.ext h1 h2
theorem frsI {a b : List (Int × Int)} (h : a.map frD = b.map frD) : a = b := by
 have e := congrArg (decL frOf) h
 rw [decL_map frOf_frD, decL_map frOf_frD] at e
 exact Option.some.inj e
def eFs (hs : List (Int × Int)) : List L := [.p (.list (hs.map frD))]
theorem eFs_inj (a b : List (Int × Int)) (h : eFs a = eFs b) : a = b := by
 unfold eFs at h
 injection h with h _
 injection h with h
 injection h with h
 exact frsI h
def eFF (a : (Int × Int) × (Int × Int)) : List L := [.p (frD a.1), .p (frD a.2)]
theorem eFF_inj (a b : (Int × Int) × (Int × Int)) (h : eFF a = eFF b) : a = b := by
 unfold eFF at h
 injection h with h1 h2
 injection h2 with h2 _
 injection h1 with h1
 injection h2 with h2
 exact Prod.ext (frI h1) (frI h2)
abbrev Pt := (Int × Int) × (Int × Int)
theorem bind_ok {α β : Type} (a : α) (f : α → Res β) : (Res.ok a).bind f = f a := rfl
theorem ret_f {fe : En → Res Ev} {en : En} {d : D} (h : fe en = .ok (.f d)) : mRet fe en = some (.rt (.o d)) := by unfold mRet; rw [h]; rfl
theorem ret_p {fe : En → Res Ev} {en : En} {d : D} (h : fe en = .ok (.p d)) : mRet fe en = some (.rt (.p d)) := by unfold mRet; rw [h]; rfl
theorem comp_l {n : Nat} {js : List Nat} {fi : En → Res (List D)} {tg : D → En → Option En} {ft : En → Res Bool} {fe : En → Res Ev} {en : En} {ds es : List D} (h1 : fi en = .ok ds) (h2 : ds.length ≤ 100000) (h3 : mapO (compItem n js tg ft fe en) ds = some es) : mComp n js fi tg ft fe en = .ok (.f (.list es)) := by
 unfold mComp
 rw [h1, bind_ok]
 unfold compR
 rw [if_pos h2, h3]
theorem loop_inv {tg : D → En → Option En} {f : MS} (I : Nat → En → Prop) : ∀ (ds : List D) (k : Nat) (en : En), I k en → (∀ j d e, ds[j]? = some d → I (k + j) e → ∃ e1 e2, tg d e = some e1 ∧ f e1 = some (.nx e2) ∧ I (k + j + 1) e2) → ∃ e', I (k + ds.length) e' ∧ mLoop tg f ds en = some (.nx e')
 | [], k, en, h, _ => ⟨en, h, rfl⟩
 | d :: ds, k, en, h, st => by
  obtain ⟨e1, e2, h1, h2, h3⟩ := st 0 d en rfl h
  obtain ⟨e', g1, g2⟩ := loop_inv I ds (k + 1) e2 h3 fun j d' e hd hi => by
   have := st (j + 1) d' e hd (by rw [show k + (j + 1) = k + 1 + j by lia]; exact hi)
   rw [show k + (j + 1) + 1 = k + 1 + j + 1 by lia] at this
   exact this
  refine ⟨e', by rw [show k + (d :: ds).length = k + 1 + ds.length by rw [List.length_cons]; lia]; exact g1, ?_⟩
  unfold mLoop
  rw [h1]
  dsimp only
  rw [h2]
  exact g2
theorem rng_get (lo : Int) (n j : Nat) (d : D) (h : (rngL lo n)[j]? = some d) : j < n ∧ d = .int (lo + (j : Int)) := by
 unfold rngL at h
 rw [List.getElem?_map, Option.map_eq_some_iff] at h
 obtain ⟨a, h1, h2⟩ := h
 have q : j < n := by
  by_cases q : j < n
  ·exact q
  ·rw [List.getElem?_eq_none (by simp; lia)] at h1; cases h1
 rw [List.getElem?_range q] at h1
 cases h1
 exact ⟨q, h2.symm⟩
def leF (x y : Int × Int) : Prop := x.1 * y.2 ≤ y.1 * x.2
theorem leF_refl (x : Int × Int) : leF x x := Int.le_refl _
theorem leF_of {x y : Int × Int} (h : ltF y x = false) : leF x y := by
 unfold ltF at h
 have := of_decide_eq_false h
 unfold leF
 lia
theorem leF_lt {x y : Int × Int} (h : ltF x y = true) : leF x y := by
 unfold ltF at h
 have := of_decide_eq_true h
 unfold leF
 lia
theorem leF_trans {x y z : Int × Int} (hx : 1 ≤ x.2) (hy : 1 ≤ y.2) (hz : 1 ≤ z.2) (h1 : leF x y) (h2 : leF y z) : leF x z := by
 unfold leF at *
 have a := Int.mul_le_mul_of_nonneg_right h1 (show 0 ≤ z.2 by lia)
 have b := Int.mul_le_mul_of_nonneg_right h2 (show 0 ≤ x.2 by lia)
 refine Int.le_of_mul_le_mul_right (a := y.2) ?_ (by lia)
 have e1 : x.1 * z.2 * y.2 = x.1 * y.2 * z.2 := by ac_rfl
 have e2 : z.1 * x.2 * y.2 = z.1 * y.2 * x.2 := by ac_rfl
 have e3 : y.1 * x.2 * z.2 = y.1 * z.2 * x.2 := by ac_rfl
 lia
theorem best_mem : ∀ (xs : List (Int × Int)) (b : Int × Int), best b xs = b ∨ best b xs ∈ xs
 | [], b => .inl rfl
 | x :: xs, b => by
  show best (if ltF b x = true then x else b) xs = b ∨ best (if ltF b x = true then x else b) xs ∈ x :: xs
  rcases best_mem xs (if ltF b x = true then x else b) with h | h
  ·rw [h]
   split
   ·exact .inr (.head _)
   ·exact .inl rfl
  ·exact .inr (.tail _ h)
theorem best_ge : ∀ (xs : List (Int × Int)) (b : Int × Int), 1 ≤ b.2 → (∀ x ∈ xs, 1 ≤ x.2) → leF b (best b xs) ∧ (∀ x ∈ xs, leF x (best b xs)) ∧ 1 ≤ (best b xs).2
 | [], b, h, _ => ⟨leF_refl b, (fun _ z => nomatch z), h⟩
 | x :: xs, b, h, hx => by
  have hx0 := hx x (.head _)
  have hb2 : 1 ≤ (if ltF b x = true then x else b).2 := by split <;> assumption
  have g : best b (x :: xs) = best (if ltF b x = true then x else b) xs := rfl
  obtain ⟨i1, i2, i3⟩ := best_ge xs (if ltF b x = true then x else b) hb2 fun y hy => hx y (.tail _ hy)
  rw [g]
  have l1 : leF b (if ltF b x = true then x else b) := by
   split
   ·rename_i z; exact leF_lt z
   ·exact leF_refl b
  have l2 : leF x (if ltF b x = true then x else b) := by
   split
   ·exact leF_refl x
   ·rename_i z; exact leF_of (by simpa using z)
  refine ⟨leF_trans h hb2 i3 l1 i1, fun y hy => ?_, i3⟩
  rcases List.mem_cons.mp hy with z | z
  ·rw [z]; exact leF_trans hx0 hb2 i3 l2 i1
  ·exact i2 y z
structure AF (x y : Int × Int) : Prop where
 a : 1 ≤ x.2
 b : 1 ≤ y.2
 e : x.1 * y.2 = y.1 * x.2
theorem AF.refl {x : Int × Int} (h : 1 ≤ x.2) : AF x x := ⟨h, h, rfl⟩
theorem pos_mul {x y : Int} (hx : 1 ≤ x) (hy : 1 ≤ y) : 1 ≤ x * y := by
 have := Int.mul_pos (show 0 < x by lia) (show 0 < y by lia)
 lia
theorem af_mk {t b : Int} {y : Int × Int} (hb : 1 ≤ b) (hy : 1 ≤ y.2) (h : t * y.2 = y.1 * b) : AF (FR.mk t b) y := by
 obtain ⟨f1, e1⟩ := FR.mk_fr (t := t) (b := b) (by lia)
 refine ⟨f1.pos, hy, ?_⟩
 have h2 : (FR.mk t b).1 * y.2 * b = y.1 * (FR.mk t b).2 * b := by
  have e3 : (FR.mk t b).1 * y.2 * b = (FR.mk t b).1 * b * y.2 := by ac_rfl
  rw [e3, e1]
  have e4 : t * (FR.mk t b).2 * y.2 = t * y.2 * (FR.mk t b).2 := by ac_rfl
  rw [e4, h]
  ac_rfl
 exact Int.eq_of_mul_eq_mul_right (by lia) h2
theorem af_P {x x' y y' : Int × Int} (h : AF x x') (g : AF y y') : AF (hP x y) (x'.1 * y'.2 + y'.1 * x'.2, x'.2 * y'.2) := by
 obtain ⟨a, b, e⟩ := h
 obtain ⟨a2, b2, e2⟩ := g
 refine af_mk (pos_mul a a2) (pos_mul b b2) ?_
 show (x.1 * y.2 + y.1 * x.2) * (x'.2 * y'.2) = (x'.1 * y'.2 + y'.1 * x'.2) * (x.2 * y.2)
 rw [Int.add_mul, Int.add_mul]
 have e3 : x.1 * y.2 * (x'.2 * y'.2) = x.1 * x'.2 * (y.2 * y'.2) := by ac_rfl
 have e4 : y.1 * x.2 * (x'.2 * y'.2) = y.1 * y'.2 * (x.2 * x'.2) := by ac_rfl
 rw [e3, e4, e, e2]
 have e5 : x'.1 * x.2 * (y.2 * y'.2) = x'.1 * y'.2 * (x.2 * y.2) := by ac_rfl
 have e6 : y'.1 * y.2 * (x.2 * x'.2) = y'.1 * x'.2 * (x.2 * y.2) := by ac_rfl
 rw [e5, e6]
theorem af_lt {x x' y y' : Int × Int} (h : AF x x') (g : AF y y') : ltF x y = ltF x' y' := by
 obtain ⟨a, b, e⟩ := h
 obtain ⟨a2, b2, e2⟩ := g
 unfold ltF
 have k : (y.1 * x.2 - x.1 * y.2) * (x'.2 * y'.2) = (y'.1 * x'.2 - x'.1 * y'.2) * (x.2 * y.2) := by
  rw [Int.sub_mul, Int.sub_mul]
  have e3 : y.1 * x.2 * (x'.2 * y'.2) = y.1 * y'.2 * (x.2 * x'.2) := by ac_rfl
  have e4 : x.1 * y.2 * (x'.2 * y'.2) = x.1 * x'.2 * (y.2 * y'.2) := by ac_rfl
  rw [e3, e4, e, e2]
  have e5 : y'.1 * y.2 * (x.2 * x'.2) = y'.1 * x'.2 * (x.2 * y.2) := by ac_rfl
  have e6 : x'.1 * x.2 * (y.2 * y'.2) = x'.1 * y'.2 * (x.2 * y.2) := by ac_rfl
  rw [e5, e6]
 have p1 := pos_mul b b2
 have p2 := pos_mul a a2
 have iff : 0 < (y.1 * x.2 - x.1 * y.2) ↔ 0 < (y'.1 * x'.2 - x'.1 * y'.2) := by
  constructor
  ·intro q
   have := Int.mul_pos q (show 0 < x'.2 * y'.2 by lia)
   rw [k] at this
   exact Int.pos_of_mul_pos_left this (by lia)
  ·intro q
   have := Int.mul_pos q (show 0 < x.2 * y.2 by lia)
   rw [← k] at this
   exact Int.pos_of_mul_pos_left this (by lia)
 rw [decide_eq_decide]
 constructor
 ·intro q; have := iff.mp (by lia); lia
 ·intro q; have := iff.mpr (by lia); lia
abbrev R2 := Int × Int
abbrev R3 := Int × Int × Int
def hM (x y : Int × Int) : Int × Int := FR.mk (x.1 * y.2 - y.1 * x.2) (x.2 * y.2)
def hO (x y : Int × Int) : Int × Int := FR.mk (x.1 * y.2) (x.2 * y.1)
def worst (b : Int × Int) : List (Int × Int) → Int × Int
 | [] => b
 | x :: r => worst (if ltF x b = true then x else b) r
theorem worst_mem : ∀ (xs : List (Int × Int)) (b : Int × Int), worst b xs = b ∨ worst b xs ∈ xs
 | [], b => .inl rfl
 | x :: xs, b => by
  show worst (if ltF x b = true then x else b) xs = b ∨ worst (if ltF x b = true then x else b) xs ∈ x :: xs
  rcases worst_mem xs (if ltF x b = true then x else b) with h | h
  ·rw [h]
   split
   ·exact .inr (.head _)
   ·exact .inl rfl
  ·exact .inr (.tail _ h)
theorem worst_le : ∀ (xs : List (Int × Int)) (b : Int × Int), 1 ≤ b.2 → (∀ x ∈ xs, 1 ≤ x.2) → leF (worst b xs) b ∧ (∀ x ∈ xs, leF (worst b xs) x) ∧ 1 ≤ (worst b xs).2
 | [], b, h, _ => ⟨leF_refl b, (fun _ z => nomatch z), h⟩
 | x :: xs, b, h, hx => by
  have hx0 := hx x (.head _)
  have hb2 : 1 ≤ (if ltF x b = true then x else b).2 := by split <;> assumption
  have g : worst b (x :: xs) = worst (if ltF x b = true then x else b) xs := rfl
  obtain ⟨i1, i2, i3⟩ := worst_le xs (if ltF x b = true then x else b) hb2 fun y hy => hx y (.tail _ hy)
  rw [g]
  have l1 : leF (if ltF x b = true then x else b) b := by
   split
   ·rename_i z; exact leF_lt z
   ·exact leF_refl b
  have l2 : leF (if ltF x b = true then x else b) x := by
   split
   ·exact leF_refl x
   ·rename_i z; exact leF_of (by simpa using z)
  refine ⟨leF_trans i3 hb2 h i1 l1, fun y hy => ?_, i3⟩
  rcases List.mem_cons.mp hy with z | z
  ·rw [z]; exact leF_trans i3 hb2 hx0 i1 l2
  ·exact i2 y z
theorem lt_le {x y z : Int × Int} (hx : 1 ≤ x.2) (hy : 1 ≤ y.2) (hz : 1 ≤ z.2) (h1 : ltF x y = true) (h2 : leF y z) : ltF x z = true := by
 cases e : ltF x z with
 | true => rfl
 | false =>
  have := leF_trans hy hz hx h2 (leF_of e)
  unfold ltF at h1
  have := of_decide_eq_true h1
  unfold leF at *
  lia
theorem le_lt {x y z : Int × Int} (hx : 1 ≤ x.2) (hy : 1 ≤ y.2) (hz : 1 ≤ z.2) (h1 : leF x y) (h2 : ltF y z = true) : ltF x z = true := by
 cases e : ltF x z with
 | true => rfl
 | false =>
  have := leF_trans hz hx hy (leF_of e) h1
  unfold ltF at h2
  have := of_decide_eq_true h2
  unfold leF at *
  lia
theorem sgn_iff {p q a b : Int} (hp : 0 < p) (hq : 0 < q) (e : p * a = q * b) : 0 < a ↔ 0 < b := by
 constructor
 ·intro h
  have := Int.mul_pos hp h
  rw [e] at this
  exact Int.pos_of_mul_pos_right this (by lia)
 ·intro h
  have := Int.mul_pos hq h
  rw [← e] at this
  exact Int.pos_of_mul_pos_right this (by lia)
def Sat (rows : List R2) (x : Int × Int) : Prop := 1 ≤ x.2 ∧ ∀ r ∈ rows, 0 < r.1 * x.1 + r.2 * x.2
def C2 (rows : List R2) : Prop := (∀ r ∈ rows, r.1 = 0 → 0 < r.2) ∧ ∀ r ∈ rows, ∀ s ∈ rows, 0 < r.1 → s.1 < 0 → 0 < r.1 * s.2 - s.1 * r.2
theorem sat_C {rows : List R2} {x : Int × Int} (h : Sat rows x) : C2 rows := by
 obtain ⟨h1, h2⟩ := h
 refine ⟨fun r hr e => ?_, fun r hr s hs hr0 hs0 => ?_⟩
 ·have := h2 r hr
  rw [e, Int.zero_mul, Int.zero_add] at this
  exact Int.pos_of_mul_pos_left this (by lia)
 ·have a := Int.mul_pos hr0 (h2 s hs)
  have b := Int.mul_pos (show 0 < -s.1 by lia) (h2 r hr)
  have e : x.2 * (r.1 * s.2 - s.1 * r.2) = r.1 * (s.1 * x.1 + s.2 * x.2) + -s.1 * (r.1 * x.1 + r.2 * x.2) := by grind
  have : 0 < x.2 * (r.1 * s.2 - s.1 * r.2) := by rw [e]; lia
  exact Int.pos_of_mul_pos_right this (by lia)
def nil0 (r : R2) : Int × Int := FR.mk (-r.2) r.1
theorem nil0_e {r : R2} (h : r.1 ≠ 0) : 1 ≤ (nil0 r).2 ∧ (nil0 r).1 * r.1 = -r.2 * (nil0 r).2 := by
 obtain ⟨f, e⟩ := FR.mk_fr (t := -r.2) h
 exact ⟨f.pos, e⟩
theorem low_iff {r : R2} (h : 0 < r.1) (x : Int × Int) : ltF (nil0 r) x = true ↔ 0 < r.1 * x.1 + r.2 * x.2 := by
 obtain ⟨p, e⟩ := nil0_e (r := r) (by lia)
 have k := sgn_iff (p := r.1) (q := (nil0 r).2) (a := x.1 * (nil0 r).2 - (nil0 r).1 * x.2) (b := r.1 * x.1 + r.2 * x.2) h (by lia) (by grind)
 unfold ltF
 rw [decide_eq_true_iff, ← k]
 lia
theorem high_iff {r : R2} (h : r.1 < 0) (x : Int × Int) : ltF x (nil0 r) = true ↔ 0 < r.1 * x.1 + r.2 * x.2 := by
 obtain ⟨p, e⟩ := nil0_e (r := r) (by lia)
 have k := sgn_iff (p := -r.1) (q := (nil0 r).2) (a := (nil0 r).1 * x.2 - x.1 * (nil0 r).2) (b := r.1 * x.1 + r.2 * x.2) (by lia) (by lia) (by grind)
 unfold ltF
 rw [decide_eq_true_iff, ← k]
 lia
theorem pair_iff {r s : R2} (hr : 0 < r.1) (hs : s.1 < 0) : ltF (nil0 r) (nil0 s) = true ↔ 0 < r.1 * s.2 - s.1 * r.2 := by
 obtain ⟨p, e⟩ := nil0_e (r := r) (by lia)
 obtain ⟨p2, e2⟩ := nil0_e (r := s) (by lia)
 have k := sgn_iff (p := -s.1 * r.1) (q := (nil0 r).2 * (nil0 s).2) (a := (nil0 s).1 * (nil0 r).2 - (nil0 r).1 * (nil0 s).2) (b := r.1 * s.2 - s.1 * r.2) (Int.mul_pos (by lia) hr) (Int.mul_pos (by lia) (by lia)) (by grind)
 unfold ltF
 rw [decide_eq_true_iff, ← k]
 lia
def lowsOf (rows : List R2) : List (Int × Int) := (rows.filter fun r => decide (0 < r.1)).map nil0
def highsOf (rows : List R2) : List (Int × Int) := (rows.filter fun r => decide (r.1 < 0)).map nil0
def btw (lows highs : List (Int × Int)) : Option (Int × Int) :=
 if lows = [] ∧ highs = [] then some (0, 1)
 else if highs = [] then some (hP (best (lows.headD (0, 1)) lows) (1, 1))
 else if lows = [] then some (hM (worst (highs.headD (0, 1)) highs) (1, 1))
 else if ltF (best (lows.headD (0, 1)) lows) (worst (highs.headD (0, 1)) highs) = true then some (hO (hP (best (lows.headD (0, 1)) lows) (worst (highs.headD (0, 1)) highs)) (2, 1)) else none
def solve (rows : List R2) : Option (Int × Int) := if rows.any (fun r => decide (r.1 = 0) && decide (r.2 ≤ 0)) = true then none else btw (lowsOf rows) (highsOf rows)
theorem head_mem {α : Type} {xs : List α} (d : α) (h : xs ≠ []) : xs.headD d ∈ xs := by
 cases xs with
 | nil => exact absurd rfl h
 | cons p r => exact .head _
theorem best_of {xs : List (Int × Int)} (h : xs ≠ []) (hp : ∀ x ∈ xs, 1 ≤ x.2) : best (xs.headD (0, 1)) xs ∈ xs ∧ (∀ x ∈ xs, leF x (best (xs.headD (0, 1)) xs)) ∧ 1 ≤ (best (xs.headD (0, 1)) xs).2 := by
 have hm := head_mem (0, 1) h
 obtain ⟨a, b, c⟩ := best_ge xs (xs.headD (0, 1)) (hp _ hm) hp
 refine ⟨?_, b, c⟩
 rcases best_mem xs (xs.headD (0, 1)) with z | z
 ·rw [z]; exact hm
 ·exact z
theorem worst_of {xs : List (Int × Int)} (h : xs ≠ []) (hp : ∀ x ∈ xs, 1 ≤ x.2) : worst (xs.headD (0, 1)) xs ∈ xs ∧ (∀ x ∈ xs, leF (worst (xs.headD (0, 1)) xs) x) ∧ 1 ≤ (worst (xs.headD (0, 1)) xs).2 := by
 have hm := head_mem (0, 1) h
 obtain ⟨a, b, c⟩ := worst_le xs (xs.headD (0, 1)) (hp _ hm) hp
 refine ⟨?_, b, c⟩
 rcases worst_mem xs (xs.headD (0, 1)) with z | z
 ·rw [z]; exact hm
 ·exact z
theorem af_M1 {x : Int × Int} (h : 1 ≤ x.2) : AF (hM x (1, 1)) (x.1 - x.2, x.2) := by
 refine af_mk (by show 1 ≤ x.2 * 1; lia) h ?_
 show (x.1 * 1 - 1 * x.2) * x.2 = (x.1 - x.2) * (x.2 * 1)
 grind
theorem af_P1 {x : Int × Int} (h : 1 ≤ x.2) : AF (hP x (1, 1)) (x.1 + x.2, x.2) := by
 refine af_mk (by show 1 ≤ x.2 * 1; lia) h ?_
 show (x.1 * 1 + 1 * x.2) * x.2 = (x.1 + x.2) * (x.2 * 1)
 grind
theorem af_O2 {x x' : Int × Int} (h : AF x x') : AF (hO x (2, 1)) (x'.1, x'.2 * 2) := by
 obtain ⟨a, b, e⟩ := h
 refine af_mk (by show 1 ≤ x.2 * 2; lia) (by show 1 ≤ x'.2 * 2; lia) ?_
 show x.1 * 1 * (x'.2 * 2) = x'.1 * (x.2 * 2)
 grind
theorem mem_lows {rows : List R2} {x : Int × Int} : x ∈ lowsOf rows ↔ ∃ r ∈ rows, 0 < r.1 ∧ nil0 r = x := by
 unfold lowsOf
 rw [List.mem_map]
 constructor
 ·rintro ⟨r, hr, e⟩
  obtain ⟨h1, h2⟩ := List.mem_filter.mp hr
  exact ⟨r, h1, of_decide_eq_true h2, e⟩
 ·rintro ⟨r, h1, h2, e⟩
  exact ⟨r, List.mem_filter.mpr ⟨h1, decide_eq_true h2⟩, e⟩
theorem mem_highs {rows : List R2} {x : Int × Int} : x ∈ highsOf rows ↔ ∃ r ∈ rows, r.1 < 0 ∧ nil0 r = x := by
 unfold highsOf
 rw [List.mem_map]
 constructor
 ·rintro ⟨r, hr, e⟩
  obtain ⟨h1, h2⟩ := List.mem_filter.mp hr
  exact ⟨r, h1, of_decide_eq_true h2, e⟩
 ·rintro ⟨r, h1, h2, e⟩
  exact ⟨r, List.mem_filter.mpr ⟨h1, decide_eq_true h2⟩, e⟩
theorem btw_in {lows highs : List (Int × Int)} {x : Int × Int} (hl : ∀ x ∈ lows, 1 ≤ x.2) (hh : ∀ x ∈ highs, 1 ≤ x.2) (e : btw lows highs = some x) : 1 ≤ x.2 ∧ (∀ l ∈ lows, ltF l x = true) ∧ ∀ h ∈ highs, ltF x h = true := by
 unfold btw at e
 split at e
 ·rename_i z
  cases e
  rw [z.1, z.2]
  exact ⟨by decide, (fun _ h => nomatch h), (fun _ h => nomatch h)⟩
 ·rename_i z
  split at e
  ·rename_i z2
   cases e
   obtain ⟨b1, b2, b3⟩ := best_of (fun q => z ⟨q, z2⟩) hl
   have af := af_P1 b3
   refine ⟨af.a, fun l h => ?_, fun h q => by rw [z2] at q; cases q⟩
   refine le_lt (hl l h) b3 af.a (b2 l h) ?_
   rw [af_lt (AF.refl b3) af]
   exact decide_eq_true (by show _ * _ < (_ + _) * _; have := pos_mul b3 b3; grind)
  ·rename_i z2
   split at e
   ·rename_i z3
    cases e
    obtain ⟨b1, b2, b3⟩ := worst_of z2 hh
    have af := af_M1 b3
    refine ⟨af.a, fun l q => (by rw [z3] at q; cases q), fun h q => ?_⟩
    refine lt_le af.a b3 (hh h q) ?_ (b2 h q)
    rw [af_lt af (AF.refl b3)]
    exact decide_eq_true (by show (_ - _) * _ < _ * _; have := pos_mul b3 b3; grind)
   ·rename_i z3
    split at e
    ·rename_i z4
     cases e
     obtain ⟨b1, b2, b3⟩ := best_of z3 hl
     obtain ⟨c1, c2, c3⟩ := worst_of z2 hh
     have af := af_O2 (af_P (AF.refl b3) (AF.refl c3))
     unfold ltF at z4
     have z4 := of_decide_eq_true z4
     generalize best (lows.headD (0, 1)) lows = l at *
     generalize worst (highs.headD (0, 1)) highs = h at *
     refine ⟨af.a, fun y q => le_lt (hl y q) b3 af.a (b2 y q) ?_, fun y q => lt_le af.a c3 (hh y q) ?_ (c2 y q)⟩
     ·rw [af_lt (AF.refl b3) af]
      refine decide_eq_true ?_
      show l.1 * (l.2 * h.2 * 2) < (l.1 * h.2 + h.1 * l.2) * l.2
      have := Int.mul_pos (show 0 < h.1 * l.2 - l.1 * h.2 by lia) (show 0 < l.2 by lia)
      grind
     ·rw [af_lt af (AF.refl c3)]
      refine decide_eq_true ?_
      show (l.1 * h.2 + h.1 * l.2) * h.2 < h.1 * (l.2 * h.2 * 2)
      have := Int.mul_pos (show 0 < h.1 * l.2 - l.1 * h.2 by lia) (show 0 < h.2 by lia)
      grind
    ·cases e
theorem low_pos {rows : List R2} : ∀ x ∈ lowsOf rows, 1 ≤ x.2 := fun x hx => by
 obtain ⟨r, _, h, rfl⟩ := mem_lows.mp hx
 exact (nil0_e (by lia)).1
theorem high_pos {rows : List R2} : ∀ x ∈ highsOf rows, 1 ≤ x.2 := fun x hx => by
 obtain ⟨r, _, h, rfl⟩ := mem_highs.mp hx
 exact (nil0_e (by lia)).1
theorem solve_sat {rows : List R2} {x : Int × Int} (e : solve rows = some x) : Sat rows x := by
 unfold solve at e
 split at e
 ·cases e
 ·rename_i z
  obtain ⟨h1, h2, h3⟩ := btw_in low_pos high_pos e
  refine ⟨h1, fun r hr => ?_⟩
  rcases Int.lt_trichotomy r.1 0 with q | q | q
  ·exact (high_iff q x).mp (h3 _ (mem_highs.mpr ⟨r, hr, q, rfl⟩))
  ·rw [q, Int.zero_mul, Int.zero_add]
   refine Int.mul_pos ?_ (by lia)
   by_cases y : 0 < r.2
   ·exact y
   ·exfalso
    refine z (List.any_eq_true.mpr ⟨r, hr, ?_⟩)
    simp only [Bool.and_eq_true, decide_eq_true_eq]
    exact ⟨q, by lia⟩
  ·exact (low_iff q x).mp (h2 _ (mem_lows.mpr ⟨r, hr, q, rfl⟩))
theorem solve_some {rows : List R2} (h : C2 rows) : ∃ x, solve rows = some x := by
 unfold solve
 have : ¬ rows.any (fun r => decide (r.1 = 0) && decide (r.2 ≤ 0)) = true := fun z => by
  obtain ⟨r, hr, q⟩ := List.any_eq_true.mp z
  simp only [Bool.and_eq_true, decide_eq_true_eq] at q
  have := h.1 r hr q.1
  lia
 rw [if_neg this]
 unfold btw
 split
 ·exact ⟨_, rfl⟩
 ·split
  ·exact ⟨_, rfl⟩
  ·split
   ·exact ⟨_, rfl⟩
   ·rename_i z1 z2 z3
    obtain ⟨b1, _, _⟩ := best_of z3 low_pos
    obtain ⟨c1, _, _⟩ := worst_of z2 high_pos
    obtain ⟨r, hr, q, er⟩ := mem_lows.mp b1
    obtain ⟨s, hs, q2, es⟩ := mem_highs.mp c1
    rw [if_pos (by rw [← er, ← es]; exact (pair_iff q q2).mpr (h.2 r hr s hs q q2))]
    exact ⟨_, rfl⟩
def lowHigh (l h : R3) : R2 := (l.2.1 * h.1 - h.2.1 * l.1, l.2.1 * h.2.2 - h.2.1 * l.2.2)
def elimK (rows : List R3) : List R2 := (rows.filter fun r => decide (r.2.1 = 0)).map fun r => (r.1, r.2.2)
def elimH (rows : List R3) : List R3 := rows.filter fun r => decide (r.2.1 < 0)
def elimS (highs : List R3) (k : List R2) (l : R3) : List R2 := if 0 < l.2.1 then k ++ highs.map (lowHigh l) else k
def elim (rows : List R3) : List R2 := rows.foldl (elimS (elimH rows)) (elimK rows)
theorem mem_elimS {highs : List R3} {x : R2} : ∀ (rows : List R3) (k : List R2), x ∈ rows.foldl (elimS highs) k ↔ x ∈ k ∨ ∃ l ∈ rows, 0 < l.2.1 ∧ ∃ h ∈ highs, lowHigh l h = x
 | [], k => by simp
 | l :: rows, k => by
  rw [List.foldl_cons, mem_elimS rows]
  unfold elimS
  constructor
  ·rintro (h | ⟨m, h1, h2⟩)
   ·split at h
    ·rename_i z
     rcases List.mem_append.mp h with q | q
     ·exact .inl q
     ·obtain ⟨y, hy, e⟩ := List.mem_map.mp q
      exact .inr ⟨l, .head _, z, y, hy, e⟩
    ·exact .inl h
   ·exact .inr ⟨m, .tail _ h1, h2⟩
  ·rintro (h | ⟨m, h1, h2, y, hy, e⟩)
   ·left
    split
    ·exact List.mem_append_left _ h
    ·exact h
   ·rcases List.mem_cons.mp h1 with z | z
    ·left
     subst z
     rw [if_pos h2]
     exact List.mem_append_right _ (List.mem_map.mpr ⟨y, hy, e⟩)
    ·exact .inr ⟨m, z, h2, y, hy, e⟩
theorem mem_elim {rows : List R3} {x : R2} : x ∈ elim rows ↔ (∃ r ∈ rows, r.2.1 = 0 ∧ (r.1, r.2.2) = x) ∨ ∃ l ∈ rows, 0 < l.2.1 ∧ ∃ h ∈ rows, h.2.1 < 0 ∧ lowHigh l h = x := by
 unfold elim
 rw [mem_elimS]
 have k : x ∈ elimK rows ↔ ∃ r ∈ rows, r.2.1 = 0 ∧ (r.1, r.2.2) = x := by
  unfold elimK
  rw [List.mem_map]
  constructor
  ·rintro ⟨r, hr, e⟩
   obtain ⟨h1, h2⟩ := List.mem_filter.mp hr
   exact ⟨r, h1, of_decide_eq_true h2, e⟩
  ·rintro ⟨r, h1, h2, e⟩
   exact ⟨r, List.mem_filter.mpr ⟨h1, decide_eq_true h2⟩, e⟩
 have hh : ∀ h, h ∈ elimH rows ↔ h ∈ rows ∧ h.2.1 < 0 := fun h => by
  unfold elimH
  rw [List.mem_filter, decide_eq_true_iff]
 rw [k]
 constructor
 ·rintro (h | ⟨l, h1, h2, h, h3, e⟩)
  ·exact .inl h
  ·exact .inr ⟨l, h1, h2, h, ((hh h).mp h3).1, ((hh h).mp h3).2, e⟩
 ·rintro (h | ⟨l, h1, h2, h, h3, h4, e⟩)
  ·exact .inl h
  ·exact .inr ⟨l, h1, h2, h, (hh h).mpr ⟨h3, h4⟩, e⟩
def Sat3 (rows : List R3) (X Y D : Int) : Prop := 1 ≤ D ∧ ∀ r ∈ rows, 0 < r.1 * X + r.2.1 * Y + r.2.2 * D
theorem fm_down {rows : List R3} {X Y D : Int} (h : Sat3 rows X Y D) : Sat (elim rows) (X, D) := by
 refine ⟨h.1, fun x hx => ?_⟩
 rcases mem_elim.mp hx with ⟨r, hr, e0, rfl⟩ | ⟨l, hl, l0, g, hg, g0, rfl⟩
 ·have := h.2 r hr
  rw [e0, Int.zero_mul, Int.add_zero] at this
  exact this
 ·have a := Int.mul_pos l0 (h.2 g hg)
  have b := Int.mul_pos (show 0 < -g.2.1 by lia) (h.2 l hl)
  show 0 < (l.2.1 * g.1 - g.2.1 * l.1) * X + (l.2.1 * g.2.2 - g.2.1 * l.2.2) * D
  have e : (l.2.1 * g.1 - g.2.1 * l.1) * X + (l.2.1 * g.2.2 - g.2.1 * l.2.2) * D = l.2.1 * (g.1 * X + g.2.1 * Y + g.2.2 * D) + -g.2.1 * (l.1 * X + l.2.1 * Y + l.2.2 * D) := by grind
  rw [e]
  lia
def yRow (x : Int × Int) (r : R3) : R2 := (r.2.1 * x.2, r.1 * x.1 + r.2.2 * x.2)
theorem fm_up {rows : List R3} {x : Int × Int} (h : Sat (elim rows) x) : C2 (rows.map (yRow x)) := by
 have x0 := h.1
 refine ⟨fun y hy e => ?_, fun y hy z hz y0 z0 => ?_⟩
 ·obtain ⟨r, hr, rfl⟩ := List.mem_map.mp hy
  have : r.2.1 = 0 := by
   rcases Int.mul_eq_zero.mp e with q | q
   ·exact q
   ·lia
  exact h.2 _ (mem_elim.mpr (.inl ⟨r, hr, this, rfl⟩))
 ·obtain ⟨r, hr, rfl⟩ := List.mem_map.mp hy
  obtain ⟨s, hs, rfl⟩ := List.mem_map.mp hz
  have r0 : 0 < r.2.1 := Int.pos_of_mul_pos_left y0 (by lia)
  have s0 : s.2.1 < 0 := by
   have z0 : s.2.1 * x.2 < 0 := z0
   by_cases q : s.2.1 < 0
   ·exact q
   ·have := Int.mul_nonneg (show 0 ≤ s.2.1 by lia) (show 0 ≤ x.2 by lia)
    lia
  have k := h.2 _ (mem_elim.mpr (.inr ⟨r, hr, r0, s, hs, s0, rfl⟩))
  have k : 0 < (r.2.1 * s.1 - s.2.1 * r.1) * x.1 + (r.2.1 * s.2.2 - s.2.1 * r.2.2) * x.2 := k
  have m := Int.mul_pos (show 0 < x.2 by lia) k
  show 0 < r.2.1 * x.2 * (s.1 * x.1 + s.2.2 * x.2) - s.2.1 * x.2 * (r.1 * x.1 + r.2.2 * x.2)
  have e : r.2.1 * x.2 * (s.1 * x.1 + s.2.2 * x.2) - s.2.1 * x.2 * (r.1 * x.1 + r.2.2 * x.2) = x.2 * ((r.2.1 * s.1 - s.2.1 * r.1) * x.1 + (r.2.1 * s.2.2 - s.2.1 * r.2.2) * x.2) := by grind
  rw [e]
  exact m
def loneP (rows : List R3) : Option ((Int × Int) × (Int × Int)) := match solve (elim rows) with
 | none => none
 | some x => match solve (rows.map (yRow x)) with
  | none => none
  | some y => some (x, y)
theorem loneP_x {rows : List R3} {x : Int × Int} (e : solve (elim rows) = some x) : ∃ y, solve (rows.map (yRow x)) = some y ∧ loneP rows = some (x, y) := by
 obtain ⟨y, hy⟩ := solve_some (fm_up (solve_sat e))
 refine ⟨y, hy, ?_⟩
 unfold loneP
 rw [e]
 dsimp only
 rw [hy]
theorem lone_sound {rows : List R3} {pt : (Int × Int) × (Int × Int)} (e : loneP rows = some pt) : 1 ≤ pt.1.2 ∧ 1 ≤ pt.2.2 ∧ ∀ r ∈ rows, 0 < r.1 * pt.1.1 * pt.2.2 + r.2.1 * pt.2.1 * pt.1.2 + r.2.2 * pt.1.2 * pt.2.2 := by
 unfold loneP at e
 cases ex : solve (elim rows) with
 | none => rw [ex] at e; cases e
 | some x =>
  rw [ex] at e
  dsimp only at e
  cases ey : solve (rows.map (yRow x)) with
  | none => rw [ey] at e; cases e
  | some y =>
   rw [ey] at e
   cases e
   have sx := solve_sat ex
   have sy := solve_sat ey
   refine ⟨sx.1, sy.1, fun r hr => ?_⟩
   have k := sy.2 _ (List.mem_map.mpr ⟨r, hr, rfl⟩)
   have k : 0 < r.2.1 * x.2 * y.1 + (r.1 * x.1 + r.2.2 * x.2) * y.2 := k
   have e : r.1 * x.1 * y.2 + r.2.1 * y.1 * x.2 + r.2.2 * x.2 * y.2 = r.2.1 * x.2 * y.1 + (r.1 * x.1 + r.2.2 * x.2) * y.2 := by grind
   show 0 < r.1 * x.1 * y.2 + r.2.1 * y.1 * x.2 + r.2.2 * x.2 * y.2
   rw [e]
   exact k
theorem lone_some {rows : List R3} {X Y D : Int} (h : Sat3 rows X Y D) : ∃ pt, loneP rows = some pt := by
 obtain ⟨x, hx⟩ := solve_some (sat_C (fm_down h))
 obtain ⟨y, _, e⟩ := loneP_x hx
 exact ⟨_, e⟩
end N

namespace N
abbrev Q2 := Int × Int
theorem mk_fr1 {t b : Int} (h : 1 ≤ b) : FR.Fr (FR.mk t b) := (FR.mk_fr (by lia)).1
theorem hP_fr {x y : Int × Int} (hx : 1 ≤ x.2) (hy : 1 ≤ y.2) : FR.Fr (hP x y) := mk_fr1 (pos_mul hx hy)
def ng (x : Int × Int) : Int × Int := hM (0, 1) x
structure Pp (pt : Pt) : Prop where
 x : 1 ≤ pt.1.2
 y : 1 ≤ pt.2.2
def Pos (ps : List Pl) : Prop := ∀ p ∈ ps, 1 ≤ p.2.2.2
end N

namespace My
open PySem PySem.Spec PyProof.Rows L2 M N
def top (i : Nat) : Stmt := PySem.Challenge.pw_creasecurve_k11_known_planes_struck_out.main.body.getD i (.Pass ⟨0, 0, 0, 0⟩)
abbrev s_greatest_divisor : Stmt := top 4
abbrev s_fraction : Stmt := top 5
abbrev s_plus : Stmt := top 6
abbrev s_minus : Stmt := top 7
abbrev s_times : Stmt := top 8
abbrev s_over : Stmt := top 9
abbrev s_less : Stmt := top 10
abbrev s_greatest : Stmt := top 11
abbrev s_least : Stmt := top 12
abbrev s_common_bottom : Stmt := top 13
abbrev s_whole : Stmt := top 14
abbrev s_turn : Stmt := top 16
abbrev s_whole_factor : Stmt := top 18
abbrev s_blown_up : Stmt := top 19
abbrev s_shrunk : Stmt := top 20
abbrev s_between : Stmt := top 22
abbrev s_solved : Stmt := top 23
abbrev s_without_y : Stmt := top 24
abbrev s_gap : Stmt := top 25
abbrev s_lone_point : Stmt := top 26
abbrev s_lone_points : Stmt := top 27
abbrev s_staying : Stmt := top 28
abbrev s_thinned : Stmt := top 29
abbrev s_pairs_and_triples : Stmt := top 30
abbrev s_dot : Stmt := top 31
abbrev s_pair_weights : Stmt := top 32
abbrev s_triple_weights : Stmt := top 33
abbrev s_weights_of : Stmt := top 34
abbrev s_shared_sum : Stmt := top 35
abbrev s_mixture_height : Stmt := top 36
abbrev s_mixture_of : Stmt := top 37
abbrev s_struck : Stmt := top 38
abbrev s__law_cell_at : Stmt := top 40
abbrev s__law_stirred : Stmt := top 41
abbrev s__law_low : Stmt := top 43
abbrev s__law_sum : Stmt := top 44
abbrev s__law_product : Stmt := top 45
abbrev s__law_bowl_by : Stmt := top 46
abbrev s__law_with_struck : Stmt := top 47
abbrev s_law : Stmt := top 48
theorem bB_abs : bootBuiltins "abs" = some (.builtin "abs") := by decide +kernel
theorem bB_any : bootBuiltins "any" = some (.builtin "any") := by decide +kernel
theorem bT_dict : bootBuiltins "dict" = some (.type "dict") := by decide +kernel
theorem bT_list : bootBuiltins "list" = some (.type "list") := by decide +kernel
theorem bB_max : bootBuiltins "max" = some (.builtin "max") := by decide +kernel
theorem bB_min : bootBuiltins "min" = some (.builtin "min") := by decide +kernel
theorem bB_sorted : bootBuiltins "sorted" = some (.builtin "sorted") := by decide +kernel
theorem bB_sum : bootBuiltins "sum" = some (.builtin "sum") := by decide +kernel
structure Blt (mg : Str → Option Value) : Prop where
 abs_ : mg "abs" = none
 any_ : mg "any" = none
 bool_ : mg "bool" = none
 dict_ : mg "dict" = none
 enumerate_ : mg "enumerate" = none
 int_ : mg "int" = none
 isinstance_ : mg "isinstance" = none
 len_ : mg "len" = none
 list_ : mg "list" = none
 max_ : mg "max" = none
 min_ : mg "min" = none
 range_ : mg "range" = none
 sorted_ : mg "sorted" = none
 sum_ : mg "sum" = none
 zip_ : mg "zip" = none
structure Cls where
 RoofError : Addr
 NoFraction : Addr
structure ClsM (mg : Str → Option Value) (c : Cls) : Prop where
 mRoofError : mg "RoofError" = some (.ref c.RoofError)
 mNoFraction : mg "NoFraction" = some (.ref c.NoFraction)
structure ClsO (mg : Str → Option Value) (base : Heap) (c : Cls) : Prop where
 NoFraction : PyProof.Rows.OwnCls "NoFraction" c.NoFraction [.type "ValueError", .type "Exception", .type "BaseException", .type "object"] "ValueError.__new__" mg base
def m_greatest_divisor (K : W.Frag) (c : Cls) : List L → Res L := mOf eII (fun _ => True) fun a => .ok (.p (.int (Int.gcd a.1 a.2 : Nat)))
def f_greatest_divisor_c1 (K : W.Frag) (c : Cls) : En → Res Bool := (mTru (mBin (eqE true) (mVar 3) (mC (.int 0))))
def f_greatest_divisor_b2 (K : W.Frag) (c : Cls) : MS := (mSeq (mSet 4 (mBin modE (mVar 2) (mVar 3))) (mSeq (mSet 2 (mVar 3)) (mSet 3 (mVar 4))))
def f_greatest_divisor (K : W.Frag) (c : Cls) : MS := (mSeq (mSet 2 (mCallB absE (mCons (mVar 0) mNil))) (mSeq (mSet 3 (mCallB absE (mCons (mVar 1) mNil))) (mSeq (mWhile (f_greatest_divisor_c1 K c) (f_greatest_divisor_b2 K c)) (mRet (mVar 2)))))
theorem wh_gd (K : W.Frag) (c : Cls) (A B : Option L) : ∀ (n : Nat) (l s : Int) (r : Option L), 0 ≤ l → 0 ≤ s → s.toNat ≤ n → ∃ r', mWh (f_greatest_divisor_c1 K c) (f_greatest_divisor_b2 K c) (n + 1) [A, B, some (.p (.int l)), some (.p (.int s)), r] = some (.nx [A, B, some (.p (.int (Int.gcd l s : Nat))), some (.p (.int 0)), r']) := by
 intro n
 have hc : ∀ (l s : Int) (r : Option L), f_greatest_divisor_c1 K c [A, B, some (.p (.int l)), some (.p (.int s)), r] = .ok (!(s == 0)) := fun l s r => by
  simp only [f_greatest_divisor_c1, mTru, mBin, mVar, mC, List.getElem?_cons_zero, List.getElem?_cons_succ, if_true, Res.bind, Ev.c, eqE, dat, sh_int, eqv_ii, truthR]
  rfl
 have done : ∀ (n : Nat) (l : Int) (r : Option L), 0 ≤ l → mWh (f_greatest_divisor_c1 K c) (f_greatest_divisor_b2 K c) (n + 1) [A, B, some (.p (.int l)), some (.p (.int 0)), r] = some (.nx [A, B, some (.p (.int (Int.gcd l 0 : Nat))), some (.p (.int 0)), r]) := fun n l r hl => by
  unfold mWh
  rw [hc, FR.gcd_end hl]
  rfl
 induction n with
 | zero =>
  intro l s r hl hs hn
  have : s = 0 := by lia
  subst this
  exact ⟨r, done 0 l r hl⟩
 | succ n ih =>
  intro l s r hl hs hn
  by_cases h0 : s = 0
  ·subst h0
   exact ⟨r, done _ l r hl⟩
  ·have em : l.fmod s = l % s := Int.fmod_eq_emod_of_nonneg l hs
   have m0 := Int.emod_nonneg l h0
   have m1 := Int.emod_lt_of_pos l (show 0 < s by lia)
   obtain ⟨r', ih⟩ := ih s (l.fmod s) (some (.p (.int (l.fmod s)))) hs (by lia) (by lia)
   refine ⟨r', ?_⟩
   rw [em, FR.gcd_turn hl hs] at ih
   have hb : f_greatest_divisor_b2 K c [A, B, some (.p (.int l)), some (.p (.int s)), r] = some (.nx [A, B, some (.p (.int s)), some (.p (.int (l % s))), some (.p (.int (l % s)))]) := by
    simp (disch := assumption) only [f_greatest_divisor_b2, mBin, mVar, mSeq, mSet, List.getElem?_cons_zero, List.getElem?_cons_succ, List.set_cons_zero, List.set_cons_succ, Res.bind, Ev.c, mod_ok, em]
   have ht : f_greatest_divisor_c1 K c [A, B, some (.p (.int l)), some (.p (.int s)), r] = .ok true := by rw [hc, beq_false_of_ne h0]; rfl
   unfold mWh
   rw [ht]
   dsimp only
   rw [hb]
   exact ih
theorem eq_greatest_divisor (K : W.Frag) (c : Cls) : ∀ ls, m_greatest_divisor K c ls = .bad ∨ runF 5 (f_greatest_divisor K c) ls = m_greatest_divisor K c ls := mOf_eq fun x _ => by
 obtain ⟨a, b⟩ := x
 obtain ⟨r', h⟩ := wh_gd K c (some (.p (.int a))) (some (.p (.int b))) _ (if a < 0 then -a else a) (if b < 0 then -b else b) none (by split <;> lia) (by split <;> lia) (Nat.le_refl _)
 have h := mWhile_of h
 rw [FR.gcd_abs] at h
 refine run_rt ?_
 rw [show startE 5 (eII (a, b)) = [some (.p (.int a)), some (.p (.int b)), none, none, none] from rfl]
 refine (seq_nx (set_p (d := .int (if a < 0 then -a else a)) rfl)).trans ((seq_nx (set_p (d := .int (if b < 0 then -b else b)) rfl)).trans ((seq_nx h).trans ?_))
 rfl
theorem gcd_good (K : W.Frag) (c : Cls) (a b : Int) : m_greatest_divisor K c [.p (.int a), .p (.int b)] = .ok (.p (.int (Int.gcd a b : Nat))) := mOf_at (a := (a, b)) eII_inj trivial
theorem cdivW {b : Int} (t : Int) (hb : b ≠ 0) (hz : Sz 8000 b) : CDivW t ((Int.gcd t b : Nat) : Int) ∧ CDivW t (-((Int.gcd t b : Nat) : Int)) := by
 have g0 := FR.gcd_pos (t := t) hb
 have gle : Int.gcd t b ≤ b.natAbs := Nat.le_of_dvd (by lia) (Int.gcd_dvd_natAbs_right t b)
 refine ⟨⟨by lia, Sz.le hz (by rw [Int.natAbs_natCast]; exact gle)⟩, by lia, Sz.le hz (by rw [Int.natAbs_neg, Int.natAbs_natCast]; exact gle)⟩
open Classical in
def m_fraction (K : W.Frag) (c : Cls) : List L → Res L := mOf eII (fun a => Sz 8000 a.2) fun a => if a.2 = 0 then .exc c.NoFraction else .ok (.p (frD (FR.mk a.1 a.2)))
def f_fraction (K : W.Frag) (c : Cls) : MS := (mSeq (mIfS (mTru (mBin (eqE false) (mVar 1) (mC (.int 0)))) (mRaise c.NoFraction (mCons (mC (.str "nothing is divided by 0")) mNil)) mNext) (mSeq (mSet 2 (mCall 2 (m_greatest_divisor K c) (mCons (mVar 0) (mCons (mVar 1) mNil)))) (mSeq (mIfS (mTru (mBin ltE (mVar 1) (mC (.int 0)))) (mSet 2 (mUn negE (mVar 2))) mNext) (mRet (mCallB tupR' (mCons (mBin fdivE (mVar 0) (mVar 2)) (mCons (mBin fdivE (mVar 1) (mVar 2)) mNil)))))))
theorem eq_fraction (K : W.Frag) (c : Cls) : ∀ ls, m_fraction K c ls = .bad ∨ runF 3 (f_fraction K c) ls = m_fraction K c ls := mOf_eq fun x hz => by
 obtain ⟨t, b⟩ := x
 have hz : Sz 8000 b := hz
 show runF 3 (f_fraction K c) (eII (t, b)) = if b = 0 then .exc c.NoFraction else .ok (.p (frD (FR.mk t b)))
 have t0 : mTru (mBin (eqE false) (mVar 1) (mC (.int 0))) [some (.p (.int t)), some (.p (.int b)), none] = .ok (b == 0) := by
  simp only [mTru, mBin, mVar, mC, List.getElem?_cons_zero, List.getElem?_cons_succ, if_false, Bool.false_eq_true, Res.bind, Ev.c, eqE, dat, sh_int, eqv_ii, truthR]
  rfl
 by_cases hb : b = 0
 ·rw [if_pos hb]
  have t0 : mTru (mBin (eqE false) (mVar 1) (mC (.int 0))) [some (.p (.int t)), some (.p (.int b)), none] = .ok true := by rw [t0, hb]; rfl
  have e : f_fraction K c (startE 3 (eII (t, b))) = some (.ex c.NoFraction [some (.p (.int t)), some (.p (.int b)), none]) := by
   unfold f_fraction mSeq
   rw [show startE 3 (eII (t, b)) = [some (.p (.int t)), some (.p (.int b)), none] from rfl, if_t t0]
   rfl
  unfold runF
  rw [e]
 ·rw [if_neg hb]
  rw [beq_false_of_ne hb] at t0
  obtain ⟨q1, q2⟩ := cdivW t hb hz
  have q1' : CDivW b ((Int.gcd t b : Nat) : Int) := q1
  have q2' : CDivW b (-((Int.gcd t b : Nat) : Int)) := q2
  have g := gcd_good K c t b
  have e1 : (mCall 2 (m_greatest_divisor K c) (mCons (mVar 0) (mCons (mVar 1) mNil))) [some (.p (.int t)), some (.p (.int b)), none] = .ok (.p (.int (Int.gcd t b : Nat))) := by
   simp only [mCall, mCons, mNil, mVar, List.getElem?_cons_zero, List.getElem?_cons_succ, List.length_cons, List.length_nil, if_true, Nat.zero_add, Nat.reduceAdd, Res.bind, Ev.c, callR, argsL, argL, g, retE]
  refine run_rt ?_
  rw [show startE 3 (eII (t, b)) = [some (.p (.int t)), some (.p (.int b)), none] from rfl]
  unfold f_fraction
  refine (seq_nx (if_f t0)).trans ((seq_nx (set_p e1)).trans ?_)
  have t1 : mTru (mBin ltE (mVar 1) (mC (.int 0))) [some (.p (.int t)), some (.p (.int b)), some (.p (.int (Int.gcd t b : Nat)))] = .ok (decide (b < 0)) := by
   simp only [mTru, mBin, mVar, mC, List.getElem?_cons_zero, List.getElem?_cons_succ, Res.bind, Ev.c, intE0, truthR]
  by_cases hn : b < 0
  ·rw [decide_eq_true hn] at t1
   have es : FR.mk t b = (t.fdiv (-((Int.gcd t b : Nat) : Int)), b.fdiv (-((Int.gcd t b : Nat) : Int))) := by unfold FR.mk FR.sgn; rw [if_pos hn]
   refine (seq_nx ((if_t t1).trans (set_p (d := .int (-((Int.gcd t b : Nat) : Int))) rfl))).trans (ret_p ?_)
   rw [es]
   simp (disch := assumption) only [mVar, mBin, mCons, mNil, Res.bind, Ev.c, mCallB, tupR', pureL, fdiv_ok, List.getElem?_cons_zero, List.getElem?_cons_succ, List.set_cons_zero, List.set_cons_succ, List.length_cons, List.length_nil, if_true, Nat.zero_add, Nat.reduceAdd, Nat.reduceLeDiff, frD]
  ·rw [decide_eq_false hn] at t1
   have es : FR.mk t b = (t.fdiv ((Int.gcd t b : Nat) : Int), b.fdiv ((Int.gcd t b : Nat) : Int)) := by unfold FR.mk FR.sgn; rw [if_neg hn]
   refine (seq_nx (if_f t1)).trans (ret_p ?_)
   rw [es]
   simp (disch := assumption) only [mVar, mBin, mCons, mNil, Res.bind, Ev.c, mCallB, tupR', pureL, fdiv_ok, List.getElem?_cons_zero, List.getElem?_cons_succ, List.length_cons, List.length_nil, if_true, Nat.zero_add, Nat.reduceAdd, Nat.reduceLeDiff, frD]
theorem frac_ok (K : W.Frag) (c : Cls) {t b : Int} (h0 : b ≠ 0) (h1 : Sz 8000 b) : m_fraction K c [.p (.int t), .p (.int b)] = .ok (.p (frD (FR.mk t b))) := (mOf_at (a := (t, b)) eII_inj h1).trans (if_neg h0)
def m_plus (K : W.Frag) (c : Cls) : List L → Res L := mOf eFF (fun a => FSz 2000 a.1 ∧ FSz 2000 a.2 ∧ a.1.2 * a.2.2 ≠ 0) fun a => .ok (.p (frD (FR.mk (a.1.1 * a.2.2 + a.2.1 * a.1.2) (a.1.2 * a.2.2))))
def f_plus (K : W.Frag) (c : Cls) : MS := (mRet (mCall 2 (m_fraction K c) (mCons (mBin addE (mBin mulE (mBin ixE (mVar 0) (mC (.int 0))) (mBin ixE (mVar 1) (mC (.int 1)))) (mBin mulE (mBin ixE (mVar 1) (mC (.int 0))) (mBin ixE (mVar 0) (mC (.int 1))))) (mCons (mBin mulE (mBin ixE (mVar 0) (mC (.int 1))) (mBin ixE (mVar 1) (mC (.int 1)))) mNil))))
theorem eq_plus (K : W.Frag) (c : Cls) : ∀ ls, m_plus K c ls = .bad ∨ runF 2 (f_plus K c) ls = m_plus K c ls := mOf_eq fun a h => by
 obtain ⟨x, y⟩ := a
 obtain ⟨⟨x1, x2⟩, ⟨y1, y2⟩, hb⟩ := h
 dsimp only at x1 x2 y1 y2 hb ⊢
 have f := frac_ok K c (t := x.1 * y.2 + y.1 * x.2) hb ((Sz.mul x2 y2).mono (by decide))
 refine run_rt ?_
 rw [show startE 2 (eFF (x, y)) = [some (.p (frD x)), some (.p (frD y))] from rfl]
 unfold f_plus
 refine ret_p ?_
 simp (disch := (first | assumption | (first | apply N.cm2 | apply N.cd2) <;> (first | decide | lia | (repeat (first | assumption | apply L2.Sz.mul | apply N.Sz.addM | apply N.Sz.subM | apply L2.Sz.neg | apply N.sz_fdiv | (apply N.sz_fmod; (first | decide | lia)) | exact N.sz_lit4 (by decide) | exact N.sz_lit (by decide) | exact N.sz_lit70 (by decide) | exact N.sz_big (by decide)))) | decide | lia)) only [mVar, mC, mBin, mCons, mNil, mCall, callR, argsL, argL, Res.bind, Ev.c, retE, addE, ix_fr0, ix_fr1, mul_ok, List.getElem?_cons_zero, List.getElem?_cons_succ, List.length_cons, List.length_nil, if_true, Nat.zero_add, Nat.reduceAdd, f]
theorem ok2_plus (K : W.Frag) (c : Cls) {x y : Int × Int} (h1 : FSz 2000 x) (h2 : FSz 2000 y) (h3 : x.2 * y.2 ≠ 0) : m_plus K c [.p (frD x), .p (frD y)] = .ok (.p (frD (FR.mk (x.1 * y.2 + y.1 * x.2) (x.2 * y.2)))) := mOf_at (a := (x, y)) eFF_inj ⟨h1, h2, h3⟩
theorem plus_good (K : W.Frag) (c : Cls) {m n : Nat} {x y : Int × Int} (hx : Good m x) (hy : Good n y) (hm : m ≤ 2000) (hn : n ≤ 2000) : m_plus K c [.p (frD x), .p (frD y)] = .ok (.p (frD (hP x y))) := ok2_plus K c (hx.mono hm).fsz (hy.mono hn).fsz (hx.ne hy)
def m_minus (K : W.Frag) (c : Cls) : List L → Res L := mOf eFF (fun a => FSz 2000 a.1 ∧ FSz 2000 a.2 ∧ a.1.2 * a.2.2 ≠ 0) fun a => .ok (.p (frD (FR.mk (a.1.1 * a.2.2 - a.2.1 * a.1.2) (a.1.2 * a.2.2))))
def f_minus (K : W.Frag) (c : Cls) : MS := (mRet (mCall 2 (m_fraction K c) (mCons (mBin subE (mBin mulE (mBin ixE (mVar 0) (mC (.int 0))) (mBin ixE (mVar 1) (mC (.int 1)))) (mBin mulE (mBin ixE (mVar 1) (mC (.int 0))) (mBin ixE (mVar 0) (mC (.int 1))))) (mCons (mBin mulE (mBin ixE (mVar 0) (mC (.int 1))) (mBin ixE (mVar 1) (mC (.int 1)))) mNil))))
theorem eq_minus (K : W.Frag) (c : Cls) : ∀ ls, m_minus K c ls = .bad ∨ runF 2 (f_minus K c) ls = m_minus K c ls := mOf_eq fun a h => by
 obtain ⟨x, y⟩ := a
 obtain ⟨⟨x1, x2⟩, ⟨y1, y2⟩, hb⟩ := h
 dsimp only at x1 x2 y1 y2 hb ⊢
 have f := frac_ok K c (t := x.1 * y.2 - y.1 * x.2) hb ((Sz.mul x2 y2).mono (by decide))
 refine run_rt ?_
 rw [show startE 2 (eFF (x, y)) = [some (.p (frD x)), some (.p (frD y))] from rfl]
 unfold f_minus
 refine ret_p ?_
 simp (disch := (first | assumption | (first | apply N.cm2 | apply N.cd2) <;> (first | decide | lia | (repeat (first | assumption | apply L2.Sz.mul | apply N.Sz.addM | apply N.Sz.subM | apply L2.Sz.neg | apply N.sz_fdiv | (apply N.sz_fmod; (first | decide | lia)) | exact N.sz_lit4 (by decide) | exact N.sz_lit (by decide) | exact N.sz_lit70 (by decide) | exact N.sz_big (by decide)))) | decide | lia)) only [mVar, mC, mBin, mCons, mNil, mCall, callR, argsL, argL, Res.bind, Ev.c, retE, intE0, ix_fr0, ix_fr1, mul_ok, List.getElem?_cons_zero, List.getElem?_cons_succ, List.length_cons, List.length_nil, if_true, Nat.zero_add, Nat.reduceAdd, f]
theorem ok2_minus (K : W.Frag) (c : Cls) {x y : Int × Int} (h1 : FSz 2000 x) (h2 : FSz 2000 y) (h3 : x.2 * y.2 ≠ 0) : m_minus K c [.p (frD x), .p (frD y)] = .ok (.p (frD (FR.mk (x.1 * y.2 - y.1 * x.2) (x.2 * y.2)))) := mOf_at (a := (x, y)) eFF_inj ⟨h1, h2, h3⟩
theorem minus_good (K : W.Frag) (c : Cls) {m n : Nat} {x y : Int × Int} (hx : Good m x) (hy : Good n y) (hm : m ≤ 2000) (hn : n ≤ 2000) : m_minus K c [.p (frD x), .p (frD y)] = .ok (.p (frD (hM x y))) := ok2_minus K c (hx.mono hm).fsz (hy.mono hn).fsz (hx.ne hy)
def m_times (K : W.Frag) (c : Cls) : List L → Res L := mOf eFF (fun a => FSz 2000 a.1 ∧ FSz 2000 a.2 ∧ a.1.2 * a.2.2 ≠ 0) fun a => .ok (.p (frD (FR.mk (a.1.1 * a.2.1) (a.1.2 * a.2.2))))
def f_times (K : W.Frag) (c : Cls) : MS := (mRet (mCall 2 (m_fraction K c) (mCons (mBin mulE (mBin ixE (mVar 0) (mC (.int 0))) (mBin ixE (mVar 1) (mC (.int 0)))) (mCons (mBin mulE (mBin ixE (mVar 0) (mC (.int 1))) (mBin ixE (mVar 1) (mC (.int 1)))) mNil))))
theorem eq_times (K : W.Frag) (c : Cls) : ∀ ls, m_times K c ls = .bad ∨ runF 2 (f_times K c) ls = m_times K c ls := mOf_eq fun a h => by
 obtain ⟨x, y⟩ := a
 obtain ⟨⟨x1, x2⟩, ⟨y1, y2⟩, hb⟩ := h
 dsimp only at x1 x2 y1 y2 hb ⊢
 have f := frac_ok K c (t := x.1 * y.1) hb ((Sz.mul x2 y2).mono (by decide))
 refine run_rt ?_
 rw [show startE 2 (eFF (x, y)) = [some (.p (frD x)), some (.p (frD y))] from rfl]
 unfold f_times
 refine ret_p ?_
 simp (disch := (first | assumption | (first | apply N.cm2 | apply N.cd2) <;> (first | decide | lia | (repeat (first | assumption | apply L2.Sz.mul | apply N.Sz.addM | apply N.Sz.subM | apply L2.Sz.neg | apply N.sz_fdiv | (apply N.sz_fmod; (first | decide | lia)) | exact N.sz_lit4 (by decide) | exact N.sz_lit (by decide) | exact N.sz_lit70 (by decide) | exact N.sz_big (by decide)))) | decide | lia)) only [mVar, mC, mBin, mCons, mNil, mCall, callR, argsL, argL, Res.bind, Ev.c, retE, ix_fr0, ix_fr1, mul_ok, List.getElem?_cons_zero, List.getElem?_cons_succ, List.length_cons, List.length_nil, if_true, Nat.zero_add, Nat.reduceAdd, f]
theorem ok2_times (K : W.Frag) (c : Cls) {x y : Int × Int} (h1 : FSz 2000 x) (h2 : FSz 2000 y) (h3 : x.2 * y.2 ≠ 0) : m_times K c [.p (frD x), .p (frD y)] = .ok (.p (frD (FR.mk (x.1 * y.1) (x.2 * y.2)))) := mOf_at (a := (x, y)) eFF_inj ⟨h1, h2, h3⟩
def m_over (K : W.Frag) (c : Cls) : List L → Res L := mOf eFF (fun a => FSz 2000 a.1 ∧ FSz 2000 a.2 ∧ a.1.2 * a.2.1 ≠ 0) fun a => .ok (.p (frD (FR.mk (a.1.1 * a.2.2) (a.1.2 * a.2.1))))
def f_over (K : W.Frag) (c : Cls) : MS := (mRet (mCall 2 (m_fraction K c) (mCons (mBin mulE (mBin ixE (mVar 0) (mC (.int 0))) (mBin ixE (mVar 1) (mC (.int 1)))) (mCons (mBin mulE (mBin ixE (mVar 0) (mC (.int 1))) (mBin ixE (mVar 1) (mC (.int 0)))) mNil))))
theorem eq_over (K : W.Frag) (c : Cls) : ∀ ls, m_over K c ls = .bad ∨ runF 2 (f_over K c) ls = m_over K c ls := mOf_eq fun a h => by
 obtain ⟨x, y⟩ := a
 obtain ⟨⟨x1, x2⟩, ⟨y1, y2⟩, hb⟩ := h
 dsimp only at x1 x2 y1 y2 hb ⊢
 have f := frac_ok K c (t := x.1 * y.2) hb ((Sz.mul x2 y1).mono (by decide))
 refine run_rt ?_
 rw [show startE 2 (eFF (x, y)) = [some (.p (frD x)), some (.p (frD y))] from rfl]
 unfold f_over
 refine ret_p ?_
 simp (disch := (first | assumption | (first | apply N.cm2 | apply N.cd2) <;> (first | decide | lia | (repeat (first | assumption | apply L2.Sz.mul | apply N.Sz.addM | apply N.Sz.subM | apply L2.Sz.neg | apply N.sz_fdiv | (apply N.sz_fmod; (first | decide | lia)) | exact N.sz_lit4 (by decide) | exact N.sz_lit (by decide) | exact N.sz_lit70 (by decide) | exact N.sz_big (by decide)))) | decide | lia)) only [mVar, mC, mBin, mCons, mNil, mCall, callR, argsL, argL, Res.bind, Ev.c, retE, ix_fr0, ix_fr1, mul_ok, List.getElem?_cons_zero, List.getElem?_cons_succ, List.length_cons, List.length_nil, if_true, Nat.zero_add, Nat.reduceAdd, f]
theorem ok2_over (K : W.Frag) (c : Cls) {x y : Int × Int} (h1 : FSz 2000 x) (h2 : FSz 2000 y) (h3 : x.2 * y.1 ≠ 0) : m_over K c [.p (frD x), .p (frD y)] = .ok (.p (frD (FR.mk (x.1 * y.2) (x.2 * y.1)))) := mOf_at (a := (x, y)) eFF_inj ⟨h1, h2, h3⟩
theorem over_good (K : W.Frag) (c : Cls) {m : Nat} {x : Int × Int} (hx : Good m x) (hm : m ≤ 2000) : m_over K c [.p (frD x), .p (.tuple [.int 2, .int 1])] = .ok (.p (frD (hO x (2, 1)))) := ok2_over K c (y := (2, 1)) (hx.mono hm).fsz ⟨sz_of _ (Nat.lt_of_lt_of_le (show (2 : Int).natAbs < 2 ^ 4 by decide) (Nat.pow_le_pow_right (by decide) (by decide))), sz_one⟩ (by have := hx.1; show x.2 * 2 ≠ 0; lia)
def m_less (K : W.Frag) (c : Cls) : List L → Res L := mOf eFF (fun a => FSz 2000 a.1 ∧ FSz 2000 a.2) fun a => .ok (.p (.bool (ltF a.1 a.2)))
def f_less (K : W.Frag) (c : Cls) : MS := (mRet (mBin ltE (mBin mulE (mBin ixE (mVar 0) (mC (.int 0))) (mBin ixE (mVar 1) (mC (.int 1)))) (mBin mulE (mBin ixE (mVar 1) (mC (.int 0))) (mBin ixE (mVar 0) (mC (.int 1))))))
theorem eq_less (K : W.Frag) (c : Cls) : ∀ ls, m_less K c ls = .bad ∨ runF 2 (f_less K c) ls = m_less K c ls := mOf_eq fun a h => by
 obtain ⟨x, y⟩ := a
 obtain ⟨⟨x1, x2⟩, ⟨y1, y2⟩⟩ := h
 dsimp only at x1 x2 y1 y2 ⊢
 refine run_rt ?_
 rw [show startE 2 (eFF (x, y)) = [some (.p (frD x)), some (.p (frD y))] from rfl]
 unfold f_less
 refine ret_p ?_
 simp (disch := (first | assumption | (first | apply N.cm2 | apply N.cd2) <;> (first | decide | lia | (repeat (first | assumption | apply L2.Sz.mul | apply N.Sz.addM | apply N.Sz.subM | apply L2.Sz.neg | apply N.sz_fdiv | (apply N.sz_fmod; (first | decide | lia)) | exact N.sz_lit4 (by decide) | exact N.sz_lit (by decide) | exact N.sz_lit70 (by decide) | exact N.sz_big (by decide)))) | decide | lia)) only [mVar, mC, mBin, Res.bind, Ev.c, intE0, ix_fr0, ix_fr1, mul_ok, List.getElem?_cons_zero, List.getElem?_cons_succ]
 rfl
theorem less_good (K : W.Frag) (c : Cls) {x y : Int × Int} (hx : FSz 2000 x) (hy : FSz 2000 y) : m_less K c [.p (frD x), .p (frD y)] = .ok (.p (.bool (ltF x y))) := mOf_at (a := (x, y)) eFF_inj ⟨hx, hy⟩
def m_greatest (K : W.Frag) (c : Cls) : List L → Res L := mOf eFs (fun xs => xs ≠ [] ∧ ∀ y ∈ xs, FSz 2000 y) fun xs => .ok (.p (frD (best (xs.headD (0, 1)) xs)))
def f_greatest_b1 (K : W.Frag) (c : Cls) : MS := (mIfS (mTru (mCall 2 (m_less K c) (mCons (mVar 1) (mCons (mVar 2) mNil)))) (mSet 1 (mVar 2)) mNext)
def f_greatest (K : W.Frag) (c : Cls) : MS := (mSeq (mSet 1 (mBin ixE (mVar 0) (mC (.int 0)))) (mSeq (mFor (mItL (mVar 0)) (mgName 2) (f_greatest_b1 K c)) (mRet (mVar 1))))
theorem loop_greatest (K : W.Frag) (c : Cls) (Z : Option L) : ∀ (xs : List (Int × Int)) (b : Int × Int) (r : Option L), FSz 2000 b → (∀ y ∈ xs, FSz 2000 y) → ∃ r', mLoop (mgName 2) (f_greatest_b1 K c) (xs.map frD) [Z, some (.p (frD b)), r] = some (.nx [Z, some (.p (frD (best b xs))), r'])
 | [], b, r, _, _ => ⟨r, rfl⟩
 | x :: xs, b, r, hb, h => by
  have hx := h x (.head _)
  have hl := less_good K c hb hx
  have hb1 : f_greatest_b1 K c [Z, some (.p (frD b)), some (.p (frD x))] = some (.nx [Z, some (.p (frD (if ltF b x = true then x else b))), some (.p (frD x))]) := by
   unfold f_greatest_b1
   cases e : ltF b x <;> rw [e] at hl <;> simp only [mSet, mIfS, mVar, mCons, mNil, mCall, callR, argsL, argL, Res.bind, Ev.c, retE, mTru, truthR, mNext, List.getElem?_cons_zero, List.getElem?_cons_succ, List.set_cons_zero, List.set_cons_succ, List.length_cons, List.length_nil, if_true, if_false, Bool.false_eq_true, Nat.zero_add, Nat.reduceAdd, hl]
  obtain ⟨r', ih⟩ := loop_greatest K c Z xs (if ltF b x = true then x else b) (some (.p (frD x))) (by split; exact hx; exact hb) fun y hy => h y (.tail _ hy)
  refine ⟨r', ?_⟩
  rw [List.map_cons]
  unfold mLoop
  simp only [mgName, List.set_cons_succ, List.set_cons_zero]
  rw [hb1]
  exact ih
theorem eq_greatest (K : W.Frag) (c : Cls) : ∀ ls, m_greatest K c ls = .bad ∨ runF 3 (f_greatest K c) ls = m_greatest K c ls := mOf_eq fun xs h => by
 obtain ⟨h0, hz⟩ := h
 obtain ⟨r', h⟩ := loop_greatest K c (some (.p (.list (xs.map frD)))) xs (xs.headD (0, 1)) none (hz _ (head_mem _ h0)) hz
 have e1 : (mBin ixE (mVar 0) (mC (.int 0))) [some (.p (.list (xs.map frD))), none, none] = .ok (.p (frD (xs.headD (0, 1)))) := by
  cases xs with
  | nil => exact absurd rfl h0
  | cons x r => simp only [mBin, mVar, mC, List.getElem?_cons_zero, List.map_cons, Res.bind, Ev.c, ixE, seqOf, at0, List.headD_cons]
 refine run_rt ?_
 rw [show startE 3 (eFs xs) = [some (.p (.list (xs.map frD))), none, none] from rfl]
 refine (seq_nx (set_p e1)).trans ((seq_nx ((for_l (ds := xs.map frD) rfl).trans h)).trans ?_)
 rfl
theorem greatest_good (K : W.Frag) (c : Cls) (xs : List (Int × Int)) (h0 : xs ≠ []) (h : ∀ y ∈ xs, FSz 2000 y) : m_greatest K c [.p (.list (xs.map frD))] = .ok (.p (frD (best (xs.headD (0, 1)) xs))) := mOf_at (a := xs) eFs_inj ⟨h0, h⟩
def m_least (K : W.Frag) (c : Cls) : List L → Res L := mOf eFs (fun xs => xs ≠ [] ∧ ∀ y ∈ xs, FSz 2000 y) fun xs => .ok (.p (frD (worst (xs.headD (0, 1)) xs)))
def f_least_b1 (K : W.Frag) (c : Cls) : MS := (mIfS (mTru (mCall 2 (m_less K c) (mCons (mVar 2) (mCons (mVar 1) mNil)))) (mSet 1 (mVar 2)) mNext)
def f_least (K : W.Frag) (c : Cls) : MS := (mSeq (mSet 1 (mBin ixE (mVar 0) (mC (.int 0)))) (mSeq (mFor (mItL (mVar 0)) (mgName 2) (f_least_b1 K c)) (mRet (mVar 1))))
theorem loop_least (K : W.Frag) (c : Cls) (Z : Option L) : ∀ (xs : List (Int × Int)) (b : Int × Int) (r : Option L), FSz 2000 b → (∀ y ∈ xs, FSz 2000 y) → ∃ r', mLoop (mgName 2) (f_least_b1 K c) (xs.map frD) [Z, some (.p (frD b)), r] = some (.nx [Z, some (.p (frD (worst b xs))), r'])
 | [], b, r, _, _ => ⟨r, rfl⟩
 | x :: xs, b, r, hb, h => by
  have hx := h x (.head _)
  have hl := less_good K c hx hb
  have hb1 : f_least_b1 K c [Z, some (.p (frD b)), some (.p (frD x))] = some (.nx [Z, some (.p (frD (if ltF x b = true then x else b))), some (.p (frD x))]) := by
   unfold f_least_b1
   cases e : ltF x b <;> rw [e] at hl <;> simp only [mSet, mIfS, mVar, mCons, mNil, mCall, callR, argsL, argL, Res.bind, Ev.c, retE, mTru, truthR, mNext, List.getElem?_cons_zero, List.getElem?_cons_succ, List.set_cons_zero, List.set_cons_succ, List.length_cons, List.length_nil, if_true, if_false, Bool.false_eq_true, Nat.zero_add, Nat.reduceAdd, hl]
  obtain ⟨r', ih⟩ := loop_least K c Z xs (if ltF x b = true then x else b) (some (.p (frD x))) (by split; exact hx; exact hb) fun y hy => h y (.tail _ hy)
  refine ⟨r', ?_⟩
  rw [List.map_cons]
  unfold mLoop
  simp only [mgName, List.set_cons_succ, List.set_cons_zero]
  rw [hb1]
  exact ih
theorem eq_least (K : W.Frag) (c : Cls) : ∀ ls, m_least K c ls = .bad ∨ runF 3 (f_least K c) ls = m_least K c ls := mOf_eq fun xs h => by
 obtain ⟨h0, hz⟩ := h
 obtain ⟨r', h⟩ := loop_least K c (some (.p (.list (xs.map frD)))) xs (xs.headD (0, 1)) none (hz _ (head_mem _ h0)) hz
 have e1 : (mBin ixE (mVar 0) (mC (.int 0))) [some (.p (.list (xs.map frD))), none, none] = .ok (.p (frD (xs.headD (0, 1)))) := by
  cases xs with
  | nil => exact absurd rfl h0
  | cons x r => simp only [mBin, mVar, mC, List.getElem?_cons_zero, List.map_cons, Res.bind, Ev.c, ixE, seqOf, at0, List.headD_cons]
 refine run_rt ?_
 rw [show startE 3 (eFs xs) = [some (.p (.list (xs.map frD))), none, none] from rfl]
 refine (seq_nx (set_p e1)).trans ((seq_nx ((for_l (ds := xs.map frD) rfl).trans h)).trans ?_)
 rfl
theorem least_good (K : W.Frag) (c : Cls) (xs : List (Int × Int)) (h0 : xs ≠ []) (h : ∀ y ∈ xs, FSz 2000 y) : m_least K c [.p (.list (xs.map frD))] = .ok (.p (frD (worst (xs.headD (0, 1)) xs))) := mOf_at (a := xs) eFs_inj ⟨h0, h⟩
def cbS (c b : Int) : Int := (c * b).fdiv (Int.gcd c b : Nat)
def cb (hs : List (Int × Int)) : Int := hs.foldl (fun c h => cbS c h.2) 1
theorem cbS_ok {c b : Int} (hc : 1 ≤ c) (hb : 1 ≤ b) : 1 ≤ cbS c b ∧ c ∣ cbS c b ∧ b ∣ cbS c b := by
 have g0 : 0 < Int.gcd c b := Int.gcd_pos_of_ne_zero_right c (by lia)
 obtain ⟨k, hk⟩ := Int.gcd_dvd_right c b
 obtain ⟨j, hj⟩ := Int.gcd_dvd_left c b
 have e1 : cbS c b = c * k := by
  unfold cbS
  have : c * b = ((Int.gcd c b : Nat) : Int) * (c * k) := by
   conv => lhs; rw [hk]
   ac_rfl
  rw [this]
  exact Int.mul_fdiv_cancel_left _ (by lia)
 have e2 : cbS c b = b * j := by
  unfold cbS
  have : c * b = ((Int.gcd c b : Nat) : Int) * (b * j) := by
   conv => lhs; rw [hj]
   ac_rfl
  rw [this]
  exact Int.mul_fdiv_cancel_left _ (by lia)
 have k0 : 0 < k := Int.pos_of_mul_pos_right (show 0 < ((Int.gcd c b : Nat) : Int) * k by rw [← hk]; lia) (by lia)
 refine ⟨?_, ⟨k, e1⟩, ⟨j, e2⟩⟩
 rw [e1]
 exact pos_mul hc k0
def GB (h : Int × Int) : Prop := 1 ≤ h.2 ∧ Sz 150 h.1 ∧ Sz 20 h.2
theorem cb_ok : ∀ (hs : List (Int × Int)) (c : Int) (k : Nat), 1 ≤ c → Sz (20 * k + 1) c → (∀ h ∈ hs, GB h) → 1 ≤ hs.foldl (fun c h => cbS c h.2) c ∧ c ∣ hs.foldl (fun c h => cbS c h.2) c ∧ (∀ h ∈ hs, h.2 ∣ hs.foldl (fun c h => cbS c h.2) c) ∧ Sz (20 * (k + hs.length) + 1) (hs.foldl (fun c h => cbS c h.2) c)
 | [], c, k, h1, h2, _ => ⟨h1, Int.dvd_refl _, (fun _ h => nomatch h), h2⟩
 | h :: hs, c, k, h1, h2, hg => by
  have g := hg h (.head _)
  obtain ⟨a1, a2, a3⟩ := cbS_ok h1 g.1
  have sz : Sz (20 * (k + 1) + 1) (cbS c h.2) := by
   have := Sz.mul h2 g.2.2
   exact (Sz.le this (natAbs_fdiv_le _ _)).mono (by lia)
  obtain ⟨b1, b2, b3, b4⟩ := cb_ok hs (cbS c h.2) (k + 1) a1 sz fun x hx => hg x (.tail _ hx)
  rw [List.foldl_cons]
  refine ⟨b1, Int.dvd_trans a2 b2, fun x hx => ?_, b4.mono (by rw [List.length_cons]; lia)⟩
  rcases List.mem_cons.mp hx with z | z
  ·rw [z]; exact Int.dvd_trans a3 b2
  ·exact b3 x z
def m_common_bottom (K : W.Frag) (c : Cls) : List L → Res L := mOf eFs (fun hs => hs.length ≤ 100 ∧ ∀ h ∈ hs, GB h) fun hs => .ok (.p (.int (cb hs)))
def f_common_bottom_b1 (K : W.Frag) (c : Cls) : MS := (mSet 1 (mBin fdivE (mBin mulE (mVar 1) (mBin ixE (mVar 2) (mC (.int 1)))) (mCall 2 (m_greatest_divisor K c) (mCons (mVar 1) (mCons (mBin ixE (mVar 2) (mC (.int 1))) mNil)))))
def f_common_bottom (K : W.Frag) (c : Cls) : MS := (mSeq (mSet 1 (mC (.int 1))) (mSeq (mFor (mItL (mVar 0)) (mgName 2) (f_common_bottom_b1 K c)) (mRet (mVar 1))))
theorem eq_common_bottom (K : W.Frag) (c : Cls) : ∀ ls, m_common_bottom K c ls = .bad ∨ runF 3 (f_common_bottom K c) ls = m_common_bottom K c ls := mOf_eq fun hs h => by
 obtain ⟨hl, hg⟩ := h
 have gen : ∀ (xs : List (Int × Int)) (x : Int) (k : Nat) (r : Option L), 1 ≤ x → Sz (20 * k + 1) x → k + xs.length ≤ 100 → (∀ h ∈ xs, GB h) → ∃ r', mLoop (mgName 2) (f_common_bottom_b1 K c) (xs.map frD) [some (.p (.list (hs.map frD))), some (.p (.int x)), r] = some (.nx [some (.p (.list (hs.map frD))), some (.p (.int (xs.foldl (fun c h => cbS c h.2) x))), r']) := by
  intro xs
  induction xs with
  | nil => intro x k r _ _ _ _; exact ⟨r, rfl⟩
  | cons h xs ih =>
   intro x k r x1 x2 hk hxs
   have g := hxs h (.head _)
   have hk' : k + (xs.length + 1) ≤ 100 := hk
   obtain ⟨a1, a2, a3⟩ := cbS_ok x1 g.1
   have sz : Sz (20 * (k + 1) + 1) (cbS x h.2) := by
    have := Sz.mul x2 g.2.2
    exact (Sz.le this (natAbs_fdiv_le _ _)).mono (by lia)
   obtain ⟨r', ih⟩ := ih (cbS x h.2) (k + 1) (some (.p (frD h))) a1 sz (by lia) fun y hy => hxs y (.tail _ hy)
   refine ⟨r', ?_⟩
   have g0 : 0 < Int.gcd x h.2 := Int.gcd_pos_of_ne_zero_right x (by have := g.1; lia)
   have q1 : CMulW x h.2 := ⟨x2.mono (by lia), g.2.2.mono (by decide)⟩
   have q2 : CDivW (x * h.2) ((Int.gcd x h.2 : Nat) : Int) := ⟨by lia, (Sz.le g.2.2 (by rw [Int.natAbs_natCast]; exact Nat.le_of_dvd (by have := g.1; lia) (Int.gcd_dvd_natAbs_right x h.2))).mono (by decide)⟩
   have hb : f_common_bottom_b1 K c [some (.p (.list (hs.map frD))), some (.p (.int x)), some (.p (frD h))] = some (.nx [some (.p (.list (hs.map frD))), some (.p (.int (cbS x h.2))), some (.p (frD h))]) := by
    simp (disch := assumption) only [f_common_bottom_b1, mSet, mVar, mC, mBin, mCons, mNil, mCall, callR, argsL, argL, Res.bind, Ev.c, retE, ix_fr1, mul_ok, fdiv_ok, List.getElem?_cons_zero, List.getElem?_cons_succ, List.set_cons_zero, List.set_cons_succ, List.length_cons, List.length_nil, if_true, Nat.zero_add, Nat.reduceAdd, gcd_good]
    rfl
   rw [List.map_cons]
   unfold mLoop
   simp only [mgName, List.set_cons_succ, List.set_cons_zero]
   rw [hb]
   exact ih
 obtain ⟨r', h⟩ := gen hs 1 0 none (Int.le_refl 1) (sz_of _ (by decide)) (by lia) hg
 refine run_rt ?_
 rw [show startE 3 (eFs hs) = [some (.p (.list (hs.map frD))), none, none] from rfl]
 refine (seq_nx (set_p (d := .int 1) rfl)).trans ?_
 refine (seq_nx ((for_l (ds := hs.map frD) rfl).trans h)).trans (ret_p rfl)
theorem cb_good (K : W.Frag) (c : Cls) {hs : List (Int × Int)} (h1 : hs.length ≤ 100) (h2 : ∀ h ∈ hs, GB h) : m_common_bottom K c [.p (.list (hs.map frD))] = .ok (.p (.int (cb hs))) := mOf_at (a := hs) eFs_inj ⟨h1, h2⟩
def eHI (a : (Int × Int) × Int) : List L := [.p (frD a.1), .p (.int a.2)]
theorem eHI_inj (a b : (Int × Int) × Int) (h : eHI a = eHI b) : a = b := by
 unfold eHI at h
 injection h with h1 h2
 injection h2 with h2 _
 injection h1 with h1
 injection h2 with h2
 injection h2 with h2
 exact Prod.ext (frI h1) h2
def m_whole (K : W.Frag) (c : Cls) : List L → Res L := mOf eHI (fun a => GB a.1 ∧ Sz 1000 a.2) fun a => .ok (.p (.int (a.1.1 * a.2.fdiv a.1.2)))
def f_whole (K : W.Frag) (c : Cls) : MS := (mRet (mBin mulE (mBin ixE (mVar 0) (mC (.int 0))) (mBin fdivE (mVar 1) (mBin ixE (mVar 0) (mC (.int 1))))))
theorem eq_whole (K : W.Frag) (c : Cls) : ∀ ls, m_whole K c ls = .bad ∨ runF 2 (f_whole K c) ls = m_whole K c ls := mOf_eq fun a h => by
 obtain ⟨x, F⟩ := a
 obtain ⟨⟨p, t, b⟩, hF⟩ := h
 dsimp only at p t b hF ⊢
 have bn : x.2 ≠ 0 := by lia
 refine run_rt ?_
 rw [show startE 2 (eHI (x, F)) = [some (.p (frD x)), some (.p (.int F))] from rfl]
 unfold f_whole
 refine ret_p ?_
 simp (disch := (first | assumption | (first | apply N.cm2 | apply N.cd2) <;> (first | decide | lia | (repeat (first | assumption | apply L2.Sz.mul | apply N.Sz.addM | apply N.Sz.subM | apply L2.Sz.neg | apply N.sz_fdiv | (apply N.sz_fmod; (first | decide | lia)) | exact N.sz_lit4 (by decide) | exact N.sz_lit (by decide) | exact N.sz_lit70 (by decide) | exact N.sz_big (by decide)))) | decide | lia)) only [mVar, mC, mBin, Res.bind, Ev.c, ix_fr0, ix_fr1, mul_ok, fdiv_ok, List.getElem?_cons_zero, List.getElem?_cons_succ]
theorem whole_good (K : W.Frag) (c : Cls) {x : Int × Int} {F : Int} (h1 : GB x) (h2 : Sz 1000 F) : m_whole K c [.p (frD x), .p (.int F)] = .ok (.p (.int (x.1 * F.fdiv x.2))) := mOf_at (a := (x, F)) eHI_inj ⟨h1, h2⟩
def ePs (ps : List Pl) : List L := [.p (.list (ps.map plD))]
theorem ePs_inj (a b : List Pl) (h : ePs a = ePs b) : a = b := by
 unfold ePs at h
 injection h with h _
 injection h with h
 injection h with h
 exact plsI h
def wf (ps : List Pl) : Int := cb (ps.map fun p => p.2.2)
def GBs (ps : List Pl) : Prop := ps.length ≤ 100 ∧ ∀ p ∈ ps, GB p.2.2
def m_whole_factor (K : W.Frag) (c : Cls) : List L → Res L := mOf ePs GBs fun ps => .ok (.p (.int (wf ps)))
def f_whole_factor_e1 (K : W.Frag) (c : Cls) : En → Res Ev := (mBin ixE (mVar 0) (mC (.int 2)))
def f_whole_factor (K : W.Frag) (c : Cls) : MS := (mRet (mCall 1 (m_common_bottom K c) (mCons (mComp 1 [] (mItL (mVar 0)) (mgName 0) mYes (f_whole_factor_e1 K c)) mNil)))
theorem eq_whole_factor (K : W.Frag) (c : Cls) : ∀ ls, m_whole_factor K c ls = .bad ∨ runF 1 (f_whole_factor K c) ls = m_whole_factor K c ls := mOf_eq fun ps h => by
 obtain ⟨hl, hg⟩ := h
 refine run_rt ?_
 rw [show startE 1 (ePs ps) = [some (.p (.list (ps.map plD)))] from rfl]
 unfold f_whole_factor
 have hm : mapO (compItem 1 [] (mgName 0) mYes (f_whole_factor_e1 K c) [some (.p (.list (ps.map plD)))]) (ps.map plD) = some (ps.map fun p => frD p.2.2) := by
  refine mapO_map _ fun p hp => ?_
  simp [compItem, mgName, capE, mYes, f_whole_factor_e1, mBin, mVar, mC, Res.bind, Ev.c, ix_pl2]
 have hc := comp_l (n := 1) (js := []) (fi := mItL (mVar 0)) (tg := mgName 0) (ft := mYes) (fe := f_whole_factor_e1 K c) (en := [some (.p (.list (ps.map plD)))]) (ds := ps.map plD) rfl (by rw [List.length_map]; lia) hm
 have e1 : (ps.map fun p => frD p.2.2) = (ps.map fun p => p.2.2).map frD := by rw [List.map_map]; rfl
 have hcb := cb_good K c (hs := ps.map fun p => p.2.2) (by rw [List.length_map]; exact hl) (fun h hh => by obtain ⟨p, hp, rfl⟩ := List.mem_map.mp hh; exact hg p hp)
 rw [← e1] at hcb
 refine ret_p ?_
 simp only [mCall, mCons, mNil, hc, List.length_cons, List.length_nil, if_true, Nat.zero_add, Res.bind, Ev.c, callR, argsL, argL, hcb, retE]
 rfl
theorem wf_good (K : W.Frag) (c : Cls) {ps : List Pl} (h : GBs ps) : m_whole_factor K c [.p (.list (ps.map plD))] = .ok (.p (.int (wf ps))) := mOf_at (a := ps) ePs_inj h
theorem wf_ok {ps : List Pl} (h : GBs ps) : 1 ≤ wf ps ∧ (∀ p ∈ ps, p.2.2.2 ∣ wf ps) ∧ Sz (20 * ps.length + 1) (wf ps) := by
 obtain ⟨a, b, c, d⟩ := cb_ok (ps.map fun p => p.2.2) 1 0 (Int.le_refl 1) (sz_of _ (by decide)) (fun h' hh => by obtain ⟨p, hp, rfl⟩ := List.mem_map.mp hh; exact h.2 p hp)
 refine ⟨a, fun p hp => c _ (List.mem_map.mpr ⟨p, hp, rfl⟩), ?_⟩
 rw [List.length_map, Nat.zero_add] at d
 exact d
def blow (F : Int) (p : Pl) : Pl := (p.1, p.2.1, (p.2.2.1 * F.fdiv p.2.2.2, 1))
def ePI (a : List Pl × Int) : List L := [.p (.list (a.1.map plD)), .p (.int a.2)]
theorem ePI_inj (a b : List Pl × Int) (h : ePI a = ePI b) : a = b := by
 unfold ePI at h
 injection h with h1 h2
 injection h2 with h2 _
 injection h1 with h1
 injection h1 with h1
 injection h2 with h2
 injection h2 with h2
 exact Prod.ext (plsI h1) h2
def m_blown_up (K : W.Frag) (c : Cls) : List L → Res L := mOf ePI (fun a => GBs a.1 ∧ Sz 1000 a.2) fun a => .ok (.o (.list ((a.1.map (blow a.2)).map plD)))
def f_blown_up_e1 (K : W.Frag) (c : Cls) : En → Res Ev := (mCallB tupR' (mCons (mBin ixE (mVar 0) (mC (.int 0))) (mCons (mBin ixE (mVar 0) (mC (.int 1))) (mCons (mCallB tupR' (mCons (mCall 2 (m_whole K c) (mCons (mBin ixE (mVar 0) (mC (.int 2))) (mCons (mVar 1) mNil))) (mCons (mC (.int 1)) mNil))) mNil))))
def f_blown_up (K : W.Frag) (c : Cls) : MS := (mRet (mComp 1 [1] (mItL (mVar 0)) (mgName 0) mYes (f_blown_up_e1 K c)))
theorem eq_blown_up (K : W.Frag) (c : Cls) : ∀ ls, m_blown_up K c ls = .bad ∨ runF 2 (f_blown_up K c) ls = m_blown_up K c ls := mOf_eq fun a h => by
 obtain ⟨ps, F⟩ := a
 obtain ⟨⟨hl, hg⟩, hF⟩ := h
 dsimp only at hl hg hF ⊢
 refine run_rt ?_
 rw [show startE 2 (ePI (ps, F)) = [some (.p (.list (ps.map plD))), some (.p (.int F))] from rfl]
 unfold f_blown_up
 have hm : mapO (compItem 1 [1] (mgName 0) mYes (f_blown_up_e1 K c) [some (.p (.list (ps.map plD))), some (.p (.int F))]) (ps.map plD) = some (ps.map fun p => plD (blow F p)) := by
  refine mapO_map _ fun p hp => ?_
  have hw := whole_good K c (hg p hp) hF
  unfold compItem
  simp only [mgName, capE, capO, mYes, f_blown_up_e1, mVar, mC, mBin, mCons, mNil, mCall, callR, argsL, argL, Res.bind, Ev.c, retE, mCallB, tupR', pureL, ix_pl2, ix_pl0, ix_pl1, List.getElem?_cons_zero, List.getElem?_cons_succ, List.set_cons_zero, List.length_cons, List.length_nil, if_true, Nat.zero_add, Nat.reduceAdd, Nat.reduceLeDiff, List.map_cons, List.map_nil, List.replicate, List.cons_append, List.nil_append, hw]
  rfl
 have hc := comp_l (n := 1) (js := [1]) (fi := mItL (mVar 0)) (tg := mgName 0) (ft := mYes) (fe := f_blown_up_e1 K c) (en := [some (.p (.list (ps.map plD))), some (.p (.int F))]) (ds := ps.map plD) rfl (by rw [List.length_map]; lia) hm
 refine (ret_f hc).trans ?_
 rw [List.map_map]
 rfl
theorem blow_good (K : W.Frag) (c : Cls) {ps : List Pl} {F : Int} (h : GBs ps) (hF : Sz 1000 F) : m_blown_up K c [.p (.list (ps.map plD)), .p (.int F)] = .ok (.o (.list ((ps.map (blow F)).map plD))) := mOf_at (a := (ps, F)) ePI_inj ⟨h, hF⟩
def ePtI (a : Pt × Int) : List L := [.p (.tuple [frD a.1.1, frD a.1.2]), .p (.int a.2)]
theorem ePtI_inj (a b : Pt × Int) (h : ePtI a = ePtI b) : a = b := by
 unfold ePtI at h
 injection h with h1 h2
 injection h2 with h2 _
 injection h1 with h1
 injection h2 with h2
 injection h2 with h2
 exact Prod.ext (ptI h1) h2
def shr (F : Int) (pt : Pt) : Pt := (FR.mk pt.1.1 (pt.1.2 * F), FR.mk pt.2.1 (pt.2.2 * F))
def m_shrunk (K : W.Frag) (c : Cls) : List L → Res L := mOf ePtI (fun a => 1 ≤ a.1.1.2 ∧ 1 ≤ a.1.2.2 ∧ Sz 3000 a.1.1.2 ∧ Sz 3000 a.1.2.2 ∧ 1 ≤ a.2 ∧ Sz 1000 a.2) fun a => .ok (.p (.tuple [frD (shr a.2 a.1).1, frD (shr a.2 a.1).2]))
def f_shrunk (K : W.Frag) (c : Cls) : MS := (mRet (mCallB tupR' (mCons (mCall 2 (m_fraction K c) (mCons (mBin ixE (mBin ixE (mVar 0) (mC (.int 0))) (mC (.int 0))) (mCons (mBin mulE (mBin ixE (mBin ixE (mVar 0) (mC (.int 0))) (mC (.int 1))) (mVar 1)) mNil))) (mCons (mCall 2 (m_fraction K c) (mCons (mBin ixE (mBin ixE (mVar 0) (mC (.int 1))) (mC (.int 0))) (mCons (mBin mulE (mBin ixE (mBin ixE (mVar 0) (mC (.int 1))) (mC (.int 1))) (mVar 1)) mNil))) mNil))))
theorem eq_shrunk (K : W.Frag) (c : Cls) : ∀ ls, m_shrunk K c ls = .bad ∨ runF 2 (f_shrunk K c) ls = m_shrunk K c ls := mOf_eq fun a h => by
 obtain ⟨pt, F⟩ := a
 obtain ⟨x0, y0, x1, y1, f0, f1⟩ := h
 dsimp only at x0 y0 x1 y1 f0 f1 ⊢
 have p1 := pos_mul x0 f0
 have p2 := pos_mul y0 f0
 have a1 := frac_ok K c (t := pt.1.1) (b := pt.1.2 * F) (by lia) ((Sz.mul x1 f1).mono (by decide))
 have a2 := frac_ok K c (t := pt.2.1) (b := pt.2.2 * F) (by lia) ((Sz.mul y1 f1).mono (by decide))
 refine run_rt ?_
 rw [show startE 2 (ePtI (pt, F)) = [some (.p (.tuple [frD pt.1, frD pt.2])), some (.p (.int F))] from rfl]
 unfold f_shrunk
 refine ret_p ?_
 simp (disch := (first | assumption | (first | apply N.cm2 | apply N.cd2) <;> (first | decide | lia | (repeat (first | assumption | apply L2.Sz.mul | apply N.Sz.addM | apply N.Sz.subM | apply L2.Sz.neg | apply N.sz_fdiv | (apply N.sz_fmod; (first | decide | lia)) | exact N.sz_lit4 (by decide) | exact N.sz_lit (by decide) | exact N.sz_lit70 (by decide) | exact N.sz_big (by decide)))) | decide | lia)) only [mVar, mC, mBin, mCons, mNil, mCall, callR, argsL, argL, Res.bind, Ev.c, retE, mCallB, tupR', pureL, ix_fr0, ix_fr1, ix_t0, ix_t1, mul_ok, List.getElem?_cons_zero, List.getElem?_cons_succ, List.length_cons, List.length_nil, if_true, Nat.zero_add, Nat.reduceAdd, Nat.reduceLeDiff, a1, a2]
 rfl
theorem shr_good (K : W.Frag) (c : Cls) {pt : Pt} {F : Int} (h1 : 1 ≤ pt.1.2) (h2 : 1 ≤ pt.2.2) (h3 : Sz 3000 pt.1.2) (h4 : Sz 3000 pt.2.2) (h5 : 1 ≤ F) (h6 : Sz 1000 F) : m_shrunk K c [.p (.tuple [frD pt.1, frD pt.2]), .p (.int F)] = .ok (.p (.tuple [frD (shr F pt).1, frD (shr F pt).2])) := mOf_at (a := (pt, F)) ePtI_inj ⟨h1, h2, h3, h4, h5, h6⟩
def optF : Option (Int × Int) → D
 | none => .none
 | some x => frD x
def eLH (a : List (Int × Int) × List (Int × Int)) : List L := [.p (.list (a.1.map frD)), .p (.list (a.2.map frD))]
theorem eLH_inj (a b : List (Int × Int) × List (Int × Int)) (h : eLH a = eLH b) : a = b := by
 unfold eLH at h
 injection h with h1 h2
 injection h2 with h2 _
 injection h1 with h1
 injection h1 with h1
 injection h2 with h2
 injection h2 with h2
 exact Prod.ext (frsI h1) (frsI h2)
def Gs (n : Nat) (xs : List (Int × Int)) : Prop := ∀ x ∈ xs, Good n x
theorem Gs.best {n : Nat} {xs : List (Int × Int)} (h : Gs n xs) (h0 : xs ≠ []) : Good n (best (xs.headD (0, 1)) xs) := h _ (best_of h0 fun x hx => (h x hx).1).1
theorem Gs.worst {n : Nat} {xs : List (Int × Int)} (h : Gs n xs) (h0 : xs ≠ []) : Good n (worst (xs.headD (0, 1)) xs) := h _ (worst_of h0 fun x hx => (h x hx).1).1
theorem good_one : Good 10 (1, 1) := ⟨Int.le_refl 1, sz_of _ (by decide), sz_of _ (by decide)⟩
def m_between (K : W.Frag) (c : Cls) : List L → Res L := mOf eLH (fun a => Gs 900 a.1 ∧ Gs 900 a.2) fun a => .ok (.p (optF (btw a.1 a.2)))
def f_between (K : W.Frag) (c : Cls) : MS := (mSeq (mIfS (mAnd (mTru (mBin (eqE false) (mCallB lenE (mCons (mVar 0) mNil)) (mC (.int 0)))) (mTru (mBin (eqE false) (mCallB lenE (mCons (mVar 1) mNil)) (mC (.int 0))))) (mRet (mCallB tupR' (mCons (mC (.int 0)) (mCons (mC (.int 1)) mNil)))) mNext) (mSeq (mIfS (mTru (mBin (eqE false) (mCallB lenE (mCons (mVar 1) mNil)) (mC (.int 0)))) (mRet (mCall 2 (m_plus K c) (mCons (mCall 1 (m_greatest K c) (mCons (mVar 0) mNil)) (mCons (mCallB tupR' (mCons (mC (.int 1)) (mCons (mC (.int 1)) mNil))) mNil)))) mNext) (mSeq (mIfS (mTru (mBin (eqE false) (mCallB lenE (mCons (mVar 0) mNil)) (mC (.int 0)))) (mRet (mCall 2 (m_minus K c) (mCons (mCall 1 (m_least K c) (mCons (mVar 1) mNil)) (mCons (mCallB tupR' (mCons (mC (.int 1)) (mCons (mC (.int 1)) mNil))) mNil)))) mNext) (mSeq (mSet 2 (mCall 1 (m_greatest K c) (mCons (mVar 0) mNil))) (mSeq (mSet 3 (mCall 1 (m_least K c) (mCons (mVar 1) mNil))) (mRet (mIf (mTru (mCall 2 (m_less K c) (mCons (mVar 2) (mCons (mVar 3) mNil)))) (mCall 2 (m_over K c) (mCons (mCall 2 (m_plus K c) (mCons (mVar 2) (mCons (mVar 3) mNil))) (mCons (mCallB tupR' (mCons (mC (.int 2)) (mCons (mC (.int 1)) mNil))) mNil))) (mC (.none)))))))))
theorem len_t (n : Nat) : eqE false (.p (.int (n : Int))) (.p (.int 0)) = .ok (.p (.bool (decide (n = 0)))) := by
 simp [eqE, dat, sh_int, eqv_ii]
 by_cases h : n = 0
 ·subst h; rfl
 ·simp [h]
theorem eq_between (K : W.Frag) (c : Cls) : ∀ ls, m_between K c ls = .bad ∨ runF 4 (f_between K c) ls = m_between K c ls := mOf_eq fun a h => by
 obtain ⟨lo, hi⟩ := a
 obtain ⟨hl, hh⟩ := h
 dsimp only at hl hh ⊢
 have L0 : ∀ xs : List (Int × Int), lenE [.p (.list (xs.map frD))] = .ok (.p (.int (xs.length : Nat))) := fun xs => by simp [lenE, seqOf]
 refine run_rt ?_
 rw [show startE 4 (eLH (lo, hi)) = [some (.p (.list (lo.map frD))), some (.p (.list (hi.map frD))), none, none] from rfl]
 unfold f_between btw
 have t0 : ∀ r2 r3, mTru (mBin (eqE false) (mCallB lenE (mCons (mVar 0) mNil)) (mC (.int 0))) [some (.p (.list (lo.map frD))), some (.p (.list (hi.map frD))), r2, r3] = .ok (decide (lo.length = 0)) := fun r2 r3 => by
  simp only [mTru, mBin, mCallB, mCons, mNil, mVar, mC, List.getElem?_cons_zero, Res.bind, Ev.c, L0, len_t, truthR]
 have t1 : ∀ r2 r3, mTru (mBin (eqE false) (mCallB lenE (mCons (mVar 1) mNil)) (mC (.int 0))) [some (.p (.list (lo.map frD))), some (.p (.list (hi.map frD))), r2, r3] = .ok (decide (hi.length = 0)) := fun r2 r3 => by
  simp only [mTru, mBin, mCallB, mCons, mNil, mVar, mC, List.getElem?_cons_zero, List.getElem?_cons_succ, Res.bind, Ev.c, L0, len_t, truthR]
 have t01 : ∀ r2 r3, (mAnd (mTru (mBin (eqE false) (mCallB lenE (mCons (mVar 0) mNil)) (mC (.int 0)))) (mTru (mBin (eqE false) (mCallB lenE (mCons (mVar 1) mNil)) (mC (.int 0))))) [some (.p (.list (lo.map frD))), some (.p (.list (hi.map frD))), r2, r3] = .ok (decide (lo.length = 0) && decide (hi.length = 0)) := fun r2 r3 => by
  unfold mAnd
  rw [t0, t1]
  cases decide (lo.length = 0) <;> rfl
 have zl : ∀ xs : List (Int × Int), xs.length = 0 ↔ xs = [] := fun xs => List.length_eq_zero_iff
 by_cases c1 : lo = []
 ·by_cases c2 : hi = []
  ·rw [if_pos ⟨c1, c2⟩]
   have t := t01 none none
   rw [decide_eq_true ((zl lo).mpr c1), decide_eq_true ((zl hi).mpr c2)] at t
   exact seq_rt ((if_t t).trans rfl)
  ·rw [if_neg (fun z => c2 z.2), if_neg c2, if_pos c1]
   have t := t01 none none
   have u1 := t1 none none
   have u0 := t0 none none
   rw [decide_eq_true ((zl lo).mpr c1)] at u0
   rw [decide_eq_false (fun z => c2 ((zl hi).mp z))] at u1
   rw [decide_eq_true ((zl lo).mpr c1), decide_eq_false (fun z => c2 ((zl hi).mp z))] at t
   have w := hh.worst c2
   have hw := least_good K c hi c2 fun y hy => ((hh y hy).mono (show 900 ≤ 2000 by decide)).fsz
   have hm := minus_good K c w good_one (by decide) (by decide)
   have hm : m_minus K c [.p (frD (worst (hi.headD (0, 1)) hi)), .p (.tuple [.int 1, .int 1])] = .ok (.p (frD (hM (worst (hi.headD (0, 1)) hi) (1, 1)))) := hm
   refine (seq_nx (if_f t)).trans ((seq_nx (if_f u1)).trans (seq_rt ((if_t u0).trans (ret_p ?_))))
   simp only [mVar, mC, mCons, mNil, mCall, callR, argsL, argL, Res.bind, Ev.c, retE, mCallB, tupR', pureL, List.getElem?_cons_zero, List.getElem?_cons_succ, List.length_cons, List.length_nil, if_true, Nat.zero_add, Nat.reduceAdd, Nat.reduceLeDiff, hw, hm, optF]
 ·by_cases c2 : hi = []
  ·rw [if_neg (fun z => c1 z.1), if_pos c2]
   have t := t01 none none
   have u1 := t1 none none
   rw [decide_eq_true ((zl hi).mpr c2)] at u1
   rw [decide_eq_false (fun z => c1 ((zl lo).mp z)), decide_eq_true ((zl hi).mpr c2)] at t
   have w := hl.best c1
   have hw := greatest_good K c lo c1 fun y hy => ((hl y hy).mono (show 900 ≤ 2000 by decide)).fsz
   have hm := plus_good K c w good_one (by decide) (by decide)
   have hm : m_plus K c [.p (frD (best (lo.headD (0, 1)) lo)), .p (.tuple [.int 1, .int 1])] = .ok (.p (frD (hP (best (lo.headD (0, 1)) lo) (1, 1)))) := hm
   refine (seq_nx (if_f t)).trans (seq_rt ((if_t u1).trans (ret_p ?_)))
   simp only [mVar, mC, mCons, mNil, mCall, callR, argsL, argL, Res.bind, Ev.c, retE, mCallB, tupR', pureL, List.getElem?_cons_zero, List.length_cons, List.length_nil, if_true, Nat.zero_add, Nat.reduceAdd, Nat.reduceLeDiff, hw, hm, optF]
  ·rw [if_neg (fun z => c1 z.1), if_neg c2, if_neg c1]
   have t := t01 none none
   have u1 := t1 none none
   have u0 := t0 none none
   rw [decide_eq_false (fun z => c1 ((zl lo).mp z))] at u0
   rw [decide_eq_false (fun z => c2 ((zl hi).mp z))] at u1
   rw [decide_eq_false (fun z => c1 ((zl lo).mp z)), decide_eq_false (fun z => c2 ((zl hi).mp z))] at t
   have w1 := hl.best c1
   have w2 := hh.worst c2
   have h1 := greatest_good K c lo c1 fun y hy => ((hl y hy).mono (show 900 ≤ 2000 by decide)).fsz
   have h2 := least_good K c hi c2 fun y hy => ((hh y hy).mono (show 900 ≤ 2000 by decide)).fsz
   generalize best (lo.headD (0, 1)) lo = l at *
   generalize worst (hi.headD (0, 1)) hi = h at *
   have hp := plus_good K c w1 w2 (by decide) (by decide)
   have ho := over_good K c (good_P w1 w2) (by decide)
   have hlt := less_good K c ((w1.mono (show 900 ≤ 2000 by decide)).fsz) ((w2.mono (show 900 ≤ 2000 by decide)).fsz)
   have e1 : (mCall 1 (m_greatest K c) (mCons (mVar 0) mNil)) [some (.p (.list (lo.map frD))), some (.p (.list (hi.map frD))), none, none] = .ok (.p (frD l)) := by
    simp only [mCall, mCons, mNil, mVar, List.getElem?_cons_zero, List.length_cons, List.length_nil, if_true, Nat.zero_add, Res.bind, Ev.c, callR, argsL, argL, h1, retE]
   have e2 : (mCall 1 (m_least K c) (mCons (mVar 1) mNil)) [some (.p (.list (lo.map frD))), some (.p (.list (hi.map frD))), some (.p (frD l)), none] = .ok (.p (frD h)) := by
    simp only [mCall, mCons, mNil, mVar, List.getElem?_cons_zero, List.getElem?_cons_succ, List.length_cons, List.length_nil, if_true, Nat.zero_add, Res.bind, Ev.c, callR, argsL, argL, h2, retE]
   refine (seq_nx (if_f t)).trans ((seq_nx (if_f u1)).trans ((seq_nx (if_f u0)).trans ((seq_nx (set_p e1)).trans ((seq_nx (set_p e2)).trans (ret_p ?_)))))
   cases hb : ltF l h with
   | true =>
    rw [hb] at hlt
    simp only [mIf, mVar, mC, mCons, mNil, mCall, callR, argsL, argL, Res.bind, Ev.c, retE, mCallB, tupR', pureL, mTru, truthR, List.getElem?_cons_zero, List.getElem?_cons_succ, List.set_cons_zero, List.set_cons_succ, List.length_cons, List.length_nil, if_true, Nat.zero_add, Nat.reduceAdd, Nat.reduceLeDiff, hlt, hp, ho, optF]
   | false =>
    rw [hb] at hlt
    simp only [mIf, mVar, mC, mCons, mNil, mCall, callR, argsL, argL, Res.bind, Ev.c, retE, mCallB, tupR', pureL, mTru, truthR, List.getElem?_cons_zero, List.getElem?_cons_succ, List.set_cons_zero, List.set_cons_succ, List.length_cons, List.length_nil, if_true, if_false, Bool.false_eq_true, Nat.zero_add, Nat.reduceAdd, Nat.reduceLeDiff, hlt, optF]
theorem btw_good (K : W.Frag) (c : Cls) {lo hi : List (Int × Int)} (h1 : Gs 900 lo) (h2 : Gs 900 hi) : m_between K c [.p (.list (lo.map frD)), .p (.list (hi.map frD))] = .ok (.p (optF (btw lo hi))) := mOf_at (a := (lo, hi)) eLH_inj ⟨h1, h2⟩
def m_solved (K : W.Frag) (c : Cls) : List L → Res L := mOf eFs (fun rows => rows.length ≤ 10000 ∧ ∀ r ∈ rows, Sz 900 r.1 ∧ Sz 900 r.2) fun rows => .ok (.p (optF (solve rows)))
def f_solved_e1 (K : W.Frag) (c : Cls) : En → Res Ev := (mCall 2 (m_fraction K c) (mCons (mUn negE (mBin ixE (mVar 0) (mC (.int 1)))) (mCons (mBin ixE (mVar 0) (mC (.int 0))) mNil)))
def f_solved_e2 (K : W.Frag) (c : Cls) : En → Res Ev := (mCall 2 (m_fraction K c) (mCons (mUn negE (mBin ixE (mVar 0) (mC (.int 1)))) (mCons (mBin ixE (mVar 0) (mC (.int 0))) mNil)))
def f_solved_e3 (K : W.Frag) (c : Cls) : En → Res Ev := (mAndV (mBin (eqE false) (mBin ixE (mVar 0) (mC (.int 0))) (mC (.int 0))) (mBin leE (mBin ixE (mVar 0) (mC (.int 1))) (mC (.int 0))))
def f_solved (K : W.Frag) (c : Cls) : MS := (mSeq (mIfS (mTru (mCallB anyE (mCons (mComp 1 [] (mItL (mVar 0)) (mgName 0) mYes (f_solved_e3 K c)) mNil))) (mRet (mC (.none))) mNext) (mSeq (mSet 1 (mComp 1 [] (mItL (mVar 0)) (mgName 0) (mTru (mBin gtE (mBin ixE (mVar 0) (mC (.int 0))) (mC (.int 0)))) (f_solved_e2 K c))) (mSeq (mSet 2 (mComp 1 [] (mItL (mVar 0)) (mgName 0) (mTru (mBin ltE (mBin ixE (mVar 0) (mC (.int 0))) (mC (.int 0)))) (f_solved_e1 K c))) (mRet (mCall 2 (m_between K c) (mCons (mVar 1) (mCons (mVar 2) mNil)))))))
theorem nil0_good {n : Nat} {r : N.R2} (h : r.1 ≠ 0) (h1 : Sz n r.1) (h2 : Sz n r.2) : Good n (nil0 r) := mk_good h2.neg h1 h
theorem eq_solved (K : W.Frag) (c : Cls) : ∀ ls, m_solved K c ls = .bad ∨ runF 3 (f_solved K c) ls = m_solved K c ls := mOf_eq fun rows h => by
 obtain ⟨hl, hz⟩ := h
 refine run_rt ?_
 rw [show startE 3 (eFs rows) = [some (.p (.list (rows.map frD))), none, none] from rfl]
 unfold f_solved solve
 have hlen : (rows.map frD).length ≤ 100000 := by rw [List.length_map]; lia
 have fr : ∀ r ∈ rows, r.1 ≠ 0 → m_fraction K c [.p (.int (-r.2)), .p (.int r.1)] = .ok (.p (frD (nil0 r))) := fun r hr h0 => frac_ok K c h0 ((hz r hr).1.mono (by decide))
 have m1 : mapO (compItem 1 [] (mgName 0) mYes (f_solved_e3 K c) [some (.p (.list (rows.map frD))), none, none]) (rows.map frD) = some (rows.map fun r => PyData.bool (decide (r.1 = 0) && decide (r.2 ≤ 0))) := by
  refine mapO_map _ fun r hr => ?_
  have q : eqE false (.p (.int r.1)) (.p (.int 0)) = .ok (.p (.bool (decide (r.1 = 0)))) := by
   simp [eqE, dat, sh_int, eqv_ii]
   by_cases h : r.1 = 0
   ·simp [h]
   ·simp [h]
  unfold compItem
  simp only [mgName, capE, List.map_nil, mYes, f_solved_e3, mAndV, mBin, mVar, mC, List.getElem?_cons_zero, List.set_cons_zero, List.map_nil, List.replicate, List.cons_append, List.nil_append, Res.bind, Ev.c, ix_fr0, ix_fr1, q, intE0]
  by_cases h : r.1 = 0
  ·simp [h]
  ·simp [h]
 have c1 := comp_l (n := 1) (js := []) (fi := mItL (mVar 0)) (tg := mgName 0) (ft := mYes) (fe := f_solved_e3 K c) (en := [some (.p (.list (rows.map frD))), none, none]) (ds := rows.map frD) rfl hlen m1
 have ta : mTru (mCallB anyE (mCons (mComp 1 [] (mItL (mVar 0)) (mgName 0) mYes (f_solved_e3 K c)) mNil)) [some (.p (.list (rows.map frD))), none, none] = .ok (rows.any fun r => decide (r.1 = 0) && decide (r.2 ≤ 0)) := by
  have : anyE [.p (.list (rows.map fun r => PyData.bool (decide (r.1 = 0) && decide (r.2 ≤ 0))))] = .ok (.p (.bool (rows.any fun r => decide (r.1 = 0) && decide (r.2 ≤ 0)))) := by
   simp only [anyE, lstOf, bls_map]
   rw [any_map]
  simp only [mTru, mCallB, mCons, mNil, c1, Res.bind, Ev.c, this, truthR]
 cases hb : (rows.any fun r => decide (r.1 = 0) && decide (r.2 ≤ 0)) with
 | true =>
  rw [hb] at ta
  rw [if_pos rfl]
  exact seq_rt ((if_t ta).trans rfl)
 | false =>
  rw [hb] at ta
  rw [if_neg (by decide)]
  have m2 : mapO (compItem 1 [] (mgName 0) (mTru (mBin gtE (mBin ixE (mVar 0) (mC (.int 0))) (mC (.int 0)))) (f_solved_e2 K c) [some (.p (.list (rows.map frD))), none, none]) (rows.map frD) = some (((rows.filter fun r => decide (0 < r.1))).map fun r => frD (nil0 r)) := by
   refine mapO_flt _ fun r hr => ?_
   unfold compItem
   by_cases h : 0 < r.1
   ·have f := fr r hr (by lia)
    rw [decide_eq_true h]
    simp only [mgName, capE, List.map_nil, f_solved_e2, mVar, mC, mBin, mUn, mCons, mNil, mCall, callR, argsL, argL, Res.bind, Ev.c, retE, mTru, truthR, intE0, negE, ix_fr0, ix_fr1, mUn, negE, List.getElem?_cons_zero, List.set_cons_zero, List.length_cons, List.length_nil, if_true, Nat.zero_add, Nat.reduceAdd, List.map_nil, List.replicate, List.cons_append, List.nil_append, decide_eq_true h, f]
   ·rw [decide_eq_false h]
    simp only [mgName, capE, List.map_nil, mVar, mC, mBin, Res.bind, Ev.c, mTru, truthR, intE0, ix_fr0, List.getElem?_cons_zero, List.set_cons_zero, if_false, Bool.false_eq_true, List.map_nil, List.replicate, List.cons_append, List.nil_append, decide_eq_false h]
  have c2 := comp_l (n := 1) (js := []) (fi := mItL (mVar 0)) (tg := mgName 0) (ft := mTru (mBin gtE (mBin ixE (mVar 0) (mC (.int 0))) (mC (.int 0)))) (fe := f_solved_e2 K c) (en := [some (.p (.list (rows.map frD))), none, none]) (ds := rows.map frD) rfl hlen m2
  have m3 : ∀ x, mapO (compItem 1 [] (mgName 0) (mTru (mBin ltE (mBin ixE (mVar 0) (mC (.int 0))) (mC (.int 0)))) (f_solved_e1 K c) [some (.p (.list (rows.map frD))), x, none]) (rows.map frD) = some (((rows.filter fun r => decide (r.1 < 0))).map fun r => frD (nil0 r)) := fun x => by
   refine mapO_flt _ fun r hr => ?_
   unfold compItem
   by_cases h : r.1 < 0
   ·have f := fr r hr (by lia)
    rw [decide_eq_true h]
    simp only [mgName, capE, List.map_nil, f_solved_e1, mVar, mC, mBin, mUn, mCons, mNil, mCall, callR, argsL, argL, Res.bind, Ev.c, retE, mTru, truthR, intE0, negE, ix_fr0, ix_fr1, mUn, negE, List.getElem?_cons_zero, List.set_cons_zero, List.length_cons, List.length_nil, if_true, Nat.zero_add, Nat.reduceAdd, List.map_nil, List.replicate, List.cons_append, List.nil_append, decide_eq_true h, f]
   ·rw [decide_eq_false h]
    simp only [mgName, capE, List.map_nil, mVar, mC, mBin, Res.bind, Ev.c, mTru, truthR, intE0, ix_fr0, List.getElem?_cons_zero, List.set_cons_zero, if_false, Bool.false_eq_true, List.map_nil, List.replicate, List.cons_append, List.nil_append, decide_eq_false h]
  have c3 := fun x => comp_l (n := 1) (js := []) (fi := mItL (mVar 0)) (tg := mgName 0) (ft := mTru (mBin ltE (mBin ixE (mVar 0) (mC (.int 0))) (mC (.int 0)))) (fe := f_solved_e1 K c) (en := [some (.p (.list (rows.map frD))), x, none]) (ds := rows.map frD) rfl hlen (m3 x)
  have el : ((rows.filter fun r => decide (0 < r.1)).map fun r => frD (nil0 r)) = (lowsOf rows).map frD := by unfold lowsOf; rw [List.map_map]; rfl
  have eh : ((rows.filter fun r => decide (r.1 < 0)).map fun r => frD (nil0 r)) = (highsOf rows).map frD := by unfold highsOf; rw [List.map_map]; rfl
  rw [el] at c2
  simp only [eh] at c3
  have gl : Gs 900 (lowsOf rows) := fun x hx => by
   obtain ⟨r, hr, h0, rfl⟩ := mem_lows.mp hx
   exact nil0_good (by lia) (hz r hr).1 (hz r hr).2
  have gh : Gs 900 (highsOf rows) := fun x hx => by
   obtain ⟨r, hr, h0, rfl⟩ := mem_highs.mp hx
   exact nil0_good (by lia) (hz r hr).1 (hz r hr).2
  have hbt := btw_good K c gl gh
  have hfl : flatL (.p (optF (btw (lowsOf rows) (highsOf rows)))) = true := by
   unfold flatL
   cases btw (lowsOf rows) (highsOf rows) with
   | none => simp [optF, lfD]
   | some x => exact lf_fr x
  refine (seq_nx (if_f ta)).trans ((seq_nx (set_f c2)).trans ((seq_nx (set_f (c3 _))).trans (ret_p ?_)))
  simp only [mCall, mCons, mNil, mVar, List.getElem?_cons_zero, List.getElem?_cons_succ, List.set_cons_zero, List.set_cons_succ, List.length_cons, List.length_nil, if_true, Nat.zero_add, Nat.reduceAdd, Res.bind, Ev.c, callR, argsL, argL, argB, hbt, hfl, retE]
theorem solve_good (K : W.Frag) (c : Cls) {rows : List N.R2} (h1 : rows.length ≤ 10000) (h2 : ∀ r ∈ rows, Sz 900 r.1 ∧ Sz 900 r.2) : m_solved K c [.p (.list (rows.map frD))] = .ok (.p (optF (solve rows))) := mOf_at (a := rows) eFs_inj ⟨h1, h2⟩
def r3D (r : R3) : D := .tuple [.int r.1, .int r.2.1, .int r.2.2]
theorem r3I {a b : R3} (h : r3D a = r3D b) : a = b := by
 unfold r3D at h
 injection h with h
 injection h with h1 h
 injection h with h2 h
 injection h with h3 _
 injection h1 with h1
 injection h2 with h2
 injection h3 with h3
 exact Prod.ext h1 (Prod.ext h2 h3)
theorem mapI {α : Type} {f : α → D} (hf : ∀ a b, f a = f b → a = b) : ∀ {xs ys : List α}, xs.map f = ys.map f → xs = ys
 | [], [], _ => rfl
 | [], _ :: _, h => by cases h
 | _ :: _, [], h => by cases h
 | x :: xs, y :: ys, h => by
  injection h with h1 h2
  rw [hf x y h1, mapI hf h2]
theorem ix_r0 (p : R3) : ixE (.p (r3D p)) (.p (.int 0)) = .ok (.p (.int p.1)) := ix_t0 _ _
theorem ix_r1 (p : R3) : ixE (.p (r3D p)) (.p (.int 1)) = .ok (.p (.int p.2.1)) := ix_t1 _ _ _
theorem ix_r2 (p : R3) : ixE (.p (r3D p)) (.p (.int 2)) = .ok (.p (.int p.2.2)) := ix_t2 _ _ _ _
def eRs (rows : List R3) : List L := [.p (.list (rows.map r3D))]
theorem eRs_inj (a b : List R3) (h : eRs a = eRs b) : a = b := by
 unfold eRs at h
 injection h with h _
 injection h with h
 injection h with h
 exact mapI (fun _ _ => r3I) h
def G3 (n : Nat) (r : R3) : Prop := Sz n r.1 ∧ Sz n r.2.1 ∧ Sz n r.2.2
def m_without_y (K : W.Frag) (c : Cls) : List L → Res L := mOf eRs (fun rows => rows.length ≤ 100 ∧ ∀ r ∈ rows, G3 620 r) fun rows => .ok (.o (.list ((elim rows).map frD)))
def f_without_y_e1 (K : W.Frag) (c : Cls) : En → Res Ev := (mCallB tupR' (mCons (mBin subE (mBin mulE (mBin ixE (mVar 1) (mC (.int 1))) (mBin ixE (mVar 0) (mC (.int 0)))) (mBin mulE (mBin ixE (mVar 0) (mC (.int 1))) (mBin ixE (mVar 1) (mC (.int 0))))) (mCons (mBin subE (mBin mulE (mBin ixE (mVar 1) (mC (.int 1))) (mBin ixE (mVar 0) (mC (.int 2)))) (mBin mulE (mBin ixE (mVar 0) (mC (.int 1))) (mBin ixE (mVar 1) (mC (.int 2))))) mNil)))
def f_without_y_b2 (K : W.Frag) (c : Cls) : MS := (mIfS (mTru (mBin gtE (mBin ixE (mVar 3) (mC (.int 1))) (mC (.int 0)))) (mExtend 1 (mComp 1 [3] (mItL (mVar 2)) (mgName 0) mYes (f_without_y_e1 K c))) mNext)
def f_without_y_e3 (K : W.Frag) (c : Cls) : En → Res Ev := (mVar 0)
def f_without_y_e4 (K : W.Frag) (c : Cls) : En → Res Ev := (mCallB tupR' (mCons (mBin ixE (mVar 0) (mC (.int 0))) (mCons (mBin ixE (mVar 0) (mC (.int 2))) mNil)))
def f_without_y (K : W.Frag) (c : Cls) : MS := (mSeq (mSet 1 (mComp 1 [] (mItL (mVar 0)) (mgName 0) (mTru (mBin (eqE false) (mBin ixE (mVar 0) (mC (.int 1))) (mC (.int 0)))) (f_without_y_e4 K c))) (mSeq (mSet 2 (mComp 1 [] (mItL (mVar 0)) (mgName 0) (mTru (mBin ltE (mBin ixE (mVar 0) (mC (.int 1))) (mC (.int 0)))) (f_without_y_e3 K c))) (fun en => (mSeq (mFor (mItL (mVar 0)) (mgName 3) (f_without_y_b2 K c)) (mRet (mVar 1))) (frz 2 en))))
theorem elimS_len (highs : List R3) : ∀ (rows : List R3) (k : List N.R2), (rows.foldl (elimS highs) k).length ≤ k.length + rows.length * highs.length
 | [], k => by simp
 | l :: rows, k => by
  rw [List.foldl_cons]
  have h := elimS_len highs rows (elimS highs k l)
  have h2 : (elimS highs k l).length ≤ k.length + highs.length := by
   unfold elimS
   split
   ·rw [List.length_append, List.length_map]; exact Nat.le_refl _
   ·lia
  have e : (l :: rows).length * highs.length = highs.length + rows.length * highs.length := by rw [List.length_cons, Nat.add_mul, Nat.one_mul, Nat.add_comm]
  lia
theorem elim_len (rows : List R3) : (elim rows).length ≤ rows.length + rows.length * rows.length := by
 unfold elim
 have h := elimS_len (elimH rows) rows (elimK rows)
 have h1 : (elimK rows).length ≤ rows.length := by unfold elimK; rw [List.length_map]; exact List.length_filter_le _ _
 have h2 : (elimH rows).length ≤ rows.length := by unfold elimH; exact List.length_filter_le _ _
 have h3 := Nat.mul_le_mul_left rows.length h2
 lia
theorem eq_without_y (K : W.Frag) (c : Cls) : ∀ ls, m_without_y K c ls = .bad ∨ runF 4 (f_without_y K c) ls = m_without_y K c ls := mOf_eq fun rows h => by
 obtain ⟨hl, hz⟩ := h
 refine run_rt ?_
 rw [show startE 4 (eRs rows) = [some (.p (.list (rows.map r3D))), none, none, none] from rfl]
 unfold f_without_y
 have hlen : (rows.map r3D).length ≤ 100000 := by rw [List.length_map]; lia
 have q0 : ∀ x : Int, eqE false (.p (.int x)) (.p (.int 0)) = .ok (.p (.bool (decide (x = 0)))) := fun x => by
  simp [eqE, dat, sh_int, eqv_ii]
  by_cases h : x = 0
  ·simp [h]
  ·simp [h]
 have m1 : mapO (compItem 1 [] (mgName 0) (mTru (mBin (eqE false) (mBin ixE (mVar 0) (mC (.int 1))) (mC (.int 0)))) (f_without_y_e4 K c) [some (.p (.list (rows.map r3D))), none, none, none]) (rows.map r3D) = some ((rows.filter fun r => decide (r.2.1 = 0)).map fun r => frD (r.1, r.2.2)) := by
  refine mapO_flt _ fun r hr => ?_
  unfold compItem
  by_cases h : r.2.1 = 0
  ·rw [decide_eq_true h]
   simp only [mgName, capE, List.map_nil, f_without_y_e4, mTru, mBin, mVar, mC, mCallB, mCons, mNil, tupR', pureL, truthR, List.getElem?_cons_zero, List.set_cons_zero, List.length_cons, List.length_nil, if_true, Nat.zero_add, Nat.reduceAdd, Nat.reduceLeDiff, List.map_nil, List.replicate, List.cons_append, List.nil_append, Res.bind, Ev.c, ix_r0, ix_r1, ix_r2, q0, decide_eq_true h]
   rfl
  ·rw [decide_eq_false h]
   simp only [mgName, capE, List.map_nil, mTru, mBin, mVar, mC, truthR, List.getElem?_cons_zero, List.set_cons_zero, if_false, Bool.false_eq_true, List.map_nil, List.replicate, List.cons_append, List.nil_append, Res.bind, Ev.c, ix_r1, q0, decide_eq_false h]
 have c1 := comp_l (n := 1) (js := []) (fi := mItL (mVar 0)) (tg := mgName 0) (ft := mTru (mBin (eqE false) (mBin ixE (mVar 0) (mC (.int 1))) (mC (.int 0)))) (fe := f_without_y_e4 K c) (en := [some (.p (.list (rows.map r3D))), none, none, none]) (ds := rows.map r3D) rfl hlen m1
 have m2 : ∀ x, mapO (compItem 1 [] (mgName 0) (mTru (mBin ltE (mBin ixE (mVar 0) (mC (.int 1))) (mC (.int 0)))) (f_without_y_e3 K c) [some (.p (.list (rows.map r3D))), x, none, none]) (rows.map r3D) = some ((rows.filter fun r => decide (r.2.1 < 0)).map r3D) := fun x => by
  refine mapO_flt _ fun r hr => ?_
  unfold compItem
  by_cases h : r.2.1 < 0
  ·rw [decide_eq_true h]
   simp only [mgName, capE, List.map_nil, f_without_y_e3, mTru, mBin, mVar, mC, intE0, truthR, List.getElem?_cons_zero, List.set_cons_zero, if_true, List.map_nil, List.replicate, List.cons_append, List.nil_append, Res.bind, Ev.c, ix_r1, decide_eq_true h]
  ·rw [decide_eq_false h]
   simp only [mgName, capE, List.map_nil, mTru, mBin, mVar, mC, intE0, truthR, List.getElem?_cons_zero, List.set_cons_zero, if_false, Bool.false_eq_true, List.map_nil, List.replicate, List.cons_append, List.nil_append, Res.bind, Ev.c, ix_r1, decide_eq_false h]
 have c2 := fun x => comp_l (n := 1) (js := []) (fi := mItL (mVar 0)) (tg := mgName 0) (ft := mTru (mBin ltE (mBin ixE (mVar 0) (mC (.int 1))) (mC (.int 0)))) (fe := f_without_y_e3 K c) (en := [some (.p (.list (rows.map r3D))), x, none, none]) (ds := rows.map r3D) rfl hlen (m2 x)
 have ek : ((rows.filter fun r => decide (r.2.1 = 0)).map fun r => frD (r.1, r.2.2)) = (elimK rows).map frD := by unfold elimK; rw [List.map_map]; rfl
 rw [ek] at c1
 have eh : ((rows.filter fun r => decide (r.2.1 < 0)).map r3D) = (elimH rows).map r3D := rfl
 simp only [eh] at c2
 have hz2 : ∀ r ∈ elimH rows, G3 620 r := fun r hr => hz r (List.mem_filter.mp hr).1
 have hl2 : (elimH rows).length ≤ 100 := Nat.le_trans (List.length_filter_le _ _) hl
 have gen : ∀ (xs : List R3) (k : List N.R2) (r3 : Option L), (∀ r ∈ xs, G3 620 r) → k.length + xs.length * 100 ≤ 50000 → ∃ r', mLoop (mgName 3) (f_without_y_b2 K c) (xs.map r3D) [some (.p (.list (rows.map r3D))), some (.o (.list (k.map frD))), some (.p (.list ((elimH rows).map r3D))), r3] = some (.nx [some (.p (.list (rows.map r3D))), some (.o (.list ((xs.foldl (elimS (elimH rows)) k).map frD))), some (.p (.list ((elimH rows).map r3D))), r']) := by
  intro xs
  induction xs with
  | nil => intro k r3 _ _; exact ⟨r3, rfl⟩
  | cons l xs ih =>
   intro k r3 hx hk
   have gl := hx l (.head _)
   have hk' : k.length + (xs.length + 1) * 100 ≤ 50000 := hk
   have tl : mTru (mBin gtE (mBin ixE (mVar 3) (mC (.int 1))) (mC (.int 0))) [some (.p (.list (rows.map r3D))), some (.o (.list (k.map frD))), some (.p (.list ((elimH rows).map r3D))), some (.p (r3D l))] = .ok (decide (0 < l.2.1)) := by
    simp only [mTru, mBin, mVar, mC, intE0, truthR, List.getElem?_cons_zero, List.getElem?_cons_succ, Res.bind, Ev.c, ix_r1]
   have hb : f_without_y_b2 K c [some (.p (.list (rows.map r3D))), some (.o (.list (k.map frD))), some (.p (.list ((elimH rows).map r3D))), some (.p (r3D l))] = some (.nx [some (.p (.list (rows.map r3D))), some (.o (.list ((elimS (elimH rows) k l).map frD))), some (.p (.list ((elimH rows).map r3D))), some (.p (r3D l))]) := by
    unfold f_without_y_b2 elimS
    by_cases h : 0 < l.2.1
    ·rw [decide_eq_true h] at tl
     rw [if_pos h]
     refine (if_t tl).trans ?_
     have m3 : mapO (compItem 1 [3] (mgName 0) mYes (f_without_y_e1 K c) [some (.p (.list (rows.map r3D))), some (.o (.list (k.map frD))), some (.p (.list ((elimH rows).map r3D))), some (.p (r3D l))]) ((elimH rows).map r3D) = some ((elimH rows).map fun h => frD (lowHigh l h)) := by
      refine mapO_map _ fun g hg => ?_
      obtain ⟨a1, a2, a3⟩ := gl
      obtain ⟨b1, b2, b3⟩ := hz2 g hg
      unfold compItem
      simp (disch := (first | assumption | (first | apply N.cm2 | apply N.cd2) <;> (first | decide | lia | (repeat (first | assumption | apply L2.Sz.mul | apply N.Sz.addM | apply N.Sz.subM | apply L2.Sz.neg | apply N.sz_fdiv | (apply N.sz_fmod; (first | decide | lia)) | exact N.sz_lit4 (by decide) | exact N.sz_lit (by decide) | exact N.sz_lit70 (by decide) | exact N.sz_big (by decide)))) | decide | lia)) only [mgName, capE, capO, mYes, f_without_y_e1, mVar, mC, mBin, mCons, mNil, Res.bind, Ev.c, mCallB, tupR', pureL, intE0, mul_ok, List.getElem?_cons_zero, List.getElem?_cons_succ, List.set_cons_zero, List.length_cons, List.length_nil, if_true, Nat.zero_add, Nat.reduceAdd, Nat.reduceLeDiff, List.map_cons, List.map_nil, List.replicate, List.cons_append, List.nil_append, ix_r0, ix_r1, ix_r2]
      rfl
     have c3 := comp_l (n := 1) (js := [3]) (fi := mItL (mVar 2)) (tg := mgName 0) (ft := mYes) (fe := f_without_y_e1 K c) (en := [some (.p (.list (rows.map r3D))), some (.o (.list (k.map frD))), some (.p (.list ((elimH rows).map r3D))), some (.p (r3D l))]) (ds := (elimH rows).map r3D) rfl (by rw [List.length_map]; lia) m3
     have e3 : ((elimH rows).map fun h => frD (lowHigh l h)) = ((elimH rows).map (lowHigh l)).map frD := by rw [List.map_map]; rfl
     unfold mExtend
     simp only [List.getElem?_cons_zero, List.getElem?_cons_succ, List.set_cons_zero, List.set_cons_succ, List.length_map, List.map_append, c3]
     rw [if_pos (by lia), e3]
    ·rw [decide_eq_false h] at tl
     rw [if_neg h]
     exact if_f tl
   have hln : (elimS (elimH rows) k l).length ≤ k.length + 100 := by
    unfold elimS
    split
    ·rw [List.length_append, List.length_map]; lia
    ·lia
   obtain ⟨r', ih⟩ := ih (elimS (elimH rows) k l) (some (.p (r3D l))) (fun r hr => hx r (.tail _ hr)) (by lia)
   refine ⟨r', ?_⟩
   rw [List.map_cons]
   unfold mLoop
   simp only [mgName, List.set_cons_succ, List.set_cons_zero]
   rw [hb]
   exact ih
 have hkl : (elimK rows).length ≤ rows.length := by unfold elimK; rw [List.length_map]; exact List.length_filter_le _ _
 obtain ⟨r', hloop⟩ := gen rows (elimK rows) none hz (by lia)
 refine (seq_nx (set_f c1)).trans ((seq_nx (set_f (c2 _))).trans ?_)
 simp only [List.set_cons_succ, List.set_cons_zero, frz, List.getElem?_cons_succ, List.getElem?_cons_zero]
 refine (seq_nx ((for_l (ds := rows.map r3D) rfl).trans hloop)).trans ?_
 rfl
theorem elim_good (K : W.Frag) (c : Cls) {rows : List R3} (h1 : rows.length ≤ 100) (h2 : ∀ r ∈ rows, G3 620 r) : m_without_y K c [.p (.list (rows.map r3D))] = .ok (.o (.list ((elim rows).map frD))) := mOf_at (a := rows) eRs_inj ⟨h1, h2⟩
def gapR (p q : Pl) : R3 := (p.1 - q.1, p.2.1 - q.2.1, p.2.2.1 - q.2.2.1)
def ePP (a : Pl × Pl) : List L := [.p (plD a.1), .p (plD a.2)]
theorem ePP_inj (a b : Pl × Pl) (h : ePP a = ePP b) : a = b := by
 unfold ePP at h
 injection h with h1 h2
 injection h2 with h2 _
 injection h1 with h1
 injection h2 with h2
 exact Prod.ext (plI h1) (plI h2)
def m_gap (K : W.Frag) (c : Cls) : List L → Res L := mOf ePP (fun _ => True) fun a => .ok (.p (r3D (gapR a.1 a.2)))
def f_gap (K : W.Frag) (c : Cls) : MS := (mRet (mCallB tupR' (mCons (mBin subE (mBin ixE (mVar 0) (mC (.int 0))) (mBin ixE (mVar 1) (mC (.int 0)))) (mCons (mBin subE (mBin ixE (mVar 0) (mC (.int 1))) (mBin ixE (mVar 1) (mC (.int 1)))) (mCons (mBin subE (mBin ixE (mBin ixE (mVar 0) (mC (.int 2))) (mC (.int 0))) (mBin ixE (mBin ixE (mVar 1) (mC (.int 2))) (mC (.int 0)))) mNil)))))
theorem eq_gap (K : W.Frag) (c : Cls) : ∀ ls, m_gap K c ls = .bad ∨ runF 2 (f_gap K c) ls = m_gap K c ls := mOf_eq fun a _ => by
 obtain ⟨p, q⟩ := a
 refine run_rt ?_
 rw [show startE 2 (ePP (p, q)) = [some (.p (plD p)), some (.p (plD q))] from rfl]
 unfold f_gap
 refine ret_p ?_
 simp only [mVar, mC, mBin, mCons, mNil, Res.bind, Ev.c, mCallB, tupR', pureL, intE0, ix_pl2, ix_pl0, ix_pl1, ix_fr0, List.getElem?_cons_zero, List.getElem?_cons_succ, List.length_cons, List.length_nil, if_true, Nat.zero_add, Nat.reduceAdd, Nat.reduceLeDiff]
 rfl
theorem gap_good (K : W.Frag) (c : Cls) (p q : Pl) : m_gap K c [.p (plD p), .p (plD q)] = .ok (.p (r3D (gapR p q))) := mOf_at (a := (p, q)) ePP_inj trivial
structure Gd (t b : Nat) (x : Int × Int) : Prop where
 p : 1 ≤ x.2
 t : Sz t x.1
 b : Sz b x.2
theorem gd_mk {m n : Nat} {t b : Int} (h0 : b ≠ 0) (ht : Sz m t) (hb : Sz n b) : Gd m n (FR.mk t b) := ⟨(FR.mk_fr h0).1.pos, Sz.le ht (natAbs_fdiv_le _ _), Sz.le hb (natAbs_fdiv_le _ _)⟩
theorem Gd.mono {a b c d : Nat} {x : Int × Int} (h : Gd a b x) (h1 : a ≤ c) (h2 : b ≤ d) : Gd c d x := ⟨h.p, h.t.mono h1, h.b.mono h2⟩
theorem solve_sz {m n : Nat} {rows : List N.R2} {x : Int × Int} (h : ∀ r ∈ rows, Sz m r.1 ∧ Sz n r.2) (e : solve rows = some x) : Gd (n + m + 3) (2 * m + 3) x := by
 have gl : ∀ y ∈ lowsOf rows, Gd n m y := fun y hy => by
  obtain ⟨r, hr, h0, rfl⟩ := mem_lows.mp hy
  exact gd_mk (by lia) (h r hr).2.neg (h r hr).1
 have gh : ∀ y ∈ highsOf rows, Gd n m y := fun y hy => by
  obtain ⟨r, hr, h0, rfl⟩ := mem_highs.mp hy
  exact gd_mk (by lia) (h r hr).2.neg (h r hr).1
 unfold solve at e
 split at e
 ·cases e
 ·unfold btw at e
  split at e
  ·cases e
   exact ⟨Int.le_refl 1, sz_of _ (Nat.two_pow_pos _), sz_of _ (Nat.one_lt_two_pow (by lia))⟩
  ·rename_i z
   split at e
   ·rename_i z2
    cases e
    have g := gl _ (best_of (fun q => z ⟨q, z2⟩) low_pos).1
    generalize best ((lowsOf rows).headD (0, 1)) (lowsOf rows) = y at g
    have gp := g.p
    refine (gd_mk (m := max n m + 1) (n := m) (t := y.1 * 1 + 1 * y.2) (b := y.2 * 1) (by lia) ?_ ?_).mono (by lia) (by lia)
    ·rw [Int.mul_one, Int.one_mul]; exact Sz.addM g.t g.b
    ·rw [Int.mul_one]; exact g.b
   ·rename_i z2
    split at e
    ·cases e
     have g := gh _ (worst_of z2 high_pos).1
     generalize worst ((highsOf rows).headD (0, 1)) (highsOf rows) = y at g
     have gp := g.p
     refine (gd_mk (m := max n m + 1) (n := m) (t := y.1 * 1 - 1 * y.2) (b := y.2 * 1) (by lia) ?_ ?_).mono (by lia) (by lia)
     ·rw [Int.mul_one, Int.one_mul]; exact Sz.subM g.t g.b
     ·rw [Int.mul_one]; exact g.b
    ·rename_i z3
     split at e
     ·cases e
      have g := gl _ (best_of z3 low_pos).1
      have g2 := gh _ (worst_of z2 high_pos).1
      generalize best ((lowsOf rows).headD (0, 1)) (lowsOf rows) = y at g
      generalize worst ((highsOf rows).headD (0, 1)) (highsOf rows) = w at g2
      have gp := g.p
      have gp2 := g2.p
      have pp := pos_mul gp gp2
      have h1 : Gd (n + m + 1) (m + m) (hP y w) := (gd_mk (by lia) (Sz.addM (Sz.mul g.t g2.b) (Sz.mul g2.t g.b)) (Sz.mul g.b g2.b)).mono (by lia) (by lia)
      have hp := h1.p
      generalize hP y w = v at h1 hp
      refine (gd_mk (m := n + m + 1) (n := m + m + 2) (t := v.1 * 1) (b := v.2 * 2) (by lia) ?_ ?_).mono (by lia) (by lia)
      ·rw [Int.mul_one]; exact h1.t
      ·exact Sz.mul h1.b (sz_of 2 (by decide))
     ·cases e
structure PW (p : Pl) : Prop where
 i : Sz 4 p.1
 j : Sz 4 p.2.1
 h : Sz 591 p.2.2.1
def rowsOf (p : Pl) (ps : List Pl) : List R3 := (ps.filter fun q => decide (q ≠ p)).map (gapR p)
theorem gap_sz {p q : Pl} (hp : PW p) (hq : PW q) : Sz 5 (gapR p q).1 ∧ Sz 5 (gapR p q).2.1 ∧ Sz 592 (gapR p q).2.2 := ⟨Sz.subM hp.i hq.i, Sz.subM hp.j hq.j, Sz.subM hp.h hq.h⟩
theorem rows_sz {p : Pl} {ps : List Pl} (hp : PW p) (hq : ∀ q ∈ ps, PW q) : ∀ r ∈ rowsOf p ps, Sz 5 r.1 ∧ Sz 5 r.2.1 ∧ Sz 592 r.2.2 := fun r hr => by
 obtain ⟨q, h1, rfl⟩ := List.mem_map.mp hr
 exact gap_sz hp (hq q (List.mem_filter.mp h1).1)
theorem elim_sz {rows : List R3} (h : ∀ r ∈ rows, Sz 5 r.1 ∧ Sz 5 r.2.1 ∧ Sz 592 r.2.2) : ∀ r ∈ elim rows, Sz 11 r.1 ∧ Sz 598 r.2 := fun x hx => by
 rcases mem_elim.mp hx with ⟨r, hr, _, rfl⟩ | ⟨l, hl, _, g, hg, _, rfl⟩
 ·exact ⟨(h r hr).1.mono (by decide), (h r hr).2.2.mono (by decide)⟩
 ·obtain ⟨a1, a2, a3⟩ := h l hl
  obtain ⟨b1, b2, b3⟩ := h g hg
  exact ⟨Sz.subM (Sz.mul a2 b1) (Sz.mul b2 a1), Sz.subM (Sz.mul a2 b3) (Sz.mul b2 a3)⟩
theorem yrow_sz {rows : List R3} {x : Int × Int} (h : ∀ r ∈ rows, Sz 5 r.1 ∧ Sz 5 r.2.1 ∧ Sz 592 r.2.2) (hx : Gd 612 25 x) : ∀ r ∈ rows.map (yRow x), Sz 30 r.1 ∧ Sz 618 r.2 := fun y hy => by
 obtain ⟨r, hr, rfl⟩ := List.mem_map.mp hy
 obtain ⟨a1, a2, a3⟩ := h r hr
 exact ⟨Sz.mul a2 hx.b, Sz.addM (Sz.mul a1 hx.t) (Sz.mul a3 hx.b)⟩
theorem lone_sz {rows : List R3} {pt : Pt} (h : ∀ r ∈ rows, Sz 5 r.1 ∧ Sz 5 r.2.1 ∧ Sz 592 r.2.2) (e : loneP rows = some pt) : Gd 612 25 pt.1 ∧ Gd 651 63 pt.2 := by
 unfold loneP at e
 cases ex : solve (elim rows) with
 | none => rw [ex] at e; cases e
 | some x =>
  rw [ex] at e
  dsimp only at e
  cases ey : solve (rows.map (yRow x)) with
  | none => rw [ey] at e; cases e
  | some y =>
   rw [ey] at e
   cases e
   have gx : Gd 612 25 x := (solve_sz (elim_sz h) ex).mono (by decide) (by decide)
   exact ⟨gx, (solve_sz (yrow_sz h gx) ey).mono (by decide) (by decide)⟩
def optPt : Option Pt → D
 | none => .none
 | some pt => .tuple [frD pt.1, frD pt.2]
def ePL (a : Pl × List Pl) : List L := [.p (plD a.1), .p (.list (a.2.map plD))]
theorem ePL_inj (a b : Pl × List Pl) (h : ePL a = ePL b) : a = b := by
 unfold ePL at h
 injection h with h1 h2
 injection h2 with h2 _
 injection h1 with h1
 injection h2 with h2
 injection h2 with h2
 exact Prod.ext (plI h1) (plsI h2)
def m_lone_point (K : W.Frag) (c : Cls) : List L → Res L := mOf ePL (fun a => a.2.length ≤ 90 ∧ PW a.1 ∧ ∀ q ∈ a.2, PW q) fun a => .ok (.p (optPt (loneP (rowsOf a.1 a.2))))
def f_lone_point_e1 (K : W.Frag) (c : Cls) : En → Res Ev := (mCallB tupR' (mCons (mBin mulE (mBin ixE (mVar 0) (mC (.int 1))) (mBin ixE (mVar 1) (mC (.int 1)))) (mCons (mBin addE (mBin mulE (mBin ixE (mVar 0) (mC (.int 0))) (mBin ixE (mVar 1) (mC (.int 0)))) (mBin mulE (mBin ixE (mVar 0) (mC (.int 2))) (mBin ixE (mVar 1) (mC (.int 1))))) mNil)))
def f_lone_point_e2 (K : W.Frag) (c : Cls) : En → Res Ev := (mCall 2 (m_gap K c) (mCons (mVar 1) (mCons (mVar 0) mNil)))
def f_lone_point (K : W.Frag) (c : Cls) : MS := (mSeq (mSet 2 (mComp 1 [0] (mItL (mVar 1)) (mgName 0) (mTru (mBin (eqE true) (mVar 0) (mVar 1))) (f_lone_point_e2 K c))) (fun en => (mSeq (mSet 3 (mCall 1 (m_solved K c) (mCons (mCall 1 (m_without_y K c) (mCons (mVar 2) mNil)) mNil))) (mSeq (mIfS (mTru (mUn (isnE false) (mVar 3))) (mRet (mC (.none))) mNext) (mSeq (mSet 4 (mCall 1 (m_solved K c) (mCons (mComp 1 [3] (mItL (mVar 2)) (mgName 0) mYes (f_lone_point_e1 K c)) mNil))) (mRet (mCallB tupR' (mCons (mVar 3) (mCons (mVar 4) mNil))))))) (frz 2 en)))
theorem eqv_pl (x y : Pl) : PyData.eqv (plD x) (plD y) = decide (x = y) := by
 have : PyData.eqv (plD x) (plD y) = (x.1 == y.1 && (x.2.1 == y.2.1 && (PyData.eqv (frD x.2.2) (frD y.2.2) && true))) := by simp [plD, PyData.eqv, PyData.eqvAll]
 rw [this, eqv_fr]
 by_cases h : x = y
 ·subst h; simp
 ·rw [decide_eq_false h]
  by_cases h1 : x.1 = y.1
  ·by_cases h2 : x.2.1 = y.2.1
   ·have h3 : ¬ x.2.2 = y.2.2 := fun h3 => h (Prod.ext h1 (Prod.ext h2 h3))
    simp [h3]
   ·simp [h2]
  ·simp [h1]
theorem sh_pl (x : Pl) : SeqAt.shaped (plD x) = true := by simp [SeqAt.shaped, plD, frD, PyData.canLay0, PyData.canLayAll0, PyData.depth, PyData.depthAll]
theorem eq_lone_point (K : W.Frag) (c : Cls) : ∀ ls, m_lone_point K c ls = .bad ∨ runF 5 (f_lone_point K c) ls = m_lone_point K c ls := mOf_eq fun a h => by
 obtain ⟨p, ps⟩ := a
 obtain ⟨hl, hp, hq⟩ := h
 dsimp only at hl hp hq ⊢
 have hr := rows_sz hp hq
 have hrl : (rowsOf p ps).length ≤ 90 := by unfold rowsOf; rw [List.length_map]; exact Nat.le_trans (List.length_filter_le _ _) hl
 refine run_rt ?_
 rw [show startE 5 (ePL (p, ps)) = [some (.p (plD p)), some (.p (.list (ps.map plD))), none, none, none] from rfl]
 unfold f_lone_point
 have m1 : mapO (compItem 1 [0] (mgName 0) (mTru (mBin (eqE true) (mVar 0) (mVar 1))) (f_lone_point_e2 K c) [some (.p (plD p)), some (.p (.list (ps.map plD))), none, none, none]) (ps.map plD) = some ((ps.filter fun q => decide (q ≠ p)).map fun q => r3D (gapR p q)) := by
  refine mapO_flt _ fun q hq => ?_
  have g := gap_good K c p q
  have e : eqE true (.p (plD q)) (.p (plD p)) = .ok (.p (.bool (decide (q ≠ p)))) := by
   simp only [eqE, dat, sh_pl, eqv_pl]
   by_cases h : q = p
   ·simp [h]
   ·simp [h]
  unfold compItem
  by_cases h : q ≠ p
  ·rw [decide_eq_true h] at e ⊢
   simp only [mgName, capE, capO, f_lone_point_e2, mTru, mBin, mVar, mCall, mCons, mNil, callR, argsL, argL, truthR, List.getElem?_cons_zero, List.getElem?_cons_succ, List.set_cons_zero, List.length_cons, List.length_nil, if_true, Nat.zero_add, Nat.reduceAdd, List.map_cons, List.map_nil, List.replicate, List.cons_append, List.nil_append, Res.bind, Ev.c, e, g, retE]
  ·rw [decide_eq_false h] at e ⊢
   simp only [mgName, capE, capO, mTru, mBin, mVar, truthR, List.getElem?_cons_zero, List.getElem?_cons_succ, List.set_cons_zero, if_false, Bool.false_eq_true, List.map_cons, List.map_nil, List.replicate, List.cons_append, List.nil_append, Res.bind, Ev.c, e]
 have c1 := comp_l (n := 1) (js := [0]) (fi := mItL (mVar 1)) (tg := mgName 0) (ft := mTru (mBin (eqE true) (mVar 0) (mVar 1))) (fe := f_lone_point_e2 K c) (en := [some (.p (plD p)), some (.p (.list (ps.map plD))), none, none, none]) (ds := ps.map plD) rfl (by rw [List.length_map]; lia) m1
 have e1 : ((ps.filter fun q => decide (q ≠ p)).map fun q => r3D (gapR p q)) = (rowsOf p ps).map r3D := by unfold rowsOf; rw [List.map_map]; rfl
 rw [e1] at c1
 refine (seq_nx (set_f c1)).trans ?_
 simp only [List.set_cons_succ, List.set_cons_zero, frz, List.getElem?_cons_succ, List.getElem?_cons_zero]
 have hel := elim_good K c (rows := rowsOf p ps) (by lia) (fun r h => ⟨(hr r h).1.mono (by decide), (hr r h).2.1.mono (by decide), (hr r h).2.2.mono (by decide)⟩)
 have hsz := elim_sz hr
 have hell := elim_len (rowsOf p ps)
 have hmul := Nat.mul_le_mul hrl hrl
 have hso := solve_good K c (rows := elim (rowsOf p ps)) (by lia) (fun r h => ⟨(hsz r h).1.mono (by decide), (hsz r h).2.mono (by decide)⟩)
 have e2 : (mCall 1 (m_solved K c) (mCons (mCall 1 (m_without_y K c) (mCons (mVar 2) mNil)) mNil)) [some (.p (plD p)), some (.p (.list (ps.map plD))), some (.p (.list ((rowsOf p ps).map r3D))), none, none] = .ok (.p (optF (solve (elim (rowsOf p ps))))) := by
  simp only [mCall, mCons, mNil, mVar, List.getElem?_cons_zero, List.getElem?_cons_succ, List.length_cons, List.length_nil, if_true, Nat.zero_add, Res.bind, Ev.c, callR, argsL, argL, hel, hso, retE]
 refine (seq_nx (set_p e2)).trans ?_
 simp only [List.set_cons_succ, List.set_cons_zero]
 cases ex : solve (elim (rowsOf p ps)) with
 | none =>
  have : loneP (rowsOf p ps) = none := by unfold loneP; rw [ex]
  rw [this]
  exact seq_rt ((if_t rfl).trans rfl)
 | some x =>
  obtain ⟨y, hy, hlp⟩ := loneP_x ex
  rw [hlp]
  have gx : Gd 612 25 x := (solve_sz hsz ex).mono (by decide) (by decide)
  have hys := yrow_sz hr gx
  have hso2 := solve_good K c (rows := (rowsOf p ps).map (yRow x)) (by rw [List.length_map]; lia) (fun r h => ⟨(hys r h).1.mono (by decide), (hys r h).2.mono (by decide)⟩)
  have m2 : mapO (compItem 1 [3] (mgName 0) mYes (f_lone_point_e1 K c) [some (.p (plD p)), some (.p (.list (ps.map plD))), some (.p (.list ((rowsOf p ps).map r3D))), some (.p (frD x)), none]) ((rowsOf p ps).map r3D) = some ((rowsOf p ps).map fun r => frD (yRow x r)) := by
   refine mapO_map _ fun r hrm => ?_
   obtain ⟨a1, a2, a3⟩ := hr r hrm
   have x1 := gx.t
   have x2 := gx.b
   unfold compItem
   simp (disch := (first | assumption | (first | apply N.cm2 | apply N.cd2) <;> (first | decide | lia | (repeat (first | assumption | apply L2.Sz.mul | apply N.Sz.addM | apply N.Sz.subM | apply L2.Sz.neg | apply N.sz_fdiv | (apply N.sz_fmod; (first | decide | lia)) | exact N.sz_lit4 (by decide) | exact N.sz_lit (by decide) | exact N.sz_lit70 (by decide) | exact N.sz_big (by decide)))) | decide | lia)) only [mgName, capE, capO, mYes, f_lone_point_e1, mVar, mC, mBin, mCons, mNil, Res.bind, Ev.c, mCallB, tupR', pureL, addE, ix_fr0, ix_fr1, mul_ok, List.getElem?_cons_zero, List.getElem?_cons_succ, List.set_cons_zero, List.length_cons, List.length_nil, if_true, Nat.zero_add, Nat.reduceAdd, Nat.reduceLeDiff, List.map_cons, List.map_nil, List.replicate, List.cons_append, List.nil_append, ix_r0, ix_r1, ix_r2]
   rfl
  have c2 := comp_l (n := 1) (js := [3]) (fi := mItL (mVar 2)) (tg := mgName 0) (ft := mYes) (fe := f_lone_point_e1 K c) (en := [some (.p (plD p)), some (.p (.list (ps.map plD))), some (.p (.list ((rowsOf p ps).map r3D))), some (.p (frD x)), none]) (ds := (rowsOf p ps).map r3D) rfl (by rw [List.length_map]; lia) m2
  have e3 : ((rowsOf p ps).map fun r => frD (yRow x r)) = ((rowsOf p ps).map (yRow x)).map frD := by rw [List.map_map]; rfl
  rw [e3] at c2
  have e4 : (mCall 1 (m_solved K c) (mCons (mComp 1 [3] (mItL (mVar 2)) (mgName 0) mYes (f_lone_point_e1 K c)) mNil)) [some (.p (plD p)), some (.p (.list (ps.map plD))), some (.p (.list ((rowsOf p ps).map r3D))), some (.p (frD x)), none] = .ok (.p (frD y)) := by
   rw [hy] at hso2
   simp only [mCall, mCons, mNil, c2, List.length_cons, List.length_nil, if_true, Nat.zero_add, Res.bind, Ev.c, callR, argsL, argL, hso2, optF, retE]
  have tn : mTru (mUn (isnE false) (mVar 3)) [some (.p (plD p)), some (.p (.list (ps.map plD))), some (.p (.list ((rowsOf p ps).map r3D))), some (.p (frD x)), none] = .ok false := rfl
  refine (seq_nx (if_f tn)).trans ((seq_nx (set_p e4)).trans ?_)
  rfl
theorem lone_good (K : W.Frag) (c : Cls) {p : Pl} {ps : List Pl} (h1 : ps.length ≤ 90) (h2 : PW p) (h3 : ∀ q ∈ ps, PW q) : m_lone_point K c [.p (plD p), .p (.list (ps.map plD))] = .ok (.p (optPt (loneP (rowsOf p ps)))) := mOf_at (a := (p, ps)) ePL_inj ⟨h1, h2, h3⟩
structure PG (p : Pl) : Prop where
 i : Sz 4 p.1
 j : Sz 4 p.2.1
 h : GB p.2.2
theorem PG.blow {p : Pl} {F : Int} (g : PG p) (hF : Sz 441 F) : PW (blow F p) := ⟨g.i, g.j, Sz.mul g.h.2.1 (sz_fdiv hF)⟩
def lonePt (F : Int) (ps : List Pl) (p : Pl) : Option Pt := loneP (rowsOf (blow F p) (ps.map (blow F)))
def m_lone_points (K : W.Frag) (c : Cls) : List L → Res L := mOf ePI (fun a => a.1.length ≤ 90 ∧ (∀ p ∈ a.1, PG p) ∧ Sz 441 a.2) fun a => .ok (.o (.list (a.1.map fun p => optPt (lonePt a.2 a.1 p))))
def f_lone_points_e1 (K : W.Frag) (c : Cls) : En → Res Ev := (mCall 2 (m_lone_point K c) (mCons (mVar 0) (mCons (mVar 1) mNil)))
def f_lone_points (K : W.Frag) (c : Cls) : MS := (mSeq (mSet 2 (mCall 2 (m_blown_up K c) (mCons (mVar 0) (mCons (mVar 1) mNil)))) (fun en => (mRet (mComp 1 [2] (mItL (mVar 2)) (mgName 0) mYes (f_lone_points_e1 K c))) (frz 2 en)))
theorem eq_lone_points (K : W.Frag) (c : Cls) : ∀ ls, m_lone_points K c ls = .bad ∨ runF 3 (f_lone_points K c) ls = m_lone_points K c ls := mOf_eq fun a h => by
 obtain ⟨ps, F⟩ := a
 obtain ⟨hl, hg, hF⟩ := h
 dsimp only at hl hg hF ⊢
 refine run_rt ?_
 rw [show startE 3 (ePI (ps, F)) = [some (.p (.list (ps.map plD))), some (.p (.int F)), none] from rfl]
 unfold f_lone_points
 have hb := blow_good K c (ps := ps) (F := F) ⟨by lia, fun p hp => (hg p hp).h⟩ (hF.mono (by decide))
 have e1 : (mCall 2 (m_blown_up K c) (mCons (mVar 0) (mCons (mVar 1) mNil))) [some (.p (.list (ps.map plD))), some (.p (.int F)), none] = .ok (.f (.list ((ps.map (blow F)).map plD))) := by
  simp only [mCall, mCons, mNil, mVar, List.getElem?_cons_zero, List.getElem?_cons_succ, List.length_cons, List.length_nil, if_true, Nat.zero_add, Nat.reduceAdd, Res.bind, Ev.c, callR, argsL, argL, hb, retE]
 refine (seq_nx (set_f e1)).trans ?_
 simp only [List.set_cons_succ, List.set_cons_zero, frz, List.getElem?_cons_succ, List.getElem?_cons_zero]
 have hw : ∀ q ∈ ps.map (blow F), PW q := fun q hq => by
  obtain ⟨p, hp, rfl⟩ := List.mem_map.mp hq
  exact (hg p hp).blow hF
 have m1 : mapO (compItem 1 [2] (mgName 0) mYes (f_lone_points_e1 K c) [some (.p (.list (ps.map plD))), some (.p (.int F)), some (.p (.list ((ps.map (blow F)).map plD)))]) ((ps.map (blow F)).map plD) = some ((ps.map (blow F)).map fun p => optPt (loneP (rowsOf p (ps.map (blow F))))) := by
  refine mapO_map _ fun p hp => ?_
  have g := lone_good K c (p := p) (ps := ps.map (blow F)) (by rw [List.length_map]; exact hl) (hw p hp) hw
  unfold compItem
  simp only [mgName, capE, capO, mYes, f_lone_points_e1, mVar, mCall, mCons, mNil, callR, argsL, argL, List.getElem?_cons_zero, List.getElem?_cons_succ, List.set_cons_zero, List.length_cons, List.length_nil, if_true, Nat.zero_add, Nat.reduceAdd, List.map_cons, List.map_nil, List.replicate, List.cons_append, List.nil_append, Res.bind, Ev.c, g, retE]
 have c1 := comp_l (n := 1) (js := [2]) (fi := mItL (mVar 2)) (tg := mgName 0) (ft := mYes) (fe := f_lone_points_e1 K c) (en := [some (.p (.list (ps.map plD))), some (.p (.int F)), some (.p (.list ((ps.map (blow F)).map plD)))]) (ds := (ps.map (blow F)).map plD) rfl (by rw [List.length_map, List.length_map]; lia) m1
 refine (ret_f c1).trans ?_
 rw [List.map_map]
 rfl
theorem lones_good (K : W.Frag) (c : Cls) {ps : List Pl} {F : Int} (h1 : ps.length ≤ 90) (h2 : ∀ p ∈ ps, PG p) (h3 : Sz 441 F) : m_lone_points K c [.p (.list (ps.map plD)), .p (.int F)] = .ok (.o (.list (ps.map fun p => optPt (lonePt F ps p)))) := mOf_at (a := (ps, F)) ePI_inj ⟨h1, h2, h3⟩
def stD (a : Pl × Pt) : D := .tuple [plD a.1, .tuple [frD a.2.1, frD a.2.2]]
def stays (ps : List Pl) (p : Pl) : Bool := (lonePt (wf ps) ps p).isSome
def stPt (ps : List Pl) (p : Pl) : Pt := shr (wf ps) ((lonePt (wf ps) ps p).getD ((0, 1), (0, 1)))
def stayL (ps : List Pl) : List (Pl × Pt) := (ps.filter (stays ps)).map fun p => (p, stPt ps p)
def m_staying (K : W.Frag) (c : Cls) : List L → Res L := mOf ePs (fun ps => ps.length ≤ 22 ∧ ∀ p ∈ ps, PG p) fun ps => .ok (.o (.list ((stayL ps).map stD)))
def f_staying_e1 (K : W.Frag) (c : Cls) : En → Res Ev := (mCallB tupR' (mCons (mVar 0) (mCons (mCall 2 (m_shrunk K c) (mCons (mVar 1) (mCons (mVar 2) mNil))) mNil)))
def f_staying (K : W.Frag) (c : Cls) : MS := (mSeq (mSet 1 (mCall 1 (m_whole_factor K c) (mCons (mVar 0) mNil))) (mSeq (mSet 2 (mCall 2 (m_lone_points K c) (mCons (mVar 0) (mCons (mVar 1) mNil)))) (fun en => (mRet (mComp 2 [1] (mItA zipR (mCons (mVar 0) (mCons (mVar 2) mNil))) (mgTup 2 (mgCons (mgName 0) (mgCons (mgName 1) mgNil))) (mTru (mUn (isnE true) (mVar 1))) (f_staying_e1 K c))) (frz 2 en))))
theorem wf_22 {ps : List Pl} (h1 : ps.length ≤ 22) (h2 : ∀ p ∈ ps, PG p) : 1 ≤ wf ps ∧ (∀ p ∈ ps, p.2.2.2 ∣ wf ps) ∧ Sz 441 (wf ps) := by
 obtain ⟨a, b, d⟩ := wf_ok (ps := ps) ⟨by lia, fun p hp => (h2 p hp).h⟩
 exact ⟨a, b, d.mono (by lia)⟩
theorem lonePt_sz {ps : List Pl} (h1 : ps.length ≤ 22) (h2 : ∀ p ∈ ps, PG p) {p : Pl} (hp : p ∈ ps) {pt : Pt} (e : lonePt (wf ps) ps p = some pt) : Gd 612 25 pt.1 ∧ Gd 651 63 pt.2 := by
 have hF := (wf_22 h1 h2).2.2
 refine lone_sz (rows_sz ((h2 p hp).blow hF) fun q hq => ?_) e
 obtain ⟨r, hr, rfl⟩ := List.mem_map.mp hq
 exact (h2 r hr).blow hF
theorem eq_staying (K : W.Frag) (c : Cls) : ∀ ls, m_staying K c ls = .bad ∨ runF 3 (f_staying K c) ls = m_staying K c ls := mOf_eq fun ps h => by
 obtain ⟨hl, hg⟩ := h
 obtain ⟨f0, f1, f2⟩ := wf_22 hl hg
 refine run_rt ?_
 rw [show startE 3 (ePs ps) = [some (.p (.list (ps.map plD))), none, none] from rfl]
 unfold f_staying
 have hw := wf_good K c (ps := ps) ⟨by lia, fun p hp => (hg p hp).h⟩
 have e1 : (mCall 1 (m_whole_factor K c) (mCons (mVar 0) mNil)) [some (.p (.list (ps.map plD))), none, none] = .ok (.p (.int (wf ps))) := by
  simp only [mCall, mCons, mNil, mVar, List.getElem?_cons_zero, List.length_cons, List.length_nil, if_true, Nat.zero_add, Res.bind, Ev.c, callR, argsL, argL, hw, retE]
 refine (seq_nx (set_p e1)).trans ?_
 simp only [List.set_cons_succ, List.set_cons_zero]
 have hp := lones_good K c (ps := ps) (by lia) hg f2
 have e2 : (mCall 2 (m_lone_points K c) (mCons (mVar 0) (mCons (mVar 1) mNil))) [some (.p (.list (ps.map plD))), some (.p (.int (wf ps))), none] = .ok (.f (.list (ps.map fun p => optPt (lonePt (wf ps) ps p)))) := by
  simp only [mCall, mCons, mNil, mVar, List.getElem?_cons_zero, List.getElem?_cons_succ, List.length_cons, List.length_nil, if_true, Nat.zero_add, Nat.reduceAdd, Res.bind, Ev.c, callR, argsL, argL, hp, retE]
 refine (seq_nx (set_f e2)).trans ?_
 simp only [List.set_cons_succ, List.set_cons_zero, frz, List.getElem?_cons_succ, List.getElem?_cons_zero]
 have hit : (mItA zipR (mCons (mVar 0) (mCons (mVar 2) mNil))) [some (.p (.list (ps.map plD))), some (.p (.int (wf ps))), some (.p (.list (ps.map fun p => optPt (lonePt (wf ps) ps p))))] = .ok (ps.map fun p => .tuple [plD p, optPt (lonePt (wf ps) ps p)]) := by
  simp only [mItA, mCons, mNil, mVar, Res.bind, List.getElem?_cons_zero, List.getElem?_cons_succ, Ev.c, zipR, zipL_map]
 have m1 : mapO (compItem 2 [1] (mgTup 2 (mgCons (mgName 0) (mgCons (mgName 1) mgNil))) (mTru (mUn (isnE true) (mVar 1))) (f_staying_e1 K c) [some (.p (.list (ps.map plD))), some (.p (.int (wf ps))), some (.p (.list (ps.map fun p => optPt (lonePt (wf ps) ps p))))]) (ps.map fun p => .tuple [plD p, optPt (lonePt (wf ps) ps p)]) = some ((ps.filter (stays ps)).map fun p => stD (p, stPt ps p)) := by
  refine mapO_flt _ fun p hp => ?_
  unfold compItem stays stPt
  cases e : lonePt (wf ps) ps p with
  | none =>
   simp only [mgTup, mgCons, mgNil, mgName, capE, capO, List.getElem?_cons_zero, List.getElem?_cons_succ, List.set_cons_zero, List.set_cons_succ, List.length_cons, List.length_nil, if_true, if_false, Bool.false_eq_true, Nat.zero_add, Nat.reduceAdd, List.map_cons, List.map_nil, List.map_cons, List.replicate, List.cons_append, List.nil_append, Option.isSome_none, optPt, mTru, mUn, mVar, Res.bind, Ev.c, isnE, truthR, Bool.not_true]
  | some pt =>
   obtain ⟨gx, gy⟩ := lonePt_sz hl hg hp e
   have hs := shr_good K c (pt := pt) (F := wf ps) gx.p gy.p (gx.b.mono (by decide)) (gy.b.mono (by decide)) f0 (f2.mono (by decide))
   simp only [mgTup, mgCons, mgNil, mgName, capE, capO, List.getElem?_cons_zero, List.getElem?_cons_succ, List.set_cons_zero, List.set_cons_succ, List.length_cons, List.length_nil, if_true, Nat.zero_add, Nat.reduceAdd, Nat.reduceLeDiff, List.map_cons, List.map_nil, List.map_cons, List.replicate, List.cons_append, List.nil_append, Option.isSome_some, optPt, mTru, mUn, mVar, Res.bind, Ev.c, isnE, truthR, f_staying_e1, mCallB, mCons, mNil, mCall, callR, argsL, argL, hs, retE, tupR', pureL, Option.getD_some]
   rfl
 have c1 := comp_l (n := 2) (js := [1]) (fi := mItA zipR (mCons (mVar 0) (mCons (mVar 2) mNil))) (tg := mgTup 2 (mgCons (mgName 0) (mgCons (mgName 1) mgNil))) (ft := mTru (mUn (isnE true) (mVar 1))) (fe := f_staying_e1 K c) (en := [some (.p (.list (ps.map plD))), some (.p (.int (wf ps))), some (.p (.list (ps.map fun p => optPt (lonePt (wf ps) ps p))))]) hit (by rw [List.length_map]; lia) m1
 refine (ret_f c1).trans ?_
 unfold stayL
 rw [List.map_map]
 rfl
theorem staying_good (K : W.Frag) (c : Cls) {ps : List Pl} (h1 : ps.length ≤ 22) (h2 : ∀ p ∈ ps, PG p) : m_staying K c [.p (.list (ps.map plD))] = .ok (.o (.list ((stayL ps).map stD))) := mOf_at (a := ps) ePs_inj ⟨h1, h2⟩
def m_thinned (K : W.Frag) (c : Cls) : List L → Res L := mOf ePs (fun ps => ps.length ≤ 22 ∧ ∀ p ∈ ps, PG p) fun ps => .ok (.o (.list ((ps.filter (stays ps)).map plD)))
def f_thinned_e1 (K : W.Frag) (c : Cls) : En → Res Ev := (mVar 0)
def f_thinned (K : W.Frag) (c : Cls) : MS := (mSeq (mSet 1 (mCall 2 (m_lone_points K c) (mCons (mVar 0) (mCons (mCall 1 (m_whole_factor K c) (mCons (mVar 0) mNil)) mNil)))) (fun en => (mRet (mComp 2 [] (mItA zipR (mCons (mVar 0) (mCons (mVar 1) mNil))) (mgTup 2 (mgCons (mgName 0) (mgCons (mgName 1) mgNil))) (mTru (mUn (isnE true) (mVar 1))) (f_thinned_e1 K c))) (frz 1 en)))
theorem eq_thinned (K : W.Frag) (c : Cls) : ∀ ls, m_thinned K c ls = .bad ∨ runF 2 (f_thinned K c) ls = m_thinned K c ls := mOf_eq fun ps h => by
 obtain ⟨hl, hg⟩ := h
 obtain ⟨f0, f1, f2⟩ := wf_22 hl hg
 refine run_rt ?_
 rw [show startE 2 (ePs ps) = [some (.p (.list (ps.map plD))), none] from rfl]
 unfold f_thinned
 have hw := wf_good K c (ps := ps) ⟨by lia, fun p hp => (hg p hp).h⟩
 have hp := lones_good K c (ps := ps) (by lia) hg f2
 have e2 : (mCall 2 (m_lone_points K c) (mCons (mVar 0) (mCons (mCall 1 (m_whole_factor K c) (mCons (mVar 0) mNil)) mNil))) [some (.p (.list (ps.map plD))), none] = .ok (.f (.list (ps.map fun p => optPt (lonePt (wf ps) ps p)))) := by
  simp only [mCall, mCons, mNil, mVar, List.getElem?_cons_zero, List.length_cons, List.length_nil, if_true, Nat.zero_add, Nat.reduceAdd, Res.bind, Ev.c, callR, argsL, argL, hw, hp, retE]
 refine (seq_nx (set_f e2)).trans ?_
 simp only [List.set_cons_succ, List.set_cons_zero, frz, List.getElem?_cons_succ, List.getElem?_cons_zero]
 have hit : (mItA zipR (mCons (mVar 0) (mCons (mVar 1) mNil))) [some (.p (.list (ps.map plD))), some (.p (.list (ps.map fun p => optPt (lonePt (wf ps) ps p))))] = .ok (ps.map fun p => .tuple [plD p, optPt (lonePt (wf ps) ps p)]) := by
  simp only [mItA, mCons, mNil, mVar, Res.bind, List.getElem?_cons_zero, List.getElem?_cons_succ, Ev.c, zipR, zipL_map]
 have m1 : mapO (compItem 2 [] (mgTup 2 (mgCons (mgName 0) (mgCons (mgName 1) mgNil))) (mTru (mUn (isnE true) (mVar 1))) (f_thinned_e1 K c) [some (.p (.list (ps.map plD))), some (.p (.list (ps.map fun p => optPt (lonePt (wf ps) ps p))))]) (ps.map fun p => .tuple [plD p, optPt (lonePt (wf ps) ps p)]) = some ((ps.filter (stays ps)).map plD) := by
  refine mapO_flt _ fun p hp => ?_
  unfold compItem stays
  cases e : lonePt (wf ps) ps p with
  | none => simp only [mgTup, mgCons, mgNil, mgName, capE, List.getElem?_cons_zero, List.getElem?_cons_succ, List.set_cons_zero, List.set_cons_succ, List.length_cons, List.length_nil, if_true, if_false, Bool.false_eq_true, Nat.zero_add, Nat.reduceAdd, List.map_nil, List.replicate, List.cons_append, List.nil_append, Option.isSome_none, optPt, mTru, mUn, mVar, Res.bind, Ev.c, isnE, truthR, Bool.not_true]
  | some pt => simp only [mgTup, mgCons, mgNil, mgName, capE, List.getElem?_cons_zero, List.getElem?_cons_succ, List.set_cons_zero, List.set_cons_succ, List.length_cons, List.length_nil, if_true, Nat.zero_add, Nat.reduceAdd, List.map_nil, List.replicate, List.cons_append, List.nil_append, Option.isSome_some, optPt, mTru, mUn, mVar, Res.bind, Ev.c, isnE, truthR, f_thinned_e1]
 have c1 := comp_l (n := 2) (js := []) (fi := mItA zipR (mCons (mVar 0) (mCons (mVar 1) mNil))) (tg := mgTup 2 (mgCons (mgName 0) (mgCons (mgName 1) mgNil))) (ft := mTru (mUn (isnE true) (mVar 1))) (fe := f_thinned_e1 K c) (en := [some (.p (.list (ps.map plD))), some (.p (.list (ps.map fun p => optPt (lonePt (wf ps) ps p))))]) hit (by rw [List.length_map]; lia) m1
 exact ret_f c1
theorem thinned_good (K : W.Frag) (c : Cls) {ps : List Pl} (h1 : ps.length ≤ 22) (h2 : ∀ p ∈ ps, PG p) : m_thinned K c [.p (.list (ps.map plD))] = .ok (.o (.list ((ps.filter (stays ps)).map plD))) := mOf_at (a := ps) ePs_inj ⟨h1, h2⟩
structure KitF (K : W.Frag) (c : Cls) : Prop where
 ii : W.kitOne K (.type "int") (.type "int") = some true
 ib : W.kitOne K (.type "int") (.type "bool") = some false
 tt : W.kitOne K (.type "tuple") (.type "tuple") = some true
 ll : W.kitOne K (.type "list") (.type "list") = some true
def f__law_cell_at (K : W.Frag) (c : Cls) : MS := (mSeq (mIfS (mTru (mBin ltE (mVar 1) (mCallB lenE (mCons (mVar 0) mNil)))) (mRet (mBin ixE (mVar 0) (mVar 1))) mNext) (mRet (mC (.int 0))))
def m__law_cell_at (K : W.Frag) (c : Cls) (ls : List L) : Res L := runF 2 (f__law_cell_at K c) ls
theorem eq__law_cell_at (K : W.Frag) (c : Cls) : ∀ ls, m__law_cell_at K c ls = .bad ∨ runF 2 (f__law_cell_at K c) ls = m__law_cell_at K c ls := fun _ => .inr rfl
theorem at_nat {ns : List Int} {k : Nat} (h : k < ns.length) : atI (ns.map PyData.int) (k : Int) = some (.int (ns.getD k 0)) := by
 have : ns.getD k 0 = ns[k] := by simp [List.getD, h]
 rw [this]
 exact atI_nat (by rw [List.getElem?_map, List.getElem?_eq_getElem h]; rfl)
theorem cell_ok (K : W.Frag) (c : Cls) (ns : List Int) (k : Nat) : m__law_cell_at K c [.p (.list (ns.map .int)), .p (.int (k : Int))] = .ok (.p (.int (ns.getD k 0))) := by
 have hlen : lenE [.p (.list (ns.map .int))] = .ok (.p (.int (ns.length : Nat))) := by simp [lenE, seqOf]
 unfold m__law_cell_at
 refine run_rt ?_
 rw [show startE 2 [.p (.list (ns.map .int)), .p (.int (k : Int))] = [some (.p (.list (ns.map .int))), some (.p (.int (k : Int)))] from rfl]
 have ht : mTru (mBin ltE (mVar 1) (mCallB lenE (mCons (mVar 0) mNil))) [some (.p (.list (ns.map .int))), some (.p (.int (k : Int)))] = .ok (decide (k < ns.length)) := by
  simp [mTru, mBin, mVar, mCallB, mCons, mNil, Res.bind, Ev.c, hlen, intE0, truthR]
 by_cases hk : k < ns.length
 ·rw [decide_eq_true hk] at ht
  refine (seq_rt ((if_t ht).trans ?_))
  simp [mRet, mBin, mVar, Res.bind, Ev.c, ixE, seqOf, at_nat hk, retL]
 ·rw [decide_eq_false hk] at ht
  refine (seq_nx (if_f ht)).trans ?_
  have : ns.getD k 0 = 0 := by simp [List.getD, Nat.le_of_not_lt hk]
  rw [this]
  rfl
def f__law_stirred_b1 (K : W.Frag) (c : Cls) : MS := (mSeq (mSet 4 (mBin modE (mCall 2 (m__law_cell_at K c) (mCons (mVar 0) (mCons (mVar 3) mNil))) (mVar 1))) (mSeq (mSet 4 (mBin modE (mBin addE (mBin addE (mBin addE (mBin mulE (mVar 4) (mC (.int 48271))) (mBin mulE (mBin mulE (mVar 3) (mVar 3)) (mC (.int 7919)))) (mVar 3)) (mC (.int 1))) (mVar 1))) (mAppend 2 (mBin modE (mBin mulE (mBin modE (mBin mulE (mVar 4) (mC (.int 413338662677311947023157))) (mVar 1)) (mC (.int 282475249))) (mVar 1)))))
def f__law_stirred (K : W.Frag) (c : Cls) : MS := (mSeq (mSet 1 (mC (.int 618970019642690137449562111))) (mSeq (mSet 2 (mCallB lstR' mNil)) (mSeq (mFor (mItA rng1R (mCons (mCallB (mm2E fun i j => if j > i then j else i) (mCons (mCallB lenE (mCons (mVar 0) mNil)) (mCons (mC (.int 7)) mNil))) mNil)) (mgName 3) (f__law_stirred_b1 K c)) (mRet (mVar 2)))))
def m__law_stirred (K : W.Frag) (c : Cls) (ls : List L) : Res L := runF 5 (f__law_stirred K c) ls
theorem eq__law_stirred (K : W.Frag) (c : Cls) : ∀ ls, m__law_stirred K c ls = .bad ∨ runF 5 (f__law_stirred K c) ls = m__law_stirred K c ls := fun _ => .inr rfl
def PR : Int := 618970019642690137449562111
theorem stir_b (K : W.Frag) (c : Cls) (ns vs : List Int) (hv : vs.length ≤ 1000) (k : Nat) (hk : k ≤ 100) (r4 : Option L) : ∃ v w, 0 ≤ v ∧ v < PR ∧ f__law_stirred_b1 K c [some (.p (.list (ns.map .int))), some (.p (.int PR)), some (.o (.list (vs.map .int))), some (.p (.int (k : Int))), r4] = some (.nx [some (.p (.list (ns.map .int))), some (.p (.int PR)), some (.o (.list ((vs ++ [v]).map .int))), some (.p (.int (k : Int))), w]) := by
 have hc := cell_ok K c ns k
 have p0 : (0 : Int) < PR := by decide
 have pz : Sz 200 PR := by unfold Sz PR; decide
 have kz : Sz 20 (k : Int) := by unfold Sz; lia
 have pn : PR ≠ 0 := by decide
 have m1 := fmod_pos (a := ns.getD k 0) p0
 have z1 : Sz 200 ((ns.getD k 0).fmod PR) := sz_fmod p0 pz
 generalize hC : (ns.getD k 0).fmod PR = C at m1 z1
 have z2 : Sz 200 ((C * 48271 + (k : Int) * (k : Int) * 7919 + (k : Int) + 1).fmod PR) := sz_fmod p0 pz
 refine ⟨(((C * 48271 + (k : Int) * (k : Int) * 7919 + (k : Int) + 1).fmod PR * 413338662677311947023157).fmod PR * 282475249).fmod PR, some (.p (.int ((C * 48271 + (k : Int) * (k : Int) * 7919 + (k : Int) + 1).fmod PR))), (fmod_pos p0).1, (fmod_pos p0).2, ?_⟩
 have l1 : vs.length ≤ 100000 := by lia
 simp (disch := (first | assumption | (first | apply N.cm2 | apply N.cd2) <;> (first | decide | lia | (repeat (first | assumption | apply L2.Sz.mul | apply N.Sz.addM | apply N.Sz.subM | apply L2.Sz.neg | apply N.sz_fdiv | (apply N.sz_fmod; (first | decide | lia)) | exact N.sz_lit4 (by decide) | exact N.sz_lit (by decide) | exact N.sz_lit70 (by decide) | exact N.sz_big (by decide)))) | decide | lia)) only [f__law_stirred_b1, mSeq, mSet, mVar, mC, mBin, mCons, mNil, mCall, callR, argsL, argL, Res.bind, Ev.c, retE, addE, mul_ok, mod_ok, hc, hC, mAppend, l1, List.getElem?_cons_zero, List.getElem?_cons_succ, List.set_cons_zero, List.set_cons_succ, List.length_cons, List.length_nil, List.length_map, if_true, Nat.zero_add, Nat.reduceAdd, List.map_append, List.map_cons, List.map_nil]
theorem stir_ok (K : W.Frag) (c : Cls) (ns : List Int) (hn : ns.length ≤ 63) : ∃ vs : List Int, (vs.length ≤ 100 ∧ 7 ≤ vs.length) ∧ (∀ v ∈ vs, 0 ≤ v ∧ v < PR) ∧ m__law_stirred K c [.p (.list (ns.map .int))] = .ok (.o (.list (vs.map .int))) := by
 have hlen : lenE [.p (.list (ns.map .int))] = .ok (.p (.int (ns.length : Nat))) := by simp [lenE, seqOf]
 obtain ⟨n, hn2, hr⟩ : ∃ n : Nat, (n ≤ 63 ∧ 7 ≤ n) ∧ ∀ r3 r4, (mItA rng1R (mCons (mCallB (mm2E fun i j => if j > i then j else i) (mCons (mCallB lenE (mCons (mVar 0) mNil)) (mCons (mC (.int 7)) mNil))) mNil)) [some (.p (.list (ns.map .int))), some (.p (.int PR)), some (.o (.list [])), r3, r4] = .ok (rngL 0 n) := by
  refine ⟨(if (7 : Int) > (ns.length : Nat) then (7 : Int) else (ns.length : Nat)).toNat, by split <;> lia, fun r3 r4 => ?_⟩
  have hb : -(2 ^ 62) ≤ (if (7 : Int) > (ns.length : Nat) then (7 : Int) else (ns.length : Nat)) ∧ (if (7 : Int) > (ns.length : Nat) then (7 : Int) else (ns.length : Nat)) < 2 ^ 62 := by split <;> lia
  simp only [mItA, mCons, mNil, mCallB, mVar, mC, List.getElem?_cons_zero, Res.bind, Ev.c, hlen, mm2E, rng1R]
  first
  | rw [if_pos ⟨hb.1, hb.2⟩]
  | rw [if_pos hb.2]
  | rfl
 obtain ⟨e', ⟨vs, r3, r4, h1, h2, rfl⟩, hl⟩ := loop_inv (tg := mgName 3) (f := f__law_stirred_b1 K c) (fun k e => ∃ vs r3 r4, vs.length = k ∧ (∀ v ∈ vs, 0 ≤ v ∧ v < PR) ∧ e = [some (.p (.list (ns.map .int))), some (.p (.int PR)), some (.o (.list (vs.map .int))), r3, r4]) (rngL 0 n) 0 [some (.p (.list (ns.map .int))), some (.p (.int PR)), some (.o (.list [])), none, none] ⟨[], none, none, rfl, (fun _ h => nomatch h), rfl⟩ (by
  rintro j d e hd ⟨vs, r3, r4, h1, h2, rfl⟩
  obtain ⟨hj, rfl⟩ := rng_get _ _ _ _ hd
  obtain ⟨v, w, v0, v1, hb⟩ := stir_b K c ns vs (by lia) j (by lia) r4
  refine ⟨_, _, rfl, ?_, vs ++ [v], some (.p (.int (j : Int))), w, by simp [h1], fun x hx => ?_, rfl⟩
  ·simp only [List.set_cons_succ, List.set_cons_zero, Int.zero_add]
   exact hb
  ·rcases List.mem_append.mp hx with z | z
   ·exact h2 x z
   ·rw [List.mem_singleton.mp z]; exact ⟨v0, v1⟩)
 refine ⟨vs, by rw [h1]; unfold rngL; rw [List.length_map, List.length_range]; lia, h2, ?_⟩
 unfold m__law_stirred
 refine run_rt ?_
 rw [show startE 5 [.p (.list (ns.map .int))] = [some (.p (.list (ns.map .int))), none, none, none, none] from rfl]
 refine (seq_nx (set_p (d := .int PR) rfl)).trans ?_
 refine (seq_nx (set_f (d := .list []) rfl)).trans ?_
 simp only [List.set_cons_succ, List.set_cons_zero]
 refine (seq_nx ((for_l (hr _ _)).trans hl)).trans ?_
 rfl
def m__law_low (K : W.Frag) (c : Cls) : List L → Res L := mOf (fun a : Int × Int => [.p (.int a.1), .p (.int a.2)]) (fun a => a.2 ≠ 0 ∧ Sz 8000 a.2) fun a => .ok (.p (frD (FR.mk a.1 a.2)))
def f__law_low_c1 (K : W.Frag) (c : Cls) : En → Res Bool := (mTru (mBin gtE (mVar 3) (mC (.int 0))))
def f__law_low_b2 (K : W.Frag) (c : Cls) : MS := (mPar 2 3 (mCons (mVar 3) (mCons (mBin modE (mVar 2) (mVar 3)) mNil)))
def f__law_low (K : W.Frag) (c : Cls) : MS := (mSeq (mSet 2 (mCallB absE (mCons (mVar 0) mNil))) (mSeq (mSet 3 (mCallB absE (mCons (mVar 1) mNil))) (mSeq (mWhile (f__law_low_c1 K c) (f__law_low_b2 K c)) (mSeq (mIfS (mTru (mBin ltE (mVar 1) (mC (.int 0)))) (mSet 2 (mUn negE (mVar 2))) mNext) (mRet (mCallB tupR' (mCons (mBin fdivE (mVar 0) (mVar 2)) (mCons (mBin fdivE (mVar 1) (mVar 2)) mNil))))))))
theorem wh_low (K : W.Frag) (c : Cls) (A B : Option L) : ∀ (n : Nat) (l s : Int), 0 ≤ l → 0 ≤ s → s.toNat ≤ n → mWh (f__law_low_c1 K c) (f__law_low_b2 K c) (n + 1) [A, B, some (.p (.int l)), some (.p (.int s))] = some (.nx [A, B, some (.p (.int (Int.gcd l s : Nat))), some (.p (.int 0))]) := by
 intro n
 have hc : ∀ (l s : Int), f__law_low_c1 K c [A, B, some (.p (.int l)), some (.p (.int s))] = .ok (decide (0 < s)) := fun l s => by
  simp [f__law_low_c1, mTru, mBin, mVar, mC, Res.bind, Ev.c, truthR, intE0]
 have done : ∀ (n : Nat) (l : Int), 0 ≤ l → mWh (f__law_low_c1 K c) (f__law_low_b2 K c) (n + 1) [A, B, some (.p (.int l)), some (.p (.int 0))] = some (.nx [A, B, some (.p (.int (Int.gcd l 0 : Nat))), some (.p (.int 0))]) := fun n l hl => by
  unfold mWh
  rw [hc, FR.gcd_end hl]
  simp
 induction n with
 | zero =>
  intro l s hl hs hn
  have : s = 0 := by lia
  subst this
  exact done 0 l hl
 | succ n ih =>
  intro l s hl hs hn
  by_cases h0 : s = 0
  ·subst h0
   exact done _ l hl
  ·have em : l.fmod s = l % s := Int.fmod_eq_emod_of_nonneg l hs
   have m0 := Int.emod_nonneg l h0
   have m1 := Int.emod_lt_of_pos l (show 0 < s by lia)
   have ih := ih s (l.fmod s) hs (by lia) (by lia)
   rw [em, FR.gcd_turn hl hs] at ih
   have hb : f__law_low_b2 K c [A, B, some (.p (.int l)), some (.p (.int s))] = some (.nx [A, B, some (.p (.int s)), some (.p (.int (l % s)))]) := by
    simp [f__law_low_b2, mPar, mBin, mVar, mCons, mNil, Res.bind, Ev.c, intE, em, h0]
   have ht : f__law_low_c1 K c [A, B, some (.p (.int l)), some (.p (.int s))] = .ok true := by
    rw [hc]
    rw [decide_eq_true (show 0 < s by lia)]
   unfold mWh
   rw [ht]
   dsimp only
   rw [hb]
   exact ih
theorem eq__law_low (K : W.Frag) (c : Cls) : ∀ ls, m__law_low K c ls = .bad ∨ runF 4 (f__law_low K c) ls = m__law_low K c ls := mOf_eq fun a h => by
 obtain ⟨t, b⟩ := a
 obtain ⟨hb, hz⟩ := h
 dsimp only at hb hz ⊢
 have h := wh_low K c (some (.p (.int t))) (some (.p (.int b))) _ (if t < 0 then -t else t) (if b < 0 then -b else b) (by split <;> lia) (by split <;> lia) (Nat.le_refl _)
 have h := mWhile_of h
 rw [FR.gcd_abs] at h
 obtain ⟨d1, d2⟩ := cdivW t hb hz
 obtain ⟨e1, e2⟩ := d1
 obtain ⟨_, e3⟩ := d2
 have q1 : ∀ x : Int, CDivW x ((Int.gcd t b : Nat) : Int) := fun x => ⟨e1, e2⟩
 have q2 : ∀ x : Int, CDivW x (-((Int.gcd t b : Nat) : Int)) := fun x => ⟨by lia, e3⟩
 refine run_rt ?_
 rw [show startE 4 [.p (.int t), .p (.int b)] = [some (.p (.int t)), some (.p (.int b)), none, none] from rfl]
 refine (seq_nx (set_p (d := .int (if t < 0 then -t else t)) rfl)).trans ?_
 refine (seq_nx (set_p (d := .int (if b < 0 then -b else b)) rfl)).trans ?_
 refine (seq_nx h).trans ?_
 by_cases hn : b < 0
 ·simp [mSeq, mSet, mCallB, mCons, mNil, mVar, Res.bind, Ev.c, mIfS, mTru, mBin, mC, truthR, intE0, hn, mUn, negE, mRet, tupR', pureL, intE, q2, retL, FR.mk, FR.sgn, frD]
 ·simp [mSeq, mCallB, mCons, mNil, mVar, Res.bind, Ev.c, mIfS, mTru, mBin, mC, truthR, intE0, hn, mNext, mRet, tupR', pureL, intE, q1, retL, FR.mk, FR.sgn, frD]
theorem low_ok (K : W.Frag) (c : Cls) {t b : Int} (h0 : b ≠ 0) (h1 : Sz 8000 b) : m__law_low K c [.p (.int t), .p (.int b)] = .ok (.p (frD (FR.mk t b))) := mOf_at (a := (t, b)) (fun a b h => by
 injection h with h1 h2
 injection h2 with h2 _
 injection h1 with h1
 injection h2 with h2
 injection h1 with h1
 injection h2 with h2
 exact Prod.ext h1 h2) ⟨h0, h1⟩
theorem w_mul {F : Int} {h : Int × Int} (h0 : 1 ≤ h.2) (hd : h.2 ∣ F) : h.1 * F.fdiv h.2 * h.2 = h.1 * F := by
 obtain ⟨k, hk⟩ := hd
 have : F.fdiv h.2 = k := by
  rw [hk]
  exact Int.mul_fdiv_cancel_left _ (by lia)
 rw [this, hk]
 ac_rfl
def wt (G : Int) (h : Int × Int) : Int := h.1 * G.fdiv h.2
theorem wt_le {G : Int} {x y : Int × Int} (hG : 1 ≤ G) (x0 : 1 ≤ x.2) (y0 : 1 ≤ y.2) (xd : x.2 ∣ G) (yd : y.2 ∣ G) (h : leF x y) : wt G x ≤ wt G y := by
 have e1 : wt G x * x.2 = x.1 * G := w_mul x0 xd
 have e2 : wt G y * y.2 = y.1 * G := w_mul y0 yd
 have p := pos_mul x0 y0
 refine Int.le_of_mul_le_mul_right (a := x.2 * y.2) ?_ (by lia)
 have a1 : wt G x * (x.2 * y.2) = x.1 * y.2 * G := by
  rw [← Int.mul_assoc, e1]
  ac_rfl
 have a2 : wt G y * (x.2 * y.2) = y.1 * x.2 * G := by
  rw [Int.mul_comm x.2, ← Int.mul_assoc, e2]
  ac_rfl
 rw [a1, a2]
 exact Int.mul_le_mul_of_nonneg_right h (by lia)
theorem wt_sum {G : Int} {x y : Int × Int} (x0 : 1 ≤ x.2) (y0 : 1 ≤ y.2) (xd : x.2 ∣ G) (yd : y.2 ∣ G) : (hP x y).2 ∣ G ∧ wt G (hP x y) = wt G x + wt G y := by
 have e1 : wt G x * x.2 = x.1 * G := w_mul x0 xd
 have e2 : wt G y * y.2 = y.1 * G := w_mul y0 yd
 have p := pos_mul x0 y0
 obtain ⟨fs, es⟩ := FR.mk_fr (t := x.1 * y.2 + y.1 * x.2) (b := x.2 * y.2) (by lia)
 have key : (hP x y).1 * G = (wt G x + wt G y) * (hP x y).2 := by
  refine Int.eq_of_mul_eq_mul_right (a := x.2 * y.2) (by lia) ?_
  have a1 : (hP x y).1 * G * (x.2 * y.2) = (hP x y).1 * (x.2 * y.2) * G := by ac_rfl
  have a2 : (wt G x + wt G y) * (hP x y).2 * (x.2 * y.2) = (wt G x * x.2 * y.2 + wt G y * y.2 * x.2) * (hP x y).2 := by
   rw [Int.add_mul, Int.add_mul, Int.add_mul]
   congr 1 <;> ac_rfl
  rw [a1, a2, show (hP x y).1 * (x.2 * y.2) = (x.1 * y.2 + y.1 * x.2) * (hP x y).2 from es, e1, e2]
  have a3 : x.1 * G * y.2 + y.1 * G * x.2 = (x.1 * y.2 + y.1 * x.2) * G := by
   rw [Int.add_mul]
   congr 1 <;> ac_rfl
  rw [a3]
  ac_rfl
 have fs : FR.Fr (hP x y) := fs
 have hd : (hP x y).2 ∣ G := by
  have d1 : (hP x y).2 ∣ (hP x y).1 * G := ⟨wt G x + wt G y, by rw [key, Int.mul_comm]⟩
  have d2 : (hP x y).2.natAbs ∣ (hP x y).1.natAbs * G.natAbs := by
   rw [← Int.natAbs_mul]
   exact Int.natAbs_dvd_natAbs.mpr d1
  have c : Nat.Coprime (hP x y).2.natAbs (hP x y).1.natAbs := by
   have := fs.low
   rw [Int.gcd_comm] at this
   exact this
  exact Int.natAbs_dvd_natAbs.mp (c.dvd_of_dvd_mul_left d2)
 refine ⟨hd, ?_⟩
 have e3 : wt G (hP x y) * (hP x y).2 = (hP x y).1 * G := w_mul fs.pos hd
 exact Int.eq_of_mul_eq_mul_right (a := (hP x y).2) (by have := fs.pos; lia) (by rw [e3, key])
theorem wt_two {F G : Int} {x : Int × Int} (x0 : 1 ≤ x.2) (d1 : x.2 ∣ F) (d2 : x.2 ∣ G) : wt F x * G = wt G x * F := by
 have e1 : wt F x * x.2 = x.1 * F := w_mul x0 d1
 have e2 : wt G x * x.2 = x.1 * G := w_mul x0 d2
 refine Int.eq_of_mul_eq_mul_right (a := x.2) (by lia) ?_
 have a1 : wt F x * G * x.2 = wt F x * x.2 * G := by ac_rfl
 have a2 : wt G x * F * x.2 = wt G x * x.2 * F := by ac_rfl
 rw [a1, a2, e1, e2]
 ac_rfl
def vv (G : Int) (p : Pl) (X Y D : Int) : Int := p.1 * X + p.2.1 * Y + wt G p.2.2 * D
structure Cp (G : Int) (p : Pl) : Prop where
 i0 : 0 ≤ p.1
 i1 : p.1 ≤ 8
 j0 : 0 ≤ p.2.1
 j1 : p.2.1 ≤ 8
 f : FR.Fr p.2.2
 d : p.2.2.2 ∣ G
def Cd (G : Int) (ps : List Pl) : Prop := ∀ p ∈ ps, Cp G p
def Lone (G : Int) (ps : List Pl) (p : Pl) : Prop := ∃ X Y D, 1 ≤ D ∧ ∀ q ∈ ps, q ≠ p → vv G q X Y D < vv G p X Y D
theorem nd_inj {α β : Type} {f : α → β} : ∀ {xs : List α}, (xs.map f).Nodup → ∀ a ∈ xs, ∀ b ∈ xs, f a = f b → a = b
 | x :: xs, h, a, ha, b, hb, e => by
  rw [List.map_cons, List.nodup_cons] at h
  rcases List.mem_cons.mp ha with ea | ha' <;> rcases List.mem_cons.mp hb with eb | hb'
  ·rw [ea, eb]
  ·rw [ea] at e
   exact absurd (List.mem_map.mpr ⟨b, hb', e.symm⟩) h.1
  ·rw [eb] at e
   exact absurd (List.mem_map.mpr ⟨a, ha', e⟩) h.1
  ·exact nd_inj h.2 a ha' b hb' e
structure Rf (G : Int) (ps : List Pl) : Prop where
 n : ps ≠ []
 l : ps.length ≤ 22
 g : ∀ p ∈ ps, PG p
 c : Cd G ps
 u : (ps.map slp).Nodup
theorem gap_vv {F G : Int} {p q : Pl} (hp : Cp G p) (hq : Cp G q) (pd : p.2.2.2 ∣ F) (qd : q.2.2.2 ∣ F) (X Y D : Int) : ((gapR (blow F p) (blow F q)).1 * (F * X) + (gapR (blow F p) (blow F q)).2.1 * (F * Y) + (gapR (blow F p) (blow F q)).2.2 * (G * D)) = F * (vv G p X Y D - vv G q X Y D) := by
 have e1 : wt F p.2.2 * G = wt G p.2.2 * F := wt_two hp.f.pos pd hp.d
 have e2 : wt F q.2.2 * G = wt G q.2.2 * F := wt_two hq.f.pos qd hq.d
 show (p.1 - q.1) * (F * X) + (p.2.1 - q.2.1) * (F * Y) + (wt F p.2.2 - wt F q.2.2) * (G * D) = _
 have e3 : (wt F p.2.2 - wt F q.2.2) * (G * D) = (wt G p.2.2 - wt G q.2.2) * F * D := by
  rw [← Int.mul_assoc, Int.sub_mul, e1, e2, ← Int.sub_mul]
 rw [e3]
 unfold vv
 grind
theorem lone_stays {G : Int} (hG : 1 ≤ G) {ps : List Pl} (h : Rf G ps) {p : Pl} (hp : p ∈ ps) (l : Lone G ps p) : stays ps p = true := by
 obtain ⟨f0, f1, _⟩ := wf_22 h.l h.g
 obtain ⟨X, Y, D, hD, hl⟩ := l
 have st : N.Sat3 (rowsOf (blow (wf ps) p) (ps.map (blow (wf ps)))) (wf ps * X) (wf ps * Y) (G * D) := by
  refine ⟨pos_mul hG hD, fun r hr => ?_⟩
  obtain ⟨b, hb, rfl⟩ := List.mem_map.mp hr
  obtain ⟨hb1, hb2⟩ := List.mem_filter.mp hb
  obtain ⟨q, hq, rfl⟩ := List.mem_map.mp hb1
  have hne : q ≠ p := fun z => of_decide_eq_true hb2 (by rw [z])
  rw [gap_vv (h.c p hp) (h.c q hq) (f1 p hp) (f1 q hq)]
  have := hl q hq hne
  exact Int.mul_pos (by lia) (by lia)
 obtain ⟨pt, e⟩ := lone_some st
 unfold stays
 rw [show lonePt (wf ps) ps p = some pt from e]
 rfl
theorem stays_lone {G : Int} (hG : 1 ≤ G) {ps : List Pl} (h : Rf G ps) {p : Pl} (hp : p ∈ ps) (s : stays ps p = true) : Lone G ps p := by
 obtain ⟨f0, f1, _⟩ := wf_22 h.l h.g
 unfold stays at s
 obtain ⟨pt, e⟩ := Option.isSome_iff_exists.mp s
 obtain ⟨s1, s2, s3⟩ := lone_sound e
 refine ⟨G * (pt.1.1 * pt.2.2), G * (pt.2.1 * pt.1.2), wf ps * (pt.1.2 * pt.2.2), pos_mul f0 (pos_mul s1 s2), fun q hq hne => ?_⟩
 have hb : blow (wf ps) q ≠ blow (wf ps) p := fun z => hne (nd_inj h.u q hq p hp (by
  have z1 : (blow (wf ps) q).1 = (blow (wf ps) p).1 := by rw [z]
  have z2 : (blow (wf ps) q).2.1 = (blow (wf ps) p).2.1 := by rw [z]
  exact Prod.ext z1 z2))
 have k := s3 (gapR (blow (wf ps) p) (blow (wf ps) q)) (List.mem_map.mpr ⟨blow (wf ps) q, List.mem_filter.mpr ⟨List.mem_map.mpr ⟨q, hq, rfl⟩, decide_eq_true hb⟩, rfl⟩)
 have e1 : wt (wf ps) p.2.2 * G = wt G p.2.2 * wf ps := wt_two (h.c p hp).f.pos (f1 p hp) (h.c p hp).d
 have e2 : wt (wf ps) q.2.2 * G = wt G q.2.2 * wf ps := wt_two (h.c q hq).f.pos (f1 q hq) (h.c q hq).d
 have k : 0 < (p.1 - q.1) * pt.1.1 * pt.2.2 + (p.2.1 - q.2.1) * pt.2.1 * pt.1.2 + (wt (wf ps) p.2.2 - wt (wf ps) q.2.2) * pt.1.2 * pt.2.2 := k
 have k2 := Int.mul_pos (show 0 < G by lia) k
 have e3 : G * ((p.1 - q.1) * pt.1.1 * pt.2.2 + (p.2.1 - q.2.1) * pt.2.1 * pt.1.2 + (wt (wf ps) p.2.2 - wt (wf ps) q.2.2) * pt.1.2 * pt.2.2) = (p.1 - q.1) * (G * (pt.1.1 * pt.2.2)) + (p.2.1 - q.2.1) * (G * (pt.2.1 * pt.1.2)) + (wt (wf ps) p.2.2 * G - wt (wf ps) q.2.2 * G) * (pt.1.2 * pt.2.2) := by grind
 rw [e3, e1, e2] at k2
 unfold vv
 have e4 : (p.1 - q.1) * (G * (pt.1.1 * pt.2.2)) + (p.2.1 - q.2.1) * (G * (pt.2.1 * pt.1.2)) + (wt G p.2.2 * wf ps - wt G q.2.2 * wf ps) * (pt.1.2 * pt.2.2) = (p.1 * (G * (pt.1.1 * pt.2.2)) + p.2.1 * (G * (pt.2.1 * pt.1.2)) + wt G p.2.2 * (wf ps * (pt.1.2 * pt.2.2))) - (q.1 * (G * (pt.1.1 * pt.2.2)) + q.2.1 * (G * (pt.2.1 * pt.1.2)) + wt G q.2.2 * (wf ps * (pt.1.2 * pt.2.2))) := by grind
 rw [e4] at k2
 lia
def thn (ps : List Pl) : List Pl := ps.filter (stays ps)
theorem thn_sub {ps : List Pl} {p : Pl} (h : p ∈ thn ps) : p ∈ ps := (List.mem_filter.mp h).1
def slt (p q : Pl) : Prop := p.1 < q.1 ∨ (p.1 = q.1 ∧ p.2.1 < q.2.1)
theorem rng1_lit (n : Nat) (h : n ≤ 100000) : rng1R [.p (.int (n : Int))] = .ok (rngL 0 n) := by
 unfold rng1R
 exact if_pos ⟨by lia, by lia⟩
theorem ita1 {r : List Ev → Res (List D)} {f : En → Res Ev} {en : En} {a : D} {o : Res (List D)} (h1 : f en = .ok (.p a)) (h : r [.p a] = o) : mItA r (mCons f mNil) en = o := by
 simp only [mItA, mCons, mNil, h1, Res.bind, Ev.c, h]
theorem ita2 {r : List Ev → Res (List D)} {f g : En → Res Ev} {en : En} {a b : D} {o : Res (List D)} (h1 : f en = .ok (.p a)) (h2 : g en = .ok (.p b)) (h : r [.p a, .p b] = o) : mItA r (mCons f (mCons g mNil)) en = o := by
 simp only [mItA, mCons, mNil, h1, h2, Res.bind, Ev.c, h]
theorem bin_ff {op : Ev → Ev → Res Ev} {fa fb : En → Res Ev} {en : En} {a b : D} {r : Res Ev} (h1 : fa en = .ok (.f a)) (h2 : fb en = .ok (.f b)) (ho : op (.p a) (.p b) = r) : mBin op fa fb en = r := by
 simp only [mBin, h1, h2, Res.bind, Ev.c, ho]
theorem lp_nx {tg : D → En → Option En} {f : MS} {d : D} {ds : List D} {en e e' : En} (h1 : tg d en = some e) (h2 : f e = some (.nx e')) : mLoop tg f (d :: ds) en = mLoop tg f ds e' := by
 rw [mLoop, h1]
 dsimp only
 rw [h2]
theorem lp_rt {tg : D → En → Option En} {f : MS} {d : D} {ds : List D} {en e : En} {l : L} (h1 : tg d en = some e) (h2 : f e = some (.rt l)) : mLoop tg f (d :: ds) en = some (.rt l) := by
 rw [mLoop, h1]
 dsimp only
 rw [h2]
theorem app_nx {i : Nat} {fe : En → Res Ev} {en : En} {ds : List D} {d : D} (h1 : en[i]? = some (some (.o (.list ds)))) (h2 : fe en = .ok (.f d) ∨ fe en = .ok (.p d)) (h3 : ds.length ≤ 100000) : mAppend i fe en = some (.nx (en.set i (some (.o (.list (ds ++ [d])))))) := by
 unfold mAppend
 rw [h1]
 dsimp only
 rcases h2 with h2 | h2 <;> rw [h2] <;> dsimp only [Ev.c] <;> rw [if_pos h3]
theorem ext_nx {i : Nat} {fe : En → Res Ev} {en : En} {ds es : List D} (h1 : en[i]? = some (some (.o (.list ds)))) (h2 : fe en = .ok (.f (.list es))) (h3 : ds.length + es.length ≤ 100000) : mExtend i fe en = some (.nx (en.set i (some (.o (.list (ds ++ es)))))) := by
 unfold mExtend
 rw [h1]
 dsimp only
 rw [h2]
 dsimp only
 rw [if_pos h3]
def tz (m o e : Pl) : Int := (o.1 - m.1) * (e.2.1 - m.2.1) - (o.2.1 - m.2.1) * (e.1 - m.1)
def dtz (m o e : Pl) : Int := (o.1 - m.1) * (e.1 - m.1) + (o.2.1 - m.2.1) * (e.2.1 - m.2.1)
def eP3 (a : Pl × Pl × Pl) : List L := [.p (plD a.1), .p (plD a.2.1), .p (plD a.2.2)]
theorem eP3_inj (a b : Pl × Pl × Pl) (h : eP3 a = eP3 b) : a = b := by
 unfold eP3 at h
 injection h with h1 h2
 injection h2 with h2 h3
 injection h3 with h3 _
 injection h1 with h1
 injection h2 with h2
 injection h3 with h3
 exact Prod.ext (plI h1) (Prod.ext (plI h2) (plI h3))
def SP (p : Pl) : Prop := Sz 4 p.1 ∧ Sz 4 p.2.1
theorem cm5 {a b : Int} (h1 : Sz 5 a) (h2 : Sz 5 b) : CMulW a b := ⟨h1.mono (by decide), h2.mono (by decide)⟩
theorem tz_sz {m o e : Pl} (h1 : SP m) (h2 : SP o) (h3 : SP e) : Sz 11 (tz m o e) ∧ Sz 11 (dtz m o e) := ⟨Sz.subM (Sz.mul (Sz.subM h2.1 h1.1) (Sz.subM h3.2 h1.2)) (Sz.mul (Sz.subM h2.2 h1.2) (Sz.subM h3.1 h1.1)), Sz.addM (Sz.mul (Sz.subM h2.1 h1.1) (Sz.subM h3.1 h1.1)) (Sz.mul (Sz.subM h2.2 h1.2) (Sz.subM h3.2 h1.2))⟩
def m_turn (K : W.Frag) (c : Cls) : List L → Res L := mOf eP3 (fun a => SP a.1 ∧ SP a.2.1 ∧ SP a.2.2) fun a => .ok (.p (.int (tz a.1 a.2.1 a.2.2)))
def f_turn (K : W.Frag) (c : Cls) : MS := (mSeq (mSet 3 (mBin mulE (mBin subE (mBin ixE (mVar 1) (mC (.int 0))) (mBin ixE (mVar 0) (mC (.int 0)))) (mBin subE (mBin ixE (mVar 2) (mC (.int 1))) (mBin ixE (mVar 0) (mC (.int 1)))))) (mSeq (mSet 4 (mBin mulE (mBin subE (mBin ixE (mVar 1) (mC (.int 1))) (mBin ixE (mVar 0) (mC (.int 1)))) (mBin subE (mBin ixE (mVar 2) (mC (.int 0))) (mBin ixE (mVar 0) (mC (.int 0)))))) (mRet (mBin subE (mVar 3) (mVar 4)))))
theorem eq_turn (K : W.Frag) (c : Cls) : ∀ ls, m_turn K c ls = .bad ∨ runF 5 (f_turn K c) ls = m_turn K c ls := mOf_eq fun a h => by
 obtain ⟨m, o, e⟩ := a
 obtain ⟨h1, h2, h3⟩ := h
 dsimp only at h1 h2 h3 ⊢
 have q1 := cm5 (Sz.subM h2.1 h1.1) (Sz.subM h3.2 h1.2)
 have q2 := cm5 (Sz.subM h2.2 h1.2) (Sz.subM h3.1 h1.1)
 refine run_rt ?_
 rw [show startE 5 (eP3 (m, o, e)) = [some (.p (plD m)), some (.p (plD o)), some (.p (plD e)), none, none] from rfl]
 unfold f_turn
 simp (disch := assumption) only [mSeq, mSet, mRet, mVar, mC, mBin, Res.bind, Ev.c, retL, intE0, ix_pl0, ix_pl1, mul_ok, List.getElem?_cons_zero, List.getElem?_cons_succ, List.set_cons_zero, List.set_cons_succ, subE]
 rfl
theorem turn_good (K : W.Frag) (c : Cls) {m o e : Pl} (h1 : SP m) (h2 : SP o) (h3 : SP e) : m_turn K c [.p (plD m), .p (plD o), .p (plD e)] = .ok (.p (.int (tz m o e))) := mOf_at (a := (m, o, e)) eP3_inj ⟨h1, h2, h3⟩
def m_dot (K : W.Frag) (c : Cls) : List L → Res L := mOf eP3 (fun a => SP a.1 ∧ SP a.2.1 ∧ SP a.2.2) fun a => .ok (.p (.int (dtz a.1 a.2.1 a.2.2)))
def f_dot (K : W.Frag) (c : Cls) : MS := (mRet (mBin addE (mBin mulE (mBin subE (mBin ixE (mVar 1) (mC (.int 0))) (mBin ixE (mVar 0) (mC (.int 0)))) (mBin subE (mBin ixE (mVar 2) (mC (.int 0))) (mBin ixE (mVar 0) (mC (.int 0))))) (mBin mulE (mBin subE (mBin ixE (mVar 1) (mC (.int 1))) (mBin ixE (mVar 0) (mC (.int 1)))) (mBin subE (mBin ixE (mVar 2) (mC (.int 1))) (mBin ixE (mVar 0) (mC (.int 1)))))))
theorem eq_dot (K : W.Frag) (c : Cls) : ∀ ls, m_dot K c ls = .bad ∨ runF 3 (f_dot K c) ls = m_dot K c ls := mOf_eq fun a h => by
 obtain ⟨m, o, e⟩ := a
 obtain ⟨h1, h2, h3⟩ := h
 dsimp only at h1 h2 h3 ⊢
 have q1 := cm5 (Sz.subM h2.1 h1.1) (Sz.subM h3.1 h1.1)
 have q2 := cm5 (Sz.subM h2.2 h1.2) (Sz.subM h3.2 h1.2)
 refine run_rt ?_
 rw [show startE 3 (eP3 (m, o, e)) = [some (.p (plD m)), some (.p (plD o)), some (.p (plD e))] from rfl]
 unfold f_dot
 simp (disch := assumption) only [mRet, mVar, mC, mBin, Res.bind, Ev.c, retL, addE, intE0, ix_pl0, ix_pl1, mul_ok, List.getElem?_cons_zero, List.getElem?_cons_succ, subE]
 rfl
theorem dot_good (K : W.Frag) (c : Cls) {m o e : Pl} (h1 : SP m) (h2 : SP o) (h3 : SP e) : m_dot K c [.p (plD m), .p (plD o), .p (plD e)] = .ok (.p (.int (dtz m o e))) := mOf_at (a := (m, o, e)) eP3_inj ⟨h1, h2, h3⟩
def iD (ws : List Int) : D := .list (ws.map .int)
def f_pair_weights (K : W.Frag) (c : Cls) : MS := (mSeq (mIfS (mTru (mBin (eqE true) (mCall 3 (m_turn K c) (mCons (mVar 0) (mCons (mVar 1) (mCons (mVar 2) mNil)))) (mC (.int 0)))) (mRet (mCallB lstR' (mCons (mC (.int 0)) (mCons (mC (.int 0)) mNil)))) mNext) (mRet (mCallB lstR' (mCons (mCall 3 (m_dot K c) (mCons (mVar 0) (mCons (mVar 2) (mCons (mVar 2) mNil)))) (mCons (mUn negE (mCall 3 (m_dot K c) (mCons (mVar 0) (mCons (mVar 1) (mCons (mVar 2) mNil))))) mNil)))))
def m_pair_weights (K : W.Frag) (c : Cls) (ls : List L) : Res L := runF 3 (f_pair_weights K c) ls
theorem eq_pair_weights (K : W.Frag) (c : Cls) : ∀ ls, m_pair_weights K c ls = .bad ∨ runF 3 (f_pair_weights K c) ls = m_pair_weights K c ls := fun _ => .inr rfl
theorem pw_ok (K : W.Frag) (c : Cls) {m o e : Pl} (h1 : SP m) (h2 : SP o) (h3 : SP e) : ∃ ws : List Int, ws.length = 2 ∧ (∀ x ∈ ws, Sz 12 x) ∧ m_pair_weights K c [.p (plD m), .p (plD o), .p (plD e)] = .ok (.o (iD ws)) := by
 have t := turn_good K c h1 h2 h3
 have d1 := dot_good K c h1 h3 h3
 have d2 := dot_good K c h1 h2 h3
 have tt : mTru (mBin (eqE true) (mCall 3 (m_turn K c) (mCons (mVar 0) (mCons (mVar 1) (mCons (mVar 2) mNil)))) (mC (.int 0))) [some (.p (plD m)), some (.p (plD o)), some (.p (plD e))] = .ok (!(tz m o e == 0)) := by
  simp only [mVar, mC, mBin, mCons, mNil, mCall, callR, argsL, argL, Res.bind, Ev.c, retE, mTru, truthR, dat, eqE, sh_int, eqv_ii, List.getElem?_cons_zero, List.getElem?_cons_succ, List.length_cons, List.length_nil, if_true, Nat.zero_add, Nat.reduceAdd, t]
  rfl
 cases z : (tz m o e == 0) with
 | false =>
  rw [z] at tt
  refine ⟨[0, 0], rfl, fun x hx => ?_, ?_⟩
  ·have : x = 0 := by simpa using hx
   rw [this]
   unfold Sz
   decide
  ·unfold m_pair_weights
   refine run_rt ?_
   rw [show startE 3 [.p (plD m), .p (plD o), .p (plD e)] = [some (.p (plD m)), some (.p (plD o)), some (.p (plD e))] from rfl]
   unfold f_pair_weights
   exact seq_rt ((if_t tt).trans (ret_f (d := iD [0, 0]) rfl))
 | true =>
  rw [z] at tt
  refine ⟨[dtz m e e, -dtz m o e], rfl, fun x hx => ?_, ?_⟩
  ·rcases List.mem_cons.mp hx with w | w
   ·rw [w]; exact (tz_sz h1 h3 h3).2.mono (by decide)
   ·rw [List.mem_singleton.mp w]; exact Sz.neg ((tz_sz h1 h2 h3).2.mono (by decide))
  ·unfold m_pair_weights
   refine run_rt ?_
   rw [show startE 3 [.p (plD m), .p (plD o), .p (plD e)] = [some (.p (plD m)), some (.p (plD o)), some (.p (plD e))] from rfl]
   unfold f_pair_weights
   refine (seq_nx (if_f tt)).trans (ret_f (d := iD [dtz m e e, -dtz m o e]) ?_)
   simp only [mVar, mUn, mCons, mNil, mCall, callR, argsL, argL, Res.bind, Ev.c, retE, mCallB, lstR', pureL, negE, List.getElem?_cons_zero, List.getElem?_cons_succ, List.length_cons, List.length_nil, if_true, Nat.zero_add, Nat.reduceAdd, Nat.reduceLeDiff, d1, d2]
   rfl
def f_triple_weights_e1 (K : W.Frag) (c : Cls) : En → Res Ev := (mUn negE (mVar 0))
def f_triple_weights (K : W.Frag) (c : Cls) : MS := (mSeq (mSet 4 (mCallB lstR' (mCons (mCall 3 (m_turn K c) (mCons (mVar 0) (mCons (mVar 2) (mCons (mVar 3) mNil)))) (mCons (mCall 3 (m_turn K c) (mCons (mVar 0) (mCons (mVar 3) (mCons (mVar 1) mNil)))) (mCons (mCall 3 (m_turn K c) (mCons (mVar 0) (mCons (mVar 1) (mCons (mVar 2) mNil)))) mNil))))) (fun en => (mRet (mIf (mTru (mBin gtE (mCallB sumE (mCons (mVar 4) mNil)) (mC (.int 0)))) (mVar 4) (mComp 1 [] (mItL (mVar 4)) (mgName 0) mYes (f_triple_weights_e1 K c)))) (frz 4 en)))
def m_triple_weights (K : W.Frag) (c : Cls) (ls : List L) : Res L := runF 5 (f_triple_weights K c) ls
theorem eq_triple_weights (K : W.Frag) (c : Cls) : ∀ ls, m_triple_weights K c ls = .bad ∨ runF 5 (f_triple_weights K c) ls = m_triple_weights K c ls := fun _ => .inr rfl
theorem tw_ok (K : W.Frag) (c : Cls) {m o e l : Pl} (h1 : SP m) (h2 : SP o) (h3 : SP e) (h4 : SP l) : ∃ ws : List Int, ws.length = 3 ∧ (∀ x ∈ ws, Sz 12 x) ∧ (m_triple_weights K c [.p (plD m), .p (plD o), .p (plD e), .p (plD l)] = .ok (.p (iD ws)) ∨ m_triple_weights K c [.p (plD m), .p (plD o), .p (plD e), .p (plD l)] = .ok (.o (iD ws))) := by
 have t1 := turn_good K c h1 h3 h4
 have t2 := turn_good K c h1 h4 h2
 have t3 := turn_good K c h1 h2 h3
 have s1 := (tz_sz h1 h3 h4).1
 have s2 := (tz_sz h1 h4 h2).1
 have s3 := (tz_sz h1 h2 h3).1
 generalize tz m e l = a at *
 generalize tz m l o = b at *
 generalize tz m o e = g at *
 have e1 : (mCallB lstR' (mCons (mCall 3 (m_turn K c) (mCons (mVar 0) (mCons (mVar 2) (mCons (mVar 3) mNil)))) (mCons (mCall 3 (m_turn K c) (mCons (mVar 0) (mCons (mVar 3) (mCons (mVar 1) mNil)))) (mCons (mCall 3 (m_turn K c) (mCons (mVar 0) (mCons (mVar 1) (mCons (mVar 2) mNil)))) mNil)))) [some (.p (plD m)), some (.p (plD o)), some (.p (plD e)), some (.p (plD l)), none] = .ok (.f (iD [a, b, g])) := by
  simp only [mVar, mCons, mNil, mCall, callR, argsL, argL, Res.bind, Ev.c, retE, mCallB, lstR', pureL, List.getElem?_cons_zero, List.getElem?_cons_succ, List.length_cons, List.length_nil, if_true, Nat.zero_add, Nat.reduceAdd, Nat.reduceLeDiff, t1, t2, t3]
  rfl
 have hs : sumE [.p (iD [a, b, g])] = .ok (.p (.int ([a, b, g] : List Int).sum)) := by
  simp only [sumE, iD, lstOf, intsOf_map]
 have tt : mTru (mBin gtE (mCallB sumE (mCons (mVar 4) mNil)) (mC (.int 0))) [some (.p (plD m)), some (.p (plD o)), some (.p (plD e)), some (.p (plD l)), some (.p (iD [a, b, g]))] = .ok (decide (([a, b, g] : List Int).sum > 0)) := by
  simp only [mTru, mBin, mCallB, mCons, mNil, mVar, mC, List.getElem?_cons_zero, List.getElem?_cons_succ, Res.bind, Ev.c, hs, gtE, intE0, truthR]
 have st : ∀ {r : Option Out} {f : MS}, f [some (.p (plD m)), some (.p (plD o)), some (.p (plD e)), some (.p (plD l)), some (.p (iD [a, b, g]))] = r → (mSeq (mSet 4 (mCallB lstR' (mCons (mCall 3 (m_turn K c) (mCons (mVar 0) (mCons (mVar 2) (mCons (mVar 3) mNil)))) (mCons (mCall 3 (m_turn K c) (mCons (mVar 0) (mCons (mVar 3) (mCons (mVar 1) mNil)))) (mCons (mCall 3 (m_turn K c) (mCons (mVar 0) (mCons (mVar 1) (mCons (mVar 2) mNil)))) mNil))))) (fun en => f (frz 4 en))) [some (.p (plD m)), some (.p (plD o)), some (.p (plD e)), some (.p (plD l)), none] = r := fun h => (seq_nx (set_f e1)).trans h
 by_cases z : ([a, b, g] : List Int).sum > 0
 ·rw [decide_eq_true z] at tt
  refine ⟨[a, b, g], rfl, fun x hx => ?_, .inl ?_⟩
  ·have : x = a ∨ x = b ∨ x = g := by simpa using hx
   rcases this with rfl | rfl | rfl
   ·exact s1.mono (by decide)
   ·exact s2.mono (by decide)
   ·exact s3.mono (by decide)
  ·unfold m_triple_weights
   refine run_rt ?_
   rw [show startE 5 [.p (plD m), .p (plD o), .p (plD e), .p (plD l)] = [some (.p (plD m)), some (.p (plD o)), some (.p (plD e)), some (.p (plD l)), none] from rfl]
   unfold f_triple_weights
   refine st (ret_p ?_)
   unfold mIf
   rw [tt]
   rfl
 ·rw [decide_eq_false z] at tt
  refine ⟨[-a, -b, -g], rfl, fun x hx => ?_, .inr ?_⟩
  ·have : x = -a ∨ x = -b ∨ x = -g := by simpa using hx
   rcases this with rfl | rfl | rfl
   ·exact Sz.neg (s1.mono (by decide))
   ·exact Sz.neg (s2.mono (by decide))
   ·exact Sz.neg (s3.mono (by decide))
  ·unfold m_triple_weights
   refine run_rt ?_
   rw [show startE 5 [.p (plD m), .p (plD o), .p (plD e), .p (plD l)] = [some (.p (plD m)), some (.p (plD o)), some (.p (plD e)), some (.p (plD l)), none] from rfl]
   unfold f_triple_weights
   refine st (ret_f ?_)
   unfold mIf
   rw [tt]
   exact comp_l (n := 1) (js := []) (fi := mItL (mVar 4)) (tg := mgName 0) (ft := mYes) (fe := f_triple_weights_e1 K c) (en := [some (.p (plD m)), some (.p (plD o)), some (.p (plD e)), some (.p (plD l)), some (.p (iD [a, b, g]))]) (ds := ([a, b, g] : List Int).map .int) (es := ([-a, -b, -g] : List Int).map .int) rfl (by simp) rfl
def f_weights_of (K : W.Frag) (c : Cls) : MS := (mSeq (mIfS (mTru (mBin (eqE false) (mCallB lenE (mCons (mVar 1) mNil)) (mC (.int 2)))) (mRet (mCall 3 (m_pair_weights K c) (mCons (mVar 0) (mCons (mBin ixE (mVar 1) (mC (.int 0))) (mCons (mBin ixE (mVar 1) (mC (.int 1))) mNil))))) mNext) (mRet (mCall 4 (m_triple_weights K c) (mCons (mVar 0) (mCons (mBin ixE (mVar 1) (mC (.int 0))) (mCons (mBin ixE (mVar 1) (mC (.int 1))) (mCons (mBin ixE (mVar 1) (mC (.int 2))) mNil)))))))
def m_weights_of (K : W.Frag) (c : Cls) (ls : List L) : Res L := runF 2 (f_weights_of K c) ls
theorem eq_weights_of (K : W.Frag) (c : Cls) : ∀ ls, m_weights_of K c ls = .bad ∨ runF 2 (f_weights_of K c) ls = m_weights_of K c ls := fun _ => .inr rfl
def gD (g : List Pl) : D := .list (g.map plD)
def GG (S : List Pl) (g : List Pl) : Prop := (g.length = 2 ∨ g.length = 3) ∧ ∀ p ∈ g, p ∈ S
theorem ln1 {α : Type} {us : List α} (h : us.length = 1) : ∃ a, us = [a] := by
 cases us with
 | nil => cases h
 | cons a r => cases r with
  | nil => exact ⟨a, rfl⟩
  | cons b s => cases h
theorem ln2 {α : Type} {us : List α} (h : us.length = 2) : ∃ a b, us = [a, b] := by
 cases us with
 | nil => cases h
 | cons a r => obtain ⟨b, rfl⟩ := ln1 (Nat.succ.inj h); exact ⟨a, b, rfl⟩
theorem ln3 {α : Type} {us : List α} (h : us.length = 3) : ∃ a b c, us = [a, b, c] := by
 cases us with
 | nil => cases h
 | cons a r => obtain ⟨b, c, rfl⟩ := ln2 (Nat.succ.inj h); exact ⟨a, b, c, rfl⟩
theorem wo_ok (K : W.Frag) (c : Cls) {p : Pl} {g : List Pl} (h1 : SP p) (h2 : ∀ q ∈ g, SP q) (h3 : g.length = 2 ∨ g.length = 3) : ∃ ws : List Int, ws.length = g.length ∧ (∀ x ∈ ws, Sz 12 x) ∧ (m_weights_of K c [.p (plD p), .p (gD g)] = .ok (.p (iD ws)) ∨ m_weights_of K c [.p (plD p), .p (gD g)] = .ok (.o (iD ws))) := by
 have lt : lenE [.p (gD g)] = .ok (.p (.int (g.length : Nat))) := by simp [lenE, seqOf, gD]
 have tt : mTru (mBin (eqE false) (mCallB lenE (mCons (mVar 1) mNil)) (mC (.int 2))) [some (.p (plD p)), some (.p (gD g))] = .ok (((g.length : Nat) : Int) == 2) := by
  simp only [mTru, mBin, mCallB, mCons, mNil, mVar, mC, List.getElem?_cons_zero, List.getElem?_cons_succ, List.set_cons_zero, List.set_cons_succ, List.length_cons, List.length_nil, List.length_map, List.length_append, if_true, if_false, ite_true, ite_false, decide_true, decide_false, Bool.false_eq_true, Nat.zero_add, Nat.reduceAdd, Nat.reduceEqDiff, Nat.reduceLeDiff, reduceIte, List.map_append, List.map_cons, List.map_nil, Res.bind, Ev.c, lt, eqE, dat, sh_int, eqv_ii, truthR]
  rfl
 rcases h3 with h3 | h3
 ·obtain ⟨a, b, rfl⟩ := ln2 h3
  obtain ⟨ws, w1, w2, w3⟩ := pw_ok K c h1 (h2 a (.head _)) (h2 b (.tail _ (.head _)))
  refine ⟨ws, w1, w2, .inr ?_⟩
  unfold m_weights_of
  refine run_rt ?_
  rw [show startE 2 [.p (plD p), .p (gD [a, b])] = [some (.p (plD p)), some (.p (gD [a, b]))] from rfl]
  unfold f_weights_of
  refine seq_rt ((if_t tt).trans (ret_f ?_))
  have i0 : ixE (.p (gD [a, b])) (.p (.int 0)) = .ok (.p (plD a)) := rfl
  have i1 : ixE (.p (gD [a, b])) (.p (.int 1)) = .ok (.p (plD b)) := rfl
  simp only [mCall, mCons, mNil, mBin, mVar, mC, List.getElem?_cons_zero, List.getElem?_cons_succ, List.set_cons_zero, List.set_cons_succ, List.length_cons, List.length_nil, List.length_map, List.length_append, if_true, if_false, ite_true, ite_false, decide_true, decide_false, Bool.false_eq_true, Nat.zero_add, Nat.reduceAdd, Nat.reduceEqDiff, Nat.reduceLeDiff, reduceIte, List.map_append, List.map_cons, List.map_nil, Res.bind, Ev.c, callR, argsL, argL, i0, i1, w3, retE]
 ·obtain ⟨a, b, l, rfl⟩ := ln3 h3
  obtain ⟨ws, w1, w2, w3⟩ := tw_ok K c h1 (h2 a (.head _)) (h2 b (.tail _ (.head _))) (h2 l (.tail _ (.tail _ (.head _))))
  refine ⟨ws, w1, w2, w3.imp (fun w3 => ?_) (fun w3 => ?_)⟩
  all_goals
   unfold m_weights_of
   refine run_rt ?_
   rw [show startE 2 [.p (plD p), .p (gD [a, b, l])] = [some (.p (plD p)), some (.p (gD [a, b, l]))] from rfl]
   unfold f_weights_of
   refine (seq_nx (if_f tt)).trans ?_
   have i0 : ixE (.p (gD [a, b, l])) (.p (.int 0)) = .ok (.p (plD a)) := rfl
   have i1 : ixE (.p (gD [a, b, l])) (.p (.int 1)) = .ok (.p (plD b)) := rfl
   have i2 : ixE (.p (gD [a, b, l])) (.p (.int 2)) = .ok (.p (plD l)) := rfl
   first
    | (refine ret_p ?_
       simp only [mCall, mCons, mNil, mBin, mVar, mC, List.getElem?_cons_zero, List.getElem?_cons_succ, List.set_cons_zero, List.set_cons_succ, List.length_cons, List.length_nil, List.length_map, List.length_append, if_true, if_false, ite_true, ite_false, decide_true, decide_false, Bool.false_eq_true, Nat.zero_add, Nat.reduceAdd, Nat.reduceEqDiff, Nat.reduceLeDiff, reduceIte, List.map_append, List.map_cons, List.map_nil, Res.bind, Ev.c, callR, argsL, argL, i0, i1, i2, w3, retE])
    | (refine ret_f ?_
       simp only [mCall, mCons, mNil, mBin, mVar, mC, List.getElem?_cons_zero, List.getElem?_cons_succ, List.set_cons_zero, List.set_cons_succ, List.length_cons, List.length_nil, List.length_map, List.length_append, if_true, if_false, ite_true, ite_false, decide_true, decide_false, Bool.false_eq_true, Nat.zero_add, Nat.reduceAdd, Nat.reduceEqDiff, Nat.reduceLeDiff, reduceIte, List.map_append, List.map_cons, List.map_nil, Res.bind, Ev.c, callR, argsL, argL, i0, i1, i2, w3, retE])
def f_shared_sum_b1 (K : W.Frag) (c : Cls) : MS := (mSet 1 (mCall 2 (m_plus K c) (mCons (mVar 1) (mCons (mCall 2 (m_times K c) (mCons (mVar 2) (mCons (mVar 3) mNil))) mNil))))
def f_shared_sum (K : W.Frag) (c : Cls) : MS := (mSeq (mSet 1 (mCallB tupR' (mCons (mC (.int 0)) (mCons (mC (.int 1)) mNil)))) (mSeq (mFor (mItL (mVar 0)) (mgTup 2 (mgCons (mgName 2) (mgCons (mgName 3) mgNil))) (f_shared_sum_b1 K c)) (mRet (mVar 1))))
def m_shared_sum (K : W.Frag) (c : Cls) (ls : List L) : Res L := runF 4 (f_shared_sum K c) ls
theorem eq_shared_sum (K : W.Frag) (c : Cls) : ∀ ls, m_shared_sum K c ls = .bad ∨ runF 4 (f_shared_sum K c) ls = m_shared_sum K c ls := fun _ => .inr rfl
def shD (x : (Int × Int) × (Int × Int)) : D := .tuple [frD x.1, frD x.2]
theorem good_T {m n : Nat} {x y : Int × Int} (hx : Good m x) (hy : Good n y) : Good (m + n + 1) (FR.mk (x.1 * y.1) (x.2 * y.2)) := by
 have p := pos_mul hx.1 hy.1
 exact mk_good ((Sz.mul hx.2.1 hy.2.1).mono (by lia)) ((Sz.mul hx.2.2 hy.2.2).mono (by lia)) (by lia)
theorem ss_loop (K : W.Frag) (c : Cls) (A : Option L) : ∀ (xs : List ((Int × Int) × (Int × Int))) (t : Int × Int) (n : Nat) (r2 r3 : Option L), Good n t → n + 300 * xs.length ≤ 1900 → (∀ x ∈ xs, Good 60 x.1 ∧ Good 200 x.2) → ∃ (t' : Int × Int) (q2 q3 : Option L), Good 1900 t' ∧ mLoop (mgTup 2 (mgCons (mgName 2) (mgCons (mgName 3) mgNil))) (f_shared_sum_b1 K c) (xs.map shD) [A, some (.p (frD t)), r2, r3] = some (.nx [A, some (.p (frD t')), q2, q3])
 | [], t, n, r2, r3, g, hn, _ => ⟨t, r2, r3, g.mono (by lia), rfl⟩
 | x :: xs, t, n, r2, r3, g, hn, hx => by
  rw [List.length_cons] at hn
  obtain ⟨g1, g2⟩ := hx x (.head _)
  have p := pos_mul g1.1 g2.1
  have ht := ok2_times K c (x := x.1) (y := x.2) (g1.mono (by decide)).fsz (g2.mono (by decide)).fsz (by lia)
  have gt := good_T g1 g2
  have hp := plus_good K c g gt (by lia) (by decide)
  obtain ⟨t', q2, q3, gt', ih⟩ := ss_loop K c A xs _ _ (some (.p (frD x.1))) (some (.p (frD x.2))) (good_P g gt) (by lia) fun y hy => hx y (.tail _ hy)
  refine ⟨t', q2, q3, gt', ?_⟩
  have hb : f_shared_sum_b1 K c [A, some (.p (frD t)), some (.p (frD x.1)), some (.p (frD x.2))] = some (.nx [A, some (.p (frD (hP t (FR.mk (x.1.1 * x.2.1) (x.1.2 * x.2.2))))), some (.p (frD x.1)), some (.p (frD x.2))]) := by
   unfold f_shared_sum_b1
   refine set_p ?_
   simp only [mCall, mCons, mNil, mVar, List.getElem?_cons_zero, List.getElem?_cons_succ, List.length_cons, List.length_nil, if_true, Nat.zero_add, Nat.reduceAdd, Res.bind, Ev.c, callR, argsL, argL, ht, hp, retE]
  rw [List.map_cons, lp_nx rfl hb]
  exact ih
theorem ss_ok (K : W.Frag) (c : Cls) {xs : List ((Int × Int) × (Int × Int))} (hl : xs.length ≤ 3) (hx : ∀ x ∈ xs, Good 60 x.1 ∧ Good 200 x.2) : ∃ t, Good 1900 t ∧ m_shared_sum K c [.p (.list (xs.map shD))] = .ok (.p (frD t)) := by
 obtain ⟨t, q2, q3, g, h⟩ := ss_loop K c (some (.p (.list (xs.map shD)))) xs (0, 1) 2 none none ⟨Int.le_refl 1, by unfold Sz; decide, by unfold Sz; decide⟩ (by lia) hx
 refine ⟨t, g, ?_⟩
 unfold m_shared_sum
 refine run_rt ?_
 rw [show startE 4 [.p (.list (xs.map shD))] = [some (.p (.list (xs.map shD))), none, none, none] from rfl]
 unfold f_shared_sum
 refine (seq_nx (set_p (d := frD (0, 1)) rfl)).trans ((seq_nx ((for_l (ds := xs.map shD) rfl).trans h)).trans ?_)
 rfl
def f_mixture_height_e1 (K : W.Frag) (c : Cls) : En → Res Ev := (mCallB tupR' (mCons (mVar 0) (mCons (mBin ixE (mVar 1) (mC (.int 2))) mNil)))
def f_mixture_height (K : W.Frag) (c : Cls) : MS := (mRet (mCall 1 (m_shared_sum K c) (mCons (mComp 2 [] (mItL (mVar 0)) (mgTup 2 (mgCons (mgName 0) (mgCons (mgName 1) mgNil))) mYes (f_mixture_height_e1 K c)) mNil)))
def m_mixture_height (K : W.Frag) (c : Cls) (ls : List L) : Res L := runF 1 (f_mixture_height K c) ls
theorem eq_mixture_height (K : W.Frag) (c : Cls) : ∀ ls, m_mixture_height K c ls = .bad ∨ runF 1 (f_mixture_height K c) ls = m_mixture_height K c ls := fun _ => .inr rfl
def mxD (x : (Int × Int) × Pl) : D := .tuple [frD x.1, plD x.2]
theorem mh_ok (K : W.Frag) (c : Cls) {xs : List ((Int × Int) × Pl)} (hl : xs.length ≤ 3) (hx : ∀ x ∈ xs, Good 60 x.1 ∧ Good 200 x.2.2.2) : ∃ t, Good 1900 t ∧ m_mixture_height K c [.p (.list (xs.map mxD))] = .ok (.p (frD t)) := by
 obtain ⟨t, g, h⟩ := ss_ok K c (xs := xs.map fun x => (x.1, x.2.2.2)) (by rw [List.length_map]; exact hl) (fun y hy => by
  obtain ⟨x, h1, rfl⟩ := List.mem_map.mp hy
  exact hx x h1)
 refine ⟨t, g, ?_⟩
 unfold m_mixture_height
 refine run_rt ?_
 rw [show startE 1 [.p (.list (xs.map mxD))] = [some (.p (.list (xs.map mxD)))] from rfl]
 have hm : mapO (compItem 2 [] (mgTup 2 (mgCons (mgName 0) (mgCons (mgName 1) mgNil))) mYes (f_mixture_height_e1 K c) [some (.p (.list (xs.map mxD)))]) (xs.map mxD) = some (xs.map fun x => shD (x.1, x.2.2.2)) := mapO_map _ fun x _ => rfl
 have hc := comp_l (n := 2) (js := []) (fi := mItL (mVar 0)) (tg := mgTup 2 (mgCons (mgName 0) (mgCons (mgName 1) mgNil))) (ft := mYes) (fe := f_mixture_height_e1 K c) (en := [some (.p (.list (xs.map mxD)))]) (ds := xs.map mxD) rfl (by rw [List.length_map]; lia) hm
 have e : (xs.map fun x => shD (x.1, x.2.2.2)) = (xs.map fun x => (x.1, x.2.2.2)).map shD := by rw [List.map_map]; rfl
 rw [e] at hc
 unfold f_mixture_height
 refine ret_p ?_
 simp only [mCall, mCons, mNil, hc, List.length_cons, List.length_nil, if_true, Nat.zero_add, Res.bind, Ev.c, callR, argsL, argL, h, retE]
def f_mixture_of_e1 (K : W.Frag) (c : Cls) : En → Res Ev := (mCallB tupR' (mCons (mCall 2 (m_fraction K c) (mCons (mVar 0) (mCons (mCallB sumE (mCons (mVar 2) mNil)) mNil))) (mCons (mVar 1) mNil)))
def f_mixture_of_b2 (K : W.Frag) (c : Cls) : MS := (mSeq (mSet 3 (mCall 2 (m_weights_of K c) (mCons (mVar 0) (mCons (mVar 2) mNil)))) (mIfS (mTru (mBin gtE (mCallB minE (mCons (mVar 3) mNil)) (mC (.int 0)))) (fun en => (mSeq (mSet 4 (mComp 2 [3] (mItA zipR (mCons (mVar 3) (mCons (mVar 2) mNil))) (mgTup 2 (mgCons (mgName 0) (mgCons (mgName 1) mgNil))) mYes (f_mixture_of_e1 K c))) (mIfS (mNot (mTru (mCall 2 (m_less K c) (mCons (mCall 1 (m_mixture_height K c) (mCons (mVar 4) mNil)) (mCons (mBin ixE (mVar 0) (mC (.int 2))) mNil))))) (mRet (mVar 4)) mNext)) (frz 3 en)) mNext))
def f_mixture_of (K : W.Frag) (c : Cls) : MS := (mFor (mItL (mVar 1)) (mgName 2) (f_mixture_of_b2 K c))
def m_mixture_of (K : W.Frag) (c : Cls) (ls : List L) : Res L := runF 5 (f_mixture_of K c) ls
theorem eq_mixture_of (K : W.Frag) (c : Cls) : ∀ ls, m_mixture_of K c ls = .bad ∨ runF 5 (f_mixture_of K c) ls = m_mixture_of K c ls := fun _ => .inr rfl
theorem zipL_zip {α β : Type} (f : α → D) (g : β → D) : ∀ (xs : List α) (ys : List β), zipL (xs.map f) (ys.map g) = (xs.zip ys).map fun x => .tuple [f x.1, g x.2]
 | [], _ => by simp [zipL]
 | _ :: _, [] => by simp [zipL]
 | x :: xs, y :: ys => by
  show PyData.tuple [f x, g y] :: zipL (xs.map f) (ys.map g) = _
  rw [zipL_zip f g xs ys]
  rfl
def mnw : List Int → Int
 | [] => 0
 | i :: is => minL i is
theorem minL_le : ∀ (is : List Int) (i : Int), ∀ x ∈ i :: is, minL i is ≤ x
 | [], i, x, hx => by rw [List.mem_singleton.mp hx]; exact Int.le_refl _
 | j :: is, i, x, hx => by
  have ih := minL_le is (if j < i then j else i)
  have e : minL i (j :: is) = minL (if j < i then j else i) is := rfl
  have h0 := ih _ (.head _)
  have hi : (if j < i then j else i) ≤ i := by split <;> lia
  have hj : (if j < i then j else i) ≤ j := by split <;> lia
  rw [e]
  rcases List.mem_cons.mp hx with z | z
  ·rw [z]; exact Int.le_trans h0 hi
  ·rcases List.mem_cons.mp z with w | w
   ·rw [w]; exact Int.le_trans h0 hj
   ·exact ih x (.tail _ w)
theorem min_ok {ws : List Int} (h : ws ≠ []) {x : Ev} (hx : lstOf x = some (ws.map .int)) : minE [x] = .ok (.p (.int (mnw ws))) := by
 cases ws with
 | nil => exact absurd rfl h
 | cons i is => simp only [minE, hx, intsOf_map]; rfl
theorem sum_pos : ∀ (ws : List Int), (∀ x ∈ ws, 0 < x ∧ Sz 12 x) → ws ≠ [] → 0 < ws.sum
 | [x], h, _ => by have := (h x (.head _)).1; simpa using this
 | x :: y :: ws, h, _ => by
  have := (h x (.head _)).1
  have ih := sum_pos (y :: ws) (fun z hz => h z (.tail _ hz)) (List.cons_ne_nil _ _)
  rw [List.sum_cons]
  lia
theorem sum_sz : ∀ (ws : List Int), (∀ x ∈ ws, Sz 12 x) → ws.length ≤ 3 → Sz 20 ws.sum
 | ws, h, hl => by
  have : ∀ (ws : List Int), (∀ x ∈ ws, Sz 12 x) → ws.sum.natAbs ≤ 4096 * ws.length := by
   intro ws
   induction ws with
   | nil => intro _; exact Nat.le_refl _
   | cons x ws ih =>
    intro h
    have h1 : x.natAbs < 2 ^ 12 := h x (.head _)
    have h2 := ih fun y hy => h y (.tail _ hy)
    rw [List.sum_cons, List.length_cons]
    have := Int.natAbs_add_le x ws.sum
    lia
  have := this ws h
  unfold Sz
  lia
theorem mo_b (K : W.Frag) (c : Cls) {p : Pl} {g : List Pl} (A : Option L) (h1 : SP p) (hp : Good 200 p.2.2) (h2 : ∀ q ∈ g, SP q ∧ Good 200 q.2.2) (h3 : g.length = 2 ∨ g.length = 3) (r3 r4 : Option L) : (∃ q3 q4, f_mixture_of_b2 K c [some (.p (plD p)), A, some (.p (gD g)), r3, r4] = some (.nx [some (.p (plD p)), A, some (.p (gD g)), q3, q4])) ∨ ∃ d, f_mixture_of_b2 K c [some (.p (plD p)), A, some (.p (gD g)), r3, r4] = some (.rt (.o d)) := by
 obtain ⟨ws, w1, w2, w3⟩ := wo_ok K c (p := p) (g := g) h1 (fun q hq => (h2 q hq).1) h3
 have wn : ws ≠ [] := fun z => by rw [z] at w1; simp at w1; lia
 obtain ⟨lw, h5, h6⟩ : ∃ lw : L, (lw = .p (iD ws) ∨ lw = .o (iD ws)) ∧ (mSet 3 (mCall 2 (m_weights_of K c) (mCons (mVar 0) (mCons (mVar 2) mNil)))) [some (.p (plD p)), A, some (.p (gD g)), r3, r4] = some (.nx [some (.p (plD p)), A, some (.p (gD g)), some lw, r4]) := by
  rcases w3 with w3 | w3
  ·refine ⟨_, .inl rfl, set_p ?_⟩
   simp only [mCall, mCons, mNil, mVar, List.getElem?_cons_zero, List.getElem?_cons_succ, List.length_cons, List.length_nil, if_true, Nat.zero_add, Nat.reduceAdd, Res.bind, Ev.c, callR, argsL, argL, w3, retE]
  ·refine ⟨_, .inr rfl, set_f ?_⟩
   simp only [mCall, mCons, mNil, mVar, List.getElem?_cons_zero, List.getElem?_cons_succ, List.length_cons, List.length_nil, if_true, Nat.zero_add, Nat.reduceAdd, Res.bind, Ev.c, callR, argsL, argL, w3, retE]
 have tt : mTru (mBin gtE (mCallB minE (mCons (mVar 3) mNil)) (mC (.int 0))) [some (.p (plD p)), A, some (.p (gD g)), some lw, r4] = .ok (decide (mnw ws > 0)) := by
  rcases h5 with rfl | rfl
  ·have hm := min_ok wn (x := .p (iD ws)) rfl
   simp only [mTru, mBin, mCallB, mCons, mNil, mVar, mC, List.getElem?_cons_zero, List.getElem?_cons_succ, Res.bind, Ev.c, hm, gtE, intE0, truthR]
  ·have hm := min_ok wn (x := .b (iD ws)) rfl
   simp only [mTru, mBin, mCallB, mCons, mNil, mVar, mC, List.getElem?_cons_zero, List.getElem?_cons_succ, Res.bind, Ev.c, hm, gtE, intE0, truthR]
 by_cases z : mnw ws > 0
 ·rw [decide_eq_true z] at tt
  have fz : frz 3 [some (.p (plD p)), A, some (.p (gD g)), some lw, r4] = [some (.p (plD p)), A, some (.p (gD g)), some (.p (iD ws)), r4] := by
   rcases h5 with rfl | rfl <;> rfl
  have pos : ∀ x ∈ ws, 0 < x ∧ Sz 12 x := fun x hx => ⟨by
   cases ws with
   | nil => exact absurd rfl wn
   | cons i is => have := minL_le is i x hx; have : 0 < minL i is := z; lia, w2 x hx⟩
  have sp := sum_pos ws pos wn
  have sz := sum_sz ws w2 (by lia)
  have hs : sumE [.p (iD ws)] = .ok (.p (.int ws.sum)) := by simp only [sumE, iD, lstOf, intsOf_map]
  have hit : (mItA zipR (mCons (mVar 3) (mCons (mVar 2) mNil))) [some (.p (plD p)), A, some (.p (gD g)), some (.p (iD ws)), r4] = .ok ((ws.zip g).map fun x => .tuple [.int x.1, plD x.2]) := by
   simp only [mItA, mCons, mNil, mVar, Res.bind, List.getElem?_cons_zero, List.getElem?_cons_succ, Ev.c, zipR, iD, gD, zipL_zip]
  have hm : mapO (compItem 2 [3] (mgTup 2 (mgCons (mgName 0) (mgCons (mgName 1) mgNil))) mYes (f_mixture_of_e1 K c) [some (.p (plD p)), A, some (.p (gD g)), some (.p (iD ws)), r4]) ((ws.zip g).map fun x => .tuple [.int x.1, plD x.2]) = some ((ws.zip g).map fun x => mxD (FR.mk x.1 ws.sum, x.2)) := by
   refine mapO_map _ fun x hx => ?_
   have hf := frac_ok K c (t := x.1) (b := ws.sum) (by lia) (sz.mono (by decide))
   have he : f_mixture_of_e1 K c [some (.p (.int x.1)), some (.p (plD x.2)), some (.p (iD ws))] = .ok (.p (mxD (FR.mk x.1 ws.sum, x.2))) := by
    simp only [f_mixture_of_e1, mCallB, mCall, mCons, mNil, mVar, List.getElem?_cons_zero, List.getElem?_cons_succ, List.length_cons, List.length_nil, if_true, Nat.zero_add, Nat.reduceAdd, Nat.reduceLeDiff, Res.bind, Ev.c, callR, argsL, argL, hs, hf, retE, tupR', pureL]
    rfl
   unfold compItem
   simp only [mgTup, mgCons, mgNil, mgName, capE, capO, mYes, List.getElem?_cons_zero, List.getElem?_cons_succ, List.set_cons_zero, List.set_cons_succ, List.length_cons, List.length_nil, if_true, Nat.zero_add, Nat.reduceAdd, List.map_cons, List.map_nil, List.replicate, List.cons_append, List.nil_append, he, Ev.c]
  have hc := comp_l (n := 2) (js := [3]) hit (by rw [List.length_map, List.length_zip]; lia) hm
  have e : ((ws.zip g).map fun x => mxD (FR.mk x.1 ws.sum, x.2)) = ((ws.zip g).map fun x => (FR.mk x.1 ws.sum, x.2)).map mxD := by rw [List.map_map]; rfl
  rw [e] at hc
  generalize hxs : ((ws.zip g).map fun x => (FR.mk x.1 ws.sum, x.2)) = xs at hc
  have gx : ∀ x ∈ xs, Good 60 x.1 ∧ Good 200 x.2.2.2 := fun x hx => by
   rw [← hxs] at hx
   obtain ⟨y, hy, rfl⟩ := List.mem_map.mp hx
   obtain ⟨y1, y2⟩ := List.of_mem_zip hy
   exact ⟨mk_good ((w2 _ y1).mono (by decide)) (sz.mono (by decide)) (by lia), (h2 _ y2).2⟩
  have lx : xs.length ≤ 3 := by rw [← hxs, List.length_map, List.length_zip]; lia
  obtain ⟨t, gt, ht⟩ := mh_ok K c lx gx
  have hl := less_good K c (x := t) (y := p.2.2) (gt.mono (by decide)).fsz (hp.mono (by decide)).fsz
  have hff : flatL (.p (frD t)) = true := by simp [flatL, lf_fr]
  have t2 : (mNot (mTru (mCall 2 (m_less K c) (mCons (mCall 1 (m_mixture_height K c) (mCons (mVar 4) mNil)) (mCons (mBin ixE (mVar 0) (mC (.int 2))) mNil))))) [some (.p (plD p)), A, some (.p (gD g)), some (.p (iD ws)), some (.o (.list (xs.map mxD)))] = .ok (!ltF t p.2.2) := by
   simp only [mNot, mTru, mCall, mCons, mNil, mVar, mC, mBin, ix_pl2, List.getElem?_cons_zero, List.getElem?_cons_succ, List.length_cons, List.length_nil, if_true, Nat.zero_add, Nat.reduceAdd, Res.bind, Ev.c, callR, argsL, argL, argB, ht, hff, hl, retE, truthR]
  have run : ∀ {o : Option Out}, (mIfS (mNot (mTru (mCall 2 (m_less K c) (mCons (mCall 1 (m_mixture_height K c) (mCons (mVar 4) mNil)) (mCons (mBin ixE (mVar 0) (mC (.int 2))) mNil))))) (mRet (mVar 4)) mNext) [some (.p (plD p)), A, some (.p (gD g)), some (.p (iD ws)), some (.o (.list (xs.map mxD)))] = o → f_mixture_of_b2 K c [some (.p (plD p)), A, some (.p (gD g)), r3, r4] = o := fun h => by
   unfold f_mixture_of_b2
   refine (seq_nx h6).trans ((if_t tt).trans ?_)
   rw [fz]
   exact (seq_nx (set_f hc)).trans h
  cases b : ltF t p.2.2 with
  | true =>
   rw [b] at t2
   exact .inl ⟨_, _, run (if_f t2)⟩
  | false =>
   rw [b] at t2
   exact .inr ⟨_, run ((if_t t2).trans rfl)⟩
 ·rw [decide_eq_false z] at tt
  left
  refine ⟨some lw, r4, ?_⟩
  unfold f_mixture_of_b2
  exact (seq_nx h6).trans (if_f tt)
theorem mo_loop (K : W.Frag) (c : Cls) {p : Pl} (A : Option L) (h1 : SP p) (hp : Good 200 p.2.2) : ∀ (gs : List (List Pl)) (r2 r3 r4 : Option L), (∀ g ∈ gs, (g.length = 2 ∨ g.length = 3) ∧ ∀ q ∈ g, SP q ∧ Good 200 q.2.2) → (∃ e, mLoop (mgName 2) (f_mixture_of_b2 K c) (gs.map gD) [some (.p (plD p)), A, r2, r3, r4] = some (.nx e)) ∨ ∃ d, mLoop (mgName 2) (f_mixture_of_b2 K c) (gs.map gD) [some (.p (plD p)), A, r2, r3, r4] = some (.rt (.o d))
 | [], r2, r3, r4, _ => .inl ⟨_, rfl⟩
 | g :: gs, r2, r3, r4, h => by
  obtain ⟨h3, h2⟩ := h g (.head _)
  rw [List.map_cons]
  rcases mo_b K c A h1 hp h2 h3 r3 r4 with ⟨q3, q4, hb⟩ | ⟨d, hb⟩
  ·rw [lp_nx rfl hb]
   exact mo_loop K c A h1 hp gs _ _ _ fun x hx => h x (.tail _ hx)
  ·right
   exact ⟨d, lp_rt rfl hb⟩
theorem mo_ok (K : W.Frag) (c : Cls) {p : Pl} {gs : List (List Pl)} (h1 : SP p) (hp : Good 200 p.2.2) (h : ∀ g ∈ gs, (g.length = 2 ∨ g.length = 3) ∧ ∀ q ∈ g, SP q ∧ Good 200 q.2.2) : ∃ d, m_mixture_of K c [.p (plD p), .p (.list (gs.map gD))] = .ok (.p d) ∨ m_mixture_of K c [.p (plD p), .p (.list (gs.map gD))] = .ok (.o d) := by
 have es : startE 5 [.p (plD p), .p (.list (gs.map gD))] = [some (.p (plD p)), some (.p (.list (gs.map gD))), none, none, none] := rfl
 have hf : f_mixture_of K c (startE 5 [.p (plD p), .p (.list (gs.map gD))]) = mLoop (mgName 2) (f_mixture_of_b2 K c) (gs.map gD) [some (.p (plD p)), some (.p (.list (gs.map gD))), none, none, none] := by
  rw [es]
  unfold f_mixture_of
  exact for_l rfl
 rcases mo_loop K c (some (.p (.list (gs.map gD)))) h1 hp gs none none none h with ⟨e, he⟩ | ⟨d, he⟩
 ·refine ⟨.none, .inl ?_⟩
  unfold m_mixture_of runF
  rw [hf, he]
 ·exact ⟨d, .inr (run_rt (hf.trans he))⟩
theorem at_map {α : Type} (f : α → D) (xs : List α) (d : α) {k : Nat} (h : k < xs.length) : atI (xs.map f) (k : Int) = some (f (xs.getD k d)) := by
 have : xs.getD k d = xs[k] := by simp [List.getD, h]
 rw [this]
 exact atI_nat (by rw [List.getElem?_map, List.getElem?_eq_getElem h]; rfl)
def rgD (j m : Nat) : List D := (List.range' j m).map fun k : Nat => PyData.int (k : Int)
theorem rgD_succ (j m : Nat) : rgD j (m + 1) = .int (j : Int) :: rgD (j + 1) m := rfl
theorem rng_rg (a n : Nat) : rngL (a : Int) n = rgD a n := by
 unfold rngL rgD
 rw [List.range'_eq_map_range, List.map_map]
 refine List.map_congr_left fun k _ => ?_
 show PyData.int ((a : Int) + (k : Int)) = .int ((a + k : Nat) : Int)
 rw [Int.natCast_add]
theorem rng2_ok (a n : Nat) (h1 : a ≤ 1000) (h2 : n ≤ 1000) : rng2R [.p (.int (a : Int)), .p (.int (n : Int))] = .ok (rgD a (n - a)) := by
 unfold rng2R
 rw [← rng_rg, show n - a = ((n : Int) - (a : Int)).toNat by lia]
 exact if_pos ⟨by lia, by lia, by lia, by lia⟩
theorem cut_pl (S : List Pl) (k : Nat) (h : k < S.length) : M.cutD (S.map plD) (some ((k + 1 : Nat) : Int)) none = (S.drop (k + 1)).map plD := by
 unfold M.cutD
 rw [HT.sIx_none, HT.sIx_nat, List.length_map, Nat.min_eq_left (by lia), List.take_of_length_le (by rw [List.length_drop, List.length_map]; lia), List.map_drop]
theorem getD_lt {α : Type} {xs : List α} {k : Nat} (h : k < xs.length) (d : α) : xs.getD k d = xs[k] := by simp [List.getD, h]
theorem getD_in {α : Type} {xs : List α} {k : Nat} (h : k < xs.length) (d : α) : xs.getD k d ∈ xs := by rw [getD_lt h]; exact List.getElem_mem h
def z0 : Pl := (0, 0, (0, 1))
theorem ix_S {S : List Pl} {k : Nat} (h : k < S.length) : ixE (.p (.list (S.map plD))) (.p (.int (k : Int))) = .ok (.p (plD (S.getD k z0))) := by
 have := at_map plD S z0 h
 simp only [ixE, seqOf, this]
def f_pairs_and_triples_e1 (K : W.Frag) (c : Cls) : En → Res Ev := (mCallB lstR' (mCons (mVar 2) (mCons (mBin ixE (mVar 3) (mVar 1)) (mCons (mVar 0) mNil))))
def f_pairs_and_triples_b2 (K : W.Frag) (c : Cls) : MS := (mSeq (mAppend 1 (mCallB lstR' (mCons (mVar 4) (mCons (mBin ixE (mVar 0) (mVar 5)) mNil)))) (mExtend 2 (mComp 1 [5, 4, 0] (mItL (mSl (mVar 0) (mPt (mBin addE (mVar 5) (mC (.int 1)))) mNoP)) (mgName 0) mYes (f_pairs_and_triples_e1 K c))))
def f_pairs_and_triples_b3 (K : W.Frag) (c : Cls) : MS := (mFor (mItA rng2R (mCons (mBin addE (mVar 3) (mC (.int 1))) (mCons (mCallB lenE (mCons (mVar 0) mNil)) mNil))) (mgName 5) (f_pairs_and_triples_b2 K c))
def f_pairs_and_triples (K : W.Frag) (c : Cls) : MS := (mSeq (mSet 1 (mCallB lstR' mNil)) (mSeq (mSet 2 (mCallB lstR' mNil)) (mSeq (mFor (mItA enumR (mCons (mVar 0) mNil)) (mgTup 2 (mgCons (mgName 3) (mgCons (mgName 4) mgNil))) (f_pairs_and_triples_b3 K c)) (mRet (mBin addE (mVar 1) (mVar 2))))))
def m_pairs_and_triples (K : W.Frag) (c : Cls) (ls : List L) : Res L := runF 6 (f_pairs_and_triples K c) ls
theorem eq_pairs_and_triples (K : W.Frag) (c : Cls) : ∀ ls, m_pairs_and_triples K c ls = .bad ∨ runF 6 (f_pairs_and_triples K c) ls = m_pairs_and_triples K c ls := fun _ => .inr rfl
theorem pt_b2 (K : W.Frag) (c : Cls) {S : List Pl} (hS : S.length ≤ 30) {ps ts : List (List Pl)} (h1 : ps.length ≤ 20000) (h2 : ts.length ≤ 50000) (k3 : Option L) (one : Pl) {m : Nat} (hm : m < S.length) : f_pairs_and_triples_b2 K c [some (.p (.list (S.map plD))), some (.o (.list (ps.map gD))), some (.o (.list (ts.map gD))), k3, some (.p (plD one)), some (.p (.int (m : Int)))] = some (.nx [some (.p (.list (S.map plD))), some (.o (.list ((ps ++ [[one, S.getD m z0]]).map gD))), some (.o (.list ((ts ++ (S.drop (m + 1)).map fun l => [one, S.getD m z0, l]).map gD))), k3, some (.p (plD one)), some (.p (.int (m : Int)))]) := by
 have i := ix_S hm
 have e1 : (mCallB lstR' (mCons (mVar 4) (mCons (mBin ixE (mVar 0) (mVar 5)) mNil))) [some (.p (.list (S.map plD))), some (.o (.list (ps.map gD))), some (.o (.list (ts.map gD))), k3, some (.p (plD one)), some (.p (.int (m : Int)))] = .ok (.f (gD [one, S.getD m z0])) := by
  simp only [mCallB, lstR', pureL, mCons, mNil, mBin, mVar, List.getElem?_cons_zero, List.getElem?_cons_succ, List.length_cons, List.length_nil, if_true, Nat.zero_add, Nat.reduceAdd, Nat.reduceLeDiff, Res.bind, Ev.c, i]
  rfl
 have ek1 : ((m : Int) + 1) = ((m + 1 : Nat) : Int) := rfl
 have cu := cut_pl S m hm
 have hit : (mItL (mSl (mVar 0) (mPt (mBin addE (mVar 5) (mC (.int 1)))) mNoP)) [some (.p (.list (S.map plD))), some (.o (.list ((ps ++ [[one, S.getD m z0]]).map gD))), some (.o (.list (ts.map gD))), k3, some (.p (plD one)), some (.p (.int (m : Int)))] = .ok ((S.drop (m + 1)).map plD) := by
  simp only [mItL, mSl, mVar, mC, mBin, addE, List.getElem?_cons_zero, List.getElem?_cons_succ, List.map_append, List.map_cons, List.map_nil, Res.bind, Ev.c, lstOf, mNoP, mPt, ek1, cu, listR]
 have hm2 : mapO (compItem 1 [5, 4, 0] (mgName 0) mYes (f_pairs_and_triples_e1 K c) [some (.p (.list (S.map plD))), some (.o (.list ((ps ++ [[one, S.getD m z0]]).map gD))), some (.o (.list (ts.map gD))), k3, some (.p (plD one)), some (.p (.int (m : Int)))]) ((S.drop (m + 1)).map plD) = some ((S.drop (m + 1)).map fun l => gD [one, S.getD m z0, l]) := by
  refine mapO_map _ fun l _ => ?_
  have he : f_pairs_and_triples_e1 K c [some (.p (plD l)), some (.p (.int (m : Int))), some (.p (plD one)), some (.p (.list (S.map plD)))] = .ok (.f (gD [one, S.getD m z0, l])) := by
   simp only [f_pairs_and_triples_e1, mCallB, lstR', pureL, mCons, mNil, mBin, mVar, List.getElem?_cons_zero, List.getElem?_cons_succ, List.length_cons, List.length_nil, if_true, Nat.zero_add, Nat.reduceAdd, Nat.reduceLeDiff, Res.bind, Ev.c, i]
   rfl
  unfold compItem
  simp only [mgName, capE, capO, mYes, List.getElem?_cons_zero, List.getElem?_cons_succ, List.set_cons_zero, List.map_append, List.map_cons, List.map_nil, List.replicate, List.cons_append, List.nil_append, he, Ev.c]
 have hc := comp_l (n := 1) (js := [5, 4, 0]) hit (by rw [List.length_map, List.length_drop]; lia) hm2
 unfold f_pairs_and_triples_b2
 refine (seq_nx (app_nx (i := 1) (ds := ps.map gD) rfl (.inl e1) (by rw [List.length_map]; lia))).trans ?_
 simp only [List.set_cons_succ, List.set_cons_zero]
 rw [show (ps.map gD ++ [gD [one, S.getD m z0]]) = (ps ++ [[one, S.getD m z0]]).map gD by rw [List.map_append]; rfl]
 have et : (ts.map gD ++ (S.drop (m + 1)).map fun l => gD [one, S.getD m z0, l]) = (ts ++ (S.drop (m + 1)).map fun l => [one, S.getD m z0, l]).map gD := by rw [List.map_append, List.map_map]; rfl
 rw [ext_nx (i := 2) (ds := ts.map gD) rfl hc (by rw [List.length_map, List.length_map, List.length_drop]; lia), et]
 rfl
theorem pt_in (K : W.Frag) (c : Cls) {S : List Pl} (hS : S.length ≤ 30) (k3 : Option L) {one : Pl} (ho : one ∈ S) : ∀ (m j : Nat) (ps ts : List (List Pl)) (r5 : Option L), j + m = S.length → ps.length + m ≤ 20000 → ts.length + 30 * m ≤ 50000 → (∀ g ∈ ps, GG S g) → (∀ g ∈ ts, GG S g) → ∃ (ps' ts' : List (List Pl)) (q5 : Option L), ps'.length ≤ ps.length + m ∧ ts'.length ≤ ts.length + 30 * m ∧ (∀ g ∈ ps', GG S g) ∧ (∀ g ∈ ts', GG S g) ∧ mLoop (mgName 5) (f_pairs_and_triples_b2 K c) (rgD j m) [some (.p (.list (S.map plD))), some (.o (.list (ps.map gD))), some (.o (.list (ts.map gD))), k3, some (.p (plD one)), r5] = some (.nx [some (.p (.list (S.map plD))), some (.o (.list (ps'.map gD))), some (.o (.list (ts'.map gD))), k3, some (.p (plD one)), q5])
 | 0, j, ps, ts, r5, _, _, _, h1, h2 => ⟨ps, ts, r5, by lia, by lia, h1, h2, rfl⟩
 | m + 1, j, ps, ts, r5, hj, hp, ht, h1, h2 => by
  have hb := pt_b2 K c hS (ps := ps) (ts := ts) (by lia) (by lia) k3 one (m := j) (by lia)
  have hin : S.getD j z0 ∈ S := getD_in (by lia) z0
  have dl : ((S.drop (j + 1)).map fun l => [one, S.getD j z0, l]).length ≤ 30 := by rw [List.length_map, List.length_drop]; lia
  obtain ⟨ps', ts', q5, a1, a2, a3, a4, ih⟩ := pt_in K c hS k3 ho m (j + 1) (ps ++ [[one, S.getD j z0]]) (ts ++ (S.drop (j + 1)).map fun l => [one, S.getD j z0, l]) (some (.p (.int (j : Int)))) (by lia) (by rw [List.length_append]; simp; lia) (by rw [List.length_append]; lia) (fun g hg => by
   rcases List.mem_append.mp hg with z | z
   ·exact h1 g z
   ·rw [List.mem_singleton.mp z]
    exact ⟨.inl rfl, fun p hp => by
     rcases List.mem_cons.mp hp with w | w
     ·rw [w]; exact ho
     ·rw [List.mem_singleton.mp w]; exact hin⟩) (fun g hg => by
   rcases List.mem_append.mp hg with z | z
   ·exact h2 g z
   ·obtain ⟨l, hl, rfl⟩ := List.mem_map.mp z
    exact ⟨.inr rfl, fun p hp => by
     rcases List.mem_cons.mp hp with w | w
     ·rw [w]; exact ho
     ·rcases List.mem_cons.mp w with w | w
      ·rw [w]; exact hin
      ·rw [List.mem_singleton.mp w]; exact List.mem_of_mem_drop hl⟩)
  refine ⟨ps', ts', q5, by rw [List.length_append] at a1; simp at a1; lia, by rw [List.length_append] at a2; lia, a3, a4, ?_⟩
  rw [rgD_succ, lp_nx rfl hb]
  exact ih
theorem pt_out (K : W.Frag) (c : Cls) {S : List Pl} (hS : S.length ≤ 30) : ∀ (qs : List Pl) (k : Nat) (ps ts : List (List Pl)) (r3 r4 r5 : Option L), k + qs.length = S.length → (∀ q ∈ qs, q ∈ S) → ps.length ≤ 30 * k → ts.length ≤ 900 * k → (∀ g ∈ ps, GG S g) → (∀ g ∈ ts, GG S g) → ∃ (ps' ts' : List (List Pl)) (q3 q4 q5 : Option L), ps'.length ≤ 900 ∧ ts'.length ≤ 27000 ∧ (∀ g ∈ ps', GG S g) ∧ (∀ g ∈ ts', GG S g) ∧ mLoop (mgTup 2 (mgCons (mgName 3) (mgCons (mgName 4) mgNil))) (f_pairs_and_triples_b3 K c) (enumL k (qs.map plD)) [some (.p (.list (S.map plD))), some (.o (.list (ps.map gD))), some (.o (.list (ts.map gD))), r3, r4, r5] = some (.nx [some (.p (.list (S.map plD))), some (.o (.list (ps'.map gD))), some (.o (.list (ts'.map gD))), q3, q4, q5])
 | [], k, ps, ts, r3, r4, r5, hk, _, hp, ht, h1, h2 => ⟨ps, ts, r3, r4, r5, by simp at hk; lia, by simp at hk; lia, h1, h2, rfl⟩
 | q :: qs, k, ps, ts, r3, r4, r5, hk, hq, hp, ht, h1, h2 => by
  rw [List.length_cons] at hk
  obtain ⟨ps', ts', q5, a1, a2, a3, a4, hi⟩ := pt_in K c hS (some (.p (.int (k : Int)))) (hq q (.head _)) (S.length - (k + 1)) (k + 1) ps ts r5 (by lia) (by lia) (by lia) h1 h2
  have hlen : lenE [.p (.list (S.map plD))] = .ok (.p (.int (S.length : Nat))) := by simp [lenE, seqOf]
  have hit : (mItA rng2R (mCons (mBin addE (mVar 3) (mC (.int 1))) (mCons (mCallB lenE (mCons (mVar 0) mNil)) mNil))) [some (.p (.list (S.map plD))), some (.o (.list (ps.map gD))), some (.o (.list (ts.map gD))), some (.p (.int (k : Int))), some (.p (plD q)), r5] = .ok (rgD (k + 1) (S.length - (k + 1))) := ita2 (a := .int ((k + 1 : Nat) : Int)) (b := .int (S.length : Nat)) rfl (by simp only [mCallB, mCons, mNil, mVar, List.getElem?_cons_zero, Res.bind, Ev.c, hlen]) (rng2_ok (k + 1) S.length (by lia) (by lia))
  have hb : f_pairs_and_triples_b3 K c [some (.p (.list (S.map plD))), some (.o (.list (ps.map gD))), some (.o (.list (ts.map gD))), some (.p (.int (k : Int))), some (.p (plD q)), r5] = some (.nx [some (.p (.list (S.map plD))), some (.o (.list (ps'.map gD))), some (.o (.list (ts'.map gD))), some (.p (.int (k : Int))), some (.p (plD q)), q5]) := by
   unfold f_pairs_and_triples_b3
   rw [for_l hit, hi]
  obtain ⟨ps2, ts2, q3, q4, q5', b1, b2, b3, b4, ih⟩ := pt_out K c hS qs (k + 1) ps' ts' (some (.p (.int (k : Int)))) (some (.p (plD q))) q5 (by lia) (fun x hx => hq x (.tail _ hx)) (by lia) (by lia) a3 a4
  refine ⟨ps2, ts2, q3, q4, q5', b1, b2, b3, b4, ?_⟩
  show mLoop _ _ (.tuple [.int (k : Int), plD q] :: enumL (k + 1) (qs.map plD)) _ = _
  rw [lp_nx rfl hb]
  exact ih
theorem pt_ok (K : W.Frag) (c : Cls) {S : List Pl} (hS : S.length ≤ 30) : ∃ gs : List (List Pl), gs.length ≤ 30000 ∧ (∀ g ∈ gs, GG S g) ∧ m_pairs_and_triples K c [.p (.list (S.map plD))] = .ok (.o (.list (gs.map gD))) := by
 obtain ⟨ps, ts, q3, q4, q5, a1, a2, a3, a4, h⟩ := pt_out K c hS S 0 [] [] none none none (by lia) (fun _ h => h) (Nat.le_refl _) (Nat.le_refl _) (fun _ h => nomatch h) (fun _ h => nomatch h)
 refine ⟨ps ++ ts, by rw [List.length_append]; lia, fun g hg => (List.mem_append.mp hg).elim (a3 g) (a4 g), ?_⟩
 unfold m_pairs_and_triples
 refine run_rt ?_
 rw [show startE 6 [.p (.list (S.map plD))] = [some (.p (.list (S.map plD))), none, none, none, none, none] from rfl]
 unfold f_pairs_and_triples
 have hit : (mItA enumR (mCons (mVar 0) mNil)) [some (.p (.list (S.map plD))), some (.o (.list (([] : List (List Pl)).map gD))), some (.o (.list (([] : List (List Pl)).map gD))), none, none, none] = .ok (enumL 0 (S.map plD)) := rfl
 refine (seq_nx (set_f (d := .list (([] : List (List Pl)).map gD)) rfl)).trans ((seq_nx (set_f (d := .list (([] : List (List Pl)).map gD)) rfl)).trans ?_)
 simp only [List.set_cons_succ, List.set_cons_zero]
 refine (seq_nx ((for_l hit).trans h)).trans (ret_f ?_)
 have ad : addE (.b (.list (ps.map gD))) (.b (.list (ts.map gD))) = .ok (.f (.list ((ps ++ ts).map gD))) := by
  unfold addE
  dsimp only [lstOf]
  rw [if_pos (by rw [List.length_map, List.length_map]; lia), List.map_append]
 simp only [mBin, mVar, List.getElem?_cons_zero, List.getElem?_cons_succ, List.map_append, Res.bind, Ev.c, ad]
theorem cnt_pl (p : Pl) (ps : List Pl) : decide (countIn (plD p) (ps.map plD) ≠ 0) = decide (p ∈ ps) := by
 rw [decide_eq_decide, countIn_ne_zero, List.mem_map]
 constructor
 ·rintro ⟨q, hq, e⟩
  rw [← plI e]
  exact hq
 ·intro h
  exact ⟨p, h, rfl⟩
theorem mix_pl (p q : Pl) : SeqAt.noMix (plD p) (plD q) = true := by simp [plD, frD, SeqAt.noMix, SeqAt.noMixAll]
theorem nin_pl (ng : Bool) (p : Pl) (ps : List Pl) : inPE ng (.p (plD p)) (.p (.list (ps.map plD))) = .ok (.p (.bool (if ng then !decide (p ∈ ps) else decide (p ∈ ps)))) := by
 unfold inPE
 simp only [dat]
 rw [if_pos ⟨sh_pl p, sh_pls ps, fun z hz => by obtain ⟨q, _, rfl⟩ := List.mem_map.mp hz; exact mix_pl q p⟩, cnt_pl]
def f_struck_e1 (K : W.Frag) (c : Cls) : En → Res Ev := (mCallB tupR' (mCons (mVar 0) (mCons (mCall 2 (m_mixture_of K c) (mCons (mVar 0) (mCons (mVar 1) mNil))) mNil)))
def f_struck (K : W.Frag) (c : Cls) : MS := (mSeq (mSet 1 (mCall 1 (m_thinned K c) (mCons (mVar 0) mNil))) (fun en => (mSeq (mSet 2 (mCall 1 (m_pairs_and_triples K c) (mCons (mVar 1) mNil))) (fun en => (mRet (mComp 1 [2, 1] (mItL (mVar 0)) (mgName 0) (mTru (mBin (inPE true) (mVar 0) (mVar 2))) (f_struck_e1 K c))) (frz 2 en))) (frz 1 en)))
def m_struck (K : W.Frag) (c : Cls) (ls : List L) : Res L := runF 3 (f_struck K c) ls
theorem eq_struck (K : W.Frag) (c : Cls) : ∀ ls, m_struck K c ls = .bad ∨ runF 3 (f_struck K c) ls = m_struck K c ls := fun _ => .inr rfl
theorem struck_ok (K : W.Frag) (c : Cls) {ps : List Pl} (h1 : ps.length ≤ 22) (h2 : ∀ p ∈ ps, PG p) : ∃ f : Pl → D, m_struck K c [.p (.list (ps.map plD))] = .ok (.o (.list ((ps.filter fun p => !decide (p ∈ thn ps)).map fun p => .tuple [plD p, f p]))) := by
 have th : m_thinned K c [.p (.list (ps.map plD))] = .ok (.o (.list ((thn ps).map plD))) := thinned_good K c h1 h2
 have lt : (thn ps).length ≤ 22 := Nat.le_trans (List.length_filter_le _ _) h1
 obtain ⟨gs, g1, g2, hg⟩ := pt_ok K c (S := thn ps) (by lia)
 have good : ∀ p ∈ ps, SP p ∧ Good 200 p.2.2 := fun p hp => ⟨⟨(h2 p hp).i, (h2 p hp).j⟩, (h2 p hp).h.1, (h2 p hp).h.2.1.mono (by decide), (h2 p hp).h.2.2.mono (by decide)⟩
 have mo : ∀ p ∈ ps, ∃ d, m_mixture_of K c [.p (plD p), .p (.list (gs.map gD))] = .ok (.p d) ∨ m_mixture_of K c [.p (plD p), .p (.list (gs.map gD))] = .ok (.o d) := fun p hp => mo_ok K c (good p hp).1 (good p hp).2 fun g hg => ⟨(g2 g hg).1, fun q hq => good q (thn_sub ((g2 g hg).2 q hq))⟩
 have ch : ∀ p : Pl, ∃ d : D, p ∈ ps → (m_mixture_of K c [.p (plD p), .p (.list (gs.map gD))] = .ok (.p d) ∨ m_mixture_of K c [.p (plD p), .p (.list (gs.map gD))] = .ok (.o d)) := fun p => by
  by_cases hp : p ∈ ps
  ·obtain ⟨d, hd⟩ := mo p hp
   exact ⟨d, fun _ => hd⟩
  ·exact ⟨.none, fun h => absurd h hp⟩
 obtain ⟨f, hf⟩ := Classical.axiomOfChoice ch
 refine ⟨f, ?_⟩
 unfold m_struck
 refine run_rt ?_
 rw [show startE 3 [.p (.list (ps.map plD))] = [some (.p (.list (ps.map plD))), none, none] from rfl]
 unfold f_struck
 have e1 : (mCall 1 (m_thinned K c) (mCons (mVar 0) mNil)) [some (.p (.list (ps.map plD))), none, none] = .ok (.f (.list ((thn ps).map plD))) := by
  simp only [mCall, mCons, mNil, mVar, List.getElem?_cons_zero, List.length_cons, List.length_nil, if_true, Nat.zero_add, Res.bind, Ev.c, callR, argsL, argL, th, retE]
 refine (seq_nx (set_f e1)).trans ?_
 simp only [List.set_cons_succ, List.set_cons_zero, frz, List.getElem?_cons_succ, List.getElem?_cons_zero]
 have e2 : (mCall 1 (m_pairs_and_triples K c) (mCons (mVar 1) mNil)) [some (.p (.list (ps.map plD))), some (.p (.list ((thn ps).map plD))), none] = .ok (.f (.list (gs.map gD))) := by
  simp only [mCall, mCons, mNil, mVar, List.getElem?_cons_zero, List.getElem?_cons_succ, List.length_cons, List.length_nil, if_true, Nat.zero_add, Res.bind, Ev.c, callR, argsL, argL, hg, retE]
 refine (seq_nx (set_f e2)).trans ?_
 simp only [List.set_cons_succ, List.set_cons_zero, List.getElem?_cons_succ, List.getElem?_cons_zero]
 have hm : mapO (compItem 1 [2, 1] (mgName 0) (mTru (mBin (inPE true) (mVar 0) (mVar 2))) (f_struck_e1 K c) [some (.p (.list (ps.map plD))), some (.p (.list ((thn ps).map plD))), some (.p (.list (gs.map gD)))]) (ps.map plD) = some ((ps.filter fun p => !decide (p ∈ thn ps)).map fun p => .tuple [plD p, f p]) := by
  refine mapO_flt _ fun p hp => ?_
  have nn := nin_pl true p (thn ps)
  have t : mTru (mBin (inPE true) (mVar 0) (mVar 2)) [some (.p (plD p)), some (.p (.list (gs.map gD))), some (.p (.list ((thn ps).map plD)))] = .ok (!decide (p ∈ thn ps)) := by
   simp only [mTru, mBin, mVar, List.getElem?_cons_zero, List.getElem?_cons_succ, if_true, Res.bind, Ev.c, nn, truthR]
  have e : f_struck_e1 K c [some (.p (plD p)), some (.p (.list (gs.map gD))), some (.p (.list ((thn ps).map plD)))] = .ok (.p (.tuple [plD p, f p])) := by
   rcases hf p hp with h | h
   ·simp only [f_struck_e1, mCallB, mCall, mCons, mNil, mVar, List.getElem?_cons_zero, List.getElem?_cons_succ, List.length_cons, List.length_nil, if_true, Nat.zero_add, Nat.reduceAdd, Nat.reduceLeDiff, Res.bind, Ev.c, callR, argsL, argL, h, retE, tupR', pureL]
   ·simp only [f_struck_e1, mCallB, mCall, mCons, mNil, mVar, List.getElem?_cons_zero, List.getElem?_cons_succ, List.length_cons, List.length_nil, if_true, Nat.zero_add, Nat.reduceAdd, Nat.reduceLeDiff, Res.bind, Ev.c, callR, argsL, argL, h, retE, tupR', pureL]
  unfold compItem
  simp only [mgName, capE, capO, List.getElem?_cons_zero, List.getElem?_cons_succ, List.set_cons_zero, List.map_cons, List.map_nil, List.replicate, List.cons_append, List.nil_append, t, e, Ev.c]
  cases decide (p ∈ thn ps) <;> rfl
 have hc := comp_l (n := 1) (js := [2, 1]) (fi := mItL (mVar 0)) (tg := mgName 0) (ft := mTru (mBin (inPE true) (mVar 0) (mVar 2))) (fe := f_struck_e1 K c) (en := [some (.p (.list (ps.map plD))), some (.p (.list ((thn ps).map plD))), some (.p (.list (gs.map gD)))]) (ds := ps.map plD) rfl (by rw [List.length_map]; lia) hm
 exact ret_f hc
theorem keys_aset {α κ : Type} [DecidableEq κ] (k : κ) (v : α) : ∀ m : List (κ × α), (aset k v m).map (·.1) = m.map (·.1)
 | [] => rfl
 | p :: r => by
  unfold aset
  rw [List.map_cons, List.map_cons, keys_aset k v r]
  split <;> rfl
theorem aget_none {α κ : Type} [DecidableEq κ] {k : κ} : ∀ {m : List (κ × α)}, aget m k = none → k ∉ m.map (·.1)
 | [], _ => fun h => nomatch h
 | p :: r, e => by
  unfold aget at e
  split at e
  ·cases e
  ·rename_i z
   rw [List.map_cons, List.mem_cons]
   rintro (q | q)
   ·exact z q.symm
   ·exact aget_none e q
theorem nd_aput {α κ : Type} [DecidableEq κ] {m : List (κ × α)} (h : (m.map (·.1)).Nodup) (k : κ) (v : α) : ((aput m k v).map (·.1)).Nodup := by
 unfold aput
 cases e : aget m k with
 | none =>
  rw [if_neg (by simp), List.map_append]
  refine List.nodup_append.mpr ⟨h, List.pairwise_singleton _ _, fun a ha b hb z => ?_⟩
  have : b = k := by simpa using hb
  rw [z, this] at ha
  exact aget_none e ha
 | some x =>
  rw [if_pos (by rfl), keys_aset]
  exact h
def m__law_sum (K : W.Frag) (c : Cls) : List L → Res L := mOf eFF (fun a => Good 2000 a.1 ∧ Good 2000 a.2) fun a => .ok (.p (frD (hP a.1 a.2)))
def f__law_sum (K : W.Frag) (c : Cls) : MS := (mRet (mCall 2 (m__law_low K c) (mCons (mBin addE (mBin mulE (mBin ixE (mVar 0) (mC (.int 0))) (mBin ixE (mVar 1) (mC (.int 1)))) (mBin mulE (mBin ixE (mVar 1) (mC (.int 0))) (mBin ixE (mVar 0) (mC (.int 1))))) (mCons (mBin mulE (mBin ixE (mVar 0) (mC (.int 1))) (mBin ixE (mVar 1) (mC (.int 1)))) mNil))))
theorem eq__law_sum (K : W.Frag) (c : Cls) : ∀ ls, m__law_sum K c ls = .bad ∨ runF 2 (f__law_sum K c) ls = m__law_sum K c ls := mOf_eq fun a h => by
 obtain ⟨x, y⟩ := a
 obtain ⟨g1, g2⟩ := h
 obtain ⟨x0, x1, x2⟩ := id g1
 obtain ⟨y0, y1, y2⟩ := id g2
 dsimp only at g1 g2 x0 x1 x2 y0 y1 y2 ⊢
 have l := low_ok K c (t := x.1 * y.2 + y.1 * x.2) (b := x.2 * y.2) (g1.ne g2) ((Sz.mul x2 y2).mono (by decide))
 refine run_rt ?_
 rw [show startE 2 (eFF (x, y)) = [some (.p (frD x)), some (.p (frD y))] from rfl]
 unfold f__law_sum
 refine ret_p ?_
 simp (disch := (first | assumption | (first | apply N.cm2 | apply N.cd2) <;> (first | decide | lia | (repeat (first | assumption | apply L2.Sz.mul | apply N.Sz.addM | apply N.Sz.subM | apply L2.Sz.neg | apply N.sz_fdiv | (apply N.sz_fmod; (first | decide | lia)) | exact N.sz_lit4 (by decide) | exact N.sz_lit (by decide) | exact N.sz_lit70 (by decide) | exact N.sz_big (by decide)))) | decide | lia)) only [mVar, mC, mBin, mCons, mNil, mCall, callR, argsL, argL, Res.bind, Ev.c, retE, addE, ix_fr0, ix_fr1, mul_ok, List.getElem?_cons_zero, List.getElem?_cons_succ, List.length_cons, List.length_nil, if_true, Nat.zero_add, Nat.reduceAdd, l]
 rfl
theorem lsum_ok (K : W.Frag) (c : Cls) {m n : Nat} {x y : Int × Int} (hx : Good m x) (hy : Good n y) (h1 : m ≤ 2000) (h2 : n ≤ 2000) : m__law_sum K c [.p (frD x), .p (frD y)] = .ok (.p (frD (hP x y))) := mOf_at (a := (x, y)) eFF_inj ⟨hx.mono h1, hy.mono h2⟩
def m__law_product (K : W.Frag) (c : Cls) : List L → Res L := mOf eFF (fun a => Good 2000 a.1 ∧ Good 2000 a.2) fun a => .ok (.p (frD (FR.mk (a.1.1 * a.2.1) (a.1.2 * a.2.2))))
def f__law_product (K : W.Frag) (c : Cls) : MS := (mRet (mCall 2 (m__law_low K c) (mCons (mBin mulE (mBin ixE (mVar 0) (mC (.int 0))) (mBin ixE (mVar 1) (mC (.int 0)))) (mCons (mBin mulE (mBin ixE (mVar 0) (mC (.int 1))) (mBin ixE (mVar 1) (mC (.int 1)))) mNil))))
theorem eq__law_product (K : W.Frag) (c : Cls) : ∀ ls, m__law_product K c ls = .bad ∨ runF 2 (f__law_product K c) ls = m__law_product K c ls := mOf_eq fun a h => by
 obtain ⟨x, y⟩ := a
 obtain ⟨g1, g2⟩ := h
 obtain ⟨x0, x1, x2⟩ := id g1
 obtain ⟨y0, y1, y2⟩ := id g2
 dsimp only at g1 g2 x0 x1 x2 y0 y1 y2 ⊢
 have l := low_ok K c (t := x.1 * y.1) (b := x.2 * y.2) (g1.ne g2) ((Sz.mul x2 y2).mono (by decide))
 refine run_rt ?_
 rw [show startE 2 (eFF (x, y)) = [some (.p (frD x)), some (.p (frD y))] from rfl]
 unfold f__law_product
 refine ret_p ?_
 simp (disch := (first | assumption | (first | apply N.cm2 | apply N.cd2) <;> (first | decide | lia | (repeat (first | assumption | apply L2.Sz.mul | apply N.Sz.addM | apply N.Sz.subM | apply L2.Sz.neg | apply N.sz_fdiv | (apply N.sz_fmod; (first | decide | lia)) | exact N.sz_lit4 (by decide) | exact N.sz_lit (by decide) | exact N.sz_lit70 (by decide) | exact N.sz_big (by decide)))) | decide | lia)) only [mVar, mC, mBin, mCons, mNil, mCall, callR, argsL, argL, Res.bind, Ev.c, retE, ix_fr0, ix_fr1, mul_ok, List.getElem?_cons_zero, List.getElem?_cons_succ, List.length_cons, List.length_nil, if_true, Nat.zero_add, Nat.reduceAdd, l]
theorem prod_ok (K : W.Frag) (c : Cls) {m n : Nat} {x y : Int × Int} (hx : Good m x) (hy : Good n y) (h1 : m ≤ 2000) (h2 : n ≤ 2000) : m__law_product K c [.p (frD x), .p (frD y)] = .ok (.p (frD (FR.mk (x.1 * y.1) (x.2 * y.2)))) := mOf_at (a := (x, y)) eFF_inj ⟨hx.mono h1, hy.mono h2⟩
abbrev Mp := List ((Int × Int) × (Int × Int))
theorem aput_len (m : Mp) (k h : Int × Int) : (aput m k h).length ≤ m.length + 1 ∧ aput m k h ≠ [] := by
 unfold aput
 split
 ·rename_i z
  have e : (aset k h m).length = m.length := by
   have := congrArg List.length (keys_aset k h m)
   rw [List.length_map, List.length_map] at this
   exact this
  refine ⟨by lia, fun w => ?_⟩
  have : m.length = 0 := by rw [← e, w]; rfl
  rw [List.length_eq_zero_iff.mp this] at z
  cases z
 ·exact ⟨by rw [List.length_append]; simp, by simp⟩
theorem dput_nx {i : Nat} {fk fv : En → Res Ev} {en : En} {m : Mp} {k h : Int × Int} (h1 : en[i]? = some (some (.o (.dict (encM slD frD m))))) (h2 : fv en = .ok (.p (frD h))) (h3 : fk en = .ok (.p (slD k))) (hl : m.length ≤ 100000) : mDput i fk fv en = some (.nx (en.set i (some (.o (.dict (encM slD frD (aput m k h))))))) := by
 have hp := dput_sl (ev := frD) m k h hl
 unfold mDput
 rw [h1]
 dsimp only
 rw [h2]
 dsimp only
 rw [h3]
 dsimp only [Ev.c]
 rw [hp]
def Q2 (k : Int × Int) : Int := k.1 * k.1 + k.1 * k.2 + k.2 * k.2
def bv (n A B : Int) (k : Int × Int) : Int := A * k.1 - B * k.2 - n * Q2 k
def bh (sz : Int × Int) (n A B : Int) (k : Int × Int) : Int × Int := FR.mk (sz.1 * bv n A B k) (sz.2 * 1)
structure BP (sz : Int × Int) (n A B : Int) : Prop where
 n0 : 1 ≤ n
 n1 : n ≤ 9
 a0 : 0 ≤ A
 a1 : A ≤ 2000000000000
 b0 : 0 ≤ B
 b1 : B ≤ 1008
 f : FR.Fr sz
 s0 : 1 ≤ sz.1
 s1 : sz.1 ≤ 1000
 s2 : sz.2 ≤ 12
def box (k : Int × Int) : Prop := 0 ≤ k.1 ∧ k.1 ≤ 8 ∧ 0 ≤ k.2 ∧ k.2 ≤ 8
theorem bx {a b : Int} (h1 : 0 ≤ a ∧ a ≤ 8) (h2 : 0 ≤ b ∧ b ≤ 8) : 0 ≤ a * b ∧ a * b ≤ 64 := ⟨Int.mul_nonneg h1.1 h2.1, by
 have := Int.mul_le_mul h1.2 h2.2 h2.1 (by decide)
 lia⟩
theorem bv_sz {sz : Int × Int} {n A B : Int} (h : BP sz n A B) {k : Int × Int} (hk : box k) : Sz 47 (bv n A B k) ∧ Sz 8 (Q2 k) ∧ 0 ≤ Q2 k ∧ Q2 k ≤ 192 := by
 have e1 := bx ⟨hk.1, hk.2.1⟩ ⟨hk.1, hk.2.1⟩
 have e2 := bx ⟨hk.1, hk.2.1⟩ ⟨hk.2.2.1, hk.2.2.2⟩
 have e3 := bx ⟨hk.2.2.1, hk.2.2.2⟩ ⟨hk.2.2.1, hk.2.2.2⟩
 have q : 0 ≤ Q2 k ∧ Q2 k ≤ 192 := by unfold Q2; lia
 have sA : Sz 41 A := by have := h.a0; have := h.a1; unfold Sz; lia
 have sB : Sz 10 B := by have := h.b0; have := h.b1; unfold Sz; lia
 have sn : Sz 4 n := by have := h.n0; have := h.n1; unfold Sz; lia
 have si : Sz 4 k.1 := by unfold Sz; have := hk.1; have := hk.2.1; lia
 have sj : Sz 4 k.2 := by unfold Sz; have := hk.2.2.1; have := hk.2.2.2; lia
 have sq : Sz 8 (Q2 k) := by unfold Sz; lia
 exact ⟨(Sz.subM (Sz.subM (Sz.mul sA si) (Sz.mul sB sj)) (Sz.mul sn sq)).mono (by decide), sq, q.1, q.2⟩
theorem bh_good {sz : Int × Int} {n A B : Int} (h : BP sz n A B) {k : Int × Int} (hk : box k) : FR.Fr (bh sz n A B k) ∧ 1 ≤ (bh sz n A B k).2 ∧ Sz 60 (bh sz n A B k).1 ∧ Sz 5 (bh sz n A B k).2 := by
 have p := h.f.pos
 have := h.s0; have := h.s1; have := h.s2
 have f := (FR.mk_fr (t := sz.1 * bv n A B k) (b := sz.2 * 1) (by lia)).1
 exact ⟨f, f.pos, Sz.le ((Sz.mul (show Sz 10 sz.1 by unfold Sz; lia) (bv_sz h hk).1).mono (by decide) : Sz 60 _) (natAbs_fdiv_le _ _), Sz.le (show Sz 5 (sz.2 * 1) by unfold Sz; lia) (natAbs_fdiv_le _ _)⟩
structure BM (sz : Int × Int) (n A B : Int) (m : Mp) : Prop where
 nd : (m.map (·.1)).Nodup
 v : ∀ k h, aget m k = some h → box k ∧ h = bh sz n A B k
def f__law_bowl_by_b1 (K : W.Frag) (c : Cls) : MS := (mSeq (mSet 6 (mBin modE (mVar 5) (mC (.int 9)))) (mSeq (mSet 7 (mBin modE (mBin fdivE (mVar 5) (mC (.int 9))) (mC (.int 9)))) (mSeq (mSet 8 (mBin subE (mBin mulE (mBin modE (mCall 2 (m__law_cell_at K c) (mCons (mVar 0) (mCons (mC (.int 1)) mNil))) (mBin addE (mBin mulE (mC (.int 2)) (mBin powE (mC (.int 10)) (mC (.int 12)))) (mC (.int 1)))) (mVar 6)) (mBin mulE (mBin modE (mCall 2 (m__law_cell_at K c) (mCons (mVar 0) (mCons (mC (.int 2)) mNil))) (mC (.int 1009))) (mVar 7)))) (mDput 4 (mCallB tupR' (mCons (mVar 6) (mCons (mVar 7) mNil))) (mCall 2 (m__law_product K c) (mCons (mVar 3) (mCons (mCallB tupR' (mCons (mBin subE (mVar 8) (mBin mulE (mVar 2) (mBin addE (mBin addE (mBin mulE (mVar 6) (mVar 6)) (mBin mulE (mVar 6) (mVar 7))) (mBin mulE (mVar 7) (mVar 7))))) (mCons (mC (.int 1)) mNil))) mNil)))))))
def f__law_bowl_by (K : W.Frag) (c : Cls) : MS := (mSeq (mSet 1 (mCall 2 (m__law_cell_at K c) (mCons (mVar 0) (mCons (mC (.int 0)) mNil)))) (mSeq (mSet 2 (mBin addE (mC (.int 1)) (mBin modE (mVar 1) (mC (.int 9))))) (mSeq (mSet 3 (mCall 2 (m__law_low K c) (mCons (mBin addE (mC (.int 1)) (mBin modE (mBin fdivE (mVar 1) (mC (.int 9))) (mC (.int 1000)))) (mCons (mBin addE (mC (.int 1)) (mBin modE (mBin fdivE (mVar 1) (mC (.int 7))) (mC (.int 12)))) mNil)))) (mSeq (mSet 4 mDT) (mSeq (mFor (mItL (mSl (mVar 0) (mPt (mC (.int 3))) (mPt (mBin addE (mC (.int 4)) (mBin modE (mBin fdivE (mVar 1) (mC (.int 3))) (mC (.int 8))))))) (mgName 5) (f__law_bowl_by_b1 K c)) (mRet (mVar 4)))))))
def m__law_bowl_by (K : W.Frag) (c : Cls) (ls : List L) : Res L := runF 9 (f__law_bowl_by K c) ls
theorem eq__law_bowl_by (K : W.Frag) (c : Cls) : ∀ ls, m__law_bowl_by K c ls = .bad ∨ runF 9 (f__law_bowl_by K c) ls = m__law_bowl_by K c ls := fun _ => .inr rfl
theorem bowl_b (K : W.Frag) (c : Cls) {vs : List Int} {v1 v2 A B n : Int} {sz : Int × Int} (c1 : m__law_cell_at K c [.p (.list (vs.map .int)), .p (.int 1)] = .ok (.p (.int v1))) (c2 : m__law_cell_at K c [.p (.list (vs.map .int)), .p (.int 2)] = .ok (.p (.int v2))) (eA : v1.fmod (2 * 10 ^ Int.toNat 12 + 1) = A) (eB : v2.fmod 1009 = B) (h : BP sz n A B) (C1 : Option L) {m : Mp} (hm : m.length ≤ 1000) (bm : BM sz n A B m) {x : Int} (hx : Sz 200 x) (r6 r7 r8 : Option L) : ∃ (m' : Mp) (q6 q7 q8 : Option L), BM sz n A B m' ∧ m'.length ≤ m.length + 1 ∧ m' ≠ [] ∧ f__law_bowl_by_b1 K c [some (.p (.list (vs.map .int))), C1, some (.p (.int n)), some (.p (frD sz)), some (.o (.dict (encM slD frD m))), some (.p (.int x)), r6, r7, r8] = some (.nx [some (.p (.list (vs.map .int))), C1, some (.p (.int n)), some (.p (frD sz)), some (.o (.dict (encM slD frD m'))), some (.p (.int x)), q6, q7, q8]) := by
 have mi := fmod_pos (a := x) (b := 9) (by decide)
 have mj := fmod_pos (a := x.fdiv 9) (b := 9) (by decide)
 have d9 : (9 : Int) ≠ 0 := by decide
 have d1009 : (1009 : Int) ≠ 0 := by decide
 have dP : (2 * 10 ^ Int.toNat 12 + 1 : Int) ≠ 0 := by decide
 have pw : CPow 10 12 := ⟨by decide, by decide, by decide⟩
 have q0 : CMulW 2 (10 ^ Int.toNat 12) := ⟨(show Sz 50 (2 : Int) by unfold Sz; decide).mono (by decide), (show Sz 50 (10 ^ Int.toNat 12 : Int) by unfold Sz; decide).mono (by decide)⟩
 have q1 : CDivW x 9 := by (first | assumption | (first | apply N.cm2 | apply N.cd2) <;> (first | decide | lia | (repeat (first | assumption | apply L2.Sz.mul | apply N.Sz.addM | apply N.Sz.subM | apply L2.Sz.neg | apply N.sz_fdiv | (apply N.sz_fmod; (first | decide | lia)) | exact N.sz_lit4 (by decide) | exact N.sz_lit (by decide) | exact N.sz_lit70 (by decide) | exact N.sz_big (by decide)))) | decide | lia)
 have s6 : (mBin modE (mVar 5) (mC (.int 9))) [some (.p (.list (vs.map .int))), C1, some (.p (.int n)), some (.p (frD sz)), some (.o (.dict (encM slD frD m))), some (.p (.int x)), r6, r7, r8] = .ok (.p (.int (x.fmod 9))) := by
  simp (disch := assumption) only [mVar, mC, mBin, Res.bind, Ev.c, mod_ok, List.getElem?_cons_zero, List.getElem?_cons_succ]
 have s7 : (mBin modE (mBin fdivE (mVar 5) (mC (.int 9))) (mC (.int 9))) [some (.p (.list (vs.map .int))), C1, some (.p (.int n)), some (.p (frD sz)), some (.o (.dict (encM slD frD m))), some (.p (.int x)), some (.p (.int (x.fmod 9))), r7, r8] = .ok (.p (.int ((x.fdiv 9).fmod 9))) := by
  simp (disch := assumption) only [mVar, mC, mBin, Res.bind, Ev.c, fdiv_ok, mod_ok, List.getElem?_cons_zero, List.getElem?_cons_succ]
 generalize hi : x.fmod 9 = i at *
 generalize hj : (x.fdiv 9).fmod 9 = j at *
 have hk : box (i, j) := ⟨mi.1, by show i ≤ 8; lia, mj.1, by show j ≤ 8; lia⟩
 have sA : Sz 41 A := by have := h.a0; have := h.a1; unfold Sz; lia
 have sB : Sz 10 B := by have := h.b0; have := h.b1; unfold Sz; lia
 have sn : Sz 4 n := by have := h.n0; have := h.n1; unfold Sz; lia
 have si : Sz 4 i := by unfold Sz; lia
 have sj : Sz 4 j := by unfold Sz; lia
 have big : ∀ {a b : Nat} {x y : Int}, a ≤ 60000 → b ≤ 60000 → Sz a x → Sz b y → CMulW x y := fun h1 h2 hx hy => ⟨hx.mono h1, hy.mono h2⟩
 obtain ⟨z1, z2, z3, z4⟩ := bv_sz h hk
 have g1 : CMulW A i := big (by decide) (by decide) sA si
 have g2 : CMulW B j := big (by decide) (by decide) sB sj
 have g3 : CMulW i i := big (by decide) (by decide) si si
 have g4 : CMulW i j := big (by decide) (by decide) si sj
 have g5 : CMulW j j := big (by decide) (by decide) sj sj
 have g6 : CMulW n (i * i + i * j + j * j) := big (by decide) (by decide) sn z2
 have s8 : (mBin subE (mBin mulE (mBin modE (mCall 2 (m__law_cell_at K c) (mCons (mVar 0) (mCons (mC (.int 1)) mNil))) (mBin addE (mBin mulE (mC (.int 2)) (mBin powE (mC (.int 10)) (mC (.int 12)))) (mC (.int 1)))) (mVar 6)) (mBin mulE (mBin modE (mCall 2 (m__law_cell_at K c) (mCons (mVar 0) (mCons (mC (.int 2)) mNil))) (mC (.int 1009))) (mVar 7))) [some (.p (.list (vs.map .int))), C1, some (.p (.int n)), some (.p (frD sz)), some (.o (.dict (encM slD frD m))), some (.p (.int x)), some (.p (.int i)), some (.p (.int j)), r8] = .ok (.p (.int (A * i - B * j))) := by
  simp (disch := assumption) only [mVar, mC, mBin, mCons, mNil, mCall, callR, argsL, argL, Res.bind, Ev.c, retE, addE, intE0, mul_ok, mod_ok, pow_ok, List.getElem?_cons_zero, List.getElem?_cons_succ, List.length_cons, List.length_nil, if_true, Nat.zero_add, Nat.reduceAdd, subE, c1, c2, eA, eB]
 have pz := h.f.pos
 have := h.s0; have := h.s1; have := h.s2
 have pr := prod_ok K c (x := sz) (y := (bv n A B (i, j), 1)) (m := 60) (n := 60) ⟨pz, by unfold Sz; lia, by unfold Sz; lia⟩ ⟨Int.le_refl 1, z1.mono (by decide), show Sz 60 (1 : Int) by unfold Sz; decide⟩ (by decide) (by decide)
 have pr : m__law_product K c [.p (frD sz), .p (.tuple [.int (A * i - B * j - n * (i * i + i * j + j * j)), .int 1])] = .ok (.p (frD (bh sz n A B (i, j)))) := pr
 have fv : (mCall 2 (m__law_product K c) (mCons (mVar 3) (mCons (mCallB tupR' (mCons (mBin subE (mVar 8) (mBin mulE (mVar 2) (mBin addE (mBin addE (mBin mulE (mVar 6) (mVar 6)) (mBin mulE (mVar 6) (mVar 7))) (mBin mulE (mVar 7) (mVar 7))))) (mCons (mC (.int 1)) mNil))) mNil))) [some (.p (.list (vs.map .int))), C1, some (.p (.int n)), some (.p (frD sz)), some (.o (.dict (encM slD frD m))), some (.p (.int x)), some (.p (.int i)), some (.p (.int j)), some (.p (.int (A * i - B * j)))] = .ok (.p (frD (bh sz n A B (i, j)))) := by
  simp (disch := assumption) only [mVar, mC, mBin, mCons, mNil, mCall, callR, argsL, argL, Res.bind, Ev.c, retE, mCallB, tupR', pureL, addE, intE0, mul_ok, List.getElem?_cons_zero, List.getElem?_cons_succ, List.length_cons, List.length_nil, if_true, Nat.zero_add, Nat.reduceAdd, Nat.reduceLeDiff, subE, pr]
 obtain ⟨l1, l2⟩ := aput_len m (i, j) (bh sz n A B (i, j))
 refine ⟨aput m (i, j) (bh sz n A B (i, j)), some (.p (.int i)), some (.p (.int j)), some (.p (.int (A * i - B * j))), ⟨nd_aput bm.nd _ _, fun k h' e => ?_⟩, l1, l2, ?_⟩
 ·rw [aget_aput] at e
  split at e
  ·rename_i ek
   cases e
   rw [ek]
   exact ⟨hk, rfl⟩
  ·exact bm.v k h' e
 ·unfold f__law_bowl_by_b1
  refine (seq_nx (set_p s6)).trans ((seq_nx (set_p s7)).trans ((seq_nx (set_p s8)).trans ?_))
  simp only [List.set_cons_succ, List.set_cons_zero]
  rw [dput_nx (i := 4) (k := (i, j)) rfl fv rfl (by lia)]
  rfl
theorem bowl_loop (K : W.Frag) (c : Cls) {vs : List Int} {v1 v2 A B n : Int} {sz : Int × Int} (c1 : m__law_cell_at K c [.p (.list (vs.map .int)), .p (.int 1)] = .ok (.p (.int v1))) (c2 : m__law_cell_at K c [.p (.list (vs.map .int)), .p (.int 2)] = .ok (.p (.int v2))) (eA : v1.fmod (2 * 10 ^ Int.toNat 12 + 1) = A) (eB : v2.fmod 1009 = B) (h : BP sz n A B) (C1 : Option L) : ∀ (xs : List Int) (m : Mp) (r5 r6 r7 r8 : Option L), m.length + xs.length ≤ 1000 → BM sz n A B m → (m ≠ [] ∨ xs ≠ []) → (∀ x ∈ xs, Sz 200 x) → ∃ (m' : Mp) (q5 q6 q7 q8 : Option L), BM sz n A B m' ∧ m'.length ≤ m.length + xs.length ∧ m' ≠ [] ∧ mLoop (mgName 5) (f__law_bowl_by_b1 K c) (xs.map .int) [some (.p (.list (vs.map .int))), C1, some (.p (.int n)), some (.p (frD sz)), some (.o (.dict (encM slD frD m))), r5, r6, r7, r8] = some (.nx [some (.p (.list (vs.map .int))), C1, some (.p (.int n)), some (.p (frD sz)), some (.o (.dict (encM slD frD m'))), q5, q6, q7, q8])
 | [], m, r5, r6, r7, r8, _, bm, hn, _ => ⟨m, r5, r6, r7, r8, bm, Nat.le_refl _, hn.elim id (fun z => absurd rfl z), rfl⟩
 | x :: xs, m, r5, r6, r7, r8, hl, bm, _, hx => by
  rw [List.length_cons] at hl
  obtain ⟨m1, q6, q7, q8, b1, b2, b3, hb⟩ := bowl_b K c c1 c2 eA eB h C1 (m := m) (by lia) bm (hx x (.head _)) r6 r7 r8
  obtain ⟨m2, q5', q6', q7', q8', d1, d2, d3, ih⟩ := bowl_loop K c c1 c2 eA eB h C1 xs m1 (some (.p (.int x))) q6 q7 q8 (by lia) b1 (.inl b3) fun y hy => hx y (.tail _ hy)
  refine ⟨m2, q5', q6', q7', q8', d1, by rw [List.length_cons]; lia, d3, ?_⟩
  rw [List.map_cons, lp_nx rfl hb]
  exact ih
theorem bowl_ok (K : W.Frag) (c : Cls) {vs : List Int} (h7 : 7 ≤ vs.length) (hv : ∀ v ∈ vs, 0 ≤ v ∧ Sz 200 v) : ∃ (sz : Int × Int) (n A B : Int) (m : Mp), BP sz n A B ∧ BM sz n A B m ∧ m.length ≤ 8 ∧ m ≠ [] ∧ m__law_bowl_by K c [.p (.list (vs.map .int))] = .ok (.o (.dict (encM slD frD m))) := by
 have c0 : m__law_cell_at K c [.p (.list (vs.map .int)), .p (.int 0)] = _ := cell_ok K c vs 0
 have c1 : m__law_cell_at K c [.p (.list (vs.map .int)), .p (.int 1)] = _ := cell_ok K c vs 1
 have c2 : m__law_cell_at K c [.p (.list (vs.map .int)), .p (.int 2)] = _ := cell_ok K c vs 2
 have k0 := (hv _ (getD_in (show 0 < vs.length by lia) 0)).2
 generalize vs.getD 0 0 = v0 at c0 k0
 generalize vs.getD 1 0 = v1 at c1
 generalize vs.getD 2 0 = v2 at c2
 have mA := fmod_pos (a := v1) (b := 2 * 10 ^ Int.toNat 12 + 1) (by decide)
 have mB := fmod_pos (a := v2) (b := 1009) (by decide)
 have mn := fmod_pos (a := v0) (b := 9) (by decide)
 have ms := fmod_pos (a := v0.fdiv 9) (b := 1000) (by decide)
 have mt := fmod_pos (a := v0.fdiv 7) (b := 12) (by decide)
 have mc := fmod_pos (a := v0.fdiv 3) (b := 8) (by decide)
 have e12 : (2 * 10 ^ Int.toNat 12 + 1 : Int) = 2000000000001 := by decide
 have lo := low_ok K c (t := 1 + (v0.fdiv 9).fmod 1000) (b := 1 + (v0.fdiv 7).fmod 12) (by lia) (by unfold Sz; lia)
 obtain ⟨f1, f2⟩ := FR.mk_fr (t := 1 + (v0.fdiv 9).fmod 1000) (b := 1 + (v0.fdiv 7).fmod 12) (by lia)
 have t1 := natAbs_fdiv_le (1 + (v0.fdiv 9).fmod 1000) (if 1 + (v0.fdiv 7).fmod 12 < 0 then -(Int.gcd (1 + (v0.fdiv 9).fmod 1000) (1 + (v0.fdiv 7).fmod 12) : Int) else (Int.gcd (1 + (v0.fdiv 9).fmod 1000) (1 + (v0.fdiv 7).fmod 12) : Int))
 have sT : Sz 10 (FR.mk (1 + (v0.fdiv 9).fmod 1000) (1 + (v0.fdiv 7).fmod 12)).1 := Sz.le (show Sz 10 (1 + (v0.fdiv 9).fmod 1000) by unfold Sz; lia) (natAbs_fdiv_le _ _)
 have bT : (FR.mk (1 + (v0.fdiv 9).fmod 1000) (1 + (v0.fdiv 7).fmod 12)).1.natAbs ≤ (1 + (v0.fdiv 9).fmod 1000).natAbs := natAbs_fdiv_le _ _
 have bB : (FR.mk (1 + (v0.fdiv 9).fmod 1000) (1 + (v0.fdiv 7).fmod 12)).2.natAbs ≤ (1 + (v0.fdiv 7).fmod 12).natAbs := natAbs_fdiv_le _ _
 generalize FR.mk (1 + (v0.fdiv 9).fmod 1000) (1 + (v0.fdiv 7).fmod 12) = sz at *
 have szp : 1 ≤ sz.1 := by
  have p := f1.pos
  have : 0 < sz.1 * (1 + (v0.fdiv 7).fmod 12) := by
   rw [f2]
   exact Int.mul_pos (by lia) (by lia)
  exact Int.pos_of_mul_pos_left this (by lia)
 have bp : BP sz (1 + v0.fmod 9) (v1.fmod (2 * 10 ^ Int.toNat 12 + 1)) (v2.fmod 1009) := ⟨by lia, by lia, mA.1, by lia, mB.1, by lia, f1, szp, by lia, by have := f1.pos; lia⟩
 obtain ⟨cn, hcn⟩ : ∃ cn : Nat, 4 + (v0.fdiv 3).fmod 8 = (cn : Int) := ⟨(4 + (v0.fdiv 3).fmod 8).toNat, by lia⟩
 have cut : M.cutD (vs.map .int) (some 3) (some (cn : Int)) = ((vs.drop 3).take (cn - 3)).map .int ∧ (vs.drop 3).take (cn - 3) ≠ [] ∧ ((vs.drop 3).take (cn - 3)).length ≤ 8 := by
  refine ⟨?_, fun z => ?_, by rw [List.length_take]; lia⟩
  ·unfold M.cutD
   rw [show (some (3 : Int)) = some ((3 : Nat) : Int) from rfl, HT.sIx_nat, HT.sIx_nat, List.length_map, Nat.min_eq_left (show 3 ≤ vs.length by lia), List.map_take, List.map_drop]
   by_cases w : cn ≤ vs.length
   ·rw [Nat.min_eq_left w]
   ·rw [Nat.min_eq_right (by lia), List.take_of_length_le (by rw [List.length_drop, List.length_map]; lia), List.take_of_length_le (by rw [List.length_drop, List.length_map]; lia)]
  ·have := congrArg List.length z
   rw [List.length_take, List.length_drop, List.length_nil] at this
   lia
 generalize hxs : (vs.drop 3).take (cn - 3) = xs at cut
 have hx : ∀ x ∈ xs, Sz 200 x := fun x hx => by
  rw [← hxs] at hx
  exact (hv x (List.mem_of_mem_drop (List.mem_of_mem_take hx))).2
 obtain ⟨m, q5, q6, q7, q8, b1, b2, b3, hl⟩ := bowl_loop K c c1 c2 rfl rfl bp (some (.p (.int v0))) xs [] none none none none (by rw [List.length_nil]; lia) ⟨List.Pairwise.nil, fun _ _ e => nomatch e⟩ (.inr cut.2.1) hx
 refine ⟨sz, _, _, _, m, bp, b1, by rw [List.length_nil] at b2; lia, b3, ?_⟩
 unfold m__law_bowl_by
 refine run_rt ?_
 rw [show startE 9 [.p (.list (vs.map .int))] = [some (.p (.list (vs.map .int))), none, none, none, none, none, none, none, none] from rfl]
 have d9 : (9 : Int) ≠ 0 := by decide
 have d1000 : (1000 : Int) ≠ 0 := by decide
 have d12 : (12 : Int) ≠ 0 := by decide
 have d8 : (8 : Int) ≠ 0 := by decide
 have w9 : CDivW v0 9 := by (first | assumption | (first | apply N.cm2 | apply N.cd2) <;> (first | decide | lia | (repeat (first | assumption | apply L2.Sz.mul | apply N.Sz.addM | apply N.Sz.subM | apply L2.Sz.neg | apply N.sz_fdiv | (apply N.sz_fmod; (first | decide | lia)) | exact N.sz_lit4 (by decide) | exact N.sz_lit (by decide) | exact N.sz_lit70 (by decide) | exact N.sz_big (by decide)))) | decide | lia)
 have w7 : CDivW v0 7 := by (first | assumption | (first | apply N.cm2 | apply N.cd2) <;> (first | decide | lia | (repeat (first | assumption | apply L2.Sz.mul | apply N.Sz.addM | apply N.Sz.subM | apply L2.Sz.neg | apply N.sz_fdiv | (apply N.sz_fmod; (first | decide | lia)) | exact N.sz_lit4 (by decide) | exact N.sz_lit (by decide) | exact N.sz_lit70 (by decide) | exact N.sz_big (by decide)))) | decide | lia)
 have w3 : CDivW v0 3 := by (first | assumption | (first | apply N.cm2 | apply N.cd2) <;> (first | decide | lia | (repeat (first | assumption | apply L2.Sz.mul | apply N.Sz.addM | apply N.Sz.subM | apply L2.Sz.neg | apply N.sz_fdiv | (apply N.sz_fmod; (first | decide | lia)) | exact N.sz_lit4 (by decide) | exact N.sz_lit (by decide) | exact N.sz_lit70 (by decide) | exact N.sz_big (by decide)))) | decide | lia)
 unfold f__law_bowl_by
 have s1 : (mCall 2 (m__law_cell_at K c) (mCons (mVar 0) (mCons (mC (.int 0)) mNil))) [some (.p (.list (vs.map .int))), none, none, none, none, none, none, none, none] = .ok (.p (.int v0)) := by
  simp only [mVar, mC, mCons, mNil, mCall, callR, argsL, argL, Res.bind, Ev.c, retE, List.getElem?_cons_zero, List.length_cons, List.length_nil, if_true, Nat.zero_add, Nat.reduceAdd, c0]
 refine (seq_nx (set_p s1)).trans ?_
 simp only [List.set_cons_succ, List.set_cons_zero]
 have s2 : (mBin addE (mC (.int 1)) (mBin modE (mVar 1) (mC (.int 9)))) [some (.p (.list (vs.map .int))), some (.p (.int v0)), none, none, none, none, none, none, none] = .ok (.p (.int (1 + v0.fmod 9))) := by
  simp (disch := assumption) only [mVar, mC, mBin, Res.bind, Ev.c, addE, mod_ok, List.getElem?_cons_zero, List.getElem?_cons_succ]
 refine (seq_nx (set_p s2)).trans ?_
 simp only [List.set_cons_succ, List.set_cons_zero]
 have s3 : (mCall 2 (m__law_low K c) (mCons (mBin addE (mC (.int 1)) (mBin modE (mBin fdivE (mVar 1) (mC (.int 9))) (mC (.int 1000)))) (mCons (mBin addE (mC (.int 1)) (mBin modE (mBin fdivE (mVar 1) (mC (.int 7))) (mC (.int 12)))) mNil))) [some (.p (.list (vs.map .int))), some (.p (.int v0)), some (.p (.int (1 + v0.fmod 9))), none, none, none, none, none, none] = .ok (.p (frD sz)) := by
  simp (disch := assumption) only [mVar, mC, mBin, mCons, mNil, mCall, callR, argsL, argL, Res.bind, Ev.c, retE, addE, fdiv_ok, mod_ok, List.getElem?_cons_zero, List.getElem?_cons_succ, List.length_cons, List.length_nil, if_true, Nat.zero_add, Nat.reduceAdd, lo]
 refine (seq_nx (set_p s3)).trans ?_
 simp only [List.set_cons_succ, List.set_cons_zero]
 refine (seq_nx (set_f (d := .dict (encM slD frD ([] : Mp))) rfl)).trans ?_
 simp only [List.set_cons_succ, List.set_cons_zero]
 have hit : (mItL (mSl (mVar 0) (mPt (mC (.int 3))) (mPt (mBin addE (mC (.int 4)) (mBin modE (mBin fdivE (mVar 1) (mC (.int 3))) (mC (.int 8))))))) [some (.p (.list (vs.map .int))), some (.p (.int v0)), some (.p (.int (1 + v0.fmod 9))), some (.p (frD sz)), some (.o (.dict (encM slD frD ([] : Mp)))), none, none, none, none] = .ok (xs.map .int) := by
  have cu := cut.1
  have up : (mBin addE (mC (.int 4)) (mBin modE (mBin fdivE (mVar 1) (mC (.int 3))) (mC (.int 8)))) [some (.p (.list (vs.map .int))), some (.p (.int v0)), some (.p (.int (1 + v0.fmod 9))), some (.p (frD sz)), some (.o (.dict (encM slD frD ([] : Mp)))), none, none, none, none] = .ok (.p (.int (cn : Int))) := by
   simp (disch := assumption) only [mVar, mC, mBin, Res.bind, Ev.c, addE, fdiv_ok, mod_ok, List.getElem?_cons_zero, List.getElem?_cons_succ, hcn]
  simp only [mItL, mSl, mPt, mVar, mC, up, List.getElem?_cons_zero, Res.bind, Ev.c, lstOf, cu, listR]
 refine (seq_nx ((for_l hit).trans hl)).trans ?_
 rfl
theorem ex_G : ∀ hs : List (Int × Int), (∀ x ∈ hs, 1 ≤ x.2) → ∃ G : Int, 1 ≤ G ∧ ∀ x ∈ hs, x.2 ∣ G
 | [], _ => ⟨1, by decide, (fun _ h => nomatch h)⟩
 | x :: hs, h => by
  obtain ⟨G, g1, g2⟩ := ex_G hs fun y hy => h y (.tail _ hy)
  refine ⟨x.2 * G, pos_mul (h x (.head _)) g1, fun y hy => ?_⟩
  rcases List.mem_cons.mp hy with z | z
  ·rw [z]; exact Int.dvd_mul_right _ _
  ·exact Int.dvd_trans (g2 y z) (Int.dvd_mul_left _ _)
theorem le_of_wt {G : Int} {x y : Int × Int} (hG : 1 ≤ G) (x0 : 1 ≤ x.2) (y0 : 1 ≤ y.2) (xd : x.2 ∣ G) (yd : y.2 ∣ G) (h : wt G x ≤ wt G y) : leF x y := by
 have e1 : wt G x * x.2 = x.1 * G := w_mul x0 xd
 have e2 : wt G y * y.2 = y.1 * G := w_mul y0 yd
 have p := pos_mul x0 y0
 unfold leF
 refine Int.le_of_mul_le_mul_right (a := G) ?_ (by lia)
 have a1 : x.1 * y.2 * G = wt G x * (x.2 * y.2) := by
  rw [← Int.mul_assoc, e1]
  ac_rfl
 have a2 : y.1 * x.2 * G = wt G y * (x.2 * y.2) := by
  rw [Int.mul_comm x.2, ← Int.mul_assoc, e2]
  ac_rfl
 rw [a1, a2]
 exact Int.mul_le_mul_of_nonneg_right h (by lia)
def half (x : Int × Int) : Int × Int := FR.mk (1 * x.1) (2 * x.2)
theorem wt_half {G : Int} {x : Int × Int} (x0 : 1 ≤ x.2) (xd : x.2 ∣ G) (hd : (half x).2 ∣ G) : 2 * wt G (half x) = wt G x := by
 obtain ⟨f, e⟩ := FR.mk_fr (t := 1 * x.1) (b := 2 * x.2) (by lia)
 have f : FR.Fr (half x) := f
 have e : (half x).1 * (2 * x.2) = 1 * x.1 * (half x).2 := e
 have e1 : wt G (half x) * (half x).2 = (half x).1 * G := w_mul f.pos hd
 have e2 : wt G x * x.2 = x.1 * G := w_mul x0 xd
 have p := pos_mul f.pos x0
 refine Int.eq_of_mul_eq_mul_right (a := (half x).2 * x.2) (by lia) ?_
 have a1 : 2 * wt G (half x) * ((half x).2 * x.2) = wt G (half x) * (half x).2 * (2 * x.2) := by ac_rfl
 have a2 : wt G x * ((half x).2 * x.2) = wt G x * x.2 * (half x).2 := by ac_rfl
 have a3 : (half x).1 * G * (2 * x.2) = (half x).1 * (2 * x.2) * G := by ac_rfl
 rw [a1, e1, a3, e, a2, e2, Int.one_mul]
 ac_rfl
theorem mid_le {x y l : Int × Int} (fx : FR.Fr x) (fy : FR.Fr y) (fl : FR.Fr l) (hl : l.1 ≤ 0) : leF (hP (hP (half (hP x y)) l) (hP (half (hP x y)) l)) (hP x y) := by
 have s0 := (hP_fr fx.pos fy.pos).pos
 have m0 : 1 ≤ (half (hP x y)).2 := (FR.mk_fr (t := 1 * (hP x y).1) (b := 2 * (hP x y).2) (by lia)).1.pos
 have h0 := (hP_fr m0 fl.pos).pos
 have h1 := (hP_fr h0 h0).pos
 obtain ⟨G, hG, gd⟩ := ex_G [hP x y, half (hP x y), l, hP (half (hP x y)) l, hP (hP (half (hP x y)) l) (hP (half (hP x y)) l)] (fun z hz => by
  simp only [List.mem_cons, List.not_mem_nil, or_false] at hz
  rcases hz with rfl | rfl | rfl | rfl | rfl
  ·exact s0
  ·exact m0
  ·exact fl.pos
  ·exact h0
  ·exact h1)
 have d1 := gd (hP x y) (.head _)
 have d2 := gd (half (hP x y)) (.tail _ (.head _))
 have d3 := gd l (.tail _ (.tail _ (.head _)))
 have d4 := gd (hP (half (hP x y)) l) (.tail _ (.tail _ (.tail _ (.head _))))
 have d5 := gd (hP (hP (half (hP x y)) l) (hP (half (hP x y)) l)) (.tail _ (.tail _ (.tail _ (.tail _ (.head _)))))
 refine le_of_wt hG h1 s0 d5 d1 ?_
 rw [(wt_sum h0 h0 d4 d4).2, (wt_sum m0 fl.pos d2 d3).2]
 have e := wt_half s0 d1 d2
 have wl : wt G l ≤ 0 := by
  have el : wt G l * l.2 = l.1 * G := w_mul fl.pos d3
  refine Int.le_of_mul_le_mul_right (a := l.2) ?_ (by have := fl.pos; lia)
  rw [el, Int.zero_mul]
  exact Int.mul_nonpos_of_nonpos_of_nonneg hl (by lia)
 lia
structure St (m : Mp) (k h : Int × Int) : Prop where
 no : aget m k = none
 ab : ∃ a b ha hb, aget m a = some ha ∧ aget m b = some hb ∧ a ≠ b ∧ 2 * k.1 = a.1 + b.1 ∧ 2 * k.2 = a.2 + b.2 ∧ leF (hP h h) (hP ha hb)
 g : GB h
 f : FR.Fr h
structure WM (m mm : Mp) : Prop where
 nd : (mm.map (·.1)).Nodup
 sub : ∀ k h, aget m k = some h → aget mm k = some h
 all : ∀ k h, aget mm k = some h → box k ∧ (aget m k = some h ∨ St m k h)
theorem ix_sl {sl : List (Int × Int)} {k : Nat} (h : k < sl.length) : ixE (.b (.list (sl.map slD))) (.p (.int (k : Int))) = .ok (.p (slD (sl.getD k (0, 0)))) := by
 have := at_map slD sl (0, 0) h
 simp only [ixE, seqOf, this]
theorem ix_s0 (s : Int × Int) : ixE (.p (slD s)) (.p (.int 0)) = .ok (.p (.int s.1)) := ix_t0 _ _
theorem ix_s1 (s : Int × Int) : ixE (.p (slD s)) (.p (.int 1)) = .ok (.p (.int s.2)) := ix_t1 _ _ _
theorem eq_ints (i j : Int) : eqE false (.p (.int i)) (.p (.int j)) = .ok (.p (.bool (i == j))) := by
 simp only [eqE, dat, sh_int, eqv_ii]
 rfl
theorem sz_P2 {a b c d : Nat} {x y : Int × Int} (hx : 1 ≤ x.2 ∧ Sz a x.1 ∧ Sz b x.2) (hy : 1 ≤ y.2 ∧ Sz c y.1 ∧ Sz d y.2) : 1 ≤ (hP x y).2 ∧ Sz (max (a + d) (c + b) + 1) (hP x y).1 ∧ Sz (b + d) (hP x y).2 := by
 have p := pos_mul hx.1 hy.1
 exact ⟨(FR.mk_fr (by lia)).1.pos, Sz.le (Sz.addM (Sz.mul hx.2.1 hy.2.2) (Sz.mul hy.2.1 hx.2.2)) (natAbs_fdiv_le _ _), Sz.le (Sz.mul hx.2.2 hy.2.2) (natAbs_fdiv_le _ _)⟩
def f__law_with_struck_b1 (K : W.Frag) (c : Cls) : MS := (mSeq (mSet 6 (mBin addE (mBin ixE (mBin ixE (mVar 3) (mVar 4)) (mC (.int 0))) (mBin ixE (mBin ixE (mVar 3) (mVar 5)) (mC (.int 0))))) (mSeq (mSet 7 (mBin addE (mBin ixE (mBin ixE (mVar 3) (mVar 4)) (mC (.int 1))) (mBin ixE (mBin ixE (mVar 3) (mVar 5)) (mC (.int 1))))) (mSeq (mSet 8 (mC (.int 0))) (mSeq (mIfS (mTru (mBin ltE (mBin addE (mVar 4) (mVar 5)) (mCallB lenE (mCons (mVar 1) mNil)))) (mSet 8 (mBin ixE (mVar 1) (mBin addE (mVar 4) (mVar 5)))) mNext) (mIfS (mAnd (mTru (mBin (eqE false) (mBin modE (mVar 6) (mC (.int 2))) (mC (.int 0)))) (mAnd (mTru (mBin (eqE false) (mBin modE (mVar 7) (mC (.int 2))) (mC (.int 0)))) (mAnd (mTru (mBin (dinE true) (mCallB tupR' (mCons (mBin fdivE (mVar 6) (mC (.int 2))) (mCons (mBin fdivE (mVar 7) (mC (.int 2))) mNil))) (mVar 2))) (mTru (mBin ltE (mBin modE (mVar 8) (mC (.int 3))) (mC (.int 2))))))) (mSeq (mSet 9 (mCall 2 (m__law_product K c) (mCons (mCallB tupR' (mCons (mC (.int 1)) (mCons (mC (.int 2)) mNil))) (mCons (mCall 2 (m__law_sum K c) (mCons (mBin dgetE (mVar 0) (mBin ixE (mVar 3) (mVar 4))) (mCons (mBin dgetE (mVar 0) (mBin ixE (mVar 3) (mVar 5))) mNil))) mNil)))) (mSeq (mSet 10 (mBin mulE (mBin modE (mVar 8) (mC (.int 3))) (mBin modE (mBin fdivE (mVar 8) (mC (.int 3))) (mBin powE (mC (.int 10)) (mC (.int 15)))))) (mDput 2 (mCallB tupR' (mCons (mBin fdivE (mVar 6) (mC (.int 2))) (mCons (mBin fdivE (mVar 7) (mC (.int 2))) mNil))) (mCall 2 (m__law_sum K c) (mCons (mVar 9) (mCons (mCall 2 (m__law_low K c) (mCons (mUn negE (mVar 10)) (mCons (mBin addE (mC (.int 1)) (mBin modE (mBin fdivE (mVar 8) (mC (.int 5))) (mC (.int 7)))) mNil))) mNil)))))) mNext)))))
def f__law_with_struck_b2 (K : W.Frag) (c : Cls) : MS := (mFor (mItA rng1R (mCons (mVar 4) mNil)) (mgName 5) (f__law_with_struck_b1 K c))
def f__law_with_struck (K : W.Frag) (c : Cls) : MS := (mSeq (mSet 2 (mCallB dictE (mCons (mVar 0) mNil))) (mSeq (mSet 3 (mCallB sortedDE (mCons (mVar 0) mNil))) (mSeq (mFor (mItA rng1R (mCons (mCallB lenE (mCons (mVar 3) mNil)) mNil)) (mgName 4) (f__law_with_struck_b2 K c)) (mRet (mVar 2)))))
def m__law_with_struck (K : W.Frag) (c : Cls) (ls : List L) : Res L := runF 11 (f__law_with_struck K c) ls
theorem eq__law_with_struck (K : W.Frag) (c : Cls) : ∀ ls, m__law_with_struck K c ls = .bad ∨ runF 11 (f__law_with_struck K c) ls = m__law_with_struck K c ls := fun _ => .inr rfl
theorem ws_b1 (K : W.Frag) (c : Cls) {sz : Int × Int} {n A B : Int} (bp : BP sz n A B) {m : Mp} (bm : BM sz n A B m) {cs : List Int} (hc : ∀ x ∈ cs, 0 ≤ x ∧ Sz 200 x) {sl : List (Int × Int)} (nd : sl.Nodup) (hs : ∀ s ∈ sl, (aget m s).isSome = true) {mm : Mp} (wm : WM m mm) (hl : mm.length ≤ 1000) {k l : Nat} (hk : k < sl.length) (hlk : l < k) (h8 : sl.length ≤ 8) (r6 r7 r8 r9 r10 : Option L) : ∃ (mm' : Mp) (q6 q7 q8 q9 q10 : Option L), WM m mm' ∧ mm'.length ≤ mm.length + 1 ∧ f__law_with_struck_b1 K c [some (.p (.dict (encM slD frD m))), some (.p (.list (cs.map .int))), some (.o (.dict (encM slD frD mm))), some (.o (.list (sl.map slD))), some (.p (.int (k : Int))), some (.p (.int (l : Int))), r6, r7, r8, r9, r10] = some (.nx [some (.p (.dict (encM slD frD m))), some (.p (.list (cs.map .int))), some (.o (.dict (encM slD frD mm'))), some (.o (.list (sl.map slD))), some (.p (.int (k : Int))), some (.p (.int (l : Int))), q6, q7, q8, q9, q10]) := by
 have i1 := ix_sl hk
 have i2 := ix_sl (show l < sl.length by lia)
 have ma := hs _ (getD_in hk (0, 0))
 have mb := hs _ (getD_in (show l < sl.length by lia) (0, 0))
 have nab : sl.getD k (0, 0) ≠ sl.getD l (0, 0) := by
  rw [getD_lt hk, getD_lt (show l < sl.length by lia)]
  exact fun z => (List.pairwise_iff_getElem.mp nd l k (by lia) hk hlk) z.symm
 generalize sl.getD k (0, 0) = a at *
 generalize sl.getD l (0, 0) = b at *
 obtain ⟨ha, ea⟩ := Option.isSome_iff_exists.mp ma
 obtain ⟨hb, eb⟩ := Option.isSome_iff_exists.mp mb
 obtain ⟨xa, va⟩ := bm.v a ha ea
 obtain ⟨xb, vb⟩ := bm.v b hb eb
 obtain ⟨fa, ga⟩ := bh_good bp xa
 obtain ⟨fb, gb⟩ := bh_good bp xb
 rw [← va] at fa ga
 rw [← vb] at fb gb
 have xa1 := xa.1; have xa2 := xa.2.1; have xa3 := xa.2.2.1; have xa4 := xa.2.2.2
 have xb1 := xb.1; have xb2 := xb.2.1; have xb3 := xb.2.2.1; have xb4 := xb.2.2.2
 have s6 : (mBin addE (mBin ixE (mBin ixE (mVar 3) (mVar 4)) (mC (.int 0))) (mBin ixE (mBin ixE (mVar 3) (mVar 5)) (mC (.int 0)))) [some (.p (.dict (encM slD frD m))), some (.p (.list (cs.map .int))), some (.o (.dict (encM slD frD mm))), some (.o (.list (sl.map slD))), some (.p (.int (k : Int))), some (.p (.int (l : Int))), r6, r7, r8, r9, r10] = .ok (.p (.int (a.1 + b.1))) := by
  simp only [mBin, mVar, mC, List.getElem?_cons_zero, List.getElem?_cons_succ, Res.bind, Ev.c, i1, i2, ix_s0, addE]
 have s7 : (mBin addE (mBin ixE (mBin ixE (mVar 3) (mVar 4)) (mC (.int 1))) (mBin ixE (mBin ixE (mVar 3) (mVar 5)) (mC (.int 1)))) [some (.p (.dict (encM slD frD m))), some (.p (.list (cs.map .int))), some (.o (.dict (encM slD frD mm))), some (.o (.list (sl.map slD))), some (.p (.int (k : Int))), some (.p (.int (l : Int))), some (.p (.int (a.1 + b.1))), r7, r8, r9, r10] = .ok (.p (.int (a.2 + b.2))) := by
  simp only [mBin, mVar, mC, List.getElem?_cons_zero, List.getElem?_cons_succ, Res.bind, Ev.c, i1, i2, ix_s1, addE]
 obtain ⟨cell, c0, cz, hcell⟩ : ∃ cell : Int, 0 ≤ cell ∧ Sz 200 cell ∧ (mIfS (mTru (mBin ltE (mBin addE (mVar 4) (mVar 5)) (mCallB lenE (mCons (mVar 1) mNil)))) (mSet 8 (mBin ixE (mVar 1) (mBin addE (mVar 4) (mVar 5)))) mNext) [some (.p (.dict (encM slD frD m))), some (.p (.list (cs.map .int))), some (.o (.dict (encM slD frD mm))), some (.o (.list (sl.map slD))), some (.p (.int (k : Int))), some (.p (.int (l : Int))), some (.p (.int (a.1 + b.1))), some (.p (.int (a.2 + b.2))), some (.p (.int 0)), r9, r10] = some (.nx [some (.p (.dict (encM slD frD m))), some (.p (.list (cs.map .int))), some (.o (.dict (encM slD frD mm))), some (.o (.list (sl.map slD))), some (.p (.int (k : Int))), some (.p (.int (l : Int))), some (.p (.int (a.1 + b.1))), some (.p (.int (a.2 + b.2))), some (.p (.int cell)), r9, r10]) := by
  have hlen : lenE [.p (.list (cs.map .int))] = .ok (.p (.int (cs.length : Nat))) := by simp [lenE, seqOf]
  have t : (mTru (mBin ltE (mBin addE (mVar 4) (mVar 5)) (mCallB lenE (mCons (mVar 1) mNil)))) [some (.p (.dict (encM slD frD m))), some (.p (.list (cs.map .int))), some (.o (.dict (encM slD frD mm))), some (.o (.list (sl.map slD))), some (.p (.int (k : Int))), some (.p (.int (l : Int))), some (.p (.int (a.1 + b.1))), some (.p (.int (a.2 + b.2))), some (.p (.int 0)), r9, r10] = .ok (decide ((k : Int) + (l : Int) < (cs.length : Nat))) := by
   simp only [mTru, mBin, mVar, mCallB, mCons, mNil, List.getElem?_cons_zero, List.getElem?_cons_succ, Res.bind, Ev.c, addE, hlen, ltE, intE0, truthR]
  by_cases z : (k : Int) + (l : Int) < (cs.length : Nat)
  ·rw [decide_eq_true z] at t
   have hkl : k + l < cs.length := by lia
   have ix : ixE (.p (.list (cs.map .int))) (.p (.int ((k : Int) + (l : Int)))) = .ok (.p (.int (cs.getD (k + l) 0))) := by
    have := at_nat (ns := cs) hkl
    rw [Int.natCast_add] at this
    simp only [ixE, seqOf, this]
   have g := hc _ (getD_in hkl 0)
   refine ⟨cs.getD (k + l) 0, g.1, g.2, (if_t t).trans (set_p ?_)⟩
   simp only [mBin, mVar, List.getElem?_cons_zero, List.getElem?_cons_succ, Res.bind, Ev.c, addE, ix]
  ·rw [decide_eq_false z] at t
   exact ⟨0, Int.le_refl 0, by unfold Sz; decide, if_f t⟩
 have d2 : (2 : Int) ≠ 0 := by decide
 have d3 : (3 : Int) ≠ 0 := by decide
 have w6 : CDivW (a.1 + b.1) 2 := by
  apply N.cd2 <;> (first | decide | (show Sz _ (2 : Int); exact N.sz_lit4 (by decide)))
 have w7 : CDivW (a.2 + b.2) 2 := by
  apply N.cd2 <;> (first | decide | (show Sz _ (2 : Int); exact N.sz_lit4 (by decide)))
 have hd := dlook_sl (ev := frD) mm ((a.1 + b.1).fdiv 2, (a.2 + b.2).fdiv 2)
 have hdin : dinE true (.p (.tuple [.int ((a.1 + b.1).fdiv 2), .int ((a.2 + b.2).fdiv 2)])) (.b (.dict (encM slD frD mm))) = .ok (.p (.bool (!(aget mm ((a.1 + b.1).fdiv 2, (a.2 + b.2).fdiv 2)).isSome))) := by
  have hd : dlook (encM slD frD mm) (.tuple [.int ((a.1 + b.1).fdiv 2), .int ((a.2 + b.2).fdiv 2)]) = _ := hd
  simp only [dinE, dctOf, hd, Option.isSome_map]
  rfl
 have t4 : (mAnd (mTru (mBin (eqE false) (mBin modE (mVar 6) (mC (.int 2))) (mC (.int 0)))) (mAnd (mTru (mBin (eqE false) (mBin modE (mVar 7) (mC (.int 2))) (mC (.int 0)))) (mAnd (mTru (mBin (dinE true) (mCallB tupR' (mCons (mBin fdivE (mVar 6) (mC (.int 2))) (mCons (mBin fdivE (mVar 7) (mC (.int 2))) mNil))) (mVar 2))) (mTru (mBin ltE (mBin modE (mVar 8) (mC (.int 3))) (mC (.int 2))))))) [some (.p (.dict (encM slD frD m))), some (.p (.list (cs.map .int))), some (.o (.dict (encM slD frD mm))), some (.o (.list (sl.map slD))), some (.p (.int (k : Int))), some (.p (.int (l : Int))), some (.p (.int (a.1 + b.1))), some (.p (.int (a.2 + b.2))), some (.p (.int cell)), r9, r10] = .ok (((a.1 + b.1).fmod 2 == 0) && (((a.2 + b.2).fmod 2 == 0) && ((!(aget mm ((a.1 + b.1).fdiv 2, (a.2 + b.2).fdiv 2)).isSome) && decide (cell.fmod 3 < 2)))) := by
  simp (disch := assumption) only [mTru, mBin, mVar, mC, mCallB, mCons, mNil, tupR', pureL, List.getElem?_cons_zero, List.getElem?_cons_succ, List.length_cons, List.length_nil, if_true, Nat.zero_add, Nat.reduceAdd, Nat.reduceLeDiff, Res.bind, Ev.c, mod_ok, fdiv_ok, eq_ints, hdin, ltE, intE0, truthR, mAnd]
  cases ((a.1 + b.1).fmod 2 == 0)
  ·rfl
  cases ((a.2 + b.2).fmod 2 == 0)
  ·rfl
  cases (aget mm ((a.1 + b.1).fdiv 2, (a.2 + b.2).fdiv 2)).isSome
  ·rfl
  ·rfl
 have go : ∀ {o : Option Out}, (mIfS (mAnd (mTru (mBin (eqE false) (mBin modE (mVar 6) (mC (.int 2))) (mC (.int 0)))) (mAnd (mTru (mBin (eqE false) (mBin modE (mVar 7) (mC (.int 2))) (mC (.int 0)))) (mAnd (mTru (mBin (dinE true) (mCallB tupR' (mCons (mBin fdivE (mVar 6) (mC (.int 2))) (mCons (mBin fdivE (mVar 7) (mC (.int 2))) mNil))) (mVar 2))) (mTru (mBin ltE (mBin modE (mVar 8) (mC (.int 3))) (mC (.int 2))))))) (mSeq (mSet 9 (mCall 2 (m__law_product K c) (mCons (mCallB tupR' (mCons (mC (.int 1)) (mCons (mC (.int 2)) mNil))) (mCons (mCall 2 (m__law_sum K c) (mCons (mBin dgetE (mVar 0) (mBin ixE (mVar 3) (mVar 4))) (mCons (mBin dgetE (mVar 0) (mBin ixE (mVar 3) (mVar 5))) mNil))) mNil)))) (mSeq (mSet 10 (mBin mulE (mBin modE (mVar 8) (mC (.int 3))) (mBin modE (mBin fdivE (mVar 8) (mC (.int 3))) (mBin powE (mC (.int 10)) (mC (.int 15)))))) (mDput 2 (mCallB tupR' (mCons (mBin fdivE (mVar 6) (mC (.int 2))) (mCons (mBin fdivE (mVar 7) (mC (.int 2))) mNil))) (mCall 2 (m__law_sum K c) (mCons (mVar 9) (mCons (mCall 2 (m__law_low K c) (mCons (mUn negE (mVar 10)) (mCons (mBin addE (mC (.int 1)) (mBin modE (mBin fdivE (mVar 8) (mC (.int 5))) (mC (.int 7)))) mNil))) mNil)))))) mNext) [some (.p (.dict (encM slD frD m))), some (.p (.list (cs.map .int))), some (.o (.dict (encM slD frD mm))), some (.o (.list (sl.map slD))), some (.p (.int (k : Int))), some (.p (.int (l : Int))), some (.p (.int (a.1 + b.1))), some (.p (.int (a.2 + b.2))), some (.p (.int cell)), r9, r10] = o → f__law_with_struck_b1 K c [some (.p (.dict (encM slD frD m))), some (.p (.list (cs.map .int))), some (.o (.dict (encM slD frD mm))), some (.o (.list (sl.map slD))), some (.p (.int (k : Int))), some (.p (.int (l : Int))), r6, r7, r8, r9, r10] = o := fun h => by
  unfold f__law_with_struck_b1
  exact (seq_nx (set_p s6)).trans ((seq_nx (set_p s7)).trans ((seq_nx (set_p (d := .int 0) rfl)).trans ((seq_nx hcell).trans h)))
 generalize hcond : (((a.1 + b.1).fmod 2 == 0) && (((a.2 + b.2).fmod 2 == 0) && ((!(aget mm ((a.1 + b.1).fdiv 2, (a.2 + b.2).fdiv 2)).isSome) && decide (cell.fmod 3 < 2)))) = cond at t4
 cases cond with
 | false => exact ⟨mm, _, _, _, _, _, wm, by lia, go (if_f t4)⟩
 | true =>
  rw [Bool.and_eq_true, Bool.and_eq_true, Bool.and_eq_true] at hcond
  obtain ⟨e1, e2, e3, e4⟩ := hcond
  have e1 : (a.1 + b.1).fmod 2 = 0 := by simpa using e1
  have e2 : (a.2 + b.2).fmod 2 = 0 := by simpa using e2
  have e3 : aget mm ((a.1 + b.1).fdiv 2, (a.2 + b.2).fdiv 2) = none := by
   cases z : aget mm ((a.1 + b.1).fdiv 2, (a.2 + b.2).fdiv 2) with
   | none => rfl
   | some v => rw [z] at e3; cases e3
  have k1 := Int.mul_fdiv_add_fmod (a.1 + b.1) 2
  have k2 := Int.mul_fdiv_add_fmod (a.2 + b.2) 2
  rw [e1] at k1
  rw [e2] at k2
  generalize hkk : ((a.1 + b.1).fdiv 2, (a.2 + b.2).fdiv 2) = kk at *
  have kk1 : kk.1 = (a.1 + b.1).fdiv 2 := by rw [← hkk]
  have kk2 : kk.2 = (a.2 + b.2).fdiv 2 := by rw [← hkk]
  have hab : Good 100 ha ∧ Good 100 hb := ⟨⟨ga.1, ga.2.1.mono (by decide), ga.2.2.mono (by decide)⟩, gb.1, gb.2.1.mono (by decide), gb.2.2.mono (by decide)⟩
  have su := lsum_ok K c hab.1 hab.2 (by decide) (by decide)
  have pr : m__law_product K c [.p (.tuple [.int 1, .int 2]), .p (frD (hP ha hb))] = .ok (.p (frD (half (hP ha hb)))) := prod_ok K c (x := (1, 2)) (m := 60) ⟨by decide, show Sz 60 (1 : Int) by unfold Sz; decide, show Sz 60 (2 : Int) by unfold Sz; decide⟩ (good_P hab.1 hab.2) (by decide) (by decide)
  have da : dgetE (.p (.dict (encM slD frD m))) (.p (slD a)) = .ok (.p (frD ha)) := by
   have := dlook_sl (ev := frD) m a
   rw [ea] at this
   simp only [dgetE, dctOf, this, Option.map_some]
  have db : dgetE (.p (.dict (encM slD frD m))) (.p (slD b)) = .ok (.p (frD hb)) := by
   have := dlook_sl (ev := frD) m b
   rw [eb] at this
   simp only [dgetE, dctOf, this, Option.map_some]
  have s9 : (mCall 2 (m__law_product K c) (mCons (mCallB tupR' (mCons (mC (.int 1)) (mCons (mC (.int 2)) mNil))) (mCons (mCall 2 (m__law_sum K c) (mCons (mBin dgetE (mVar 0) (mBin ixE (mVar 3) (mVar 4))) (mCons (mBin dgetE (mVar 0) (mBin ixE (mVar 3) (mVar 5))) mNil))) mNil))) [some (.p (.dict (encM slD frD m))), some (.p (.list (cs.map .int))), some (.o (.dict (encM slD frD mm))), some (.o (.list (sl.map slD))), some (.p (.int (k : Int))), some (.p (.int (l : Int))), some (.p (.int (a.1 + b.1))), some (.p (.int (a.2 + b.2))), some (.p (.int cell)), r9, r10] = .ok (.p (frD (half (hP ha hb)))) := by
   simp only [mCall, mCallB, tupR', pureL, mCons, mNil, mBin, mVar, mC, List.getElem?_cons_zero, List.getElem?_cons_succ, List.length_cons, List.length_nil, if_true, Nat.zero_add, Nat.reduceAdd, Nat.reduceLeDiff, Res.bind, Ev.c, callR, argsL, argL, i1, i2, da, db, su, pr, retE]
  have m3 := fmod_pos (a := cell) (b := 3) (by decide)
  have m15 := fmod_pos (a := cell.fdiv 3) (b := 10 ^ Int.toNat 15) (by decide)
  have m7 := fmod_pos (a := cell.fdiv 5) (b := 7) (by decide)
  have p15 : (10 : Int) ^ Int.toNat 15 = 1000000000000000 := by decide
  have pw : CPow 10 15 := ⟨by decide, by decide, by decide⟩
  have dP : (10 : Int) ^ Int.toNat 15 ≠ 0 := by decide
  have d7 : (7 : Int) ≠ 0 := by decide
  have w3 : CDivW cell 3 := by (first | assumption | (first | apply N.cm2 | apply N.cd2) <;> (first | decide | lia | (repeat (first | assumption | apply L2.Sz.mul | apply N.Sz.addM | apply N.Sz.subM | apply L2.Sz.neg | apply N.sz_fdiv | (apply N.sz_fmod; (first | decide | lia)) | exact N.sz_lit4 (by decide) | exact N.sz_lit (by decide) | exact N.sz_lit70 (by decide) | exact N.sz_big (by decide)))) | decide | lia)
  have w5 : CDivW cell 5 := by (first | assumption | (first | apply N.cm2 | apply N.cd2) <;> (first | decide | lia | (repeat (first | assumption | apply L2.Sz.mul | apply N.Sz.addM | apply N.Sz.subM | apply L2.Sz.neg | apply N.sz_fdiv | (apply N.sz_fmod; (first | decide | lia)) | exact N.sz_lit4 (by decide) | exact N.sz_lit (by decide) | exact N.sz_lit70 (by decide) | exact N.sz_big (by decide)))) | decide | lia)
  have sl1 : Sz 4 (cell.fmod 3) := by unfold Sz; lia
  have sl2 : Sz 60 ((cell.fdiv 3).fmod (10 ^ Int.toNat 15)) := by unfold Sz; lia
  have qm : CMulW (cell.fmod 3) ((cell.fdiv 3).fmod (10 ^ Int.toNat 15)) := ⟨sl1.mono (by decide), sl2.mono (by decide)⟩
  have s10 : (mBin mulE (mBin modE (mVar 8) (mC (.int 3))) (mBin modE (mBin fdivE (mVar 8) (mC (.int 3))) (mBin powE (mC (.int 10)) (mC (.int 15))))) [some (.p (.dict (encM slD frD m))), some (.p (.list (cs.map .int))), some (.o (.dict (encM slD frD mm))), some (.o (.list (sl.map slD))), some (.p (.int (k : Int))), some (.p (.int (l : Int))), some (.p (.int (a.1 + b.1))), some (.p (.int (a.2 + b.2))), some (.p (.int cell)), some (.p (frD (half (hP ha hb)))), r10] = .ok (.p (.int (cell.fmod 3 * (cell.fdiv 3).fmod (10 ^ Int.toNat 15)))) := by
   simp (disch := assumption) only [mBin, mVar, mC, List.getElem?_cons_zero, List.getElem?_cons_succ, Res.bind, Ev.c, mod_ok, fdiv_ok, pow_ok, mul_ok]
  have low0 : 0 ≤ cell.fmod 3 * (cell.fdiv 3).fmod (10 ^ Int.toNat 15) := Int.mul_nonneg m3.1 m15.1
  have lowz : Sz 64 (cell.fmod 3 * (cell.fdiv 3).fmod (10 ^ Int.toNat 15)) := Sz.mul sl1 sl2
  generalize cell.fmod 3 * (cell.fdiv 3).fmod (10 ^ Int.toNat 15) = lower at *
  have lo := low_ok K c (t := -lower) (b := 1 + (cell.fdiv 5).fmod 7) (by lia) (by unfold Sz; lia)
  obtain ⟨fl, el⟩ := FR.mk_fr (t := -lower) (b := 1 + (cell.fdiv 5).fmod 7) (by lia)
  have szl : Sz 64 (FR.mk (-lower) (1 + (cell.fdiv 5).fmod 7)).1 ∧ Sz 4 (FR.mk (-lower) (1 + (cell.fdiv 5).fmod 7)).2 := ⟨Sz.le (Sz.neg lowz) (natAbs_fdiv_le _ _), Sz.le (show Sz 4 (1 + (cell.fdiv 5).fmod 7) by unfold Sz; lia) (natAbs_fdiv_le _ _)⟩
  have ln : (FR.mk (-lower) (1 + (cell.fdiv 5).fmod 7)).1 ≤ 0 := by
   have p := fl.pos
   have : (FR.mk (-lower) (1 + (cell.fdiv 5).fmod 7)).1 * (1 + (cell.fdiv 5).fmod 7) ≤ 0 := by
    rw [el]
    exact Int.mul_nonpos_of_nonpos_of_nonneg (by lia) (by lia)
   exact Int.le_of_mul_le_mul_right (a := 1 + (cell.fdiv 5).fmod 7) (by rw [Int.zero_mul]; exact this) (by lia)
  generalize FR.mk (-lower) (1 + (cell.fdiv 5).fmod 7) = lw at *
  have zs := sz_P2 ga gb
  have zh : 1 ≤ (half (hP ha hb)).2 ∧ Sz 68 (half (hP ha hb)).1 ∧ Sz 12 (half (hP ha hb)).2 := ⟨(FR.mk_fr (t := 1 * (hP ha hb).1) (b := 2 * (hP ha hb).2) (by have := zs.1; lia)).1.pos, Sz.le ((Sz.mul (show Sz 1 (1 : Int) by unfold Sz; decide) zs.2.1).mono (by decide) : Sz 68 _) (natAbs_fdiv_le _ _), Sz.le ((Sz.mul (show Sz 2 (2 : Int) by unfold Sz; decide) zs.2.2).mono (by decide) : Sz 12 _) (natAbs_fdiv_le _ _)⟩
  have zz := sz_P2 zh ⟨fl.pos, szl.1, szl.2⟩
  have s2 := lsum_ok K c (m := 100) (n := 100) (x := half (hP ha hb)) (y := lw) ⟨zh.1, zh.2.1.mono (by decide), zh.2.2.mono (by decide)⟩ ⟨fl.pos, szl.1.mono (by decide), szl.2.mono (by decide)⟩ (by decide) (by decide)
  have fv : (mCall 2 (m__law_sum K c) (mCons (mVar 9) (mCons (mCall 2 (m__law_low K c) (mCons (mUn negE (mVar 10)) (mCons (mBin addE (mC (.int 1)) (mBin modE (mBin fdivE (mVar 8) (mC (.int 5))) (mC (.int 7)))) mNil))) mNil))) [some (.p (.dict (encM slD frD m))), some (.p (.list (cs.map .int))), some (.o (.dict (encM slD frD mm))), some (.o (.list (sl.map slD))), some (.p (.int (k : Int))), some (.p (.int (l : Int))), some (.p (.int (a.1 + b.1))), some (.p (.int (a.2 + b.2))), some (.p (.int cell)), some (.p (frD (half (hP ha hb)))), some (.p (.int lower))] = .ok (.p (frD (hP (half (hP ha hb)) lw))) := by
   simp (disch := assumption) only [mCall, mCons, mNil, mBin, mUn, mVar, mC, List.getElem?_cons_zero, List.getElem?_cons_succ, List.length_cons, List.length_nil, if_true, Nat.zero_add, Nat.reduceAdd, Res.bind, Ev.c, callR, argsL, argL, negE, addE, mod_ok, fdiv_ok, lo, s2, retE]
  have fk : (mCallB tupR' (mCons (mBin fdivE (mVar 6) (mC (.int 2))) (mCons (mBin fdivE (mVar 7) (mC (.int 2))) mNil))) [some (.p (.dict (encM slD frD m))), some (.p (.list (cs.map .int))), some (.o (.dict (encM slD frD mm))), some (.o (.list (sl.map slD))), some (.p (.int (k : Int))), some (.p (.int (l : Int))), some (.p (.int (a.1 + b.1))), some (.p (.int (a.2 + b.2))), some (.p (.int cell)), some (.p (frD (half (hP ha hb)))), some (.p (.int lower))] = .ok (.p (slD kk)) := by
   have : slD kk = .tuple [.int ((a.1 + b.1).fdiv 2), .int ((a.2 + b.2).fdiv 2)] := by rw [← hkk]; rfl
   rw [this]
   simp (disch := assumption) only [mCallB, tupR', pureL, mCons, mNil, mBin, mVar, mC, List.getElem?_cons_zero, List.getElem?_cons_succ, List.length_cons, List.length_nil, if_true, Nat.zero_add, Nat.reduceAdd, Nat.reduceLeDiff, Res.bind, Ev.c, fdiv_ok]
  have st : St m kk (hP (half (hP ha hb)) lw) := by
   refine ⟨?_, ⟨a, b, ha, hb, ea, eb, nab, by lia, by lia, mid_le fa fb fl ln⟩, ⟨zz.1, zz.2.1.mono (by decide), zz.2.2.mono (by decide)⟩, hP_fr zh.1 fl.pos⟩
   cases z : aget m kk with
   | none => rfl
   | some v => rw [wm.sub kk v z] at e3; cases e3
  refine ⟨aput mm kk (hP (half (hP ha hb)) lw), some (.p (.int (a.1 + b.1))), some (.p (.int (a.2 + b.2))), some (.p (.int cell)), some (.p (frD (half (hP ha hb)))), some (.p (.int lower)), ⟨nd_aput wm.nd _ _, fun k' h' e => ?_, fun k' h' e => ?_⟩, (aput_len mm kk _).1, go ((if_t t4).trans ?_)⟩
  ·rw [aget_aput]
   split
   ·rename_i z
    rw [z] at e
    rw [st.no] at e
    cases e
   ·exact wm.sub k' h' e
  ·rw [aget_aput] at e
   split at e
   ·rename_i z
    cases e
    rw [z]
    exact ⟨⟨by lia, by lia, by lia, by lia⟩, .inr st⟩
   ·exact wm.all k' h' e
  ·refine (seq_nx (set_p s9)).trans ((seq_nx (set_p s10)).trans ?_)
   simp only [List.set_cons_succ, List.set_cons_zero]
   rw [dput_nx (i := 2) (k := kk) rfl fv fk (by lia)]
   rfl
theorem ws_in (K : W.Frag) (c : Cls) {sz : Int × Int} {n A B : Int} (bp : BP sz n A B) {m : Mp} (bm : BM sz n A B m) {cs : List Int} (hc : ∀ x ∈ cs, 0 ≤ x ∧ Sz 200 x) {sl : List (Int × Int)} (nd : sl.Nodup) (hs : ∀ s ∈ sl, (aget m s).isSome = true) {k : Nat} (hk : k < sl.length) (h8 : sl.length ≤ 8) : ∀ (d l : Nat) (mm : Mp) (r5 r6 r7 r8 r9 r10 : Option L), l + d = k → WM m mm → mm.length + d ≤ 1000 → ∃ (mm' : Mp) (q5 q6 q7 q8 q9 q10 : Option L), WM m mm' ∧ mm'.length ≤ mm.length + d ∧ mLoop (mgName 5) (f__law_with_struck_b1 K c) (rgD l d) [some (.p (.dict (encM slD frD m))), some (.p (.list (cs.map .int))), some (.o (.dict (encM slD frD mm))), some (.o (.list (sl.map slD))), some (.p (.int (k : Int))), r5, r6, r7, r8, r9, r10] = some (.nx [some (.p (.dict (encM slD frD m))), some (.p (.list (cs.map .int))), some (.o (.dict (encM slD frD mm'))), some (.o (.list (sl.map slD))), some (.p (.int (k : Int))), q5, q6, q7, q8, q9, q10])
 | 0, l, mm, r5, r6, r7, r8, r9, r10, _, wm, _ => ⟨mm, r5, r6, r7, r8, r9, r10, wm, by lia, rfl⟩
 | d + 1, l, mm, r5, r6, r7, r8, r9, r10, hl, wm, hz => by
  obtain ⟨m1, q6, q7, q8, q9, q10, w1, w2, hb⟩ := ws_b1 K c bp bm hc nd hs wm (by lia) hk (l := l) (by lia) h8 r6 r7 r8 r9 r10
  obtain ⟨m2, q5', q6', q7', q8', q9', q10', v1, v2, ih⟩ := ws_in K c bp bm hc nd hs hk h8 d (l + 1) m1 (some (.p (.int (l : Int)))) q6 q7 q8 q9 q10 (by lia) w1 (by lia)
  refine ⟨m2, q5', q6', q7', q8', q9', q10', v1, by lia, ?_⟩
  rw [rgD_succ, lp_nx rfl hb]
  exact ih
def tri : Nat → Nat
 | 0 => 0
 | k + 1 => tri k + k
theorem ws_out (K : W.Frag) (c : Cls) {sz : Int × Int} {n A B : Int} (bp : BP sz n A B) {m : Mp} (bm : BM sz n A B m) {cs : List Int} (hc : ∀ x ∈ cs, 0 ≤ x ∧ Sz 200 x) {sl : List (Int × Int)} (nd : sl.Nodup) (hs : ∀ s ∈ sl, (aget m s).isSome = true) (h8 : sl.length ≤ 8) : ∀ (d k : Nat) (mm : Mp) (r4 r5 r6 r7 r8 r9 r10 : Option L), k + d = sl.length → WM m mm → mm.length ≤ 8 + tri k → ∃ (mm' : Mp) (q4 q5 q6 q7 q8 q9 q10 : Option L), WM m mm' ∧ mm'.length ≤ 8 + tri sl.length ∧ mLoop (mgName 4) (f__law_with_struck_b2 K c) (rgD k d) [some (.p (.dict (encM slD frD m))), some (.p (.list (cs.map .int))), some (.o (.dict (encM slD frD mm))), some (.o (.list (sl.map slD))), r4, r5, r6, r7, r8, r9, r10] = some (.nx [some (.p (.dict (encM slD frD m))), some (.p (.list (cs.map .int))), some (.o (.dict (encM slD frD mm'))), some (.o (.list (sl.map slD))), q4, q5, q6, q7, q8, q9, q10])
 | 0, k, mm, r4, r5, r6, r7, r8, r9, r10, hk, wm, hz => ⟨mm, r4, r5, r6, r7, r8, r9, r10, wm, by rw [show k = sl.length by lia] at hz; exact hz, rfl⟩
 | d + 1, k, mm, r4, r5, r6, r7, r8, r9, r10, hk, wm, hz => by
  have t8 : tri k ≤ 28 := by
   have : k ≤ 7 := by lia
   have : k = 0 ∨ k = 1 ∨ k = 2 ∨ k = 3 ∨ k = 4 ∨ k = 5 ∨ k = 6 ∨ k = 7 := by lia
   rcases this with rfl | rfl | rfl | rfl | rfl | rfl | rfl | rfl <;> decide
  obtain ⟨m1, q5, q6, q7, q8, q9, q10, w1, w2, hi⟩ := ws_in K c bp bm hc nd hs (k := k) (by lia) h8 k 0 mm r5 r6 r7 r8 r9 r10 (by lia) wm (by lia)
  have hit : mItA rng1R (mCons (mVar 4) mNil) [some (.p (.dict (encM slD frD m))), some (.p (.list (cs.map .int))), some (.o (.dict (encM slD frD mm))), some (.o (.list (sl.map slD))), some (.p (.int (k : Int))), r5, r6, r7, r8, r9, r10] = .ok (rgD 0 k) := by
   rw [← rng_rg]
   exact ita1 (a := .int (k : Int)) rfl (rng1_lit k (by lia))
  have hb : f__law_with_struck_b2 K c [some (.p (.dict (encM slD frD m))), some (.p (.list (cs.map .int))), some (.o (.dict (encM slD frD mm))), some (.o (.list (sl.map slD))), some (.p (.int (k : Int))), r5, r6, r7, r8, r9, r10] = some (.nx [some (.p (.dict (encM slD frD m))), some (.p (.list (cs.map .int))), some (.o (.dict (encM slD frD m1))), some (.o (.list (sl.map slD))), some (.p (.int (k : Int))), q5, q6, q7, q8, q9, q10]) := by
   unfold f__law_with_struck_b2
   rw [for_l hit, hi]
  obtain ⟨m2, q4', q5', q6', q7', q8', q9', q10', v1, v2, ih⟩ := ws_out K c bp bm hc nd hs h8 d (k + 1) m1 (some (.p (.int (k : Int)))) q5 q6 q7 q8 q9 q10 (by lia) w1 (by show m1.length ≤ 8 + (tri k + k); lia)
  refine ⟨m2, q4', q5', q6', q7', q8', q9', q10', v1, v2, ?_⟩
  rw [rgD_succ, lp_nx rfl hb]
  exact ih
theorem ws_ok (K : W.Frag) (c : Cls) {sz : Int × Int} {n A B : Int} (bp : BP sz n A B) {m : Mp} (bm : BM sz n A B m) (m8 : m.length ≤ 8) (mn : m ≠ []) {cs : List Int} (hc : ∀ x ∈ cs, 0 ≤ x ∧ Sz 200 x) : ∃ mm : Mp, WM m mm ∧ mm.length ≤ 40 ∧ m__law_with_struck K c [.p (.dict (encM slD frD m)), .p (.list (cs.map .int))] = .ok (.o (.dict (encM slD frD mm))) := by
 have so := sorted_sl (ev := frD) m (by lia)
 have esl : (sortK (kys m)).map tupD = ((sortK (kys m)).map un2).map slD := by
  rw [List.map_map]
  exact List.map_congr_left fun k hk => (key_in hk (0, 1)).1
 rw [esl] at so
 have hs : ∀ s ∈ (sortK (kys m)).map un2, (aget m s).isSome = true := fun s h => by
  obtain ⟨k, hk, rfl⟩ := List.mem_map.mp h
  rw [(key_in hk (0, 1)).2.2]
  rfl
 have pm : ((sortK (kys m)).map un2).Perm (m.map (·.1)) := by
  refine ((sortK_perm (kys m)).map un2).trans ?_
  unfold kys
  rw [List.map_map]
  exact .of_eq (List.map_congr_left fun e _ => rfl)
 have nd : ((sortK (kys m)).map un2).Nodup := pm.nodup_iff.mpr bm.nd
 have l8 : ((sortK (kys m)).map un2).length ≤ 8 := by rw [pm.length_eq, List.length_map]; exact m8
 have de : dictE [.p (.dict (encM slD frD m))] = .ok (.f (.dict (encM slD frD m))) := by
  have k1 := keys_enc (ev := frD) m
  simp only [dictE, dctOf, dsp_sl]
  rw [if_pos trivial, k1, keysD_map]
  dsimp only
  rw [if_pos]
  rw [Bool.and_eq_true]
  constructor
  ·cases z : m with
   | nil => exact absurd z mn
   | cons e r => rfl
  ·rw [List.all_eq_true]
   intro k hk
   unfold kys at hk
   obtain ⟨e, he, rfl⟩ := List.mem_map.mp hk
   obtain ⟨v, hv⟩ := aget_mem he
   obtain ⟨x, _⟩ := bm.v e.1 v hv
   show (decide (0 ≤ e.1.1 ∧ e.1.1 ≤ 8) && decide (0 ≤ e.1.2 ∧ e.1.2 ≤ 8)) = true
   rw [Bool.and_eq_true]
   exact ⟨decide_eq_true ⟨x.1, x.2.1⟩, decide_eq_true ⟨x.2.2.1, x.2.2.2⟩⟩
 generalize (sortK (kys m)).map un2 = sl at *
 obtain ⟨mm, q4, q5, q6, q7, q8, q9, q10, w1, w2, hl⟩ := ws_out K c bp bm hc nd hs l8 sl.length 0 m none none none none none none none (by lia) ⟨bm.nd, fun _ _ e => e, fun k h e => ⟨(bm.v k h e).1, .inl e⟩⟩ (by show m.length ≤ 8 + 0; lia)
 have t8 : tri sl.length ≤ 28 := by
  have : sl.length = 0 ∨ sl.length = 1 ∨ sl.length = 2 ∨ sl.length = 3 ∨ sl.length = 4 ∨ sl.length = 5 ∨ sl.length = 6 ∨ sl.length = 7 ∨ sl.length = 8 := by lia
  rcases this with z | z | z | z | z | z | z | z | z <;> rw [z] <;> decide
 refine ⟨mm, w1, by lia, ?_⟩
 unfold m__law_with_struck
 refine run_rt ?_
 rw [show startE 11 [.p (.dict (encM slD frD m)), .p (.list (cs.map .int))] = [some (.p (.dict (encM slD frD m))), some (.p (.list (cs.map .int))), none, none, none, none, none, none, none, none, none] from rfl]
 unfold f__law_with_struck
 have s2 : (mCallB dictE (mCons (mVar 0) mNil)) [some (.p (.dict (encM slD frD m))), some (.p (.list (cs.map .int))), none, none, none, none, none, none, none, none, none] = .ok (.f (.dict (encM slD frD m))) := by
  simp only [mCallB, mCons, mNil, mVar, List.getElem?_cons_zero, Res.bind, Ev.c, de]
 refine (seq_nx (set_f s2)).trans ?_
 simp only [List.set_cons_succ, List.set_cons_zero]
 have s3 : (mCallB sortedDE (mCons (mVar 0) mNil)) [some (.p (.dict (encM slD frD m))), some (.p (.list (cs.map .int))), some (.o (.dict (encM slD frD m))), none, none, none, none, none, none, none, none] = .ok (.f (.list (sl.map slD))) := by
  simp only [mCallB, mCons, mNil, mVar, List.getElem?_cons_zero, Res.bind, Ev.c, so]
 refine (seq_nx (set_f s3)).trans ?_
 simp only [List.set_cons_succ, List.set_cons_zero]
 have hlen : lenE [.b (.list (sl.map slD))] = .ok (.p (.int (sl.length : Nat))) := by simp [lenE, seqOf]
 have hit : mItA rng1R (mCons (mCallB lenE (mCons (mVar 3) mNil)) mNil) [some (.p (.dict (encM slD frD m))), some (.p (.list (cs.map .int))), some (.o (.dict (encM slD frD m))), some (.o (.list (sl.map slD))), none, none, none, none, none, none, none] = .ok (rgD 0 sl.length) := by
  rw [← rng_rg]
  exact ita1 (a := .int (sl.length : Int)) (by simp only [mCallB, mCons, mNil, mVar, List.getElem?_cons_zero, List.getElem?_cons_succ, Res.bind, Ev.c, hlen]) (rng1_lit sl.length (by lia))
 refine (seq_nx ((for_l hit).trans hl)).trans ?_
 rfl
theorem mem_keys {m : Mp} {k : Int × Int} : k ∈ m.map (·.1) ↔ (aget m k).isSome = true := by
 constructor
 ·intro h
  obtain ⟨e, he, rfl⟩ := List.mem_map.mp h
  obtain ⟨v, hv⟩ := aget_mem he
  rw [hv]
  rfl
 ·intro h
  cases e : aget m k with
  | none => rw [e] at h; cases h
  | some v =>
   by_cases hk : k ∈ m.map (·.1)
   ·exact hk
   ·exfalso
    have : ∀ m : Mp, k ∉ m.map (·.1) → aget m k = none := by
     intro m
     induction m with
     | nil => intro _; rfl
     | cons p r ih =>
      intro hn
      rw [List.map_cons, List.mem_cons, not_or] at hn
      unfold aget
      rw [if_neg (fun z => hn.1 z.symm)]
      exact ih hn.2
    rw [this m hk] at e
    cases e
theorem perm_sub {α : Type} [DecidableEq α] : ∀ {l m : List α}, l.Nodup → (∀ x ∈ l, x ∈ m) → m.length ≤ l.length → l.Perm m
 | [], m, _, _, h => by
  have : m = [] := List.length_eq_zero_iff.mp (by simpa using h)
  rw [this]
 | x :: l, m, h, s, hl => by
  obtain ⟨h1, h2⟩ := List.nodup_cons.mp h
  have hx := s x (.head _)
  have p : m.Perm (x :: m.erase x) := List.perm_cons_erase hx
  have q : l.Perm (m.erase x) := perm_sub h2 (fun y hy => (List.mem_erase_of_ne (show y ≠ x from fun z => h1 (by rw [← z]; exact hy))).mpr (s y (.tail _ hy))) (by rw [List.length_erase_of_mem hx]; rw [List.length_cons] at hl; lia)
  exact (q.cons x).trans p.symm
def roofOf (m : Mp) : List Pl := (sortK (kys m)).map fun k => ((un2 k).1, (un2 k).2, pget m (0, 1) k)
theorem roof_srt {m : Mp} (hn : (m.map (·.1)).Nodup) : (roofOf m).Pairwise slt := by
 have e : kys m = (m.map (·.1)).map fun s => [s.1, s.2] := by unfold kys; rw [List.map_map]; rfl
 have nd : (kys m).Nodup := by
  rw [e]
  exact List.pairwise_map.mpr (hn.imp fun {a b} w z => w (Prod.ext (List.cons.inj z).1 (List.cons.inj (List.cons.inj z).2).1))
 have nd2 : (sortK (kys m)).Nodup := (sortK_perm _).nodup_iff.mpr nd
 unfold roofOf
 refine List.pairwise_map.mpr (List.Pairwise.imp_of_mem (fun {a b} ha hb w => ?_) ((sortK_sorted (kys m)).and nd2))
 obtain ⟨_, ea, _⟩ := key_in ha (0, 1)
 obtain ⟨_, eb, _⟩ := key_in hb (0, 1)
 obtain ⟨w1, w2⟩ := w
 unfold leK at w1
 rw [ea, eb] at w1 w2
 unfold slt
 dsimp only
 generalize un2 a = x at *
 generalize un2 b = y at *
 by_cases h1 : y.1 = x.1
 ·right
  refine ⟨h1.symm, ?_⟩
  by_cases h2 : y.2 = x.2
  ·exact absurd (by rw [h1, h2]) w2
  ·have : ¬ (y.2 < x.2) := by
    rw [HT.lexLt_cons, if_pos h1, HT.lexLt_cons, if_neg h2] at w1
    exact of_decide_eq_false w1
   lia
 ·left
  rw [HT.lexLt_cons, if_neg h1] at w1
  have := of_decide_eq_false w1
  lia
theorem roofOf_len (m : Mp) : (roofOf m).length = m.length := by
 unfold roofOf
 rw [List.length_map, (sortK_perm (kys m)).length_eq]
 unfold kys
 rw [List.length_map]
theorem roof_mem {m : Mp} {p : Pl} : p ∈ roofOf m ↔ aget m (slp p) = some p.2.2 := by
 constructor
 ·intro h
  unfold roofOf at h
  obtain ⟨k, hk, rfl⟩ := List.mem_map.mp h
  exact (key_in hk (0, 1)).2.2
 ·intro h
  have hk : slp p ∈ m.map (·.1) := mem_keys.mpr (by rw [h]; rfl)
  obtain ⟨x, hx, ex⟩ := List.mem_map.mp hk
  have hs : [x.1.1, x.1.2] ∈ sortK (kys m) := (sortK_perm _).mem_iff.mpr (List.mem_map.mpr ⟨x, hx, rfl⟩)
  refine List.mem_map.mpr ⟨_, hs, ?_⟩
  have e1 : x.1 = slp p := ex
  have e2 : (x.1.1, x.1.2) = slp p := e1
  show (x.1.1, x.1.2, (aget m (x.1.1, x.1.2)).getD (0, 1)) = p
  rw [e2, h, e1]
  rfl
theorem rf_comp (K : W.Frag) (c : Cls) {fe0 : En → Res Ev} (hf : fe0 = mCallB tupR' (mCons (mBin ixE (mVar 0) (mC (.int 0))) (mCons (mBin ixE (mVar 0) (mC (.int 1))) (mCons (mBin dgetE (mVar 1) (mVar 0)) mNil)))) {i : Nat} {en : En} {m : Mp} (h : en[i]? = some (some (.p (.dict (encM slD frD m))))) (hm : m.length < 64) : mComp 1 [i] (mItL (mCallB sortedDE (mCons (mVar i) mNil))) (mgName 0) mYes fe0 en = .ok (.f (.list ((roofOf m).map plD))) := by
 have so := sorted_sl (ev := frD) m hm
 have hit : (mItL (mCallB sortedDE (mCons (mVar i) mNil))) en = .ok ((sortK (kys m)).map tupD) := by
  simp only [mItL, mCallB, mCons, mNil, mVar, h, Res.bind, Ev.c, so, listR]
 have hm3 : mapO (compItem 1 [i] (mgName 0) mYes fe0 en) ((sortK (kys m)).map tupD) = some ((sortK (kys m)).map fun k => plD ((un2 k).1, (un2 k).2, pget m (0, 1) k)) := by
  refine mapO_map _ fun k hk => ?_
  obtain ⟨h1, h2, h3⟩ := key_in hk (0, 1)
  have hd := dlook_sl (ev := frD) m (un2 k)
  rw [h3] at hd
  have x0 := ix_s0 (un2 k)
  have x1 := ix_s1 (un2 k)
  have he : fe0 [some (.p (slD (un2 k))), some (.p (.dict (encM slD frD m)))] = .ok (.p (plD ((un2 k).1, (un2 k).2, pget m (0, 1) k))) := by
   rw [hf]
   simp only [mCallB, tupR', pureL, mCons, mNil, mBin, mVar, mC, List.getElem?_cons_zero, List.getElem?_cons_succ, List.length_cons, List.length_nil, if_true, Nat.zero_add, Nat.reduceAdd, Nat.reduceLeDiff, Res.bind, Ev.c, x0, x1, dgetE, dctOf, hd, Option.map_some]
   rfl
  rw [h1]
  unfold compItem
  simp only [mgName, capE, capO, mYes, List.set_cons_zero, List.map_cons, List.map_nil, List.replicate, List.cons_append, List.nil_append, h, he, Ev.c]
 have hc := comp_l (n := 1) (js := [i]) hit (by rw [List.length_map, (sortK_perm (kys m)).length_eq]; unfold kys; rw [List.length_map]; lia) hm3
 rw [hc]
 unfold roofOf
 rw [List.map_map]
 rfl
theorem wt_bowl {G : Int} {sz : Int × Int} {n A B : Int} (bp : BP sz n A B) {k : Int × Int} (hk : box k) (sd : sz.2 ∣ G) (hd : (bh sz n A B k).2 ∣ G) : wt G (bh sz n A B k) = wt G sz * bv n A B k := by
 have p := bp.f.pos
 obtain ⟨f, e⟩ := FR.mk_fr (t := sz.1 * bv n A B k) (b := sz.2 * 1) (by lia)
 have f : FR.Fr (bh sz n A B k) := f
 have e : (bh sz n A B k).1 * (sz.2 * 1) = sz.1 * bv n A B k * (bh sz n A B k).2 := e
 rw [Int.mul_one] at e
 have e1 : wt G (bh sz n A B k) * (bh sz n A B k).2 = (bh sz n A B k).1 * G := w_mul f.pos hd
 have e2 : wt G sz * sz.2 = sz.1 * G := w_mul p sd
 have q := pos_mul f.pos p
 refine Int.eq_of_mul_eq_mul_right (a := (bh sz n A B k).2 * sz.2) (by lia) ?_
 have a1 : wt G (bh sz n A B k) * ((bh sz n A B k).2 * sz.2) = wt G (bh sz n A B k) * (bh sz n A B k).2 * sz.2 := by ac_rfl
 have a2 : wt G sz * bv n A B k * ((bh sz n A B k).2 * sz.2) = wt G sz * sz.2 * (bv n A B k * (bh sz n A B k).2) := by ac_rfl
 have a3 : (bh sz n A B k).1 * G * sz.2 = (bh sz n A B k).1 * sz.2 * G := by ac_rfl
 rw [a1, e1, a3, e, a2, e2]
 ac_rfl
theorem Q2_pos (u v : Int) (h : ¬ (u = 0 ∧ v = 0)) : 0 < Q2 (u, v) := by
 have s : ∀ x : Int, 0 ≤ x * x := fun x => by
  rcases Int.le_total 0 x with z | z
  ·exact Int.mul_nonneg z z
  ·exact Int.mul_nonneg_of_nonpos_of_nonpos z z
 have t : ∀ x : Int, x ≠ 0 → 0 < x * x := fun x hx => by
  have := s x
  have : x * x ≠ 0 := fun z => (Int.mul_eq_zero.mp z).elim hx hx
  omega
 have e : 2 * Q2 (u, v) = u * u + v * v + (u + v) * (u + v) := by
  unfold Q2
  dsimp only
  grind
 have s1 := s u
 have s2 := s v
 have s3 := s (u + v)
 by_cases z : u = 0
 ·have := t v (fun w => h ⟨z, w⟩)
  lia
 ·have := t u z
  lia
def tv (k0 k : Int × Int) : Int := k.1 * (2 * k0.1 + k0.2) + k.2 * (k0.1 + 2 * k0.2) - Q2 k
theorem tv_lt {k0 k : Int × Int} (h : k ≠ k0) : tv k0 k < tv k0 k0 := by
 have e : tv k0 k0 - tv k0 k = Q2 (k0.1 - k.1, k0.2 - k.2) := by
  unfold tv Q2
  dsimp only
  grind
 have := Q2_pos (k0.1 - k.1) (k0.2 - k.2) (fun z => h (Prod.ext (by lia) (by lia)))
 lia
theorem vv_bowl {G C : Int} {n A B : Int} {k0 : Int × Int} {p : Pl} (hw : wt G p.2.2 = C * bv n A B (slp p)) : vv G p (C * (n * (2 * k0.1 + k0.2) - A)) (C * (n * (k0.1 + 2 * k0.2) + B)) 1 = C * n * tv k0 (slp p) := by
 unfold vv
 rw [hw]
 unfold bv tv Q2 slp
 dsimp only
 grind
theorem bowl_thin {sz : Int × Int} {n A B : Int} (bp : BP sz n A B) {m : Mp} (bm : BM sz n A B m) {Rf0 : List Pl} (h0 : Rf0 ≠ []) (hl : Rf0.length ≤ 22) (hs : Rf0.Pairwise slt) (hb : ∀ p ∈ Rf0, box (slp p) ∧ (aget m (slp p) = some p.2.2 ∨ St m (slp p) p.2.2)) (all : ∀ k h, aget m k = some h → (k.1, k.2, h) ∈ Rf0) : (∀ p ∈ Rf0, PG p) ∧ thn Rf0 = Rf0.filter fun p => (aget m (slp p)).isSome := by
 have fr : ∀ p ∈ Rf0, FR.Fr p.2.2 ∧ GB p.2.2 := fun p hp => by
  obtain ⟨hx, h | h⟩ := hb p hp
  ·obtain ⟨_, e⟩ := bm.v _ _ h
   obtain ⟨f, g1, g2, g3⟩ := bh_good bp hx
   rw [e]
   exact ⟨f, g1, g2.mono (by decide), g3.mono (by decide)⟩
  ·exact ⟨h.f, h.g⟩
 have pg : ∀ p ∈ Rf0, PG p := fun p hp => by
  obtain ⟨hx, _⟩ := hb p hp
  have x1 := hx.1; have x2 := hx.2.1; have x3 := hx.2.2.1; have x4 := hx.2.2.2
  have x1 : 0 ≤ p.1 := x1
  have x2 : p.1 ≤ 8 := x2
  have x3 : 0 ≤ p.2.1 := x3
  have x4 : p.2.1 ≤ 8 := x4
  exact ⟨by unfold Sz; lia, by unfold Sz; lia, (fr p hp).2⟩
 refine ⟨pg, ?_⟩
 obtain ⟨G0, g0, gd0⟩ := ex_G (Rf0.map fun p => p.2.2) (fun x hx => by
  obtain ⟨p, hp, rfl⟩ := List.mem_map.mp hx
  exact (fr p hp).1.pos)
 obtain ⟨G, hG, gd, sd⟩ : ∃ G : Int, 1 ≤ G ∧ (∀ p ∈ Rf0, p.2.2.2 ∣ G) ∧ sz.2 ∣ G := ⟨G0 * sz.2, pos_mul g0 bp.f.pos, fun p hp => Int.dvd_trans (gd0 _ (List.mem_map.mpr ⟨p, hp, rfl⟩)) (Int.dvd_mul_right _ _), Int.dvd_mul_left _ _⟩
 have cd : Cd G Rf0 := fun p hp => by
  obtain ⟨hx, _⟩ := hb p hp
  exact ⟨hx.1, hx.2.1, hx.2.2.1, hx.2.2.2, (fr p hp).1, gd p hp⟩
 have rf : Rf G Rf0 := ⟨h0, hl, pg, cd, List.pairwise_map.mpr (hs.imp fun {a b} w z => by
  have z1 : a.1 = b.1 := congrArg (·.1) z
  have z2 : a.2.1 = b.2.1 := congrArg (·.2) z
  unfold slt at w
  lia)⟩
 have cp : 0 < wt G sz := by
  have e2 : wt G sz * sz.2 = sz.1 * G := w_mul bp.f.pos sd
  have s0 := bp.s0
  have : 0 < wt G sz * sz.2 := by rw [e2]; exact Int.mul_pos (by lia) (by lia)
  exact Int.pos_of_mul_pos_left this (by have := bp.f.pos; lia)
 have cn : 0 < wt G sz * n := Int.mul_pos cp (by have := bp.n0; lia)
 have wb : ∀ p ∈ Rf0, aget m (slp p) = some p.2.2 → wt G p.2.2 = wt G sz * bv n A B (slp p) := fun p hp h => by
  obtain ⟨hx, e⟩ := bm.v _ _ h
  have d := gd p hp
  rw [e] at d ⊢
  exact wt_bowl bp hx sd d
 have amid : ∀ p ∈ Rf0, St m (slp p) p.2.2 → ∃ a ∈ Rf0, ∃ b ∈ Rf0, aget m (slp a) = some a.2.2 ∧ aget m (slp b) = some b.2.2 ∧ slp a ≠ slp b ∧ a ≠ p ∧ b ≠ p ∧ ∀ X Y D, 1 ≤ D → 2 * vv G p X Y D ≤ vv G a X Y D + vv G b X Y D := fun p hp st => by
  obtain ⟨a, b, ha, hb', ea, eb, nab, s1, s2, le⟩ := st.ab
  have ma := all a ha ea
  have mb := all b hb' eb
  refine ⟨_, ma, _, mb, ea, eb, nab, fun z => ?_, fun z => ?_, fun X Y D hD => ?_⟩
  ·have := st.no
   rw [← z] at this
   have ea : aget m (slp (a.1, a.2, ha)) = some ha := ea
   rw [ea] at this
   cases this
  ·have := st.no
   rw [← z] at this
   have eb : aget m (slp (b.1, b.2, hb')) = some hb' := eb
   rw [eb] at this
   cases this
  ·have fp := (cd p hp)
   have fa := (cd _ ma)
   have fb := (cd _ mb)
   obtain ⟨d1, w1⟩ := wt_sum fp.f.pos fp.f.pos fp.d fp.d
   obtain ⟨d2, w2⟩ := wt_sum (x := ha) (y := hb') fa.f.pos fb.f.pos fa.d fb.d
   have w := wt_le hG (hP_fr fp.f.pos fp.f.pos).pos (hP_fr (x := ha) (y := hb') fa.f.pos fb.f.pos).pos d1 d2 le
   rw [w1, w2] at w
   have w3 := Int.mul_le_mul_of_nonneg_right w (show 0 ≤ D by lia)
   rw [Int.add_mul, Int.add_mul] at w3
   unfold vv
   dsimp only
   have t1 : 2 * p.1 = a.1 + b.1 := s1
   have t2 : 2 * p.2.1 = a.2 + b.2 := s2
   have u1 : 2 * (p.1 * X) = a.1 * X + b.1 * X := by rw [← Int.add_mul, ← t1]; grind
   have u2 : 2 * (p.2.1 * Y) = a.2 * Y + b.2 * Y := by rw [← Int.add_mul, ← t2]; grind
   lia
 unfold thn
 refine List.filter_congr fun p hp => ?_
 obtain ⟨hx, h | h⟩ := hb p hp
 ·rw [h]
  refine (lone_stays hG rf hp ⟨wt G sz * (n * (2 * (slp p).1 + (slp p).2) - A), wt G sz * (n * ((slp p).1 + 2 * (slp p).2) + B), 1, Int.le_refl 1, fun q hq hne => ?_⟩).trans rfl
  have top : ∀ a ∈ Rf0, aget m (slp a) = some a.2.2 → vv G a (wt G sz * (n * (2 * (slp p).1 + (slp p).2) - A)) (wt G sz * (n * ((slp p).1 + 2 * (slp p).2) + B)) 1 ≤ vv G p (wt G sz * (n * (2 * (slp p).1 + (slp p).2) - A)) (wt G sz * (n * ((slp p).1 + 2 * (slp p).2) + B)) 1 ∧ (slp a ≠ slp p → vv G a (wt G sz * (n * (2 * (slp p).1 + (slp p).2) - A)) (wt G sz * (n * ((slp p).1 + 2 * (slp p).2) + B)) 1 < vv G p (wt G sz * (n * (2 * (slp p).1 + (slp p).2) - A)) (wt G sz * (n * ((slp p).1 + 2 * (slp p).2) + B)) 1) := fun a ha h' => by
   rw [vv_bowl (wb a ha h'), vv_bowl (wb p hp h)]
   by_cases z : slp a = slp p
   ·rw [z]
    exact ⟨Int.le_refl _, fun w => absurd rfl w⟩
   ·have := Int.mul_lt_mul_of_pos_left (tv_lt z) cn
    exact ⟨by lia, fun _ => this⟩
  obtain ⟨hx', h' | h'⟩ := hb q hq
  ·exact (top q hq h').2 fun z => hne (nd_inj rf.u q hq p hp z)
  ·obtain ⟨a, ha, b, hb', ea, eb, nab, _, _, am⟩ := amid q hq h'
   have am := am (wt G sz * (n * (2 * (slp p).1 + (slp p).2) - A)) (wt G sz * (n * ((slp p).1 + 2 * (slp p).2) + B)) 1 (Int.le_refl 1)
   obtain ⟨a1, a2⟩ := top a ha ea
   obtain ⟨b1, b2⟩ := top b hb' eb
   by_cases z : slp a = slp p
   ·have := b2 fun w => nab (z.trans w.symm)
    lia
   ·have := a2 z
    lia
 ·rw [h.no]
  show stays Rf0 p = false
  rw [Bool.eq_false_iff]
  intro z
  obtain ⟨X, Y, D, hD, hl⟩ := stays_lone hG rf hp z
  obtain ⟨a, ha, b, hb', _, _, _, na, nb, am⟩ := amid p hp h
  have am := am X Y D hD
  have := hl a ha na
  have := hl b hb' nb
  lia
def f_law_e1 (K : W.Frag) (c : Cls) : En → Res Ev := (mBin ixE (mVar 0) (mC (.int 0)))
def f_law_e2 (K : W.Frag) (c : Cls) : En → Res Ev := (mVar 0)
def f_law_e3 (K : W.Frag) (c : Cls) : En → Res Ev := (mBin ixE (mVar 0) (mC (.int 0)))
def f_law_e4 (K : W.Frag) (c : Cls) : En → Res Ev := (mCallB tupR' (mCons (mBin ixE (mVar 0) (mC (.int 0))) (mCons (mBin ixE (mVar 0) (mC (.int 1))) (mCons (mBin dgetE (mVar 1) (mVar 0)) mNil))))
def f_law_e5 (K : W.Frag) (c : Cls) : En → Res Ev := (mVar 0)
def f_law_e6 (K : W.Frag) (c : Cls) : En → Res Ev := (mCallB tupR' (mCons (mBin ixE (mVar 0) (mC (.int 0))) (mCons (mBin ixE (mVar 0) (mC (.int 1))) (mCons (mBin dgetE (mVar 1) (mVar 0)) mNil))))
def f_law (K : W.Frag) (c : Cls) : MS := (mSeq (mSet 0 (mCall 1 (m__law_stirred K c) (mCons (mVar 0) mNil))) (fun en => (mSeq (mSet 1 (mCall 1 (m__law_bowl_by K c) (mCons (mVar 0) mNil))) (fun en => (mSeq (mSet 2 (mCall 2 (m__law_with_struck K c) (mCons (mVar 1) (mCons (mSl (mVar 0) (mPt (mC (.int 9))) (mPt (mC (.int 20)))) mNil)))) (fun en => (mSeq (mSet 3 (mSl (mComp 1 [2] (mItL (mCallB sortedDE (mCons (mVar 2) mNil))) (mgName 0) mYes (f_law_e6 K c)) mNoP (mPt (mC (.int 16))))) (fun en => (mSeq (mSet 4 (mComp 1 [1] (mItL (mVar 3)) (mgName 0) (mTru (mBin (dinE false) (mCallB tupR' (mCons (mBin ixE (mVar 0) (mC (.int 0))) (mCons (mBin ixE (mVar 0) (mC (.int 1))) mNil))) (mVar 1))) (f_law_e5 K c))) (mSeq (mIfS (mTru (mBin ltE (mCallB lenE (mCons (mVar 4) mNil)) (mCallB lenDE (mCons (mVar 1) mNil)))) (mSeq (mSet 3 (mComp 1 [1] (mItL (mCallB sortedDE (mCons (mVar 1) mNil))) (mgName 0) mYes (f_law_e4 K c))) (mSet 4 (mCallB listE (mCons (mVar 3) mNil)))) mNext) (fun en => (fun en => (mSeq (mIfS (mOr (mTru (mBin (eqE true) (mCall 1 (m_thinned K c) (mCons (mCallB listE (mCons (mVar 3) mNil)) mNil)) (mVar 4))) (mTru (mBin (eqE true) (mComp 1 [] (mItL (mCall 1 (m_staying K c) (mCons (mCallB listE (mCons (mVar 3) mNil)) mNil))) (mgName 0) mYes (f_law_e3 K c)) (mVar 4)))) (mRet (mC (.bool false))) mNext) (mRet (mBin (eqE false) (mComp 1 [] (mItL (mCall 1 (m_struck K c) (mCons (mCallB listE (mCons (mVar 3) mNil)) mNil))) (mgName 0) mYes (f_law_e1 K c)) (mComp 1 [4] (mItL (mVar 3)) (mgName 0) (mTru (mBin (inPE true) (mVar 0) (mVar 1))) (f_law_e2 K c))))) (frz 3 en)) (frz 4 en)))) (frz 3 en))) (frz 2 en))) (frz 1 en))) (frz 0 en)))
def m_law (K : W.Frag) (c : Cls) (ls : List L) : Res L := runF 5 (f_law K c) ls
theorem eq_law (K : W.Frag) (c : Cls) : ∀ ls, m_law K c ls = .bad ∨ runF 5 (f_law K c) ls = m_law K c ls := fun _ => .inr rfl
theorem cut_ints (vs : List Int) (a b : Nat) : ∃ cs : List Int, M.cutD (vs.map .int) (some (a : Int)) (some (b : Int)) = cs.map .int ∧ (∀ x ∈ cs, x ∈ vs) ∧ cs.length ≤ b := by
 refine ⟨(vs.drop (HT.sIx vs.length 0 (some (a : Int)))).take (HT.sIx vs.length vs.length (some (b : Int)) - HT.sIx vs.length 0 (some (a : Int))), ?_, fun x hx => List.mem_of_mem_drop (List.mem_of_mem_take hx), ?_⟩
 ·unfold M.cutD
  rw [List.length_map, List.map_take, List.map_drop]
 ·rw [List.length_take, HT.sIx_nat]
  lia
theorem pr_sz {x : Int} (h : 0 ≤ x ∧ x < PR) : Sz 200 x := by
 have : Sz 200 PR := by unfold Sz PR; decide
 exact Sz.le this (by have := h.1; have := h.2; lia)
theorem eq_l {x y : Ev} {ps : List Pl} (h1 : dat x = some (.list (ps.map plD))) (h2 : dat y = some (.list (ps.map plD))) (b : Bool) : eqE b x y = .ok (.p (.bool (!b))) := eqE_same h1 h2 (sh_pls _) b
theorem law_end (K : W.Frag) (c : Cls) {sz : Int × Int} {n A B : Int} (bp : BP sz n A B) {m : Mp} (bm : BM sz n A B m) {Rr Pp : List Pl} (h0 : Rr ≠ []) (hl : Rr.length ≤ 22) (hs : Rr.Pairwise slt) (hb : ∀ p ∈ Rr, box (slp p) ∧ (aget m (slp p) = some p.2.2 ∨ St m (slp p) p.2.2)) (all : ∀ k h, aget m k = some h → (k.1, k.2, h) ∈ Rr) (ep : Pp = Rr.filter fun p => (aget m (slp p)).isSome) (s0 s1 s2 : Option L) : (mSeq (mIfS (mOr (mTru (mBin (eqE true) (mCall 1 (m_thinned K c) (mCons (mCallB listE (mCons (mVar 3) mNil)) mNil)) (mVar 4))) (mTru (mBin (eqE true) (mComp 1 [] (mItL (mCall 1 (m_staying K c) (mCons (mCallB listE (mCons (mVar 3) mNil)) mNil))) (mgName 0) mYes (f_law_e3 K c)) (mVar 4)))) (mRet (mC (.bool false))) mNext) (mRet (mBin (eqE false) (mComp 1 [] (mItL (mCall 1 (m_struck K c) (mCons (mCallB listE (mCons (mVar 3) mNil)) mNil))) (mgName 0) mYes (f_law_e1 K c)) (mComp 1 [4] (mItL (mVar 3)) (mgName 0) (mTru (mBin (inPE true) (mVar 0) (mVar 1))) (f_law_e2 K c))))) [s0, s1, s2, some (.p (.list (Rr.map plD))), some (.p (.list (Pp.map plD)))] = some (.rt (.p (.bool true))) := by
 obtain ⟨pg, th⟩ := bowl_thin bp bm h0 hl hs hb all
 rw [← ep] at th
 have h1 : m_thinned K c [.p (.list (Rr.map plD))] = .ok (.o (.list (Pp.map plD))) := by rw [← th]; exact thinned_good K c hl pg
 have h2 := staying_good K c hl pg
 obtain ⟨f, h3⟩ := struck_ok K c hl pg
 rw [th] at h3
 have li : ∀ {en : En}, en[3]? = some (some (.p (.list (Rr.map plD)))) → mCallB listE (mCons (mVar 3) mNil) en = .ok (.f (.list (Rr.map plD))) := fun h => by
  simp only [mCallB, mCons, mNil, mVar, h, Res.bind, Ev.c, listE, seqOf]
 have l3 := li (en := [s0, s1, s2, some (.p (.list (Rr.map plD))), some (.p (.list (Pp.map plD)))]) rfl
 have v4 : (mVar 4) [s0, s1, s2, some (.p (.list (Rr.map plD))), some (.p (.list (Pp.map plD)))] = .ok (.p (.list (Pp.map plD))) := rfl
 have ta : (mTru (mBin (eqE true) (mCall 1 (m_thinned K c) (mCons (mCallB listE (mCons (mVar 3) mNil)) mNil)) (mVar 4))) [s0, s1, s2, some (.p (.list (Rr.map plD))), some (.p (.list (Pp.map plD)))] = .ok false := by
  have e := eq_l (x := .p (.list (Pp.map plD))) (y := .p (.list (Pp.map plD))) (ps := Pp) rfl rfl true
  simp only [mTru, mBin, mCall, mCons, mNil, l3, v4, List.length_cons, List.length_nil, if_true, Nat.zero_add, Res.bind, Ev.c, callR, argsL, argL, h1, retE, e, truthR, Bool.not_true]
 have hst : (stayL Rr).map stD = (stayL Rr).map stD := rfl
 have it6 : (mItL (mCall 1 (m_staying K c) (mCons (mCallB listE (mCons (mVar 3) mNil)) mNil))) [s0, s1, s2, some (.p (.list (Rr.map plD))), some (.p (.list (Pp.map plD)))] = .ok ((stayL Rr).map stD) := by
  simp only [mItL, mCall, mCons, mNil, l3, List.length_cons, List.length_nil, if_true, Nat.zero_add, Res.bind, Ev.c, callR, argsL, argL, h2, retE, listR]
 have cm6 : mapO (compItem 1 [] (mgName 0) mYes (f_law_e3 K c) [s0, s1, s2, some (.p (.list (Rr.map plD))), some (.p (.list (Pp.map plD)))]) ((stayL Rr).map stD) = some ((stayL Rr).map fun x => plD x.1) := mapO_map _ fun x _ => rfl
 have lst : (stayL Rr).length ≤ 22 := by unfold stayL; rw [List.length_map]; exact Nat.le_trans (List.length_filter_le _ _) hl
 have c6 := comp_l (n := 1) (js := []) it6 (by rw [List.length_map]; lia) cm6
 have e6 : ((stayL Rr).map fun x => plD x.1) = Pp.map plD := by
  rw [← th]
  unfold stayL thn
  rw [List.map_map]
  rfl
 rw [e6] at c6
 have tb : (mTru (mBin (eqE true) (mComp 1 [] (mItL (mCall 1 (m_staying K c) (mCons (mCallB listE (mCons (mVar 3) mNil)) mNil))) (mgName 0) mYes (f_law_e3 K c)) (mVar 4))) [s0, s1, s2, some (.p (.list (Rr.map plD))), some (.p (.list (Pp.map plD)))] = .ok false := by
  have e := eq_l (x := .p (.list (Pp.map plD))) (y := .p (.list (Pp.map plD))) (ps := Pp) rfl rfl true
  unfold mTru mBin
  rw [c6, v4]
  simp only [Res.bind, Ev.c, e, truthR, Bool.not_true]
 have t6 : (mOr (mTru (mBin (eqE true) (mCall 1 (m_thinned K c) (mCons (mCallB listE (mCons (mVar 3) mNil)) mNil)) (mVar 4))) (mTru (mBin (eqE true) (mComp 1 [] (mItL (mCall 1 (m_staying K c) (mCons (mCallB listE (mCons (mVar 3) mNil)) mNil))) (mgName 0) mYes (f_law_e3 K c)) (mVar 4)))) [s0, s1, s2, some (.p (.list (Rr.map plD))), some (.p (.list (Pp.map plD)))] = .ok false := by
  unfold mOr
  rw [ta, bind_ok]
  exact tb
 refine (seq_nx (if_f t6)).trans (ret_p ?_)
 have it7 : (mItL (mCall 1 (m_struck K c) (mCons (mCallB listE (mCons (mVar 3) mNil)) mNil))) [s0, s1, s2, some (.p (.list (Rr.map plD))), some (.p (.list (Pp.map plD)))] = .ok ((Rr.filter fun p => !decide (p ∈ Pp)).map fun p => .tuple [plD p, f p]) := by
  simp only [mItL, mCall, mCons, mNil, l3, List.length_cons, List.length_nil, if_true, Nat.zero_add, Res.bind, Ev.c, callR, argsL, argL, h3, retE, listR]
 have cm7 : mapO (compItem 1 [] (mgName 0) mYes (f_law_e1 K c) [s0, s1, s2, some (.p (.list (Rr.map plD))), some (.p (.list (Pp.map plD)))]) ((Rr.filter fun p => !decide (p ∈ Pp)).map fun p => .tuple [plD p, f p]) = some ((Rr.filter fun p => !decide (p ∈ Pp)).map plD) := mapO_map _ fun x _ => rfl
 have lf7 : (Rr.filter fun p => !decide (p ∈ Pp)).length ≤ 22 := Nat.le_trans (List.length_filter_le _ _) hl
 have c7 := comp_l (n := 1) (js := []) it7 (by rw [List.length_map]; lia) cm7
 have cm8 : mapO (compItem 1 [4] (mgName 0) (mTru (mBin (inPE true) (mVar 0) (mVar 1))) (f_law_e2 K c) [s0, s1, s2, some (.p (.list (Rr.map plD))), some (.p (.list (Pp.map plD)))]) (Rr.map plD) = some ((Rr.filter fun p => !decide (p ∈ Pp)).map plD) := by
  refine mapO_flt _ fun p hp => ?_
  have nn := nin_pl true p Pp
  have t : mTru (mBin (inPE true) (mVar 0) (mVar 1)) [some (.p (plD p)), some (.p (.list (Pp.map plD)))] = .ok (!decide (p ∈ Pp)) := by
   simp only [mTru, mBin, mVar, List.getElem?_cons_zero, List.getElem?_cons_succ, if_true, Res.bind, Ev.c, nn, truthR]
  have e : f_law_e2 K c [some (.p (plD p)), some (.p (.list (Pp.map plD)))] = .ok (.p (plD p)) := rfl
  unfold compItem
  simp only [mgName, capE, capO, List.getElem?_cons_zero, List.getElem?_cons_succ, List.set_cons_zero, List.map_cons, List.map_nil, List.replicate, List.cons_append, List.nil_append, t, e, Ev.c]
  cases decide (p ∈ Pp) <;> rfl
 have c8 := comp_l (n := 1) (js := [4]) (fi := mItL (mVar 3)) (tg := mgName 0) (ft := mTru (mBin (inPE true) (mVar 0) (mVar 1))) (fe := f_law_e2 K c) (en := [s0, s1, s2, some (.p (.list (Rr.map plD))), some (.p (.list (Pp.map plD)))]) (ds := Rr.map plD) rfl (by rw [List.length_map]; lia) cm8
 have e := eq_l (x := .p (.list ((Rr.filter fun p => !decide (p ∈ Pp)).map plD))) (y := .p (.list ((Rr.filter fun p => !decide (p ∈ Pp)).map plD))) (ps := Rr.filter fun p => !decide (p ∈ Pp)) rfl rfl false
 exact bin_ff c7 c8 e
theorem law_ok (K : W.Frag) (c : Cls) (hk : KitF K c) (ns : List Int) (hn : ns.length ≤ 63) : m_law K c [.p (.list (ns.map .int))] = .ok (.p (.bool true)) := by
 obtain ⟨vs, v1, v2, hs⟩ := stir_ok K c ns hn
 have gv : ∀ v ∈ vs, 0 ≤ v ∧ Sz 200 v := fun v hv => ⟨(v2 v hv).1, pr_sz (v2 v hv)⟩
 obtain ⟨sz, n, A, B, m, bp, bm, m8, mn, hbo⟩ := bowl_ok K c v1.2 gv
 obtain ⟨cs, hcs, hmc, hcl⟩ := cut_ints vs 9 20
 obtain ⟨mm, wm, mm4, hws⟩ := ws_ok K c bp bm m8 mn (cs := cs) (fun x hx => gv x (hmc x hx))
 show runF 5 (f_law K c) [.p (.list (ns.map .int))] = _
 refine run_rt ?_
 rw [show startE 5 [.p (.list (ns.map .int))] = [some (.p (.list (ns.map .int))), none, none, none, none] from rfl]
 unfold f_law
 have e0 : (mCall 1 (m__law_stirred K c) (mCons (mVar 0) mNil)) [some (.p (.list (ns.map .int))), none, none, none, none] = .ok (.f (.list (vs.map .int))) := by
  simp only [mCall, mCons, mNil, mVar, List.getElem?_cons_zero, List.length_cons, List.length_nil, if_true, Nat.zero_add, Res.bind, Ev.c, callR, argsL, argL, hs, retE]
 refine (seq_nx (set_f e0)).trans ?_
 simp only [List.set_cons_zero, frz, List.getElem?_cons_zero]
 have e1 : (mCall 1 (m__law_bowl_by K c) (mCons (mVar 0) mNil)) [some (.p (.list (vs.map .int))), none, none, none, none] = .ok (.f (.dict (encM slD frD m))) := by
  simp only [mCall, mCons, mNil, mVar, List.getElem?_cons_zero, List.length_cons, List.length_nil, if_true, Nat.zero_add, Res.bind, Ev.c, callR, argsL, argL, hbo, retE]
 refine (seq_nx (set_f e1)).trans ?_
 simp only [List.set_cons_succ, List.set_cons_zero, List.getElem?_cons_succ, List.getElem?_cons_zero]
 have hsl : (mSl (mVar 0) (mPt (mC (.int 9))) (mPt (mC (.int 20)))) [some (.p (.list (vs.map .int))), some (.p (.dict (encM slD frD m))), none, none, none] = .ok (.f (.list (cs.map .int))) := by
  have hcs : M.cutD (vs.map .int) (some 9) (some 20) = cs.map .int := hcs
  simp only [mSl, mVar, mC, mPt, List.getElem?_cons_zero, Res.bind, Ev.c, lstOf, hcs]
 have e2 : (mCall 2 (m__law_with_struck K c) (mCons (mVar 1) (mCons (mSl (mVar 0) (mPt (mC (.int 9))) (mPt (mC (.int 20)))) mNil))) [some (.p (.list (vs.map .int))), some (.p (.dict (encM slD frD m))), none, none, none] = .ok (.f (.dict (encM slD frD mm))) := by
  have vh : (mVar 1) [some (.p (.list (vs.map .int))), some (.p (.dict (encM slD frD m))), none, none, none] = .ok (.p (.dict (encM slD frD m))) := rfl
  simp only [mCall, mCons, mNil, vh, hsl, List.length_cons, List.length_nil, if_true, Nat.zero_add, Nat.reduceAdd, Res.bind, Ev.c, callR, argsL, argL, hws, retE]
 refine (seq_nx (set_f e2)).trans ?_
 simp only [List.set_cons_succ, List.set_cons_zero, List.getElem?_cons_succ, List.getElem?_cons_zero]
 have r3 := rf_comp K c (fe0 := f_law_e6 K c) rfl (i := 2) (en := [some (.p (.list (vs.map .int))), some (.p (.dict (encM slD frD m))), some (.p (.dict (encM slD frD mm))), none, none]) (m := mm) rfl (by lia)
 have cut16 : M.cutD ((roofOf mm).map plD) none (some 16) = ((roofOf mm).take 16).map plD := by
  unfold M.cutD
  rw [HT.sIx_none, show (some (16 : Int)) = some ((16 : Nat) : Int) from rfl, HT.sIx_nat, List.drop_zero, List.length_map, Nat.sub_zero, List.map_take]
  by_cases w : 16 ≤ (roofOf mm).length
  ·rw [Nat.min_eq_left w]
  ·rw [Nat.min_eq_right (by lia), List.take_of_length_le (by rw [List.length_map]; lia), List.take_of_length_le (by rw [List.length_map]; lia)]
 have e3 : (mSl (mComp 1 [2] (mItL (mCallB sortedDE (mCons (mVar 2) mNil))) (mgName 0) mYes (f_law_e6 K c)) mNoP (mPt (mC (.int 16)))) [some (.p (.list (vs.map .int))), some (.p (.dict (encM slD frD m))), some (.p (.dict (encM slD frD mm))), none, none] = .ok (.f (.list (((roofOf mm).take 16).map plD))) := by
  unfold mSl
  rw [r3]
  simp only [Res.bind, Ev.c, lstOf, mNoP, mPt, mC, cut16]
 refine (seq_nx (set_f e3)).trans ?_
 simp only [List.set_cons_succ, List.set_cons_zero, List.getElem?_cons_succ, List.getElem?_cons_zero]
 have inR0 : ∀ p ∈ (roofOf mm).take 16, aget mm (slp p) = some p.2.2 := fun p hp => roof_mem.mp (List.mem_of_mem_take hp)
 have l16 : ((roofOf mm).take 16).length ≤ 16 := by rw [List.length_take]; lia
 have s16 : ((roofOf mm).take 16).Pairwise slt := (roof_srt wm.nd).sublist (List.take_sublist _ _)
 have mne : (roofOf mm).take 16 ≠ [] := fun z => by
  have := congrArg List.length z
  rw [List.length_take, roofOf_len, List.length_nil] at this
  have : mm = [] := List.length_eq_zero_iff.mp (by lia)
  cases h : m with
  | nil => exact mn h
  | cons e r =>
   obtain ⟨v, hv⟩ := aget_mem (m := m) (e := e) (by rw [h]; exact .head _)
   have := wm.sub _ _ hv
   rename_i q
   rw [q] at this
   cases this
 generalize (roofOf mm).take 16 = R0 at *
 have cm4 : mapO (compItem 1 [1] (mgName 0) (mTru (mBin (dinE false) (mCallB tupR' (mCons (mBin ixE (mVar 0) (mC (.int 0))) (mCons (mBin ixE (mVar 0) (mC (.int 1))) mNil))) (mVar 1))) (f_law_e5 K c) [some (.p (.list (vs.map .int))), some (.p (.dict (encM slD frD m))), some (.p (.dict (encM slD frD mm))), some (.p (.list ((R0).map plD))), none]) (R0.map plD) = some ((R0.filter fun p => (aget m (slp p)).isSome).map plD) := by
  refine mapO_flt _ fun p hp => ?_
  have hd := dlook_sl (ev := frD) m (slp p)
  have hdin : dinE false (.p (.tuple [.int p.1, .int p.2.1])) (.p (.dict (encM slD frD m))) = .ok (.p (.bool (aget m (slp p)).isSome)) := by
   have hd : dlook (encM slD frD m) (.tuple [.int p.1, .int p.2.1]) = _ := hd
   simp only [dinE, dctOf, hd, Option.isSome_map]
   rfl
  have t : (mTru (mBin (dinE false) (mCallB tupR' (mCons (mBin ixE (mVar 0) (mC (.int 0))) (mCons (mBin ixE (mVar 0) (mC (.int 1))) mNil))) (mVar 1))) [some (.p (plD p)), some (.p (.dict (encM slD frD m)))] = .ok ((aget m (slp p)).isSome) := by
   simp only [mTru, mBin, mVar, mC, mCallB, tupR', pureL, mCons, mNil, ix_pl0, ix_pl1, List.getElem?_cons_zero, List.getElem?_cons_succ, List.length_cons, List.length_nil, if_true, Nat.zero_add, Nat.reduceAdd, Nat.reduceLeDiff, Res.bind, Ev.c, hdin, truthR]
  have e : f_law_e5 K c [some (.p (plD p)), some (.p (.dict (encM slD frD m)))] = .ok (.p (plD p)) := rfl
  unfold compItem
  simp only [mgName, capE, capO, List.getElem?_cons_zero, List.getElem?_cons_succ, List.set_cons_zero, List.map_cons, List.map_nil, List.replicate, List.cons_append, List.nil_append, t, e, Ev.c]
  cases (aget m (slp p)).isSome <;> rfl
 have e4 := comp_l (n := 1) (js := [1]) (fi := mItL (mVar 3)) (tg := mgName 0) (ft := (mTru (mBin (dinE false) (mCallB tupR' (mCons (mBin ixE (mVar 0) (mC (.int 0))) (mCons (mBin ixE (mVar 0) (mC (.int 1))) mNil))) (mVar 1)))) (fe := f_law_e5 K c) (en := [some (.p (.list (vs.map .int))), some (.p (.dict (encM slD frD m))), some (.p (.dict (encM slD frD mm))), some (.p (.list ((R0).map plD))), none]) (ds := R0.map plD) rfl (by rw [List.length_map]; lia) cm4
 refine (seq_nx (set_f e4)).trans ?_
 simp only [List.set_cons_succ, List.set_cons_zero]
 have lenP : lenE [.b (.list ((R0.filter fun p => (aget m (slp p)).isSome).map plD))] = .ok (.p (.int ((R0.filter fun p => (aget m (slp p)).isSome).length : Nat))) := by simp [lenE, seqOf]
 have lenH : lenDE [.p (.dict (encM slD frD m))] = .ok (.p (.int (m.length : Nat))) := by
  simp only [lenDE, dctOf, dsp_sl]
  unfold N.encM
  rw [List.length_map]
 have t5 : (mTru (mBin ltE (mCallB lenE (mCons (mVar 4) mNil)) (mCallB lenDE (mCons (mVar 1) mNil)))) [some (.p (.list (vs.map .int))), some (.p (.dict (encM slD frD m))), some (.p (.dict (encM slD frD mm))), some (.p (.list ((R0).map plD))), some (.o (.list ((R0.filter fun p => (aget m (slp p)).isSome).map plD)))] = .ok (decide (((R0.filter fun p => (aget m (slp p)).isSome).length : Int) < (m.length : Nat))) := by
  simp only [mTru, mBin, mVar, mCallB, mCons, mNil, List.getElem?_cons_zero, List.getElem?_cons_succ, Res.bind, Ev.c, lenP, lenH, ltE, intE0, truthR]
 by_cases z : ((R0.filter fun p => (aget m (slp p)).isSome).length : Int) < (m.length : Nat)
 ·rw [decide_eq_true z] at t5
  have r5 := rf_comp K c (fe0 := f_law_e4 K c) rfl (i := 1) (en := [some (.p (.list (vs.map .int))), some (.p (.dict (encM slD frD m))), some (.p (.dict (encM slD frD mm))), some (.p (.list ((R0).map plD))), some (.o (.list ((R0.filter fun p => (aget m (slp p)).isSome).map plD)))]) (m := m) rfl (by lia)
  have hL : (mCallB listE (mCons (mVar 3) mNil)) [some (.p (.list (vs.map .int))), some (.p (.dict (encM slD frD m))), some (.p (.dict (encM slD frD mm))), some (.o (.list ((roofOf m).map plD))), some (.o (.list ((R0.filter fun p => (aget m (slp p)).isSome).map plD)))] = .ok (.f (.list ((roofOf m).map plD))) := by
   simp only [mCallB, mCons, mNil, mVar, List.getElem?_cons_zero, List.getElem?_cons_succ, Res.bind, Ev.c, listE, seqOf]
  refine (seq_nx ((if_t t5).trans ((seq_nx (set_f r5)).trans (set_f hL)))).trans ?_
  simp only [List.set_cons_succ, List.set_cons_zero, List.getElem?_cons_succ, List.getElem?_cons_zero]
  have inR : ∀ p ∈ roofOf m, aget m (slp p) = some p.2.2 := fun p hp => roof_mem.mp hp
  refine law_end K c bp bm (fun w => mn (List.length_eq_zero_iff.mp (by rw [← roofOf_len, w]; rfl))) (by rw [roofOf_len]; lia) (roof_srt bm.nd) (fun p hp => ⟨(bm.v _ _ (inR p hp)).1, .inl (inR p hp)⟩) (fun k h e => roof_mem.mpr e) ?_ _ _ _
  exact (List.filter_eq_self.mpr fun p hp => by rw [inR p hp]; rfl).symm
 ·rw [decide_eq_false z] at t5
  refine (seq_nx (if_f t5)).trans ?_
  simp only [List.set_cons_succ, List.set_cons_zero, List.getElem?_cons_succ, List.getElem?_cons_zero]
  refine law_end K c bp bm mne (by lia) s16 (fun p hp => wm.all _ _ (inR0 p hp)) (fun k h e => ?_) rfl _ _ _
  have nd : ((R0.filter fun p => (aget m (slp p)).isSome).map slp).Nodup := List.pairwise_map.mpr ((s16.filter _).imp fun {a b} w z => by
   have z1 : a.1 = b.1 := congrArg (·.1) z
   have z2 : a.2.1 = b.2.1 := congrArg (·.2) z
   unfold slt at w
   lia)
  have pm := perm_sub (m := m.map (·.1)) nd (fun s hs => by
   obtain ⟨p, hp, rfl⟩ := List.mem_map.mp hs
   exact mem_keys.mpr (List.mem_filter.mp hp).2) (by rw [List.length_map, List.length_map]; lia)
  have hk' : k ∈ m.map (·.1) := mem_keys.mpr (by rw [e]; rfl)
  obtain ⟨p, hp, ep⟩ := List.mem_map.mp (pm.mem_iff.mpr hk')
  have pR := (List.mem_filter.mp hp).1
  have a1 := inR0 p pR
  rw [ep, wm.sub k h e] at a1
  have : (k.1, k.2, h) = p := by
   have e1 : p.1 = k.1 := congrArg (·.1) ep
   have e2 : p.2.1 = k.2 := congrArg (·.2) ep
   exact Prod.ext e1.symm (Prod.ext e2.symm (Option.some.inj a1))
  rw [this]
  exact pR
section
variable {P : Program} {w : World} {K : W.Frag} {mg : Str → Option Value} {base : Heap}
theorem sc_minus : FnScope ["a", "b"] ["a", "b"] (defScope s_minus) := ⟨rfl, rfl, rfl, by decide +kernel, rfl, by decide +kernel, by decide +kernel⟩
theorem ok_minus {c : Cls} (Df : Def K mg "minus" ["a", "b"] s_minus) (B : Blt mg) (C : ClsM mg c) (O : ClsO mg base c) (hk : KitF K c) (c_fraction : Cal P w K mg base 2 "fraction" 2 (m_fraction K c)) : Cal P w K mg base 3 "minus" 2 (m_minus K c) := by
 refine calM (k := 2) Df sc_minus rfl (fun f cdv A outer s H E hr => ⟨f_minus K c, ?_, eq_minus K c⟩)
 exact (dss_one (ds_ret (de_callC c_fraction hr passS (da_cons (de_op op_sub om_sub noX_intE0 (de_op op_mulW om_mul noX_intE (de_ix (dv 0) de_int (fun _ _ => rfl)) (de_ix (dv 1) de_int (fun _ _ => rfl))) (de_op op_mulW om_mul noX_intE (de_ix (dv 1) de_int (fun _ _ => rfl)) (de_ix (dv 0) de_int (fun _ _ => rfl)))) (da_cons (de_op op_mulW om_mul noX_intE (de_ix (dv 0) de_int (fun _ _ => rfl)) (de_ix (dv 1) de_int (fun _ _ => rfl))) da_nil)))))
theorem sc_over : FnScope ["a", "b"] ["a", "b"] (defScope s_over) := ⟨rfl, rfl, rfl, by decide +kernel, rfl, by decide +kernel, by decide +kernel⟩
theorem ok_over {c : Cls} (Df : Def K mg "over" ["a", "b"] s_over) (B : Blt mg) (C : ClsM mg c) (O : ClsO mg base c) (hk : KitF K c) (c_fraction : Cal P w K mg base 2 "fraction" 2 (m_fraction K c)) : Cal P w K mg base 3 "over" 2 (m_over K c) := by
 refine calM (k := 2) Df sc_over rfl (fun f cdv A outer s H E hr => ⟨f_over K c, ?_, eq_over K c⟩)
 exact (dss_one (ds_ret (de_callC c_fraction hr passS (da_cons (de_op op_mulW om_mul noX_intE (de_ix (dv 0) de_int (fun _ _ => rfl)) (de_ix (dv 1) de_int (fun _ _ => rfl))) (da_cons (de_op op_mulW om_mul noX_intE (de_ix (dv 0) de_int (fun _ _ => rfl)) (de_ix (dv 1) de_int (fun _ _ => rfl))) da_nil)))))
theorem sc_law : FnScope ["_law_script", "_law_high", "_law_more", "_law_roof", "_law_planes"] ["_law_script"] (defScope s_law) := ⟨rfl, rfl, rfl, by decide +kernel, rfl, by decide +kernel, by decide +kernel⟩
theorem ok_law {c : Cls} {f : Addr} {fd : FuncData} (F : Fun K "law" "law" s_law f fd) (B : Blt mg) (C : ClsM mg c) (O : ClsO mg base c) (hk : KitF K c) (c_struck : Cal P w K mg base 9 "struck" 1 (m_struck K c)) (c_thinned : Cal P w K mg base 8 "thinned" 1 (m_thinned K c)) (c_staying : Cal P w K mg base 8 "staying" 1 (m_staying K c)) (c__law_with_struck : Cal P w K mg base 3 "_law_with_struck" 2 (m__law_with_struck K c)) (c__law_bowl_by : Cal P w K mg base 3 "_law_bowl_by" 1 (m__law_bowl_by K c)) (c__law_stirred : Cal P w K mg base 2 "_law_stirred" 1 (m__law_stirred K c)) : FnOk P w K mg base (CXr P w) 10 f fd ["_law_script"] (spM K 1 (m_law K c)) := by
 refine fnM (k := 9) F sc_law rfl (fun cdv A outer s H E hr => ⟨f_law K c, ?_, eq_law K c⟩)
 exact (dss_cons (ds_set (i := 0) sc_law.nd rfl (Or.inl rfl) (de_callC c__law_stirred hr passS (da_cons (dv 0) da_nil))) (dss_frz 0 (dss_cons (ds_set (i := 1) sc_law.nd rfl (Or.inr rfl) (de_callC c__law_bowl_by hr passS (da_cons (dv 0) da_nil))) (dss_frz 1 (dss_cons (ds_set (i := 2) sc_law.nd rfl (Or.inr rfl) (de_callC c__law_with_struck hr passS (da_cons (dv 1) (da_cons (de_sl (dv 0) (dp_some de_int) (dp_some de_int)) da_nil)))) (dss_frz 2 (dss_cons (ds_set (i := 3) sc_law.nd rfl (Or.inl rfl) (de_sl (de_comp (xs := ["_law_slope"]) (ys := ["_law_more"]) (js := [2]) (cl := [("_law_more", s.heap.objs.size + 1 + 1)]) rfl (di_list (de_callB (SRT.call_sortD rfl) cm_sortedD noX_sortedD rfl B.sorted_ bB_sorted (da_cons (dv 2) da_nil))) (cl_ok (ys := ["_law_more"]) (js := [2]) rfl (List.forall_mem_cons.mpr ⟨rfl, (fun _ h => nomatch h)⟩) (cap_cons ⟨rfl, .inl rfl, .inl rfl, rfl, rfl⟩ cap_nil) (by decide +kernel) (by decide +kernel)) (cap_cons ⟨rfl, .inl rfl, .inl rfl, rfl, rfl⟩ cap_nil) (by decide +kernel) rfl (by decide +kernel) rfl (by decide) (fun C s₀ H₀ ex pn => (dg_name (i := 0) (show (["_law_slope", "_law_more"] : List Str).Nodup by decide +kernel) rfl (Or.inl rfl))) (fun C s₀ H₀ ex pn => dts_nil) (fun C s₀ H₀ ex pn => (de_tup (da_cons (de_ix (dv 0) de_int (fun _ _ => rfl)) (da_cons (de_ix (dv 0) de_int (fun _ _ => rfl)) (da_cons (de_dget (u1 hr) (dv 1) (dv 0) (fun _ _ => rfl)) da_nil)))))) dp_none (dp_some de_int))) (dss_frz 3 (dss_cons (ds_set (i := 4) sc_law.nd rfl (Or.inr rfl) (de_comp (xs := ["_law_plane"]) (ys := ["_law_high"]) (js := [1]) (cl := [("_law_high", s.heap.objs.size + 1)]) rfl (di_list (dv 3)) (cl_ok (ys := ["_law_high"]) (js := [1]) rfl (List.forall_mem_cons.mpr ⟨rfl, (fun _ h => nomatch h)⟩) (cap_cons ⟨rfl, .inl rfl, .inl rfl, rfl, rfl⟩ cap_nil) (by decide +kernel) (by decide +kernel)) (cap_cons ⟨rfl, .inl rfl, .inl rfl, rfl, rfl⟩ cap_nil) (by decide +kernel) rfl (by decide +kernel) rfl (by decide) (fun C s₀ H₀ ex pn => (dg_name (i := 0) (show (["_law_plane", "_law_high"] : List Str).Nodup by decide +kernel) rfl (Or.inl rfl))) (fun C s₀ H₀ ex pn => (dts_one (dt_din (u1 hr) (de_tup (da_cons (de_ix (dv 0) de_int (fun _ _ => rfl)) (da_cons (de_ix (dv 0) de_int (fun _ _ => rfl)) da_nil))) (dv 1)))) (fun C s₀ H₀ ex pn => (dv 0)))) (dss_cons (ds_if (dt_cmp op_lt om_cmp noX_intE0 (de_callB call_len_seq cm_len noX_len rfl B.len_ PySem.boot_len (da_cons (dv 4) da_nil)) (de_callB call_lenDE cm_lenD noX_lenD rfl B.len_ PySem.boot_len (da_cons (dv 1) da_nil)) (nomark _)) (dss_cons (ds_setC (i := 3) sc_law.nd rfl (Or.inl rfl) (xs := ["_law_slope"]) (ys := ["_law_high"]) (js := [1]) (cl := [("_law_high", s.heap.objs.size + 1)]) rfl (di_list (de_callB (SRT.call_sortD rfl) cm_sortedD noX_sortedD rfl B.sorted_ bB_sorted (da_cons (dv 1) da_nil))) (cl_ok (ys := ["_law_high"]) (js := [1]) rfl (List.forall_mem_cons.mpr ⟨rfl, (fun _ h => nomatch h)⟩) (cap_cons ⟨rfl, .inl rfl, .inl rfl, rfl, rfl⟩ cap_nil) (by decide +kernel) (by decide +kernel)) (cap_cons ⟨rfl, .inl rfl, .inl rfl, rfl, rfl⟩ cap_nil) (by decide +kernel) rfl (by decide +kernel) rfl (by decide) (fun C s₀ H₀ ex pn => (dg_name (i := 0) (show (["_law_slope", "_law_high"] : List Str).Nodup by decide +kernel) rfl (Or.inl rfl))) (fun C s₀ H₀ ex pn => dts_nil) (fun C s₀ H₀ ex pn => (de_tup (da_cons (de_ix (dv 0) de_int (fun _ _ => rfl)) (da_cons (de_ix (dv 0) de_int (fun _ _ => rfl)) (da_cons (de_dget (u1 hr) (dv 1) (dv 0) (fun _ _ => rfl)) da_nil)))))) (dss_one (ds_set (i := 4) sc_law.nd rfl (Or.inr rfl) (de_callTy call_list_of cm_list noX_list rfl B.list_ bT_list (da_cons (dv 3) da_nil))))) dss_nil) (dss_frz (f := (fun en => (mSeq (mIfS (mOr (mTru (mBin (eqE true) (mCall 1 (m_thinned K c) (mCons (mCallB listE (mCons (mVar 3) mNil)) mNil)) (mVar 4))) (mTru (mBin (eqE true) (mComp 1 [] (mItL (mCall 1 (m_staying K c) (mCons (mCallB listE (mCons (mVar 3) mNil)) mNil))) (mgName 0) mYes (f_law_e3 K c)) (mVar 4)))) (mRet (mC (.bool false))) mNext) (mRet (mBin (eqE false) (mComp 1 [] (mItL (mCall 1 (m_struck K c) (mCons (mCallB listE (mCons (mVar 3) mNil)) mNil))) (mgName 0) mYes (f_law_e1 K c)) (mComp 1 [4] (mItL (mVar 3)) (mgName 0) (mTru (mBin (inPE true) (mVar 0) (mVar 1))) (f_law_e2 K c))))) (frz 3 en))) 4 (dss_frz (f := (mSeq (mIfS (mOr (mTru (mBin (eqE true) (mCall 1 (m_thinned K c) (mCons (mCallB listE (mCons (mVar 3) mNil)) mNil)) (mVar 4))) (mTru (mBin (eqE true) (mComp 1 [] (mItL (mCall 1 (m_staying K c) (mCons (mCallB listE (mCons (mVar 3) mNil)) mNil))) (mgName 0) mYes (f_law_e3 K c)) (mVar 4)))) (mRet (mC (.bool false))) mNext) (mRet (mBin (eqE false) (mComp 1 [] (mItL (mCall 1 (m_struck K c) (mCons (mCallB listE (mCons (mVar 3) mNil)) mNil))) (mgName 0) mYes (f_law_e1 K c)) (mComp 1 [4] (mItL (mVar 3)) (mgName 0) (mTru (mBin (inPE true) (mVar 0) (mVar 1))) (f_law_e2 K c)))))) 3 (dss_cons (ds_if (DW.t (dw_or (dt_cmp (op_neP (u64 hr)) om_eq noX_eq (de_callC c_thinned hr passS (da_cons (de_callTy call_list_of cm_list noX_list rfl B.list_ bT_list (da_cons (dv 3) da_nil)) da_nil)) (dv 4) (nomark _)) (dw_or1 (dt_cmp (op_neP (u64 hr)) om_eq noX_eq (de_comp (xs := ["_law_row"]) (ys := []) (js := []) (cl := []) rfl (di_list (de_callC c_staying hr passS (da_cons (de_callTy call_list_of cm_list noX_list rfl B.list_ bT_list (da_cons (dv 3) da_nil)) da_nil))) (cl_ok (ys := []) (js := []) rfl (fun _ h => nomatch h) cap_nil (by decide +kernel) (by decide +kernel)) cap_nil (by decide +kernel) rfl (by decide +kernel) rfl (by decide) (fun C s₀ H₀ ex pn => (dg_name (i := 0) (show (["_law_row"] : List Str).Nodup by decide +kernel) rfl (Or.inl rfl))) (fun C s₀ H₀ ex pn => dts_nil) (fun C s₀ H₀ ex pn => (de_ix (dv 0) de_int (fun _ _ => rfl)))) (dv 4) (nomark _))))) (dss_one (ds_ret de_bl)) dss_nil) (dss_one (ds_ret (de_cmp (op_eqP (u64 hr)) om_eq noX_eq (de_comp (xs := ["_law_row"]) (ys := []) (js := []) (cl := []) rfl (di_list (de_callC c_struck hr passS (da_cons (de_callTy call_list_of cm_list noX_list rfl B.list_ bT_list (da_cons (dv 3) da_nil)) da_nil))) (cl_ok (ys := []) (js := []) rfl (fun _ h => nomatch h) cap_nil (by decide +kernel) (by decide +kernel)) cap_nil (by decide +kernel) rfl (by decide +kernel) rfl (by decide) (fun C s₀ H₀ ex pn => (dg_name (i := 0) (show (["_law_row"] : List Str).Nodup by decide +kernel) rfl (Or.inl rfl))) (fun C s₀ H₀ ex pn => dts_nil) (fun C s₀ H₀ ex pn => (de_ix (dv 0) de_int (fun _ _ => rfl)))) (de_comp (xs := ["_law_plane"]) (ys := ["_law_planes"]) (js := [4]) (cl := [("_law_planes", s.heap.objs.size + 1 + 1 + 1)]) rfl (di_list (dv 3)) (cl_ok (ys := ["_law_planes"]) (js := [4]) rfl (List.forall_mem_cons.mpr ⟨rfl, (fun _ h => nomatch h)⟩) (cap_cons ⟨rfl, .inl rfl, .inl rfl, rfl, rfl⟩ cap_nil) (by decide +kernel) (by decide +kernel)) (cap_cons ⟨rfl, .inl rfl, .inl rfl, rfl, rfl⟩ cap_nil) (by decide +kernel) rfl (by decide +kernel) rfl (by decide) (fun C s₀ H₀ ex pn => (dg_name (i := 0) (show (["_law_plane", "_law_planes"] : List Str).Nodup by decide +kernel) rfl (Or.inl rfl))) (fun C s₀ H₀ ex pn => (dts_one (dt_cmp (op_ninP (u65 hr)) om_inP noX_inP (dv 0) (dv 1) (by with_unfolding_all rfl)))) (fun C s₀ H₀ ex pn => (dv 0))) (nomark _)))))))))))))))))
end
section
variable {P : Program} {w : World} {K : W.Frag} {mg : Str → Option Value} {base : Heap}
theorem sc_greatest_divisor : FnScope ["a", "b", "larger", "smaller", "rest"] ["a", "b"] (defScope s_greatest_divisor) := ⟨rfl, rfl, rfl, by decide +kernel, rfl, by decide +kernel, by decide +kernel⟩
theorem ok_greatest_divisor {c : Cls} (Df : Def K mg "greatest_divisor" ["a", "b"] s_greatest_divisor) (B : Blt mg) (C : ClsM mg c) (O : ClsO mg base c) (hk : KitF K c) : Cal P w K mg base 1 "greatest_divisor" 2 (m_greatest_divisor K c) := by
 refine calM (k := 0) Df sc_greatest_divisor rfl (fun f cdv A outer s H E hr => ⟨f_greatest_divisor K c, ?_, eq_greatest_divisor K c⟩)
 exact (dss_cons (ds_set (i := 2) sc_greatest_divisor.nd rfl (Or.inl rfl) (de_callB call_abs cm_abs noX_abs rfl B.abs_ bB_abs (da_cons (dv 0) da_nil))) (dss_cons (ds_set (i := 3) sc_greatest_divisor.nd rfl (Or.inl rfl) (de_callB call_abs cm_abs noX_abs rfl B.abs_ bB_abs (da_cons (dv 1) da_nil))) (dss_cons (ds_while PassesOwn.leaving (dt_cmp (op_neP (u64 hr)) om_eq noX_eq (dv 3) de_int (nomark _)) (dss_cons (ds_set (i := 4) sc_greatest_divisor.nd rfl (Or.inl rfl) (de_op op_modN om_mod noX_intE (dv 2) (dv 3))) (dss_cons (ds_set (i := 2) sc_greatest_divisor.nd rfl (Or.inl rfl) (dv 3)) (dss_one (ds_set (i := 3) sc_greatest_divisor.nd rfl (Or.inl rfl) (dv 4)))))) (dss_one (ds_ret (dv 2))))))
theorem sc_plus : FnScope ["a", "b"] ["a", "b"] (defScope s_plus) := ⟨rfl, rfl, rfl, by decide +kernel, rfl, by decide +kernel, by decide +kernel⟩
theorem ok_plus {c : Cls} (Df : Def K mg "plus" ["a", "b"] s_plus) (B : Blt mg) (C : ClsM mg c) (O : ClsO mg base c) (hk : KitF K c) (c_fraction : Cal P w K mg base 2 "fraction" 2 (m_fraction K c)) : Cal P w K mg base 3 "plus" 2 (m_plus K c) := by
 refine calM (k := 2) Df sc_plus rfl (fun f cdv A outer s H E hr => ⟨f_plus K c, ?_, eq_plus K c⟩)
 exact (dss_one (ds_ret (de_callC c_fraction hr passS (da_cons (de_op op_addA om_add noX_add (de_op op_mulW om_mul noX_intE (de_ix (dv 0) de_int (fun _ _ => rfl)) (de_ix (dv 1) de_int (fun _ _ => rfl))) (de_op op_mulW om_mul noX_intE (de_ix (dv 1) de_int (fun _ _ => rfl)) (de_ix (dv 0) de_int (fun _ _ => rfl)))) (da_cons (de_op op_mulW om_mul noX_intE (de_ix (dv 0) de_int (fun _ _ => rfl)) (de_ix (dv 1) de_int (fun _ _ => rfl))) da_nil)))))
theorem sc_less : FnScope ["a", "b"] ["a", "b"] (defScope s_less) := ⟨rfl, rfl, rfl, by decide +kernel, rfl, by decide +kernel, by decide +kernel⟩
theorem ok_less {c : Cls} (Df : Def K mg "less" ["a", "b"] s_less) (B : Blt mg) (C : ClsM mg c) (O : ClsO mg base c) (hk : KitF K c) : Cal P w K mg base 1 "less" 2 (m_less K c) := by
 refine calM (k := 0) Df sc_less rfl (fun f cdv A outer s H E hr => ⟨f_less K c, ?_, eq_less K c⟩)
 exact (dss_one (ds_ret (de_cmp op_lt om_cmp noX_intE0 (de_op op_mulW om_mul noX_intE (de_ix (dv 0) de_int (fun _ _ => rfl)) (de_ix (dv 1) de_int (fun _ _ => rfl))) (de_op op_mulW om_mul noX_intE (de_ix (dv 1) de_int (fun _ _ => rfl)) (de_ix (dv 0) de_int (fun _ _ => rfl))) (nomark _))))
theorem sc_pair_weights : FnScope ["middle", "one", "other"] ["middle", "one", "other"] (defScope s_pair_weights) := ⟨rfl, rfl, rfl, by decide +kernel, rfl, by decide +kernel, by decide +kernel⟩
theorem ok_pair_weights {c : Cls} (Df : Def K mg "pair_weights" ["middle", "one", "other"] s_pair_weights) (B : Blt mg) (C : ClsM mg c) (O : ClsO mg base c) (hk : KitF K c) (c_dot : Cal P w K mg base 1 "dot" 3 (m_dot K c)) (c_turn : Cal P w K mg base 1 "turn" 3 (m_turn K c)) : Cal P w K mg base 2 "pair_weights" 3 (m_pair_weights K c) := by
 refine calM (k := 1) Df sc_pair_weights rfl (fun f cdv A outer s H E hr => ⟨f_pair_weights K c, ?_, eq_pair_weights K c⟩)
 exact (dss_cons (ds_if (dt_cmp (op_neP (u64 hr)) om_eq noX_eq (de_callC c_turn hr passS (da_cons (dv 0) (da_cons (dv 1) (da_cons (dv 2) da_nil)))) de_int (nomark _)) (dss_one (ds_ret (de_lst (da_cons de_int (da_cons de_int da_nil))))) dss_nil) (dss_one (ds_ret (de_lst (da_cons (de_callC c_dot hr passS (da_cons (dv 0) (da_cons (dv 2) (da_cons (dv 2) da_nil)))) (da_cons (de_neg (de_callC c_dot hr passS (da_cons (dv 0) (da_cons (dv 1) (da_cons (dv 2) da_nil))))) da_nil))))))
theorem sc_triple_weights : FnScope ["middle", "one", "other", "last", "weights"] ["middle", "one", "other", "last"] (defScope s_triple_weights) := ⟨rfl, rfl, rfl, by decide +kernel, rfl, by decide +kernel, by decide +kernel⟩
theorem ok_triple_weights {c : Cls} (Df : Def K mg "triple_weights" ["middle", "one", "other", "last"] s_triple_weights) (B : Blt mg) (C : ClsM mg c) (O : ClsO mg base c) (hk : KitF K c) (c_turn : Cal P w K mg base 1 "turn" 3 (m_turn K c)) : Cal P w K mg base 2 "triple_weights" 4 (m_triple_weights K c) := by
 refine calM (k := 1) Df sc_triple_weights rfl (fun f cdv A outer s H E hr => ⟨f_triple_weights K c, ?_, eq_triple_weights K c⟩)
 exact (dss_cons (ds_set (i := 4) sc_triple_weights.nd rfl (Or.inl rfl) (de_lst (da_cons (de_callC c_turn hr passS (da_cons (dv 0) (da_cons (dv 2) (da_cons (dv 3) da_nil)))) (da_cons (de_callC c_turn hr passS (da_cons (dv 0) (da_cons (dv 3) (da_cons (dv 1) da_nil)))) (da_cons (de_callC c_turn hr passS (da_cons (dv 0) (da_cons (dv 1) (da_cons (dv 2) da_nil)))) da_nil))))) (dss_frz 4 (dss_one (ds_ret (de_if (dt_cmp op_gt om_cmp noX_intE0 (de_callB (call_sumL rfl rfl) cm_sum noX_sum rfl B.sum_ bB_sum (da_cons (dv 4) da_nil)) de_int (nomark _)) (dv 4) (de_comp (xs := ["weight"]) (ys := []) (js := []) (cl := []) rfl (di_list (dv 4)) (cl_ok (ys := []) (js := []) rfl (fun _ h => nomatch h) cap_nil (by decide +kernel) (by decide +kernel)) cap_nil (by decide +kernel) rfl (by decide +kernel) rfl (by decide) (fun C s₀ H₀ ex pn => (dg_name (i := 0) (show (["weight"] : List Str).Nodup by decide +kernel) rfl (Or.inl rfl))) (fun C s₀ H₀ ex pn => dts_nil) (fun C s₀ H₀ ex pn => (de_neg (dv 0)))))))))
theorem sc__law_with_struck : FnScope ["_law_high", "_law_cells", "_law_more", "_law_slopes", "_law_k", "_law_l", "_law_i", "_law_j", "_law_cell", "_law_amid", "_law_lower"] ["_law_high", "_law_cells"] (defScope s__law_with_struck) := ⟨rfl, rfl, rfl, by decide +kernel, rfl, by decide +kernel, by decide +kernel⟩
theorem ok__law_with_struck {c : Cls} (Df : Def K mg "_law_with_struck" ["_law_high", "_law_cells"] s__law_with_struck) (B : Blt mg) (C : ClsM mg c) (O : ClsO mg base c) (hk : KitF K c) (c__law_sum : Cal P w K mg base 2 "_law_sum" 2 (m__law_sum K c)) (c__law_low : Cal P w K mg base 1 "_law_low" 2 (m__law_low K c)) (c__law_product : Cal P w K mg base 2 "_law_product" 2 (m__law_product K c)) : Cal P w K mg base 3 "_law_with_struck" 2 (m__law_with_struck K c) := by
 refine calM (k := 2) Df sc__law_with_struck rfl (fun f cdv A outer s H E hr => ⟨f__law_with_struck K c, ?_, eq__law_with_struck K c⟩)
 exact (dss_cons (ds_set (i := 2) sc__law_with_struck.nd rfl (Or.inl rfl) (de_callTy call_dictT cm_dict noX_dict rfl B.dict_ bT_dict (da_cons (dv 0) da_nil))) (dss_cons (ds_set (i := 3) sc__law_with_struck.nd rfl (Or.inl rfl) (de_callB (SRT.call_sortD rfl) cm_sortedD noX_sortedD rfl B.sorted_ bB_sorted (da_cons (dv 0) da_nil))) (dss_cons (ds_for PassesOwn.leaving rfl (di_range1 rfl B.range_ (da_cons (de_callB call_len_seq cm_len noX_len rfl B.len_ PySem.boot_len (da_cons (dv 3) da_nil)) da_nil)) (dg_name (i := 4) sc__law_with_struck.nd rfl (Or.inl rfl)) (dss_one (ds_for PassesOwn.leaving rfl (di_range1 rfl B.range_ (da_cons (dv 4) da_nil)) (dg_name (i := 5) sc__law_with_struck.nd rfl (Or.inl rfl)) (dss_cons (ds_set (i := 6) sc__law_with_struck.nd rfl (Or.inl rfl) (de_op op_addA om_add noX_add (de_ix (de_ix (dv 3) (dv 4) (fun _ _ => rfl)) de_int (fun _ _ => rfl)) (de_ix (de_ix (dv 3) (dv 5) (fun _ _ => rfl)) de_int (fun _ _ => rfl)))) (dss_cons (ds_set (i := 7) sc__law_with_struck.nd rfl (Or.inl rfl) (de_op op_addA om_add noX_add (de_ix (de_ix (dv 3) (dv 4) (fun _ _ => rfl)) de_int (fun _ _ => rfl)) (de_ix (de_ix (dv 3) (dv 5) (fun _ _ => rfl)) de_int (fun _ _ => rfl)))) (dss_cons (ds_set (i := 8) sc__law_with_struck.nd rfl (Or.inl rfl) de_int) (dss_cons (ds_if (dt_cmp op_lt om_cmp noX_intE0 (de_op op_addA om_add noX_add (dv 4) (dv 5)) (de_callB call_len_seq cm_len noX_len rfl B.len_ PySem.boot_len (da_cons (dv 1) da_nil)) (nomark _)) (dss_one (ds_set (i := 8) sc__law_with_struck.nd rfl (Or.inl rfl) (de_ix (dv 1) (de_op op_addA om_add noX_add (dv 4) (dv 5)) (fun _ _ => rfl)))) dss_nil) (dss_one (ds_if (DW.t (dw_and (dt_cmp (op_eqP (u64 hr)) om_eq noX_eq (de_op op_modN om_mod noX_intE (dv 6) de_int) de_int (nomark _)) (dw_and (dt_cmp (op_eqP (u64 hr)) om_eq noX_eq (de_op op_modN om_mod noX_intE (dv 7) de_int) de_int (nomark _)) (dw_and (dt_dnotin (u1 hr) (de_tup (da_cons (de_op op_fdivW om_fdiv noX_intE (dv 6) de_int) (da_cons (de_op op_fdivW om_fdiv noX_intE (dv 7) de_int) da_nil))) (dv 2)) (dw_and1 (dt_cmp op_lt om_cmp noX_intE0 (de_op op_modN om_mod noX_intE (dv 8) de_int) de_int (nomark _))))))) (dss_cons (ds_set (i := 9) sc__law_with_struck.nd rfl (Or.inl rfl) (de_callC c__law_product hr passS (da_cons (de_tup (da_cons de_int (da_cons de_int da_nil))) (da_cons (de_callC c__law_sum hr passS (da_cons (de_dget (u1 hr) (dv 0) (de_ix (dv 3) (dv 4) (fun _ _ => rfl)) (fun _ _ => rfl)) (da_cons (de_dget (u1 hr) (dv 0) (de_ix (dv 3) (dv 5) (fun _ _ => rfl)) (fun _ _ => rfl)) da_nil))) da_nil)))) (dss_cons (ds_set (i := 10) sc__law_with_struck.nd rfl (Or.inl rfl) (de_op op_mulW om_mul noX_intE (de_op op_modN om_mod noX_intE (dv 8) de_int) (de_op op_modN om_mod noX_intE (de_op op_fdivW om_fdiv noX_intE (dv 8) de_int) (de_op op_pow om_pow noX_intE de_int de_int)))) (dss_one (ds_dput (i := 2) (u1 hr) (pv 2) (de_tup (da_cons (de_op op_fdivW om_fdiv noX_intE (dv 6) de_int) (da_cons (de_op op_fdivW om_fdiv noX_intE (dv 7) de_int) da_nil))) (de_callC c__law_sum hr passS (da_cons (dv 9) (da_cons (de_callC c__law_low hr passS (da_cons (de_neg (dv 10)) (da_cons (de_op op_addA om_add noX_add de_int (de_op op_modN om_mod noX_intE (de_op op_fdivW om_fdiv noX_intE (dv 8) de_int) de_int)) da_nil))) da_nil))) rfl)))) dss_nil))))))))) (dss_one (ds_ret (dv 2))))))
end
section
variable {P : Program} {w : World} {K : W.Frag} {mg : Str → Option Value} {base : Heap}
theorem sc_turn : FnScope ["start", "middle", "end", "along", "across"] ["start", "middle", "end"] (defScope s_turn) := ⟨rfl, rfl, rfl, by decide +kernel, rfl, by decide +kernel, by decide +kernel⟩
theorem ok_turn {c : Cls} (Df : Def K mg "turn" ["start", "middle", "end"] s_turn) (B : Blt mg) (C : ClsM mg c) (O : ClsO mg base c) (hk : KitF K c) : Cal P w K mg base 1 "turn" 3 (m_turn K c) := by
 refine calM (k := 0) Df sc_turn rfl (fun f cdv A outer s H E hr => ⟨f_turn K c, ?_, eq_turn K c⟩)
 exact (dss_cons (ds_set (i := 3) sc_turn.nd rfl (Or.inl rfl) (de_op op_mulW om_mul noX_intE (de_op op_sub om_sub noX_intE0 (de_ix (dv 1) de_int (fun _ _ => rfl)) (de_ix (dv 0) de_int (fun _ _ => rfl))) (de_op op_sub om_sub noX_intE0 (de_ix (dv 2) de_int (fun _ _ => rfl)) (de_ix (dv 0) de_int (fun _ _ => rfl))))) (dss_cons (ds_set (i := 4) sc_turn.nd rfl (Or.inl rfl) (de_op op_mulW om_mul noX_intE (de_op op_sub om_sub noX_intE0 (de_ix (dv 1) de_int (fun _ _ => rfl)) (de_ix (dv 0) de_int (fun _ _ => rfl))) (de_op op_sub om_sub noX_intE0 (de_ix (dv 2) de_int (fun _ _ => rfl)) (de_ix (dv 0) de_int (fun _ _ => rfl))))) (dss_one (ds_ret (de_op op_sub om_sub noX_intE0 (dv 3) (dv 4))))))
theorem sc_blown_up : FnScope ["roof", "factor"] ["roof", "factor"] (defScope s_blown_up) := ⟨rfl, rfl, rfl, by decide +kernel, rfl, by decide +kernel, by decide +kernel⟩
theorem ok_blown_up {c : Cls} (Df : Def K mg "blown_up" ["roof", "factor"] s_blown_up) (B : Blt mg) (C : ClsM mg c) (O : ClsO mg base c) (hk : KitF K c) (c_whole : Cal P w K mg base 1 "whole" 2 (m_whole K c)) : Cal P w K mg base 2 "blown_up" 2 (m_blown_up K c) := by
 refine calM (k := 1) Df sc_blown_up rfl (fun f cdv A outer s H E hr => ⟨f_blown_up K c, ?_, eq_blown_up K c⟩)
 exact (dss_one (ds_ret (de_comp (xs := ["plane"]) (ys := ["factor"]) (js := [1]) (cl := [("factor", s.heap.objs.size + 1)]) rfl (di_list (dv 0)) (cl_ok (ys := ["factor"]) (js := [1]) rfl (List.forall_mem_cons.mpr ⟨rfl, (fun _ h => nomatch h)⟩) (cap_cons ⟨rfl, .inl rfl, .inl rfl, rfl, rfl⟩ cap_nil) (by decide +kernel) (by decide +kernel)) (cap_cons ⟨rfl, .inl rfl, .inl rfl, rfl, rfl⟩ cap_nil) (by decide +kernel) rfl (by decide +kernel) rfl (by decide) (fun C s₀ H₀ ex pn => (dg_name (i := 0) (show (["plane", "factor"] : List Str).Nodup by decide +kernel) rfl (Or.inl rfl))) (fun C s₀ H₀ ex pn => dts_nil) (fun C s₀ H₀ ex pn => (de_tup (da_cons (de_ix (dv 0) de_int (fun _ _ => rfl)) (da_cons (de_ix (dv 0) de_int (fun _ _ => rfl)) (da_cons (de_tup (da_cons (de_callC c_whole hr passF (da_cons (de_ix (dv 0) de_int (fun _ _ => rfl)) (da_cons (dv 1) da_nil))) (da_cons de_int da_nil))) da_nil))))))))
theorem sc_without_y : FnScope ["rows", "kept", "highs", "low"] ["rows"] (defScope s_without_y) := ⟨rfl, rfl, rfl, by decide +kernel, rfl, by decide +kernel, by decide +kernel⟩
theorem ok_without_y {c : Cls} (Df : Def K mg "without_y" ["rows"] s_without_y) (B : Blt mg) (C : ClsM mg c) (O : ClsO mg base c) (hk : KitF K c) : Cal P w K mg base 1 "without_y" 1 (m_without_y K c) := by
 refine calM (k := 0) Df sc_without_y rfl (fun f cdv A outer s H E hr => ⟨f_without_y K c, ?_, eq_without_y K c⟩)
 exact (dss_cons (ds_setC (i := 1) sc_without_y.nd rfl (Or.inl rfl) (xs := ["row"]) (ys := []) (js := []) (cl := []) rfl (di_list (dv 0)) (cl_ok (ys := []) (js := []) rfl (fun _ h => nomatch h) cap_nil (by decide +kernel) (by decide +kernel)) cap_nil (by decide +kernel) rfl (by decide +kernel) rfl (by decide) (fun C s₀ H₀ ex pn => (dg_name (i := 0) (show (["row"] : List Str).Nodup by decide +kernel) rfl (Or.inl rfl))) (fun C s₀ H₀ ex pn => (dts_one (dt_cmp (op_eqP (u64 hr)) om_eq noX_eq (de_ix (dv 0) de_int (fun _ _ => rfl)) de_int (nomark _)))) (fun C s₀ H₀ ex pn => (de_tup (da_cons (de_ix (dv 0) de_int (fun _ _ => rfl)) (da_cons (de_ix (dv 0) de_int (fun _ _ => rfl)) da_nil))))) (dss_cons (ds_setC (i := 2) sc_without_y.nd rfl (Or.inl rfl) (xs := ["row"]) (ys := []) (js := []) (cl := []) rfl (di_list (dv 0)) (cl_ok (ys := []) (js := []) rfl (fun _ h => nomatch h) cap_nil (by decide +kernel) (by decide +kernel)) cap_nil (by decide +kernel) rfl (by decide +kernel) rfl (by decide) (fun C s₀ H₀ ex pn => (dg_name (i := 0) (show (["row"] : List Str).Nodup by decide +kernel) rfl (Or.inl rfl))) (fun C s₀ H₀ ex pn => (dts_one (dt_cmp op_lt om_cmp noX_intE0 (de_ix (dv 0) de_int (fun _ _ => rfl)) de_int (nomark _)))) (fun C s₀ H₀ ex pn => (dv 0))) (dss_frz 2 (dss_cons (ds_for PassesOwn.leaving rfl (di_list (dv 0)) (dg_name (i := 3) sc_without_y.nd rfl (Or.inr rfl)) (dss_one (ds_if (dt_cmp op_gt om_cmp noX_intE0 (de_ix (dv 3) de_int (fun _ _ => rfl)) de_int (nomark _)) (dss_one (ds_extend (i := 1) (de_comp (xs := ["high"]) (ys := ["low"]) (js := [3]) (cl := [("low", s.heap.objs.size + 1)]) rfl (di_list (dv 2)) (cl_ok (ys := ["low"]) (js := [3]) rfl (List.forall_mem_cons.mpr ⟨rfl, (fun _ h => nomatch h)⟩) (cap_cons ⟨rfl, .inl rfl, .inl rfl, rfl, rfl⟩ cap_nil) (by decide +kernel) (by decide +kernel)) (cap_cons ⟨rfl, .inl rfl, .inl rfl, rfl, rfl⟩ cap_nil) (by decide +kernel) rfl (by decide +kernel) rfl (by decide) (fun C s₀ H₀ ex pn => (dg_name (i := 0) (show (["high", "low"] : List Str).Nodup by decide +kernel) rfl (Or.inl rfl))) (fun C s₀ H₀ ex pn => dts_nil) (fun C s₀ H₀ ex pn => (de_tup (da_cons (de_op op_sub om_sub noX_intE0 (de_op op_mulW om_mul noX_intE (de_ix (dv 1) de_int (fun _ _ => rfl)) (de_ix (dv 0) de_int (fun _ _ => rfl))) (de_op op_mulW om_mul noX_intE (de_ix (dv 0) de_int (fun _ _ => rfl)) (de_ix (dv 1) de_int (fun _ _ => rfl)))) (da_cons (de_op op_sub om_sub noX_intE0 (de_op op_mulW om_mul noX_intE (de_ix (dv 1) de_int (fun _ _ => rfl)) (de_ix (dv 0) de_int (fun _ _ => rfl))) (de_op op_mulW om_mul noX_intE (de_ix (dv 0) de_int (fun _ _ => rfl)) (de_ix (dv 1) de_int (fun _ _ => rfl)))) da_nil))))) (fun t q => ps_expr (pe_bm PySem.F.plainAttrs_list PySem.F.slot_list_extend PySem.F.type_list_extend mt_extend (pv 1) (pa_cons q pa_nil))))) dss_nil))) (dss_one (ds_ret (dv 1)))))))
theorem sc_gap : FnScope ["plane", "other"] ["plane", "other"] (defScope s_gap) := ⟨rfl, rfl, rfl, by decide +kernel, rfl, by decide +kernel, by decide +kernel⟩
theorem ok_gap {c : Cls} (Df : Def K mg "gap" ["plane", "other"] s_gap) (B : Blt mg) (C : ClsM mg c) (O : ClsO mg base c) (hk : KitF K c) : Cal P w K mg base 1 "gap" 2 (m_gap K c) := by
 refine calM (k := 0) Df sc_gap rfl (fun f cdv A outer s H E hr => ⟨f_gap K c, ?_, eq_gap K c⟩)
 exact (dss_one (ds_ret (de_tup (da_cons (de_op op_sub om_sub noX_intE0 (de_ix (dv 0) de_int (fun _ _ => rfl)) (de_ix (dv 1) de_int (fun _ _ => rfl))) (da_cons (de_op op_sub om_sub noX_intE0 (de_ix (dv 0) de_int (fun _ _ => rfl)) (de_ix (dv 1) de_int (fun _ _ => rfl))) (da_cons (de_op op_sub om_sub noX_intE0 (de_ix (de_ix (dv 0) de_int (fun _ _ => rfl)) de_int (fun _ _ => rfl)) (de_ix (de_ix (dv 1) de_int (fun _ _ => rfl)) de_int (fun _ _ => rfl))) da_nil))))))
theorem sc_staying : FnScope ["roof", "factor", "points"] ["roof"] (defScope s_staying) := ⟨rfl, rfl, rfl, by decide +kernel, rfl, by decide +kernel, by decide +kernel⟩
theorem ok_staying {c : Cls} (Df : Def K mg "staying" ["roof"] s_staying) (B : Blt mg) (C : ClsM mg c) (O : ClsO mg base c) (hk : KitF K c) (c_shrunk : Cal P w K mg base 3 "shrunk" 2 (m_shrunk K c)) (c_lone_points : Cal P w K mg base 7 "lone_points" 2 (m_lone_points K c)) (c_whole_factor : Cal P w K mg base 3 "whole_factor" 1 (m_whole_factor K c)) : Cal P w K mg base 8 "staying" 1 (m_staying K c) := by
 refine calM (k := 7) Df sc_staying rfl (fun f cdv A outer s H E hr => ⟨f_staying K c, ?_, eq_staying K c⟩)
 exact (dss_cons (ds_set (i := 1) sc_staying.nd rfl (Or.inr rfl) (de_callC c_whole_factor hr passS (da_cons (dv 0) da_nil))) (dss_cons (ds_set (i := 2) sc_staying.nd rfl (Or.inl rfl) (de_callC c_lone_points hr passS (da_cons (dv 0) (da_cons (dv 1) da_nil)))) (dss_frz 2 (dss_one (ds_ret (de_comp (xs := ["plane", "point"]) (ys := ["factor"]) (js := [1]) (cl := [("factor", s.heap.objs.size + 1)]) rfl (di_zip rfl B.zip_ (da_cons (dv 0) (da_cons (dv 2) da_nil))) (cl_ok (ys := ["factor"]) (js := [1]) rfl (List.forall_mem_cons.mpr ⟨rfl, (fun _ h => nomatch h)⟩) (cap_cons ⟨rfl, .inl rfl, .inl rfl, rfl, rfl⟩ cap_nil) (by decide +kernel) (by decide +kernel)) (cap_cons ⟨rfl, .inl rfl, .inl rfl, rfl, rfl⟩ cap_nil) (by decide +kernel) rfl (by decide +kernel) rfl (by decide) (fun C s₀ H₀ ex pn => (dg_tup (n := 2) rfl (dgs_cons (dg_name (i := 0) (show (["plane", "point", "factor"] : List Str).Nodup by decide +kernel) rfl (Or.inl rfl)) (dgs_cons (dg_name (i := 1) (show (["plane", "point", "factor"] : List Str).Nodup by decide +kernel) rfl (Or.inl rfl)) dgs_nil)))) (fun C s₀ H₀ ex pn => (dts_one (dt_notN (dv 1)))) (fun C s₀ H₀ ex pn => (de_tup (da_cons (dv 0) (da_cons (de_callC c_shrunk hr passF (da_cons (dv 1) (da_cons (dv 2) da_nil))) da_nil))))))))))
theorem sc_dot : FnScope ["middle", "one", "other"] ["middle", "one", "other"] (defScope s_dot) := ⟨rfl, rfl, rfl, by decide +kernel, rfl, by decide +kernel, by decide +kernel⟩
theorem ok_dot {c : Cls} (Df : Def K mg "dot" ["middle", "one", "other"] s_dot) (B : Blt mg) (C : ClsM mg c) (O : ClsO mg base c) (hk : KitF K c) : Cal P w K mg base 1 "dot" 3 (m_dot K c) := by
 refine calM (k := 0) Df sc_dot rfl (fun f cdv A outer s H E hr => ⟨f_dot K c, ?_, eq_dot K c⟩)
 exact (dss_one (ds_ret (de_op op_addA om_add noX_add (de_op op_mulW om_mul noX_intE (de_op op_sub om_sub noX_intE0 (de_ix (dv 1) de_int (fun _ _ => rfl)) (de_ix (dv 0) de_int (fun _ _ => rfl))) (de_op op_sub om_sub noX_intE0 (de_ix (dv 2) de_int (fun _ _ => rfl)) (de_ix (dv 0) de_int (fun _ _ => rfl)))) (de_op op_mulW om_mul noX_intE (de_op op_sub om_sub noX_intE0 (de_ix (dv 1) de_int (fun _ _ => rfl)) (de_ix (dv 0) de_int (fun _ _ => rfl))) (de_op op_sub om_sub noX_intE0 (de_ix (dv 2) de_int (fun _ _ => rfl)) (de_ix (dv 0) de_int (fun _ _ => rfl)))))))
end
section
variable {P : Program} {w : World} {K : W.Frag} {mg : Str → Option Value} {base : Heap}
theorem sc_fraction : FnScope ["top", "bottom", "divisor"] ["top", "bottom"] (defScope s_fraction) := ⟨rfl, rfl, rfl, by decide +kernel, rfl, by decide +kernel, by decide +kernel⟩
theorem ok_fraction {c : Cls} (Df : Def K mg "fraction" ["top", "bottom"] s_fraction) (B : Blt mg) (C : ClsM mg c) (O : ClsO mg base c) (hk : KitF K c) (c_greatest_divisor : Cal P w K mg base 1 "greatest_divisor" 2 (m_greatest_divisor K c)) : Cal P w K mg base 2 "fraction" 2 (m_fraction K c) := by
 refine calM (k := 1) Df sc_fraction rfl (fun f cdv A outer s H E hr => ⟨f_fraction K c, ?_, eq_fraction K c⟩)
 exact (dss_cons (ds_if (dt_cmp (op_eqP (u64 hr)) om_eq noX_eq (dv 1) de_int (nomark _)) (dss_one (ds_raise raisesR rfl rfl O.NoFraction PySem.F.excBase_ValueError (da_cons de_str da_nil))) dss_nil) (dss_cons (ds_set (i := 2) sc_fraction.nd rfl (Or.inl rfl) (de_callC c_greatest_divisor hr passS (da_cons (dv 0) (da_cons (dv 1) da_nil)))) (dss_cons (ds_if (dt_cmp op_lt om_cmp noX_intE0 (dv 1) de_int (nomark _)) (dss_one (ds_set (i := 2) sc_fraction.nd rfl (Or.inl rfl) (de_neg (dv 2)))) dss_nil) (dss_one (ds_ret (de_tup (da_cons (de_op op_fdivW om_fdiv noX_intE (dv 0) (dv 2)) (da_cons (de_op op_fdivW om_fdiv noX_intE (dv 1) (dv 2)) da_nil))))))))
theorem sc_times : FnScope ["a", "b"] ["a", "b"] (defScope s_times) := ⟨rfl, rfl, rfl, by decide +kernel, rfl, by decide +kernel, by decide +kernel⟩
theorem ok_times {c : Cls} (Df : Def K mg "times" ["a", "b"] s_times) (B : Blt mg) (C : ClsM mg c) (O : ClsO mg base c) (hk : KitF K c) (c_fraction : Cal P w K mg base 2 "fraction" 2 (m_fraction K c)) : Cal P w K mg base 3 "times" 2 (m_times K c) := by
 refine calM (k := 2) Df sc_times rfl (fun f cdv A outer s H E hr => ⟨f_times K c, ?_, eq_times K c⟩)
 exact (dss_one (ds_ret (de_callC c_fraction hr passS (da_cons (de_op op_mulW om_mul noX_intE (de_ix (dv 0) de_int (fun _ _ => rfl)) (de_ix (dv 1) de_int (fun _ _ => rfl))) (da_cons (de_op op_mulW om_mul noX_intE (de_ix (dv 0) de_int (fun _ _ => rfl)) (de_ix (dv 1) de_int (fun _ _ => rfl))) da_nil)))))
theorem sc_whole : FnScope ["number", "factor"] ["number", "factor"] (defScope s_whole) := ⟨rfl, rfl, rfl, by decide +kernel, rfl, by decide +kernel, by decide +kernel⟩
theorem ok_whole {c : Cls} (Df : Def K mg "whole" ["number", "factor"] s_whole) (B : Blt mg) (C : ClsM mg c) (O : ClsO mg base c) (hk : KitF K c) : Cal P w K mg base 1 "whole" 2 (m_whole K c) := by
 refine calM (k := 0) Df sc_whole rfl (fun f cdv A outer s H E hr => ⟨f_whole K c, ?_, eq_whole K c⟩)
 exact (dss_one (ds_ret (de_op op_mulW om_mul noX_intE (de_ix (dv 0) de_int (fun _ _ => rfl)) (de_op op_fdivW om_fdiv noX_intE (dv 1) (de_ix (dv 0) de_int (fun _ _ => rfl))))))
theorem sc_shrunk : FnScope ["point", "factor"] ["point", "factor"] (defScope s_shrunk) := ⟨rfl, rfl, rfl, by decide +kernel, rfl, by decide +kernel, by decide +kernel⟩
theorem ok_shrunk {c : Cls} (Df : Def K mg "shrunk" ["point", "factor"] s_shrunk) (B : Blt mg) (C : ClsM mg c) (O : ClsO mg base c) (hk : KitF K c) (c_fraction : Cal P w K mg base 2 "fraction" 2 (m_fraction K c)) : Cal P w K mg base 3 "shrunk" 2 (m_shrunk K c) := by
 refine calM (k := 2) Df sc_shrunk rfl (fun f cdv A outer s H E hr => ⟨f_shrunk K c, ?_, eq_shrunk K c⟩)
 exact (dss_one (ds_ret (de_tup (da_cons (de_callC c_fraction hr passS (da_cons (de_ix (de_ix (dv 0) de_int (fun _ _ => rfl)) de_int (fun _ _ => rfl)) (da_cons (de_op op_mulW om_mul noX_intE (de_ix (de_ix (dv 0) de_int (fun _ _ => rfl)) de_int (fun _ _ => rfl)) (dv 1)) da_nil))) (da_cons (de_callC c_fraction hr passS (da_cons (de_ix (de_ix (dv 0) de_int (fun _ _ => rfl)) de_int (fun _ _ => rfl)) (da_cons (de_op op_mulW om_mul noX_intE (de_ix (de_ix (dv 0) de_int (fun _ _ => rfl)) de_int (fun _ _ => rfl)) (dv 1)) da_nil))) da_nil)))))
theorem sc_thinned : FnScope ["roof", "points"] ["roof"] (defScope s_thinned) := ⟨rfl, rfl, rfl, by decide +kernel, rfl, by decide +kernel, by decide +kernel⟩
theorem ok_thinned {c : Cls} (Df : Def K mg "thinned" ["roof"] s_thinned) (B : Blt mg) (C : ClsM mg c) (O : ClsO mg base c) (hk : KitF K c) (c_lone_points : Cal P w K mg base 7 "lone_points" 2 (m_lone_points K c)) (c_whole_factor : Cal P w K mg base 3 "whole_factor" 1 (m_whole_factor K c)) : Cal P w K mg base 8 "thinned" 1 (m_thinned K c) := by
 refine calM (k := 7) Df sc_thinned rfl (fun f cdv A outer s H E hr => ⟨f_thinned K c, ?_, eq_thinned K c⟩)
 exact (dss_cons (ds_set (i := 1) sc_thinned.nd rfl (Or.inl rfl) (de_callC c_lone_points hr passS (da_cons (dv 0) (da_cons (de_callC c_whole_factor hr passS (da_cons (dv 0) da_nil)) da_nil)))) (dss_frz 1 (dss_one (ds_ret (de_comp (xs := ["plane", "point"]) (ys := []) (js := []) (cl := []) rfl (di_zip rfl B.zip_ (da_cons (dv 0) (da_cons (dv 1) da_nil))) (cl_ok (ys := []) (js := []) rfl (fun _ h => nomatch h) cap_nil (by decide +kernel) (by decide +kernel)) cap_nil (by decide +kernel) rfl (by decide +kernel) rfl (by decide) (fun C s₀ H₀ ex pn => (dg_tup (n := 2) rfl (dgs_cons (dg_name (i := 0) (show (["plane", "point"] : List Str).Nodup by decide +kernel) rfl (Or.inl rfl)) (dgs_cons (dg_name (i := 1) (show (["plane", "point"] : List Str).Nodup by decide +kernel) rfl (Or.inl rfl)) dgs_nil)))) (fun C s₀ H₀ ex pn => (dts_one (dt_notN (dv 1)))) (fun C s₀ H₀ ex pn => (dv 0)))))))
theorem sc_struck : FnScope ["roof", "stay", "groups"] ["roof"] (defScope s_struck) := ⟨rfl, rfl, rfl, by decide +kernel, rfl, by decide +kernel, by decide +kernel⟩
theorem ok_struck {c : Cls} (Df : Def K mg "struck" ["roof"] s_struck) (B : Blt mg) (C : ClsM mg c) (O : ClsO mg base c) (hk : KitF K c) (c_mixture_of : Cal P w K mg base 6 "mixture_of" 2 (m_mixture_of K c)) (c_pairs_and_triples : Cal P w K mg base 1 "pairs_and_triples" 1 (m_pairs_and_triples K c)) (c_thinned : Cal P w K mg base 8 "thinned" 1 (m_thinned K c)) : Cal P w K mg base 9 "struck" 1 (m_struck K c) := by
 refine calM (k := 8) Df sc_struck rfl (fun f cdv A outer s H E hr => ⟨f_struck K c, ?_, eq_struck K c⟩)
 exact (dss_cons (ds_set (i := 1) sc_struck.nd rfl (Or.inr rfl) (de_callC c_thinned hr passS (da_cons (dv 0) da_nil))) (dss_frz 1 (dss_cons (ds_set (i := 2) sc_struck.nd rfl (Or.inr rfl) (de_callC c_pairs_and_triples hr passS (da_cons (dv 1) da_nil))) (dss_frz 2 (dss_one (ds_ret (de_comp (xs := ["plane"]) (ys := ["groups", "stay"]) (js := [2, 1]) (cl := [("stay", s.heap.objs.size + 1), ("groups", s.heap.objs.size + 1 + 1)]) rfl (di_list (dv 0)) (cl_ok (ys := ["groups", "stay"]) (js := [2, 1]) rfl (List.forall_mem_cons.mpr ⟨rfl, (List.forall_mem_cons.mpr ⟨rfl, (fun _ h => nomatch h)⟩)⟩) (cap_cons ⟨rfl, .inl rfl, .inl rfl, rfl, rfl⟩ (cap_cons ⟨rfl, .inl rfl, .inl rfl, rfl, rfl⟩ cap_nil)) (by decide +kernel) (by decide +kernel)) (cap_cons ⟨rfl, .inl rfl, .inl rfl, rfl, rfl⟩ (cap_cons ⟨rfl, .inl rfl, .inl rfl, rfl, rfl⟩ cap_nil)) (by decide +kernel) rfl (by decide +kernel) rfl (by decide) (fun C s₀ H₀ ex pn => (dg_name (i := 0) (show (["plane", "groups", "stay"] : List Str).Nodup by decide +kernel) rfl (Or.inl rfl))) (fun C s₀ H₀ ex pn => (dts_one (dt_cmp (op_ninP (u65 hr)) om_inP noX_inP (dv 0) (dv 2) (by with_unfolding_all rfl)))) (fun C s₀ H₀ ex pn => (de_tup (da_cons (dv 0) (da_cons (de_callC c_mixture_of hr passF (da_cons (dv 0) (da_cons (dv 1) da_nil))) da_nil)))))))))))
theorem sc__law_bowl_by : FnScope ["_law_script", "_law_cell", "_law_n", "_law_size", "_law_high", "_law_number", "_law_i", "_law_j", "_law_slant"] ["_law_script"] (defScope s__law_bowl_by) := ⟨rfl, rfl, rfl, by decide +kernel, rfl, by decide +kernel, by decide +kernel⟩
theorem ok__law_bowl_by {c : Cls} (Df : Def K mg "_law_bowl_by" ["_law_script"] s__law_bowl_by) (B : Blt mg) (C : ClsM mg c) (O : ClsO mg base c) (hk : KitF K c) (c__law_product : Cal P w K mg base 2 "_law_product" 2 (m__law_product K c)) (c__law_cell_at : Cal P w K mg base 1 "_law_cell_at" 2 (m__law_cell_at K c)) (c__law_low : Cal P w K mg base 1 "_law_low" 2 (m__law_low K c)) : Cal P w K mg base 3 "_law_bowl_by" 1 (m__law_bowl_by K c) := by
 refine calM (k := 2) Df sc__law_bowl_by rfl (fun f cdv A outer s H E hr => ⟨f__law_bowl_by K c, ?_, eq__law_bowl_by K c⟩)
 exact (dss_cons (ds_set (i := 1) sc__law_bowl_by.nd rfl (Or.inl rfl) (de_callC c__law_cell_at hr passS (da_cons (dv 0) (da_cons de_int da_nil)))) (dss_cons (ds_set (i := 2) sc__law_bowl_by.nd rfl (Or.inl rfl) (de_op op_addA om_add noX_add de_int (de_op op_modN om_mod noX_intE (dv 1) de_int))) (dss_cons (ds_set (i := 3) sc__law_bowl_by.nd rfl (Or.inl rfl) (de_callC c__law_low hr passS (da_cons (de_op op_addA om_add noX_add de_int (de_op op_modN om_mod noX_intE (de_op op_fdivW om_fdiv noX_intE (dv 1) de_int) de_int)) (da_cons (de_op op_addA om_add noX_add de_int (de_op op_modN om_mod noX_intE (de_op op_fdivW om_fdiv noX_intE (dv 1) de_int) de_int)) da_nil)))) (dss_cons (ds_set (i := 4) sc__law_bowl_by.nd rfl (Or.inl rfl) de_dnewT) (dss_cons (ds_for PassesOwn.leaving rfl (di_list (de_sl (dv 0) (dp_some de_int) (dp_some (de_op op_addA om_add noX_add de_int (de_op op_modN om_mod noX_intE (de_op op_fdivW om_fdiv noX_intE (dv 1) de_int) de_int))))) (dg_name (i := 5) sc__law_bowl_by.nd rfl (Or.inl rfl)) (dss_cons (ds_set (i := 6) sc__law_bowl_by.nd rfl (Or.inl rfl) (de_op op_modN om_mod noX_intE (dv 5) de_int)) (dss_cons (ds_set (i := 7) sc__law_bowl_by.nd rfl (Or.inl rfl) (de_op op_modN om_mod noX_intE (de_op op_fdivW om_fdiv noX_intE (dv 5) de_int) de_int)) (dss_cons (ds_set (i := 8) sc__law_bowl_by.nd rfl (Or.inl rfl) (de_op op_sub om_sub noX_intE0 (de_op op_mulW om_mul noX_intE (de_op op_modN om_mod noX_intE (de_callC c__law_cell_at hr passS (da_cons (dv 0) (da_cons de_int da_nil))) (de_op op_addA om_add noX_add (de_op op_mulW om_mul noX_intE de_int (de_op op_pow om_pow noX_intE de_int de_int)) de_int)) (dv 6)) (de_op op_mulW om_mul noX_intE (de_op op_modN om_mod noX_intE (de_callC c__law_cell_at hr passS (da_cons (dv 0) (da_cons de_int da_nil))) de_int) (dv 7)))) (dss_one (ds_dput (i := 4) (u1 hr) (pv 4) (de_tup (da_cons (dv 6) (da_cons (dv 7) da_nil))) (de_callC c__law_product hr passS (da_cons (dv 3) (da_cons (de_tup (da_cons (de_op op_sub om_sub noX_intE0 (dv 8) (de_op op_mulW om_mul noX_intE (dv 2) (de_op op_addA om_add noX_add (de_op op_addA om_add noX_add (de_op op_mulW om_mul noX_intE (dv 6) (dv 6)) (de_op op_mulW om_mul noX_intE (dv 6) (dv 7))) (de_op op_mulW om_mul noX_intE (dv 7) (dv 7))))) (da_cons de_int da_nil))) da_nil))) rfl)))))) (dss_one (ds_ret (dv 4))))))))
end
section
variable {P : Program} {w : World} {K : W.Frag} {mg : Str → Option Value} {base : Heap}
theorem sc_whole_factor : FnScope ["roof"] ["roof"] (defScope s_whole_factor) := ⟨rfl, rfl, rfl, by decide +kernel, rfl, by decide +kernel, by decide +kernel⟩
theorem ok_whole_factor {c : Cls} (Df : Def K mg "whole_factor" ["roof"] s_whole_factor) (B : Blt mg) (C : ClsM mg c) (O : ClsO mg base c) (hk : KitF K c) (c_common_bottom : Cal P w K mg base 2 "common_bottom" 1 (m_common_bottom K c)) : Cal P w K mg base 3 "whole_factor" 1 (m_whole_factor K c) := by
 refine calM (k := 2) Df sc_whole_factor rfl (fun f cdv A outer s H E hr => ⟨f_whole_factor K c, ?_, eq_whole_factor K c⟩)
 exact (dss_one (ds_ret (de_callC c_common_bottom hr passS (da_cons (de_comp (xs := ["plane"]) (ys := []) (js := []) (cl := []) rfl (di_list (dv 0)) (cl_ok (ys := []) (js := []) rfl (fun _ h => nomatch h) cap_nil (by decide +kernel) (by decide +kernel)) cap_nil (by decide +kernel) rfl (by decide +kernel) rfl (by decide) (fun C s₀ H₀ ex pn => (dg_name (i := 0) (show (["plane"] : List Str).Nodup by decide +kernel) rfl (Or.inl rfl))) (fun C s₀ H₀ ex pn => dts_nil) (fun C s₀ H₀ ex pn => (de_ix (dv 0) de_int (fun _ _ => rfl)))) da_nil))))
theorem sc_lone_points : FnScope ["roof", "factor", "planes"] ["roof", "factor"] (defScope s_lone_points) := ⟨rfl, rfl, rfl, by decide +kernel, rfl, by decide +kernel, by decide +kernel⟩
theorem ok_lone_points {c : Cls} (Df : Def K mg "lone_points" ["roof", "factor"] s_lone_points) (B : Blt mg) (C : ClsM mg c) (O : ClsO mg base c) (hk : KitF K c) (c_lone_point : Cal P w K mg base 6 "lone_point" 2 (m_lone_point K c)) (c_blown_up : Cal P w K mg base 2 "blown_up" 2 (m_blown_up K c)) : Cal P w K mg base 7 "lone_points" 2 (m_lone_points K c) := by
 refine calM (k := 6) Df sc_lone_points rfl (fun f cdv A outer s H E hr => ⟨f_lone_points K c, ?_, eq_lone_points K c⟩)
 exact (dss_cons (ds_set (i := 2) sc_lone_points.nd rfl (Or.inr rfl) (de_callC c_blown_up hr passS (da_cons (dv 0) (da_cons (dv 1) da_nil)))) (dss_frz 2 (dss_one (ds_ret (de_comp (xs := ["plane"]) (ys := ["planes"]) (js := [2]) (cl := [("planes", s.heap.objs.size + 1)]) rfl (di_list (dv 2)) (cl_ok (ys := ["planes"]) (js := [2]) rfl (List.forall_mem_cons.mpr ⟨rfl, (fun _ h => nomatch h)⟩) (cap_cons ⟨rfl, .inl rfl, .inl rfl, rfl, rfl⟩ cap_nil) (by decide +kernel) (by decide +kernel)) (cap_cons ⟨rfl, .inl rfl, .inl rfl, rfl, rfl⟩ cap_nil) (by decide +kernel) rfl (by decide +kernel) rfl (by decide) (fun C s₀ H₀ ex pn => (dg_name (i := 0) (show (["plane", "planes"] : List Str).Nodup by decide +kernel) rfl (Or.inl rfl))) (fun C s₀ H₀ ex pn => dts_nil) (fun C s₀ H₀ ex pn => (de_callC c_lone_point hr passF (da_cons (dv 0) (da_cons (dv 1) da_nil)))))))))
theorem sc_pairs_and_triples : FnScope ["planes", "pairs", "triples", "k", "one", "m"] ["planes"] (defScope s_pairs_and_triples) := ⟨rfl, rfl, rfl, by decide +kernel, rfl, by decide +kernel, by decide +kernel⟩
theorem ok_pairs_and_triples {c : Cls} (Df : Def K mg "pairs_and_triples" ["planes"] s_pairs_and_triples) (B : Blt mg) (C : ClsM mg c) (O : ClsO mg base c) (hk : KitF K c) : Cal P w K mg base 1 "pairs_and_triples" 1 (m_pairs_and_triples K c) := by
 refine calM (k := 0) Df sc_pairs_and_triples rfl (fun f cdv A outer s H E hr => ⟨f_pairs_and_triples K c, ?_, eq_pairs_and_triples K c⟩)
 exact (dss_cons (ds_set (i := 1) sc_pairs_and_triples.nd rfl (Or.inl rfl) (de_lst da_nil)) (dss_cons (ds_set (i := 2) sc_pairs_and_triples.nd rfl (Or.inl rfl) (de_lst da_nil)) (dss_cons (ds_for PassesOwn.leaving rfl (di_enum rfl B.enumerate_ (da_cons (dv 0) da_nil)) (dg_tup (n := 2) rfl (dgs_cons (dg_name (i := 3) sc_pairs_and_triples.nd rfl (Or.inl rfl)) (dgs_cons (dg_name (i := 4) sc_pairs_and_triples.nd rfl (Or.inr rfl)) dgs_nil))) (dss_one (ds_for PassesOwn.leaving rfl (di_range2 rfl B.range_ (da_cons (de_op op_addA om_add noX_add (dv 3) de_int) (da_cons (de_callB call_len_seq cm_len noX_len rfl B.len_ PySem.boot_len (da_cons (dv 0) da_nil)) da_nil))) (dg_name (i := 5) sc_pairs_and_triples.nd rfl (Or.inr rfl)) (dss_cons (ds_append (i := 1) (de_lst (da_cons (dv 4) (da_cons (de_ix (dv 0) (dv 5) (fun _ _ => rfl)) da_nil))) (fun t q => ps_expr (pe_bm PySem.F.plainAttrs_list PySem.F.slot_list_append PySem.F.type_list_append mt_append (pv 1) (pa_cons q pa_nil)))) (dss_one (ds_extend (i := 2) (de_comp (xs := ["last"]) (ys := ["m", "one", "planes"]) (js := [5, 4, 0]) (cl := [("planes", s.heap.objs.size + 1), ("one", s.heap.objs.size + 1 + 1), ("m", s.heap.objs.size + 1 + 1 + 1)]) rfl (di_list (de_sl (dv 0) (dp_some (de_op op_addA om_add noX_add (dv 5) de_int)) dp_none)) (cl_ok (ys := ["m", "one", "planes"]) (js := [5, 4, 0]) rfl (List.forall_mem_cons.mpr ⟨rfl, (List.forall_mem_cons.mpr ⟨rfl, (List.forall_mem_cons.mpr ⟨rfl, (fun _ h => nomatch h)⟩)⟩)⟩) (cap_cons ⟨rfl, .inl rfl, .inl rfl, rfl, rfl⟩ (cap_cons ⟨rfl, .inl rfl, .inl rfl, rfl, rfl⟩ (cap_cons ⟨rfl, .inl rfl, .inl rfl, rfl, rfl⟩ cap_nil))) (by decide +kernel) (by decide +kernel)) (cap_cons ⟨rfl, .inl rfl, .inl rfl, rfl, rfl⟩ (cap_cons ⟨rfl, .inl rfl, .inl rfl, rfl, rfl⟩ (cap_cons ⟨rfl, .inl rfl, .inl rfl, rfl, rfl⟩ cap_nil))) (by decide +kernel) rfl (by decide +kernel) rfl (by decide) (fun C s₀ H₀ ex pn => (dg_name (i := 0) (show (["last", "m", "one", "planes"] : List Str).Nodup by decide +kernel) rfl (Or.inl rfl))) (fun C s₀ H₀ ex pn => dts_nil) (fun C s₀ H₀ ex pn => (de_lst (da_cons (dv 2) (da_cons (de_ix (dv 3) (dv 1) (fun _ _ => rfl)) (da_cons (dv 0) da_nil)))))) (fun t q => ps_expr (pe_bm PySem.F.plainAttrs_list PySem.F.slot_list_extend PySem.F.type_list_extend mt_extend (pv 2) (pa_cons q pa_nil))))))))) (dss_one (ds_ret (de_op op_addA om_add noX_add (dv 1) (dv 2)))))))
theorem sc_weights_of : FnScope ["plane", "group"] ["plane", "group"] (defScope s_weights_of) := ⟨rfl, rfl, rfl, by decide +kernel, rfl, by decide +kernel, by decide +kernel⟩
theorem ok_weights_of {c : Cls} (Df : Def K mg "weights_of" ["plane", "group"] s_weights_of) (B : Blt mg) (C : ClsM mg c) (O : ClsO mg base c) (hk : KitF K c) (c_triple_weights : Cal P w K mg base 2 "triple_weights" 4 (m_triple_weights K c)) (c_pair_weights : Cal P w K mg base 2 "pair_weights" 3 (m_pair_weights K c)) : Cal P w K mg base 3 "weights_of" 2 (m_weights_of K c) := by
 refine calM (k := 2) Df sc_weights_of rfl (fun f cdv A outer s H E hr => ⟨f_weights_of K c, ?_, eq_weights_of K c⟩)
 exact (dss_cons (ds_if (dt_cmp (op_eqP (u64 hr)) om_eq noX_eq (de_callB call_len_seq cm_len noX_len rfl B.len_ PySem.boot_len (da_cons (dv 1) da_nil)) de_int (nomark _)) (dss_one (ds_ret (de_callC c_pair_weights hr passS (da_cons (dv 0) (da_cons (de_ix (dv 1) de_int (fun _ _ => rfl)) (da_cons (de_ix (dv 1) de_int (fun _ _ => rfl)) da_nil)))))) dss_nil) (dss_one (ds_ret (de_callC c_triple_weights hr passS (da_cons (dv 0) (da_cons (de_ix (dv 1) de_int (fun _ _ => rfl)) (da_cons (de_ix (dv 1) de_int (fun _ _ => rfl)) (da_cons (de_ix (dv 1) de_int (fun _ _ => rfl)) da_nil))))))))
theorem sc__law_stirred : FnScope ["_law_script", "_law_prime", "_law_made", "_law_k", "_law_cell"] ["_law_script"] (defScope s__law_stirred) := ⟨rfl, rfl, rfl, by decide +kernel, rfl, by decide +kernel, by decide +kernel⟩
theorem ok__law_stirred {c : Cls} (Df : Def K mg "_law_stirred" ["_law_script"] s__law_stirred) (B : Blt mg) (C : ClsM mg c) (O : ClsO mg base c) (hk : KitF K c) (c__law_cell_at : Cal P w K mg base 1 "_law_cell_at" 2 (m__law_cell_at K c)) : Cal P w K mg base 2 "_law_stirred" 1 (m__law_stirred K c) := by
 refine calM (k := 1) Df sc__law_stirred rfl (fun f cdv A outer s H E hr => ⟨f__law_stirred K c, ?_, eq__law_stirred K c⟩)
 exact (dss_cons (ds_set (i := 1) sc__law_stirred.nd rfl (Or.inl rfl) de_int) (dss_cons (ds_set (i := 2) sc__law_stirred.nd rfl (Or.inl rfl) (de_lst da_nil)) (dss_cons (ds_for PassesOwn.leaving rfl (di_range1 rfl B.range_ (da_cons (de_callB (call_max2 rfl) cm_mm2 noX_mm2 rfl B.max_ bB_max (da_cons (de_callB call_len_seq cm_len noX_len rfl B.len_ PySem.boot_len (da_cons (dv 0) da_nil)) (da_cons de_int da_nil))) da_nil)) (dg_name (i := 3) sc__law_stirred.nd rfl (Or.inl rfl)) (dss_cons (ds_set (i := 4) sc__law_stirred.nd rfl (Or.inl rfl) (de_op op_modN om_mod noX_intE (de_callC c__law_cell_at hr passS (da_cons (dv 0) (da_cons (dv 3) da_nil))) (dv 1))) (dss_cons (ds_set (i := 4) sc__law_stirred.nd rfl (Or.inl rfl) (de_op op_modN om_mod noX_intE (de_op op_addA om_add noX_add (de_op op_addA om_add noX_add (de_op op_addA om_add noX_add (de_op op_mulW om_mul noX_intE (dv 4) de_int) (de_op op_mulW om_mul noX_intE (de_op op_mulW om_mul noX_intE (dv 3) (dv 3)) de_int)) (dv 3)) de_int) (dv 1))) (dss_one (ds_append (i := 2) (de_op op_modN om_mod noX_intE (de_op op_mulW om_mul noX_intE (de_op op_modN om_mod noX_intE (de_op op_mulW om_mul noX_intE (dv 4) de_int) (dv 1)) de_int) (dv 1)) (fun t q => ps_expr (pe_bm PySem.F.plainAttrs_list PySem.F.slot_list_append PySem.F.type_list_append mt_append (pv 2) (pa_cons q pa_nil)))))))) (dss_one (ds_ret (dv 2))))))
theorem sc__law_product : FnScope ["_law_one", "_law_other"] ["_law_one", "_law_other"] (defScope s__law_product) := ⟨rfl, rfl, rfl, by decide +kernel, rfl, by decide +kernel, by decide +kernel⟩
theorem ok__law_product {c : Cls} (Df : Def K mg "_law_product" ["_law_one", "_law_other"] s__law_product) (B : Blt mg) (C : ClsM mg c) (O : ClsO mg base c) (hk : KitF K c) (c__law_low : Cal P w K mg base 1 "_law_low" 2 (m__law_low K c)) : Cal P w K mg base 2 "_law_product" 2 (m__law_product K c) := by
 refine calM (k := 1) Df sc__law_product rfl (fun f cdv A outer s H E hr => ⟨f__law_product K c, ?_, eq__law_product K c⟩)
 exact (dss_one (ds_ret (de_callC c__law_low hr passS (da_cons (de_op op_mulW om_mul noX_intE (de_ix (dv 0) de_int (fun _ _ => rfl)) (de_ix (dv 1) de_int (fun _ _ => rfl))) (da_cons (de_op op_mulW om_mul noX_intE (de_ix (dv 0) de_int (fun _ _ => rfl)) (de_ix (dv 1) de_int (fun _ _ => rfl))) da_nil)))))
end
section
variable {P : Program} {w : World} {K : W.Frag} {mg : Str → Option Value} {base : Heap}
theorem sc_common_bottom : FnScope ["numbers", "common", "number"] ["numbers"] (defScope s_common_bottom) := ⟨rfl, rfl, rfl, by decide +kernel, rfl, by decide +kernel, by decide +kernel⟩
theorem ok_common_bottom {c : Cls} (Df : Def K mg "common_bottom" ["numbers"] s_common_bottom) (B : Blt mg) (C : ClsM mg c) (O : ClsO mg base c) (hk : KitF K c) (c_greatest_divisor : Cal P w K mg base 1 "greatest_divisor" 2 (m_greatest_divisor K c)) : Cal P w K mg base 2 "common_bottom" 1 (m_common_bottom K c) := by
 refine calM (k := 1) Df sc_common_bottom rfl (fun f cdv A outer s H E hr => ⟨f_common_bottom K c, ?_, eq_common_bottom K c⟩)
 exact (dss_cons (ds_set (i := 1) sc_common_bottom.nd rfl (Or.inl rfl) de_int) (dss_cons (ds_for PassesOwn.leaving rfl (di_list (dv 0)) (dg_name (i := 2) sc_common_bottom.nd rfl (Or.inl rfl)) (dss_one (ds_set (i := 1) sc_common_bottom.nd rfl (Or.inl rfl) (de_op op_fdivW om_fdiv noX_intE (de_op op_mulW om_mul noX_intE (dv 1) (de_ix (dv 2) de_int (fun _ _ => rfl))) (de_callC c_greatest_divisor hr passS (da_cons (dv 1) (da_cons (de_ix (dv 2) de_int (fun _ _ => rfl)) da_nil))))))) (dss_one (ds_ret (dv 1)))))
theorem sc_between : FnScope ["lows", "highs", "low", "high"] ["lows", "highs"] (defScope s_between) := ⟨rfl, rfl, rfl, by decide +kernel, rfl, by decide +kernel, by decide +kernel⟩
theorem ok_between {c : Cls} (Df : Def K mg "between" ["lows", "highs"] s_between) (B : Blt mg) (C : ClsM mg c) (O : ClsO mg base c) (hk : KitF K c) (c_less : Cal P w K mg base 1 "less" 2 (m_less K c)) (c_over : Cal P w K mg base 3 "over" 2 (m_over K c)) (c_plus : Cal P w K mg base 3 "plus" 2 (m_plus K c)) (c_least : Cal P w K mg base 2 "least" 1 (m_least K c)) (c_greatest : Cal P w K mg base 2 "greatest" 1 (m_greatest K c)) (c_minus : Cal P w K mg base 3 "minus" 2 (m_minus K c)) : Cal P w K mg base 4 "between" 2 (m_between K c) := by
 refine calM (k := 3) Df sc_between rfl (fun f cdv A outer s H E hr => ⟨f_between K c, ?_, eq_between K c⟩)
 exact (dss_cons (ds_if (DW.t (dw_and (dt_cmp (op_eqP (u64 hr)) om_eq noX_eq (de_callB call_len_seq cm_len noX_len rfl B.len_ PySem.boot_len (da_cons (dv 0) da_nil)) de_int (nomark _)) (dw_and1 (dt_cmp (op_eqP (u64 hr)) om_eq noX_eq (de_callB call_len_seq cm_len noX_len rfl B.len_ PySem.boot_len (da_cons (dv 1) da_nil)) de_int (nomark _))))) (dss_one (ds_ret (de_tup (da_cons de_int (da_cons de_int da_nil))))) dss_nil) (dss_cons (ds_if (dt_cmp (op_eqP (u64 hr)) om_eq noX_eq (de_callB call_len_seq cm_len noX_len rfl B.len_ PySem.boot_len (da_cons (dv 1) da_nil)) de_int (nomark _)) (dss_one (ds_ret (de_callC c_plus hr passS (da_cons (de_callC c_greatest hr passS (da_cons (dv 0) da_nil)) (da_cons (de_tup (da_cons de_int (da_cons de_int da_nil))) da_nil))))) dss_nil) (dss_cons (ds_if (dt_cmp (op_eqP (u64 hr)) om_eq noX_eq (de_callB call_len_seq cm_len noX_len rfl B.len_ PySem.boot_len (da_cons (dv 0) da_nil)) de_int (nomark _)) (dss_one (ds_ret (de_callC c_minus hr passS (da_cons (de_callC c_least hr passS (da_cons (dv 1) da_nil)) (da_cons (de_tup (da_cons de_int (da_cons de_int da_nil))) da_nil))))) dss_nil) (dss_cons (ds_set (i := 2) sc_between.nd rfl (Or.inl rfl) (de_callC c_greatest hr passS (da_cons (dv 0) da_nil))) (dss_cons (ds_set (i := 3) sc_between.nd rfl (Or.inl rfl) (de_callC c_least hr passS (da_cons (dv 1) da_nil))) (dss_one (ds_ret (de_if (dt_val (de_callC c_less hr passS (da_cons (dv 2) (da_cons (dv 3) da_nil)))) (de_callC c_over hr passS (da_cons (de_callC c_plus hr passS (da_cons (dv 2) (da_cons (dv 3) da_nil))) (da_cons (de_tup (da_cons de_int (da_cons de_int da_nil))) da_nil))) de_non))))))))
theorem sc_lone_point : FnScope ["plane", "planes", "rows", "x", "y"] ["plane", "planes"] (defScope s_lone_point) := ⟨rfl, rfl, rfl, by decide +kernel, rfl, by decide +kernel, by decide +kernel⟩
theorem ok_lone_point {c : Cls} (Df : Def K mg "lone_point" ["plane", "planes"] s_lone_point) (B : Blt mg) (C : ClsM mg c) (O : ClsO mg base c) (hk : KitF K c) (c_solved : Cal P w K mg base 5 "solved" 1 (m_solved K c)) (c_without_y : Cal P w K mg base 1 "without_y" 1 (m_without_y K c)) (c_gap : Cal P w K mg base 1 "gap" 2 (m_gap K c)) : Cal P w K mg base 6 "lone_point" 2 (m_lone_point K c) := by
 refine calM (k := 5) Df sc_lone_point rfl (fun f cdv A outer s H E hr => ⟨f_lone_point K c, ?_, eq_lone_point K c⟩)
 exact (dss_cons (ds_setC (i := 2) sc_lone_point.nd rfl (Or.inl rfl) (xs := ["other"]) (ys := ["plane"]) (js := [0]) (cl := [("plane", s.heap.objs.size + 1)]) rfl (di_list (dv 1)) (cl_ok (ys := ["plane"]) (js := [0]) rfl (List.forall_mem_cons.mpr ⟨rfl, (fun _ h => nomatch h)⟩) (cap_cons ⟨rfl, .inl rfl, .inl rfl, rfl, rfl⟩ cap_nil) (by decide +kernel) (by decide +kernel)) (cap_cons ⟨rfl, .inl rfl, .inl rfl, rfl, rfl⟩ cap_nil) (by decide +kernel) rfl (by decide +kernel) rfl (by decide) (fun C s₀ H₀ ex pn => (dg_name (i := 0) (show (["other", "plane"] : List Str).Nodup by decide +kernel) rfl (Or.inl rfl))) (fun C s₀ H₀ ex pn => (dts_one (dt_cmp (op_neP (u64 hr)) om_eq noX_eq (dv 0) (dv 1) (nomark _)))) (fun C s₀ H₀ ex pn => (de_callC c_gap hr passF (da_cons (dv 1) (da_cons (dv 0) da_nil))))) (dss_frz 2 (dss_cons (ds_set (i := 3) sc_lone_point.nd rfl (Or.inr rfl) (de_callC c_solved hr passS (da_cons (de_callC c_without_y hr passS (da_cons (dv 2) da_nil)) da_nil))) (dss_cons (ds_if (dt_isN (dv 3)) (dss_one (ds_ret de_non)) dss_nil) (dss_cons (ds_set (i := 4) sc_lone_point.nd rfl (Or.inl rfl) (de_callC c_solved hr passS (da_cons (de_comp (xs := ["row"]) (ys := ["x"]) (js := [3]) (cl := [("x", s.heap.objs.size + 1 + 1)]) rfl (di_list (dv 2)) (cl_ok (ys := ["x"]) (js := [3]) rfl (List.forall_mem_cons.mpr ⟨rfl, (fun _ h => nomatch h)⟩) (cap_cons ⟨rfl, .inl rfl, .inl rfl, rfl, rfl⟩ cap_nil) (by decide +kernel) (by decide +kernel)) (cap_cons ⟨rfl, .inl rfl, .inl rfl, rfl, rfl⟩ cap_nil) (by decide +kernel) rfl (by decide +kernel) rfl (by decide) (fun C s₀ H₀ ex pn => (dg_name (i := 0) (show (["row", "x"] : List Str).Nodup by decide +kernel) rfl (Or.inl rfl))) (fun C s₀ H₀ ex pn => dts_nil) (fun C s₀ H₀ ex pn => (de_tup (da_cons (de_op op_mulW om_mul noX_intE (de_ix (dv 0) de_int (fun _ _ => rfl)) (de_ix (dv 1) de_int (fun _ _ => rfl))) (da_cons (de_op op_addA om_add noX_add (de_op op_mulW om_mul noX_intE (de_ix (dv 0) de_int (fun _ _ => rfl)) (de_ix (dv 1) de_int (fun _ _ => rfl))) (de_op op_mulW om_mul noX_intE (de_ix (dv 0) de_int (fun _ _ => rfl)) (de_ix (dv 1) de_int (fun _ _ => rfl)))) da_nil))))) da_nil))) (dss_one (ds_ret (de_tup (da_cons (dv 3) (da_cons (dv 4) da_nil))))))))))
theorem sc__law_cell_at : FnScope ["_law_script", "_law_k"] ["_law_script", "_law_k"] (defScope s__law_cell_at) := ⟨rfl, rfl, rfl, by decide +kernel, rfl, by decide +kernel, by decide +kernel⟩
theorem ok__law_cell_at {c : Cls} (Df : Def K mg "_law_cell_at" ["_law_script", "_law_k"] s__law_cell_at) (B : Blt mg) (C : ClsM mg c) (O : ClsO mg base c) (hk : KitF K c) : Cal P w K mg base 1 "_law_cell_at" 2 (m__law_cell_at K c) := by
 refine calM (k := 0) Df sc__law_cell_at rfl (fun f cdv A outer s H E hr => ⟨f__law_cell_at K c, ?_, eq__law_cell_at K c⟩)
 exact (dss_cons (ds_if (dt_cmp op_lt om_cmp noX_intE0 (dv 1) (de_callB call_len_seq cm_len noX_len rfl B.len_ PySem.boot_len (da_cons (dv 0) da_nil)) (nomark _)) (dss_one (ds_ret (de_ix (dv 0) (dv 1) (fun _ _ => rfl)))) dss_nil) (dss_one (ds_ret de_int)))
theorem sc__law_low : FnScope ["_law_top", "_law_bottom", "_law_one", "_law_other"] ["_law_top", "_law_bottom"] (defScope s__law_low) := ⟨rfl, rfl, rfl, by decide +kernel, rfl, by decide +kernel, by decide +kernel⟩
theorem ok__law_low {c : Cls} (Df : Def K mg "_law_low" ["_law_top", "_law_bottom"] s__law_low) (B : Blt mg) (C : ClsM mg c) (O : ClsO mg base c) (hk : KitF K c) : Cal P w K mg base 1 "_law_low" 2 (m__law_low K c) := by
 refine calM (k := 0) Df sc__law_low rfl (fun f cdv A outer s H E hr => ⟨f__law_low K c, ?_, eq__law_low K c⟩)
 exact (dss_cons (ds_set (i := 2) sc__law_low.nd rfl (Or.inl rfl) (de_callB call_abs cm_abs noX_abs rfl B.abs_ bB_abs (da_cons (dv 0) da_nil))) (dss_cons (ds_set (i := 3) sc__law_low.nd rfl (Or.inl rfl) (de_callB call_abs cm_abs noX_abs rfl B.abs_ bB_abs (da_cons (dv 1) da_nil))) (dss_cons (ds_while PassesOwn.leaving (dt_cmp op_gt om_cmp noX_intE0 (dv 3) de_int (nomark _)) (dss_one (ds_par (i := 2) (j := 3) rfl sc__law_low.nd rfl rfl (by decide) rfl rfl (da_cons (dv 3) (da_cons (de_op op_modN om_mod noX_intE (dv 2) (dv 3)) da_nil))))) (dss_cons (ds_if (dt_cmp op_lt om_cmp noX_intE0 (dv 1) de_int (nomark _)) (dss_one (ds_set (i := 2) sc__law_low.nd rfl (Or.inl rfl) (de_neg (dv 2)))) dss_nil) (dss_one (ds_ret (de_tup (da_cons (de_op op_fdivW om_fdiv noX_intE (dv 0) (dv 2)) (da_cons (de_op op_fdivW om_fdiv noX_intE (dv 1) (dv 2)) da_nil)))))))))
theorem sc__law_sum : FnScope ["_law_one", "_law_other"] ["_law_one", "_law_other"] (defScope s__law_sum) := ⟨rfl, rfl, rfl, by decide +kernel, rfl, by decide +kernel, by decide +kernel⟩
theorem ok__law_sum {c : Cls} (Df : Def K mg "_law_sum" ["_law_one", "_law_other"] s__law_sum) (B : Blt mg) (C : ClsM mg c) (O : ClsO mg base c) (hk : KitF K c) (c__law_low : Cal P w K mg base 1 "_law_low" 2 (m__law_low K c)) : Cal P w K mg base 2 "_law_sum" 2 (m__law_sum K c) := by
 refine calM (k := 1) Df sc__law_sum rfl (fun f cdv A outer s H E hr => ⟨f__law_sum K c, ?_, eq__law_sum K c⟩)
 exact (dss_one (ds_ret (de_callC c__law_low hr passS (da_cons (de_op op_addA om_add noX_add (de_op op_mulW om_mul noX_intE (de_ix (dv 0) de_int (fun _ _ => rfl)) (de_ix (dv 1) de_int (fun _ _ => rfl))) (de_op op_mulW om_mul noX_intE (de_ix (dv 1) de_int (fun _ _ => rfl)) (de_ix (dv 0) de_int (fun _ _ => rfl)))) (da_cons (de_op op_mulW om_mul noX_intE (de_ix (dv 0) de_int (fun _ _ => rfl)) (de_ix (dv 1) de_int (fun _ _ => rfl))) da_nil)))))
end
section
variable {P : Program} {w : World} {K : W.Frag} {mg : Str → Option Value} {base : Heap}
theorem sc_greatest : FnScope ["numbers", "best", "number"] ["numbers"] (defScope s_greatest) := ⟨rfl, rfl, rfl, by decide +kernel, rfl, by decide +kernel, by decide +kernel⟩
theorem ok_greatest {c : Cls} (Df : Def K mg "greatest" ["numbers"] s_greatest) (B : Blt mg) (C : ClsM mg c) (O : ClsO mg base c) (hk : KitF K c) (c_less : Cal P w K mg base 1 "less" 2 (m_less K c)) : Cal P w K mg base 2 "greatest" 1 (m_greatest K c) := by
 refine calM (k := 1) Df sc_greatest rfl (fun f cdv A outer s H E hr => ⟨f_greatest K c, ?_, eq_greatest K c⟩)
 exact (dss_cons (ds_set (i := 1) sc_greatest.nd rfl (Or.inl rfl) (de_ix (dv 0) de_int (fun _ _ => rfl))) (dss_cons (ds_for PassesOwn.leaving rfl (di_list (dv 0)) (dg_name (i := 2) sc_greatest.nd rfl (Or.inl rfl)) (dss_one (ds_if (dt_val (de_callC c_less hr passS (da_cons (dv 1) (da_cons (dv 2) da_nil)))) (dss_one (ds_set (i := 1) sc_greatest.nd rfl (Or.inl rfl) (dv 2))) dss_nil))) (dss_one (ds_ret (dv 1)))))
theorem sc_least : FnScope ["numbers", "best", "number"] ["numbers"] (defScope s_least) := ⟨rfl, rfl, rfl, by decide +kernel, rfl, by decide +kernel, by decide +kernel⟩
theorem ok_least {c : Cls} (Df : Def K mg "least" ["numbers"] s_least) (B : Blt mg) (C : ClsM mg c) (O : ClsO mg base c) (hk : KitF K c) (c_less : Cal P w K mg base 1 "less" 2 (m_less K c)) : Cal P w K mg base 2 "least" 1 (m_least K c) := by
 refine calM (k := 1) Df sc_least rfl (fun f cdv A outer s H E hr => ⟨f_least K c, ?_, eq_least K c⟩)
 exact (dss_cons (ds_set (i := 1) sc_least.nd rfl (Or.inl rfl) (de_ix (dv 0) de_int (fun _ _ => rfl))) (dss_cons (ds_for PassesOwn.leaving rfl (di_list (dv 0)) (dg_name (i := 2) sc_least.nd rfl (Or.inl rfl)) (dss_one (ds_if (dt_val (de_callC c_less hr passS (da_cons (dv 2) (da_cons (dv 1) da_nil)))) (dss_one (ds_set (i := 1) sc_least.nd rfl (Or.inl rfl) (dv 2))) dss_nil))) (dss_one (ds_ret (dv 1)))))
theorem sc_solved : FnScope ["rows", "lows", "highs"] ["rows"] (defScope s_solved) := ⟨rfl, rfl, rfl, by decide +kernel, rfl, by decide +kernel, by decide +kernel⟩
theorem ok_solved {c : Cls} (Df : Def K mg "solved" ["rows"] s_solved) (B : Blt mg) (C : ClsM mg c) (O : ClsO mg base c) (hk : KitF K c) (c_between : Cal P w K mg base 4 "between" 2 (m_between K c)) (c_fraction : Cal P w K mg base 2 "fraction" 2 (m_fraction K c)) : Cal P w K mg base 5 "solved" 1 (m_solved K c) := by
 refine calM (k := 4) Df sc_solved rfl (fun f cdv A outer s H E hr => ⟨f_solved K c, ?_, eq_solved K c⟩)
 exact (dss_cons (ds_if (dt_val (de_callB (call_any rfl rfl) cm_any noX_any rfl B.any_ bB_any (da_cons (de_comp (xs := ["row"]) (ys := []) (js := []) (cl := []) rfl (di_list (dv 0)) (cl_ok (ys := []) (js := []) rfl (fun _ h => nomatch h) cap_nil (by decide +kernel) (by decide +kernel)) cap_nil (by decide +kernel) rfl (by decide +kernel) rfl (by decide) (fun C s₀ H₀ ex pn => (dg_name (i := 0) (show (["row"] : List Str).Nodup by decide +kernel) rfl (Or.inl rfl))) (fun C s₀ H₀ ex pn => dts_nil) (fun C s₀ H₀ ex pn => (de_and (de_cmp (op_eqP (u64 hr)) om_eq noX_eq (de_ix (dv 0) de_int (fun _ _ => rfl)) de_int (nomark _)) (de_one (de_cmp op_le om_cmp noX_intE0 (de_ix (dv 0) de_int (fun _ _ => rfl)) de_int (nomark _)))))) da_nil))) (dss_one (ds_ret de_non)) dss_nil) (dss_cons (ds_setC (i := 1) sc_solved.nd rfl (Or.inl rfl) (xs := ["row"]) (ys := []) (js := []) (cl := []) rfl (di_list (dv 0)) (cl_ok (ys := []) (js := []) rfl (fun _ h => nomatch h) cap_nil (by decide +kernel) (by decide +kernel)) cap_nil (by decide +kernel) rfl (by decide +kernel) rfl (by decide) (fun C s₀ H₀ ex pn => (dg_name (i := 0) (show (["row"] : List Str).Nodup by decide +kernel) rfl (Or.inl rfl))) (fun C s₀ H₀ ex pn => (dts_one (dt_cmp op_gt om_cmp noX_intE0 (de_ix (dv 0) de_int (fun _ _ => rfl)) de_int (nomark _)))) (fun C s₀ H₀ ex pn => (de_callC c_fraction hr passF (da_cons (de_neg (de_ix (dv 0) de_int (fun _ _ => rfl))) (da_cons (de_ix (dv 0) de_int (fun _ _ => rfl)) da_nil))))) (dss_cons (ds_setC (i := 2) sc_solved.nd rfl (Or.inl rfl) (xs := ["row"]) (ys := []) (js := []) (cl := []) rfl (di_list (dv 0)) (cl_ok (ys := []) (js := []) rfl (fun _ h => nomatch h) cap_nil (by decide +kernel) (by decide +kernel)) cap_nil (by decide +kernel) rfl (by decide +kernel) rfl (by decide) (fun C s₀ H₀ ex pn => (dg_name (i := 0) (show (["row"] : List Str).Nodup by decide +kernel) rfl (Or.inl rfl))) (fun C s₀ H₀ ex pn => (dts_one (dt_cmp op_lt om_cmp noX_intE0 (de_ix (dv 0) de_int (fun _ _ => rfl)) de_int (nomark _)))) (fun C s₀ H₀ ex pn => (de_callC c_fraction hr passF (da_cons (de_neg (de_ix (dv 0) de_int (fun _ _ => rfl))) (da_cons (de_ix (dv 0) de_int (fun _ _ => rfl)) da_nil))))) (dss_one (ds_ret (de_callC c_between hr passS (da_cons (dv 1) (da_cons (dv 2) da_nil))))))))
theorem sc_shared_sum : FnScope ["rows", "total", "share", "number"] ["rows"] (defScope s_shared_sum) := ⟨rfl, rfl, rfl, by decide +kernel, rfl, by decide +kernel, by decide +kernel⟩
theorem ok_shared_sum {c : Cls} (Df : Def K mg "shared_sum" ["rows"] s_shared_sum) (B : Blt mg) (C : ClsM mg c) (O : ClsO mg base c) (hk : KitF K c) (c_plus : Cal P w K mg base 3 "plus" 2 (m_plus K c)) (c_times : Cal P w K mg base 3 "times" 2 (m_times K c)) : Cal P w K mg base 4 "shared_sum" 1 (m_shared_sum K c) := by
 refine calM (k := 3) Df sc_shared_sum rfl (fun f cdv A outer s H E hr => ⟨f_shared_sum K c, ?_, eq_shared_sum K c⟩)
 exact (dss_cons (ds_set (i := 1) sc_shared_sum.nd rfl (Or.inl rfl) (de_tup (da_cons de_int (da_cons de_int da_nil)))) (dss_cons (ds_for PassesOwn.leaving rfl (di_list (dv 0)) (dg_tup (n := 2) rfl (dgs_cons (dg_name (i := 2) sc_shared_sum.nd rfl (Or.inl rfl)) (dgs_cons (dg_name (i := 3) sc_shared_sum.nd rfl (Or.inl rfl)) dgs_nil))) (dss_one (ds_set (i := 1) sc_shared_sum.nd rfl (Or.inl rfl) (de_callC c_plus hr passS (da_cons (dv 1) (da_cons (de_callC c_times hr passS (da_cons (dv 2) (da_cons (dv 3) da_nil))) da_nil)))))) (dss_one (ds_ret (dv 1)))))
theorem sc_mixture_height : FnScope ["mixture"] ["mixture"] (defScope s_mixture_height) := ⟨rfl, rfl, rfl, by decide +kernel, rfl, by decide +kernel, by decide +kernel⟩
theorem ok_mixture_height {c : Cls} (Df : Def K mg "mixture_height" ["mixture"] s_mixture_height) (B : Blt mg) (C : ClsM mg c) (O : ClsO mg base c) (hk : KitF K c) (c_shared_sum : Cal P w K mg base 4 "shared_sum" 1 (m_shared_sum K c)) : Cal P w K mg base 5 "mixture_height" 1 (m_mixture_height K c) := by
 refine calM (k := 4) Df sc_mixture_height rfl (fun f cdv A outer s H E hr => ⟨f_mixture_height K c, ?_, eq_mixture_height K c⟩)
 exact (dss_one (ds_ret (de_callC c_shared_sum hr passS (da_cons (de_comp (xs := ["share", "plane"]) (ys := []) (js := []) (cl := []) rfl (di_list (dv 0)) (cl_ok (ys := []) (js := []) rfl (fun _ h => nomatch h) cap_nil (by decide +kernel) (by decide +kernel)) cap_nil (by decide +kernel) rfl (by decide +kernel) rfl (by decide) (fun C s₀ H₀ ex pn => (dg_tup (n := 2) rfl (dgs_cons (dg_name (i := 0) (show (["share", "plane"] : List Str).Nodup by decide +kernel) rfl (Or.inl rfl)) (dgs_cons (dg_name (i := 1) (show (["share", "plane"] : List Str).Nodup by decide +kernel) rfl (Or.inl rfl)) dgs_nil)))) (fun C s₀ H₀ ex pn => dts_nil) (fun C s₀ H₀ ex pn => (de_tup (da_cons (dv 0) (da_cons (de_ix (dv 1) de_int (fun _ _ => rfl)) da_nil))))) da_nil))))
theorem sc_mixture_of : FnScope ["plane", "groups", "group", "weights", "mixture"] ["plane", "groups"] (defScope s_mixture_of) := ⟨rfl, rfl, rfl, by decide +kernel, rfl, by decide +kernel, by decide +kernel⟩
theorem ok_mixture_of {c : Cls} (Df : Def K mg "mixture_of" ["plane", "groups"] s_mixture_of) (B : Blt mg) (C : ClsM mg c) (O : ClsO mg base c) (hk : KitF K c) (c_less : Cal P w K mg base 1 "less" 2 (m_less K c)) (c_mixture_height : Cal P w K mg base 5 "mixture_height" 1 (m_mixture_height K c)) (c_fraction : Cal P w K mg base 2 "fraction" 2 (m_fraction K c)) (c_weights_of : Cal P w K mg base 3 "weights_of" 2 (m_weights_of K c)) : Cal P w K mg base 6 "mixture_of" 2 (m_mixture_of K c) := by
 refine calM (k := 5) Df sc_mixture_of rfl (fun f cdv A outer s H E hr => ⟨f_mixture_of K c, ?_, eq_mixture_of K c⟩)
 exact (dss_one (ds_for PassesOwn.leaving rfl (di_list (dv 1)) (dg_name (i := 2) sc_mixture_of.nd rfl (Or.inl rfl)) (dss_cons (ds_set (i := 3) sc_mixture_of.nd rfl (Or.inr rfl) (de_callC c_weights_of hr passS (da_cons (dv 0) (da_cons (dv 2) da_nil)))) (dss_one (ds_if (dt_cmp op_gt om_cmp noX_intE0 (de_callB (call_minL rfl rfl) cm_minL noX_minL rfl B.min_ bB_min (da_cons (dv 3) da_nil)) de_int (nomark _)) (dss_frz 3 (dss_cons (ds_setC (i := 4) sc_mixture_of.nd rfl (Or.inl rfl) (xs := ["weight", "part"]) (ys := ["weights"]) (js := [3]) (cl := [("weights", s.heap.objs.size + 1)]) rfl (di_zip rfl B.zip_ (da_cons (dv 3) (da_cons (dv 2) da_nil))) (cl_ok (ys := ["weights"]) (js := [3]) rfl (List.forall_mem_cons.mpr ⟨rfl, (fun _ h => nomatch h)⟩) (cap_cons ⟨rfl, .inl rfl, .inl rfl, rfl, rfl⟩ cap_nil) (by decide +kernel) (by decide +kernel)) (cap_cons ⟨rfl, .inl rfl, .inl rfl, rfl, rfl⟩ cap_nil) (by decide +kernel) rfl (by decide +kernel) rfl (by decide) (fun C s₀ H₀ ex pn => (dg_tup (n := 2) rfl (dgs_cons (dg_name (i := 0) (show (["weight", "part", "weights"] : List Str).Nodup by decide +kernel) rfl (Or.inl rfl)) (dgs_cons (dg_name (i := 1) (show (["weight", "part", "weights"] : List Str).Nodup by decide +kernel) rfl (Or.inl rfl)) dgs_nil)))) (fun C s₀ H₀ ex pn => dts_nil) (fun C s₀ H₀ ex pn => (de_tup (da_cons (de_callC c_fraction hr passF (da_cons (dv 0) (da_cons (de_callB (call_sumL rfl rfl) cm_sum noX_sum rfl B.sum_ bB_sum (da_cons (dv 2) da_nil)) da_nil))) (da_cons (dv 1) da_nil))))) (dss_one (ds_if (dt_not (dt_val (de_callC c_less hr passS (da_cons (de_callC c_mixture_height hr passS (da_cons (dv 4) da_nil)) (da_cons (de_ix (dv 0) de_int (fun _ _ => rfl)) da_nil))))) (dss_one (ds_ret (dv 4))) dss_nil)))) dss_nil)))))
end
theorem own_at {K : W.Frag} {h₀ : Heap} {mg : Str → Option Value} {x : Str} {C : Addr} {bmB : List Value} {newId : String} (X : K.In h₀) (G : h₀.Ns mainGlobals mg) (e : W.nsIn K mainGlobals x = some (some (.ref C))) (q : W.excIn K C bmB newId = true) : PyProof.Rows.OwnCls x C bmB newId mg h₀ := by
 refine ⟨W.mg_of X G e, ?_⟩
 unfold W.excIn at q
 split at q
 ·rename_i d1 cd1 sl1 ho1
  split at q
  ·rename_i C1 bm1 s0 s1 s2 s3 n1 s5 hm1 hs1
   simp only [Bool.and_eq_true, beq_iff_eq, Bool.not_eq_true'] at q
   obtain ⟨⟨⟨⟨⟨rfl, rfl⟩, hdl⟩, htl⟩, hnok⟩, hini⟩ := q
   obtain ⟨c1, c2, c3, c4, c5, c6, c7, c8, c9, c10, c11⟩ := cd1
   dsimp only at hm1 hdl hnok hini
   subst hm1 hdl
   obtain ⟨sll⟩ := sl1
   simp only at hs1
   subst hs1
   exact ⟨bm1, c4, c1, c5, c2, c6, c7, c8, c9, c10, d1, s0, s1, s2, s3, s5, _, X _ _ ho1, .of_isNs (W.isNs_of_in X hnok), W.nsMap_none_of_in X hnok hini, W.tail_of_in X htl⟩
  ·cases q
 ·cases q
theorem len_1 {α : Type} {us : List α} (h : us.length = 1) : ∃ a, us = [a] := List.length_eq_one_iff.mp h
theorem len_2 {α : Type} {us : List α} (h : us.length = 2) : ∃ a b, us = [a, b] := by
 cases us with
 | nil => cases h
 | cons a r => obtain ⟨b, rfl⟩ := len_1 (Nat.succ.inj h); exact ⟨a, b, rfl⟩
theorem len_3 {α : Type} {us : List α} (h : us.length = 3) : ∃ a b c, us = [a, b, c] := by
 cases us with
 | nil => cases h
 | cons a r => obtain ⟨b, c, rfl⟩ := len_2 (Nat.succ.inj h); exact ⟨a, b, c, rfl⟩
def noLists (K : W.Frag) : Bool := K.all fun p => match p.2.cls with
 | .type n => !(n == "list")
 | _ => true
theorem lookup_mem {a : Addr} {o : Obj} : ∀ {l : List (Addr × Obj)}, l.lookup a = some o → (a, o) ∈ l
 | (k, v) :: r, h => by
  unfold List.lookup at h
  split at h
  ·rename_i z
   have e : a = k := by simpa using z
   cases h
   rw [e]
   exact .head _
  ·exact .tail _ (lookup_mem h)
theorem noLists_no {K : W.Frag} (h : noLists K = true) {a : Addr} {o : Obj} (e : K.lookup a = some o) (hc : o.cls = .type "list") : False := by
 have := List.all_eq_true.mp h (a, o) (lookup_mem e)
 dsimp only at this
 rw [hc] at this
 cases this
def spLaw : Sp := fun vs H Q _ => ∃ (a : Addr) (ns : List Int), vs = [.ref a] ∧ Rd H a (.lst (ns.map V.int)) ∧ ns.length ≤ 63 ∧ ∀ H', Q (.bl true) H'
theorem reps_ints {K : W.Frag} {G : Hp} : ∀ ns : List Int, Reps K G (ns.map V.int) (ns.map PyData.int)
 | [] => .nil
 | i :: r => .cons (.int i) (reps_ints r)
theorem law_sp {P : Program} {w : World} {K : W.Frag} {mg : Str → Option Value} {base : Heap} {f : Addr} {fd : FuncData} {c : Cls} (hk : KitF K c) (F : FnOk P w K mg base (CXr P w) 10 f fd ["_law_script"] (spM K 1 (m_law K c))) : FnOk P w K mg base (CXr P w) 10 f fd ["_law_script"] spLaw :=
 F.imp fun vs H Q E h => by
  obtain ⟨a, ns, rfl, rd, hl, hq⟩ := h
  refine ⟨rfl, H, [.p (.list (ns.map .int))], Same.refl _, ⟨.lst rd (reps_ints ns), trivial⟩, ?_⟩
  rw [law_ok K c hk ns hl]
  intro G' H' v st r
  cases r
  exact hq H'
theorem len_4 {α : Type} {us : List α} (h : us.length = 4) : ∃ a0 a1 a2 a3, us = [a0, a1, a2, a3] := by
 cases us with
 | nil => cases h
 | cons a0 r => obtain ⟨a1, a2, a3, rfl⟩ := len_3 (Nat.succ.inj h); exact ⟨a0, a1, a2, a3, rfl⟩
theorem all_mk {l : W.OpenLaw} {w : World} {K : W.Frag} {h : Heap} {mg : Str → Option Value} {fa : Addr} {f1 f2 f3 f4 f5 f6 f7 f8 f9 f10 f11 f12 f13 f14 f15 f16 f17 f18 f19 f20 f21 f22 f23 f24 f25 f26 f27 f28 f29 f30 f31 f32 f33 f34 f35 f36 f37 f38 f39 f40 CRoofError CNoFraction : Addr} (X : K.In h) (G : h.Ns mainGlobals mg) (hfa : mg "law" = some (.ref fa))
  {od1 an1 od2 an2 od3 an3 od4 an4 od5 an5 od6 an6 od7 an7 od8 an8 od9 an9 od10 an10 od11 an11 od12 an12 od13 an13 od14 an14 od15 an15 od16 an16 od17 an17 od18 an18 od19 an19 od20 an20 od21 an21 od22 an22 od23 an23 od24 an24 od25 an25 od26 an26 od27 an27 od28 an28 od29 an29 od30 an30 od31 an31 od32 an32 od33 an33 od34 an34 od35 an35 od36 an36 od37 an37 od38 an38 od39 an39 od40 an40 : Option Addr} {sl1 sl2 sl3 sl4 sl5 sl6 sl7 sl8 sl9 sl10 sl11 sl12 sl13 sl14 sl15 sl16 sl17 sl18 sl19 sl20 sl21 sl22 sl23 sl24 sl25 sl26 sl27 sl28 sl29 sl30 sl31 sl32 sl33 sl34 sl35 sl36 sl37 sl38 sl39 sl40 : Array (Option Value)} {oc1 kV1 dc1 pm1 cd1 ct1 oc2 kV2 dc2 pm2 cd2 ct2 oc3 kV3 dc3 pm3 cd3 ct3 oc4 kV4 dc4 pm4 cd4 ct4 oc5 kV5 dc5 pm5 cd5 ct5 oc6 kV6 dc6 pm6 cd6 ct6 oc7 kV7 dc7 pm7 cd7 ct7 oc8 kV8 dc8 pm8 cd8 ct8 oc9 kV9 dc9 pm9 cd9 ct9 oc10 kV10 dc10 pm10 cd10 ct10 oc11 kV11 dc11 pm11 cd11 ct11 oc12 kV12 dc12 pm12 cd12 ct12 oc13 kV13 dc13 pm13 cd13 ct13 oc14 kV14 dc14 pm14 cd14 ct14 oc15 kV15 dc15 pm15 cd15 ct15 oc16 kV16 dc16 pm16 cd16 ct16 oc17 kV17 dc17 pm17 cd17 ct17 oc18 kV18 dc18 pm18 cd18 ct18 oc19 kV19 dc19 pm19 cd19 ct19 oc20 kV20 dc20 pm20 cd20 ct20 oc21 kV21 dc21 pm21 cd21 ct21 oc22 kV22 dc22 pm22 cd22 ct22 oc23 kV23 dc23 pm23 cd23 ct23 oc24 kV24 dc24 pm24 cd24 ct24 oc25 kV25 dc25 pm25 cd25 ct25 oc26 kV26 dc26 pm26 cd26 ct26 oc27 kV27 dc27 pm27 cd27 ct27 oc28 kV28 dc28 pm28 cd28 ct28 oc29 kV29 dc29 pm29 cd29 ct29 oc30 kV30 dc30 pm30 cd30 ct30 oc31 kV31 dc31 pm31 cd31 ct31 oc32 kV32 dc32 pm32 cd32 ct32 oc33 kV33 dc33 pm33 cd33 ct33 oc34 kV34 dc34 pm34 cd34 ct34 oc35 kV35 dc35 pm35 cd35 ct35 oc36 kV36 dc36 pm36 cd36 ct36 oc37 kV37 dc37 pm37 cd37 ct37 oc38 kV38 dc38 pm38 cd38 ct38 oc39 kV39 dc39 pm39 cd39 ct39 oc40 kV40 dc40 pm40 cd40 ct40 : Value}
  (a1 : W.nsIn K mainGlobals "greatest_divisor" = some (some (.ref f1)))
  (l1 : K.lookup f1 = some ⟨oc1, od1, .func (W.fnOf "greatest_divisor" "greatest_divisor" (defArgs s_greatest_divisor) (defBody s_greatest_divisor) (defScope s_greatest_divisor) .none kV1 dc1 pm1 an1 cd1 ct1), sl1⟩)
  (c1 : W.codeIn K cd1 "greatest_divisor" = true)
  (k1 : W.keepIn K (.ref f1) = true)
  (a2 : W.nsIn K mainGlobals "fraction" = some (some (.ref f2)))
  (l2 : K.lookup f2 = some ⟨oc2, od2, .func (W.fnOf "fraction" "fraction" (defArgs s_fraction) (defBody s_fraction) (defScope s_fraction) .none kV2 dc2 pm2 an2 cd2 ct2), sl2⟩)
  (c2 : W.codeIn K cd2 "fraction" = true)
  (k2 : W.keepIn K (.ref f2) = true)
  (a3 : W.nsIn K mainGlobals "plus" = some (some (.ref f3)))
  (l3 : K.lookup f3 = some ⟨oc3, od3, .func (W.fnOf "plus" "plus" (defArgs s_plus) (defBody s_plus) (defScope s_plus) .none kV3 dc3 pm3 an3 cd3 ct3), sl3⟩)
  (c3 : W.codeIn K cd3 "plus" = true)
  (k3 : W.keepIn K (.ref f3) = true)
  (a4 : W.nsIn K mainGlobals "minus" = some (some (.ref f4)))
  (l4 : K.lookup f4 = some ⟨oc4, od4, .func (W.fnOf "minus" "minus" (defArgs s_minus) (defBody s_minus) (defScope s_minus) .none kV4 dc4 pm4 an4 cd4 ct4), sl4⟩)
  (c4 : W.codeIn K cd4 "minus" = true)
  (k4 : W.keepIn K (.ref f4) = true)
  (a5 : W.nsIn K mainGlobals "times" = some (some (.ref f5)))
  (l5 : K.lookup f5 = some ⟨oc5, od5, .func (W.fnOf "times" "times" (defArgs s_times) (defBody s_times) (defScope s_times) .none kV5 dc5 pm5 an5 cd5 ct5), sl5⟩)
  (c5 : W.codeIn K cd5 "times" = true)
  (k5 : W.keepIn K (.ref f5) = true)
  (a6 : W.nsIn K mainGlobals "over" = some (some (.ref f6)))
  (l6 : K.lookup f6 = some ⟨oc6, od6, .func (W.fnOf "over" "over" (defArgs s_over) (defBody s_over) (defScope s_over) .none kV6 dc6 pm6 an6 cd6 ct6), sl6⟩)
  (c6 : W.codeIn K cd6 "over" = true)
  (k6 : W.keepIn K (.ref f6) = true)
  (a7 : W.nsIn K mainGlobals "less" = some (some (.ref f7)))
  (l7 : K.lookup f7 = some ⟨oc7, od7, .func (W.fnOf "less" "less" (defArgs s_less) (defBody s_less) (defScope s_less) .none kV7 dc7 pm7 an7 cd7 ct7), sl7⟩)
  (c7 : W.codeIn K cd7 "less" = true)
  (k7 : W.keepIn K (.ref f7) = true)
  (a8 : W.nsIn K mainGlobals "greatest" = some (some (.ref f8)))
  (l8 : K.lookup f8 = some ⟨oc8, od8, .func (W.fnOf "greatest" "greatest" (defArgs s_greatest) (defBody s_greatest) (defScope s_greatest) .none kV8 dc8 pm8 an8 cd8 ct8), sl8⟩)
  (c8 : W.codeIn K cd8 "greatest" = true)
  (k8 : W.keepIn K (.ref f8) = true)
  (a9 : W.nsIn K mainGlobals "least" = some (some (.ref f9)))
  (l9 : K.lookup f9 = some ⟨oc9, od9, .func (W.fnOf "least" "least" (defArgs s_least) (defBody s_least) (defScope s_least) .none kV9 dc9 pm9 an9 cd9 ct9), sl9⟩)
  (c9 : W.codeIn K cd9 "least" = true)
  (k9 : W.keepIn K (.ref f9) = true)
  (a10 : W.nsIn K mainGlobals "common_bottom" = some (some (.ref f10)))
  (l10 : K.lookup f10 = some ⟨oc10, od10, .func (W.fnOf "common_bottom" "common_bottom" (defArgs s_common_bottom) (defBody s_common_bottom) (defScope s_common_bottom) .none kV10 dc10 pm10 an10 cd10 ct10), sl10⟩)
  (c10 : W.codeIn K cd10 "common_bottom" = true)
  (k10 : W.keepIn K (.ref f10) = true)
  (a11 : W.nsIn K mainGlobals "whole" = some (some (.ref f11)))
  (l11 : K.lookup f11 = some ⟨oc11, od11, .func (W.fnOf "whole" "whole" (defArgs s_whole) (defBody s_whole) (defScope s_whole) .none kV11 dc11 pm11 an11 cd11 ct11), sl11⟩)
  (c11 : W.codeIn K cd11 "whole" = true)
  (k11 : W.keepIn K (.ref f11) = true)
  (a12 : W.nsIn K mainGlobals "turn" = some (some (.ref f12)))
  (l12 : K.lookup f12 = some ⟨oc12, od12, .func (W.fnOf "turn" "turn" (defArgs s_turn) (defBody s_turn) (defScope s_turn) .none kV12 dc12 pm12 an12 cd12 ct12), sl12⟩)
  (c12 : W.codeIn K cd12 "turn" = true)
  (k12 : W.keepIn K (.ref f12) = true)
  (a13 : W.nsIn K mainGlobals "whole_factor" = some (some (.ref f13)))
  (l13 : K.lookup f13 = some ⟨oc13, od13, .func (W.fnOf "whole_factor" "whole_factor" (defArgs s_whole_factor) (defBody s_whole_factor) (defScope s_whole_factor) .none kV13 dc13 pm13 an13 cd13 ct13), sl13⟩)
  (c13 : W.codeIn K cd13 "whole_factor" = true)
  (k13 : W.keepIn K (.ref f13) = true)
  (a14 : W.nsIn K mainGlobals "blown_up" = some (some (.ref f14)))
  (l14 : K.lookup f14 = some ⟨oc14, od14, .func (W.fnOf "blown_up" "blown_up" (defArgs s_blown_up) (defBody s_blown_up) (defScope s_blown_up) .none kV14 dc14 pm14 an14 cd14 ct14), sl14⟩)
  (c14 : W.codeIn K cd14 "blown_up" = true)
  (k14 : W.keepIn K (.ref f14) = true)
  (a15 : W.nsIn K mainGlobals "shrunk" = some (some (.ref f15)))
  (l15 : K.lookup f15 = some ⟨oc15, od15, .func (W.fnOf "shrunk" "shrunk" (defArgs s_shrunk) (defBody s_shrunk) (defScope s_shrunk) .none kV15 dc15 pm15 an15 cd15 ct15), sl15⟩)
  (c15 : W.codeIn K cd15 "shrunk" = true)
  (k15 : W.keepIn K (.ref f15) = true)
  (a16 : W.nsIn K mainGlobals "between" = some (some (.ref f16)))
  (l16 : K.lookup f16 = some ⟨oc16, od16, .func (W.fnOf "between" "between" (defArgs s_between) (defBody s_between) (defScope s_between) .none kV16 dc16 pm16 an16 cd16 ct16), sl16⟩)
  (c16 : W.codeIn K cd16 "between" = true)
  (k16 : W.keepIn K (.ref f16) = true)
  (a17 : W.nsIn K mainGlobals "solved" = some (some (.ref f17)))
  (l17 : K.lookup f17 = some ⟨oc17, od17, .func (W.fnOf "solved" "solved" (defArgs s_solved) (defBody s_solved) (defScope s_solved) .none kV17 dc17 pm17 an17 cd17 ct17), sl17⟩)
  (c17 : W.codeIn K cd17 "solved" = true)
  (k17 : W.keepIn K (.ref f17) = true)
  (a18 : W.nsIn K mainGlobals "without_y" = some (some (.ref f18)))
  (l18 : K.lookup f18 = some ⟨oc18, od18, .func (W.fnOf "without_y" "without_y" (defArgs s_without_y) (defBody s_without_y) (defScope s_without_y) .none kV18 dc18 pm18 an18 cd18 ct18), sl18⟩)
  (c18 : W.codeIn K cd18 "without_y" = true)
  (k18 : W.keepIn K (.ref f18) = true)
  (a19 : W.nsIn K mainGlobals "gap" = some (some (.ref f19)))
  (l19 : K.lookup f19 = some ⟨oc19, od19, .func (W.fnOf "gap" "gap" (defArgs s_gap) (defBody s_gap) (defScope s_gap) .none kV19 dc19 pm19 an19 cd19 ct19), sl19⟩)
  (c19 : W.codeIn K cd19 "gap" = true)
  (k19 : W.keepIn K (.ref f19) = true)
  (a20 : W.nsIn K mainGlobals "lone_point" = some (some (.ref f20)))
  (l20 : K.lookup f20 = some ⟨oc20, od20, .func (W.fnOf "lone_point" "lone_point" (defArgs s_lone_point) (defBody s_lone_point) (defScope s_lone_point) .none kV20 dc20 pm20 an20 cd20 ct20), sl20⟩)
  (c20 : W.codeIn K cd20 "lone_point" = true)
  (k20 : W.keepIn K (.ref f20) = true)
  (a21 : W.nsIn K mainGlobals "lone_points" = some (some (.ref f21)))
  (l21 : K.lookup f21 = some ⟨oc21, od21, .func (W.fnOf "lone_points" "lone_points" (defArgs s_lone_points) (defBody s_lone_points) (defScope s_lone_points) .none kV21 dc21 pm21 an21 cd21 ct21), sl21⟩)
  (c21 : W.codeIn K cd21 "lone_points" = true)
  (k21 : W.keepIn K (.ref f21) = true)
  (a22 : W.nsIn K mainGlobals "staying" = some (some (.ref f22)))
  (l22 : K.lookup f22 = some ⟨oc22, od22, .func (W.fnOf "staying" "staying" (defArgs s_staying) (defBody s_staying) (defScope s_staying) .none kV22 dc22 pm22 an22 cd22 ct22), sl22⟩)
  (c22 : W.codeIn K cd22 "staying" = true)
  (k22 : W.keepIn K (.ref f22) = true)
  (a23 : W.nsIn K mainGlobals "thinned" = some (some (.ref f23)))
  (l23 : K.lookup f23 = some ⟨oc23, od23, .func (W.fnOf "thinned" "thinned" (defArgs s_thinned) (defBody s_thinned) (defScope s_thinned) .none kV23 dc23 pm23 an23 cd23 ct23), sl23⟩)
  (c23 : W.codeIn K cd23 "thinned" = true)
  (k23 : W.keepIn K (.ref f23) = true)
  (a24 : W.nsIn K mainGlobals "pairs_and_triples" = some (some (.ref f24)))
  (l24 : K.lookup f24 = some ⟨oc24, od24, .func (W.fnOf "pairs_and_triples" "pairs_and_triples" (defArgs s_pairs_and_triples) (defBody s_pairs_and_triples) (defScope s_pairs_and_triples) .none kV24 dc24 pm24 an24 cd24 ct24), sl24⟩)
  (c24 : W.codeIn K cd24 "pairs_and_triples" = true)
  (k24 : W.keepIn K (.ref f24) = true)
  (a25 : W.nsIn K mainGlobals "dot" = some (some (.ref f25)))
  (l25 : K.lookup f25 = some ⟨oc25, od25, .func (W.fnOf "dot" "dot" (defArgs s_dot) (defBody s_dot) (defScope s_dot) .none kV25 dc25 pm25 an25 cd25 ct25), sl25⟩)
  (c25 : W.codeIn K cd25 "dot" = true)
  (k25 : W.keepIn K (.ref f25) = true)
  (a26 : W.nsIn K mainGlobals "pair_weights" = some (some (.ref f26)))
  (l26 : K.lookup f26 = some ⟨oc26, od26, .func (W.fnOf "pair_weights" "pair_weights" (defArgs s_pair_weights) (defBody s_pair_weights) (defScope s_pair_weights) .none kV26 dc26 pm26 an26 cd26 ct26), sl26⟩)
  (c26 : W.codeIn K cd26 "pair_weights" = true)
  (k26 : W.keepIn K (.ref f26) = true)
  (a27 : W.nsIn K mainGlobals "triple_weights" = some (some (.ref f27)))
  (l27 : K.lookup f27 = some ⟨oc27, od27, .func (W.fnOf "triple_weights" "triple_weights" (defArgs s_triple_weights) (defBody s_triple_weights) (defScope s_triple_weights) .none kV27 dc27 pm27 an27 cd27 ct27), sl27⟩)
  (c27 : W.codeIn K cd27 "triple_weights" = true)
  (k27 : W.keepIn K (.ref f27) = true)
  (a28 : W.nsIn K mainGlobals "weights_of" = some (some (.ref f28)))
  (l28 : K.lookup f28 = some ⟨oc28, od28, .func (W.fnOf "weights_of" "weights_of" (defArgs s_weights_of) (defBody s_weights_of) (defScope s_weights_of) .none kV28 dc28 pm28 an28 cd28 ct28), sl28⟩)
  (c28 : W.codeIn K cd28 "weights_of" = true)
  (k28 : W.keepIn K (.ref f28) = true)
  (a29 : W.nsIn K mainGlobals "shared_sum" = some (some (.ref f29)))
  (l29 : K.lookup f29 = some ⟨oc29, od29, .func (W.fnOf "shared_sum" "shared_sum" (defArgs s_shared_sum) (defBody s_shared_sum) (defScope s_shared_sum) .none kV29 dc29 pm29 an29 cd29 ct29), sl29⟩)
  (c29 : W.codeIn K cd29 "shared_sum" = true)
  (k29 : W.keepIn K (.ref f29) = true)
  (a30 : W.nsIn K mainGlobals "mixture_height" = some (some (.ref f30)))
  (l30 : K.lookup f30 = some ⟨oc30, od30, .func (W.fnOf "mixture_height" "mixture_height" (defArgs s_mixture_height) (defBody s_mixture_height) (defScope s_mixture_height) .none kV30 dc30 pm30 an30 cd30 ct30), sl30⟩)
  (c30 : W.codeIn K cd30 "mixture_height" = true)
  (k30 : W.keepIn K (.ref f30) = true)
  (a31 : W.nsIn K mainGlobals "mixture_of" = some (some (.ref f31)))
  (l31 : K.lookup f31 = some ⟨oc31, od31, .func (W.fnOf "mixture_of" "mixture_of" (defArgs s_mixture_of) (defBody s_mixture_of) (defScope s_mixture_of) .none kV31 dc31 pm31 an31 cd31 ct31), sl31⟩)
  (c31 : W.codeIn K cd31 "mixture_of" = true)
  (k31 : W.keepIn K (.ref f31) = true)
  (a32 : W.nsIn K mainGlobals "struck" = some (some (.ref f32)))
  (l32 : K.lookup f32 = some ⟨oc32, od32, .func (W.fnOf "struck" "struck" (defArgs s_struck) (defBody s_struck) (defScope s_struck) .none kV32 dc32 pm32 an32 cd32 ct32), sl32⟩)
  (c32 : W.codeIn K cd32 "struck" = true)
  (k32 : W.keepIn K (.ref f32) = true)
  (a33 : W.nsIn K mainGlobals "_law_cell_at" = some (some (.ref f33)))
  (l33 : K.lookup f33 = some ⟨oc33, od33, .func (W.fnOf "_law_cell_at" "_law_cell_at" (defArgs s__law_cell_at) (defBody s__law_cell_at) (defScope s__law_cell_at) .none kV33 dc33 pm33 an33 cd33 ct33), sl33⟩)
  (c33 : W.codeIn K cd33 "_law_cell_at" = true)
  (k33 : W.keepIn K (.ref f33) = true)
  (a34 : W.nsIn K mainGlobals "_law_stirred" = some (some (.ref f34)))
  (l34 : K.lookup f34 = some ⟨oc34, od34, .func (W.fnOf "_law_stirred" "_law_stirred" (defArgs s__law_stirred) (defBody s__law_stirred) (defScope s__law_stirred) .none kV34 dc34 pm34 an34 cd34 ct34), sl34⟩)
  (c34 : W.codeIn K cd34 "_law_stirred" = true)
  (k34 : W.keepIn K (.ref f34) = true)
  (a35 : W.nsIn K mainGlobals "_law_low" = some (some (.ref f35)))
  (l35 : K.lookup f35 = some ⟨oc35, od35, .func (W.fnOf "_law_low" "_law_low" (defArgs s__law_low) (defBody s__law_low) (defScope s__law_low) .none kV35 dc35 pm35 an35 cd35 ct35), sl35⟩)
  (c35 : W.codeIn K cd35 "_law_low" = true)
  (k35 : W.keepIn K (.ref f35) = true)
  (a36 : W.nsIn K mainGlobals "_law_sum" = some (some (.ref f36)))
  (l36 : K.lookup f36 = some ⟨oc36, od36, .func (W.fnOf "_law_sum" "_law_sum" (defArgs s__law_sum) (defBody s__law_sum) (defScope s__law_sum) .none kV36 dc36 pm36 an36 cd36 ct36), sl36⟩)
  (c36 : W.codeIn K cd36 "_law_sum" = true)
  (k36 : W.keepIn K (.ref f36) = true)
  (a37 : W.nsIn K mainGlobals "_law_product" = some (some (.ref f37)))
  (l37 : K.lookup f37 = some ⟨oc37, od37, .func (W.fnOf "_law_product" "_law_product" (defArgs s__law_product) (defBody s__law_product) (defScope s__law_product) .none kV37 dc37 pm37 an37 cd37 ct37), sl37⟩)
  (c37 : W.codeIn K cd37 "_law_product" = true)
  (k37 : W.keepIn K (.ref f37) = true)
  (a38 : W.nsIn K mainGlobals "_law_bowl_by" = some (some (.ref f38)))
  (l38 : K.lookup f38 = some ⟨oc38, od38, .func (W.fnOf "_law_bowl_by" "_law_bowl_by" (defArgs s__law_bowl_by) (defBody s__law_bowl_by) (defScope s__law_bowl_by) .none kV38 dc38 pm38 an38 cd38 ct38), sl38⟩)
  (c38 : W.codeIn K cd38 "_law_bowl_by" = true)
  (k38 : W.keepIn K (.ref f38) = true)
  (a39 : W.nsIn K mainGlobals "_law_with_struck" = some (some (.ref f39)))
  (l39 : K.lookup f39 = some ⟨oc39, od39, .func (W.fnOf "_law_with_struck" "_law_with_struck" (defArgs s__law_with_struck) (defBody s__law_with_struck) (defScope s__law_with_struck) .none kV39 dc39 pm39 an39 cd39 ct39), sl39⟩)
  (c39 : W.codeIn K cd39 "_law_with_struck" = true)
  (k39 : W.keepIn K (.ref f39) = true)
  (a40 : W.nsIn K mainGlobals "law" = some (some (.ref f40)))
  (l40 : K.lookup f40 = some ⟨oc40, od40, .func (W.fnOf "law" "law" (defArgs s_law) (defBody s_law) (defScope s_law) .none kV40 dc40 pm40 an40 cd40 ct40), sl40⟩)
  (c40 : W.codeIn K cd40 "law" = true)
  (k40 : W.keepIn K (.ref f40) = true)
  (z0 : W.nsIn K mainGlobals "abs" = some none)
  (z1 : W.nsIn K mainGlobals "any" = some none)
  (z2 : W.nsIn K mainGlobals "bool" = some none)
  (z3 : W.nsIn K mainGlobals "dict" = some none)
  (z4 : W.nsIn K mainGlobals "enumerate" = some none)
  (z5 : W.nsIn K mainGlobals "int" = some none)
  (z6 : W.nsIn K mainGlobals "isinstance" = some none)
  (z7 : W.nsIn K mainGlobals "len" = some none)
  (z8 : W.nsIn K mainGlobals "list" = some none)
  (z9 : W.nsIn K mainGlobals "max" = some none)
  (z10 : W.nsIn K mainGlobals "min" = some none)
  (z11 : W.nsIn K mainGlobals "range" = some none)
  (z12 : W.nsIn K mainGlobals "sorted" = some none)
  (z13 : W.nsIn K mainGlobals "sum" = some none)
  (z14 : W.nsIn K mainGlobals "zip" = some none)
  (nRoofError : W.nsIn K mainGlobals "RoofError" = some (some (.ref CRoofError)))
  (nNoFraction : W.nsIn K mainGlobals "NoFraction" = some (some (.ref CNoFraction)))
  (eNoFraction : W.excIn K CNoFraction [.type "ValueError", .type "Exception", .type "BaseException", .type "object"] "ValueError.__new__" = true)
  (xii : W.kitOne K (.type "int") (.type "int") = some true)
  (xib : W.kitOne K (.type "int") (.type "bool") = some false)
  (xtt : W.kitOne K (.type "tuple") (.type "tuple") = some true)
  (xll : W.kitOne K (.type "list") (.type "list") = some true)
  : ∃ fd : FuncData, (∀ (s : Shared) (v : Value), BindsTo s fd ⟨[v], []⟩ [("_law_script", v)]) ∧ ∀ base : Heap, K.In base → base.Ns mainGlobals mg → FnOk l.prog w K mg base (CXr l.prog w) 10 fa fd ["_law_script"] spLaw := by
 have e := hfa.symm.trans (W.mg_of X G a40)
 cases e
 have F1 := fun_mk (st := s_greatest_divisor) l1 c1 k1
 have D1 : Def K mg "greatest_divisor" ["a", "b"] s_greatest_divisor := ⟨_, _, F1, F1.binds (ps := ["a", "b"]) (fun _ _ _ _ _ _ us hl => by obtain ⟨_, _, rfl⟩ := len_2 hl; rfl), k1, W.mg_of X G a1⟩
 have F2 := fun_mk (st := s_fraction) l2 c2 k2
 have D2 : Def K mg "fraction" ["top", "bottom"] s_fraction := ⟨_, _, F2, F2.binds (ps := ["top", "bottom"]) (fun _ _ _ _ _ _ us hl => by obtain ⟨_, _, rfl⟩ := len_2 hl; rfl), k2, W.mg_of X G a2⟩
 have F3 := fun_mk (st := s_plus) l3 c3 k3
 have D3 : Def K mg "plus" ["a", "b"] s_plus := ⟨_, _, F3, F3.binds (ps := ["a", "b"]) (fun _ _ _ _ _ _ us hl => by obtain ⟨_, _, rfl⟩ := len_2 hl; rfl), k3, W.mg_of X G a3⟩
 have F4 := fun_mk (st := s_minus) l4 c4 k4
 have D4 : Def K mg "minus" ["a", "b"] s_minus := ⟨_, _, F4, F4.binds (ps := ["a", "b"]) (fun _ _ _ _ _ _ us hl => by obtain ⟨_, _, rfl⟩ := len_2 hl; rfl), k4, W.mg_of X G a4⟩
 have F5 := fun_mk (st := s_times) l5 c5 k5
 have D5 : Def K mg "times" ["a", "b"] s_times := ⟨_, _, F5, F5.binds (ps := ["a", "b"]) (fun _ _ _ _ _ _ us hl => by obtain ⟨_, _, rfl⟩ := len_2 hl; rfl), k5, W.mg_of X G a5⟩
 have F6 := fun_mk (st := s_over) l6 c6 k6
 have D6 : Def K mg "over" ["a", "b"] s_over := ⟨_, _, F6, F6.binds (ps := ["a", "b"]) (fun _ _ _ _ _ _ us hl => by obtain ⟨_, _, rfl⟩ := len_2 hl; rfl), k6, W.mg_of X G a6⟩
 have F7 := fun_mk (st := s_less) l7 c7 k7
 have D7 : Def K mg "less" ["a", "b"] s_less := ⟨_, _, F7, F7.binds (ps := ["a", "b"]) (fun _ _ _ _ _ _ us hl => by obtain ⟨_, _, rfl⟩ := len_2 hl; rfl), k7, W.mg_of X G a7⟩
 have F8 := fun_mk (st := s_greatest) l8 c8 k8
 have D8 : Def K mg "greatest" ["numbers"] s_greatest := ⟨_, _, F8, F8.binds (ps := ["numbers"]) (fun _ _ _ _ _ _ us hl => by obtain ⟨_, rfl⟩ := len_1 hl; rfl), k8, W.mg_of X G a8⟩
 have F9 := fun_mk (st := s_least) l9 c9 k9
 have D9 : Def K mg "least" ["numbers"] s_least := ⟨_, _, F9, F9.binds (ps := ["numbers"]) (fun _ _ _ _ _ _ us hl => by obtain ⟨_, rfl⟩ := len_1 hl; rfl), k9, W.mg_of X G a9⟩
 have F10 := fun_mk (st := s_common_bottom) l10 c10 k10
 have D10 : Def K mg "common_bottom" ["numbers"] s_common_bottom := ⟨_, _, F10, F10.binds (ps := ["numbers"]) (fun _ _ _ _ _ _ us hl => by obtain ⟨_, rfl⟩ := len_1 hl; rfl), k10, W.mg_of X G a10⟩
 have F11 := fun_mk (st := s_whole) l11 c11 k11
 have D11 : Def K mg "whole" ["number", "factor"] s_whole := ⟨_, _, F11, F11.binds (ps := ["number", "factor"]) (fun _ _ _ _ _ _ us hl => by obtain ⟨_, _, rfl⟩ := len_2 hl; rfl), k11, W.mg_of X G a11⟩
 have F12 := fun_mk (st := s_turn) l12 c12 k12
 have D12 : Def K mg "turn" ["start", "middle", "end"] s_turn := ⟨_, _, F12, F12.binds (ps := ["start", "middle", "end"]) (fun _ _ _ _ _ _ us hl => by obtain ⟨_, _, _, rfl⟩ := len_3 hl; rfl), k12, W.mg_of X G a12⟩
 have F13 := fun_mk (st := s_whole_factor) l13 c13 k13
 have D13 : Def K mg "whole_factor" ["roof"] s_whole_factor := ⟨_, _, F13, F13.binds (ps := ["roof"]) (fun _ _ _ _ _ _ us hl => by obtain ⟨_, rfl⟩ := len_1 hl; rfl), k13, W.mg_of X G a13⟩
 have F14 := fun_mk (st := s_blown_up) l14 c14 k14
 have D14 : Def K mg "blown_up" ["roof", "factor"] s_blown_up := ⟨_, _, F14, F14.binds (ps := ["roof", "factor"]) (fun _ _ _ _ _ _ us hl => by obtain ⟨_, _, rfl⟩ := len_2 hl; rfl), k14, W.mg_of X G a14⟩
 have F15 := fun_mk (st := s_shrunk) l15 c15 k15
 have D15 : Def K mg "shrunk" ["point", "factor"] s_shrunk := ⟨_, _, F15, F15.binds (ps := ["point", "factor"]) (fun _ _ _ _ _ _ us hl => by obtain ⟨_, _, rfl⟩ := len_2 hl; rfl), k15, W.mg_of X G a15⟩
 have F16 := fun_mk (st := s_between) l16 c16 k16
 have D16 : Def K mg "between" ["lows", "highs"] s_between := ⟨_, _, F16, F16.binds (ps := ["lows", "highs"]) (fun _ _ _ _ _ _ us hl => by obtain ⟨_, _, rfl⟩ := len_2 hl; rfl), k16, W.mg_of X G a16⟩
 have F17 := fun_mk (st := s_solved) l17 c17 k17
 have D17 : Def K mg "solved" ["rows"] s_solved := ⟨_, _, F17, F17.binds (ps := ["rows"]) (fun _ _ _ _ _ _ us hl => by obtain ⟨_, rfl⟩ := len_1 hl; rfl), k17, W.mg_of X G a17⟩
 have F18 := fun_mk (st := s_without_y) l18 c18 k18
 have D18 : Def K mg "without_y" ["rows"] s_without_y := ⟨_, _, F18, F18.binds (ps := ["rows"]) (fun _ _ _ _ _ _ us hl => by obtain ⟨_, rfl⟩ := len_1 hl; rfl), k18, W.mg_of X G a18⟩
 have F19 := fun_mk (st := s_gap) l19 c19 k19
 have D19 : Def K mg "gap" ["plane", "other"] s_gap := ⟨_, _, F19, F19.binds (ps := ["plane", "other"]) (fun _ _ _ _ _ _ us hl => by obtain ⟨_, _, rfl⟩ := len_2 hl; rfl), k19, W.mg_of X G a19⟩
 have F20 := fun_mk (st := s_lone_point) l20 c20 k20
 have D20 : Def K mg "lone_point" ["plane", "planes"] s_lone_point := ⟨_, _, F20, F20.binds (ps := ["plane", "planes"]) (fun _ _ _ _ _ _ us hl => by obtain ⟨_, _, rfl⟩ := len_2 hl; rfl), k20, W.mg_of X G a20⟩
 have F21 := fun_mk (st := s_lone_points) l21 c21 k21
 have D21 : Def K mg "lone_points" ["roof", "factor"] s_lone_points := ⟨_, _, F21, F21.binds (ps := ["roof", "factor"]) (fun _ _ _ _ _ _ us hl => by obtain ⟨_, _, rfl⟩ := len_2 hl; rfl), k21, W.mg_of X G a21⟩
 have F22 := fun_mk (st := s_staying) l22 c22 k22
 have D22 : Def K mg "staying" ["roof"] s_staying := ⟨_, _, F22, F22.binds (ps := ["roof"]) (fun _ _ _ _ _ _ us hl => by obtain ⟨_, rfl⟩ := len_1 hl; rfl), k22, W.mg_of X G a22⟩
 have F23 := fun_mk (st := s_thinned) l23 c23 k23
 have D23 : Def K mg "thinned" ["roof"] s_thinned := ⟨_, _, F23, F23.binds (ps := ["roof"]) (fun _ _ _ _ _ _ us hl => by obtain ⟨_, rfl⟩ := len_1 hl; rfl), k23, W.mg_of X G a23⟩
 have F24 := fun_mk (st := s_pairs_and_triples) l24 c24 k24
 have D24 : Def K mg "pairs_and_triples" ["planes"] s_pairs_and_triples := ⟨_, _, F24, F24.binds (ps := ["planes"]) (fun _ _ _ _ _ _ us hl => by obtain ⟨_, rfl⟩ := len_1 hl; rfl), k24, W.mg_of X G a24⟩
 have F25 := fun_mk (st := s_dot) l25 c25 k25
 have D25 : Def K mg "dot" ["middle", "one", "other"] s_dot := ⟨_, _, F25, F25.binds (ps := ["middle", "one", "other"]) (fun _ _ _ _ _ _ us hl => by obtain ⟨_, _, _, rfl⟩ := len_3 hl; rfl), k25, W.mg_of X G a25⟩
 have F26 := fun_mk (st := s_pair_weights) l26 c26 k26
 have D26 : Def K mg "pair_weights" ["middle", "one", "other"] s_pair_weights := ⟨_, _, F26, F26.binds (ps := ["middle", "one", "other"]) (fun _ _ _ _ _ _ us hl => by obtain ⟨_, _, _, rfl⟩ := len_3 hl; rfl), k26, W.mg_of X G a26⟩
 have F27 := fun_mk (st := s_triple_weights) l27 c27 k27
 have D27 : Def K mg "triple_weights" ["middle", "one", "other", "last"] s_triple_weights := ⟨_, _, F27, F27.binds (ps := ["middle", "one", "other", "last"]) (fun _ _ _ _ _ _ us hl => by obtain ⟨_, _, _, _, rfl⟩ := len_4 hl; rfl), k27, W.mg_of X G a27⟩
 have F28 := fun_mk (st := s_weights_of) l28 c28 k28
 have D28 : Def K mg "weights_of" ["plane", "group"] s_weights_of := ⟨_, _, F28, F28.binds (ps := ["plane", "group"]) (fun _ _ _ _ _ _ us hl => by obtain ⟨_, _, rfl⟩ := len_2 hl; rfl), k28, W.mg_of X G a28⟩
 have F29 := fun_mk (st := s_shared_sum) l29 c29 k29
 have D29 : Def K mg "shared_sum" ["rows"] s_shared_sum := ⟨_, _, F29, F29.binds (ps := ["rows"]) (fun _ _ _ _ _ _ us hl => by obtain ⟨_, rfl⟩ := len_1 hl; rfl), k29, W.mg_of X G a29⟩
 have F30 := fun_mk (st := s_mixture_height) l30 c30 k30
 have D30 : Def K mg "mixture_height" ["mixture"] s_mixture_height := ⟨_, _, F30, F30.binds (ps := ["mixture"]) (fun _ _ _ _ _ _ us hl => by obtain ⟨_, rfl⟩ := len_1 hl; rfl), k30, W.mg_of X G a30⟩
 have F31 := fun_mk (st := s_mixture_of) l31 c31 k31
 have D31 : Def K mg "mixture_of" ["plane", "groups"] s_mixture_of := ⟨_, _, F31, F31.binds (ps := ["plane", "groups"]) (fun _ _ _ _ _ _ us hl => by obtain ⟨_, _, rfl⟩ := len_2 hl; rfl), k31, W.mg_of X G a31⟩
 have F32 := fun_mk (st := s_struck) l32 c32 k32
 have D32 : Def K mg "struck" ["roof"] s_struck := ⟨_, _, F32, F32.binds (ps := ["roof"]) (fun _ _ _ _ _ _ us hl => by obtain ⟨_, rfl⟩ := len_1 hl; rfl), k32, W.mg_of X G a32⟩
 have F33 := fun_mk (st := s__law_cell_at) l33 c33 k33
 have D33 : Def K mg "_law_cell_at" ["_law_script", "_law_k"] s__law_cell_at := ⟨_, _, F33, F33.binds (ps := ["_law_script", "_law_k"]) (fun _ _ _ _ _ _ us hl => by obtain ⟨_, _, rfl⟩ := len_2 hl; rfl), k33, W.mg_of X G a33⟩
 have F34 := fun_mk (st := s__law_stirred) l34 c34 k34
 have D34 : Def K mg "_law_stirred" ["_law_script"] s__law_stirred := ⟨_, _, F34, F34.binds (ps := ["_law_script"]) (fun _ _ _ _ _ _ us hl => by obtain ⟨_, rfl⟩ := len_1 hl; rfl), k34, W.mg_of X G a34⟩
 have F35 := fun_mk (st := s__law_low) l35 c35 k35
 have D35 : Def K mg "_law_low" ["_law_top", "_law_bottom"] s__law_low := ⟨_, _, F35, F35.binds (ps := ["_law_top", "_law_bottom"]) (fun _ _ _ _ _ _ us hl => by obtain ⟨_, _, rfl⟩ := len_2 hl; rfl), k35, W.mg_of X G a35⟩
 have F36 := fun_mk (st := s__law_sum) l36 c36 k36
 have D36 : Def K mg "_law_sum" ["_law_one", "_law_other"] s__law_sum := ⟨_, _, F36, F36.binds (ps := ["_law_one", "_law_other"]) (fun _ _ _ _ _ _ us hl => by obtain ⟨_, _, rfl⟩ := len_2 hl; rfl), k36, W.mg_of X G a36⟩
 have F37 := fun_mk (st := s__law_product) l37 c37 k37
 have D37 : Def K mg "_law_product" ["_law_one", "_law_other"] s__law_product := ⟨_, _, F37, F37.binds (ps := ["_law_one", "_law_other"]) (fun _ _ _ _ _ _ us hl => by obtain ⟨_, _, rfl⟩ := len_2 hl; rfl), k37, W.mg_of X G a37⟩
 have F38 := fun_mk (st := s__law_bowl_by) l38 c38 k38
 have D38 : Def K mg "_law_bowl_by" ["_law_script"] s__law_bowl_by := ⟨_, _, F38, F38.binds (ps := ["_law_script"]) (fun _ _ _ _ _ _ us hl => by obtain ⟨_, rfl⟩ := len_1 hl; rfl), k38, W.mg_of X G a38⟩
 have F39 := fun_mk (st := s__law_with_struck) l39 c39 k39
 have D39 : Def K mg "_law_with_struck" ["_law_high", "_law_cells"] s__law_with_struck := ⟨_, _, F39, F39.binds (ps := ["_law_high", "_law_cells"]) (fun _ _ _ _ _ _ us hl => by obtain ⟨_, _, rfl⟩ := len_2 hl; rfl), k39, W.mg_of X G a39⟩
 have F40 := fun_mk (st := s_law) l40 c40 k40
 have B : Blt mg := ⟨W.mg_none_of X G z0, W.mg_none_of X G z1, W.mg_none_of X G z2, W.mg_none_of X G z3, W.mg_none_of X G z4, W.mg_none_of X G z5, W.mg_none_of X G z6, W.mg_none_of X G z7, W.mg_none_of X G z8, W.mg_none_of X G z9, W.mg_none_of X G z10, W.mg_none_of X G z11, W.mg_none_of X G z12, W.mg_none_of X G z13, W.mg_none_of X G z14⟩
 let c : Cls := ⟨CRoofError, CNoFraction⟩
 have C : ClsM mg c := ⟨W.mg_of X G nRoofError, W.mg_of X G nNoFraction⟩
 have hk : KitF K c := ⟨xii, xib, xtt, xll⟩
 refine ⟨W.fnOf "law" "law" (defArgs s_law) (defBody s_law) (defScope s_law) .none kV40 dc40 pm40 an40 cd40 ct40, fun s v => .of_eq rfl, fun base kb nb => ?_⟩
 have O : ClsO mg base c := ⟨own_at kb nb nNoFraction eNoFraction⟩
 have G1 : Cal l.prog w K mg base 1 "greatest_divisor" 2 (m_greatest_divisor K c) := ok_greatest_divisor D1 B C O hk
 have G7 : Cal l.prog w K mg base 1 "less" 2 (m_less K c) := ok_less D7 B C O hk
 have G11 : Cal l.prog w K mg base 1 "whole" 2 (m_whole K c) := ok_whole D11 B C O hk
 have G12 : Cal l.prog w K mg base 1 "turn" 3 (m_turn K c) := ok_turn D12 B C O hk
 have G18 : Cal l.prog w K mg base 1 "without_y" 1 (m_without_y K c) := ok_without_y D18 B C O hk
 have G19 : Cal l.prog w K mg base 1 "gap" 2 (m_gap K c) := ok_gap D19 B C O hk
 have G24 : Cal l.prog w K mg base 1 "pairs_and_triples" 1 (m_pairs_and_triples K c) := ok_pairs_and_triples D24 B C O hk
 have G25 : Cal l.prog w K mg base 1 "dot" 3 (m_dot K c) := ok_dot D25 B C O hk
 have G33 : Cal l.prog w K mg base 1 "_law_cell_at" 2 (m__law_cell_at K c) := ok__law_cell_at D33 B C O hk
 have G35 : Cal l.prog w K mg base 1 "_law_low" 2 (m__law_low K c) := ok__law_low D35 B C O hk
 have G2 : Cal l.prog w K mg base 2 "fraction" 2 (m_fraction K c) := ok_fraction D2 B C O hk G1
 have G8 : Cal l.prog w K mg base 2 "greatest" 1 (m_greatest K c) := ok_greatest D8 B C O hk G7
 have G9 : Cal l.prog w K mg base 2 "least" 1 (m_least K c) := ok_least D9 B C O hk G7
 have G10 : Cal l.prog w K mg base 2 "common_bottom" 1 (m_common_bottom K c) := ok_common_bottom D10 B C O hk G1
 have G14 : Cal l.prog w K mg base 2 "blown_up" 2 (m_blown_up K c) := ok_blown_up D14 B C O hk G11
 have G26 : Cal l.prog w K mg base 2 "pair_weights" 3 (m_pair_weights K c) := ok_pair_weights D26 B C O hk G25 G12
 have G27 : Cal l.prog w K mg base 2 "triple_weights" 4 (m_triple_weights K c) := ok_triple_weights D27 B C O hk G12
 have G34 : Cal l.prog w K mg base 2 "_law_stirred" 1 (m__law_stirred K c) := ok__law_stirred D34 B C O hk G33
 have G36 : Cal l.prog w K mg base 2 "_law_sum" 2 (m__law_sum K c) := ok__law_sum D36 B C O hk G35
 have G37 : Cal l.prog w K mg base 2 "_law_product" 2 (m__law_product K c) := ok__law_product D37 B C O hk G35
 have G3 : Cal l.prog w K mg base 3 "plus" 2 (m_plus K c) := ok_plus D3 B C O hk G2
 have G4 : Cal l.prog w K mg base 3 "minus" 2 (m_minus K c) := ok_minus D4 B C O hk G2
 have G5 : Cal l.prog w K mg base 3 "times" 2 (m_times K c) := ok_times D5 B C O hk G2
 have G6 : Cal l.prog w K mg base 3 "over" 2 (m_over K c) := ok_over D6 B C O hk G2
 have G13 : Cal l.prog w K mg base 3 "whole_factor" 1 (m_whole_factor K c) := ok_whole_factor D13 B C O hk G10
 have G15 : Cal l.prog w K mg base 3 "shrunk" 2 (m_shrunk K c) := ok_shrunk D15 B C O hk G2
 have G28 : Cal l.prog w K mg base 3 "weights_of" 2 (m_weights_of K c) := ok_weights_of D28 B C O hk G27 G26
 have G38 : Cal l.prog w K mg base 3 "_law_bowl_by" 1 (m__law_bowl_by K c) := ok__law_bowl_by D38 B C O hk G37 G33 G35
 have G39 : Cal l.prog w K mg base 3 "_law_with_struck" 2 (m__law_with_struck K c) := ok__law_with_struck D39 B C O hk G36 G35 G37
 have G16 : Cal l.prog w K mg base 4 "between" 2 (m_between K c) := ok_between D16 B C O hk G7 G6 G3 G9 G8 G4
 have G29 : Cal l.prog w K mg base 4 "shared_sum" 1 (m_shared_sum K c) := ok_shared_sum D29 B C O hk G3 G5
 have G17 : Cal l.prog w K mg base 5 "solved" 1 (m_solved K c) := ok_solved D17 B C O hk G16 G2
 have G30 : Cal l.prog w K mg base 5 "mixture_height" 1 (m_mixture_height K c) := ok_mixture_height D30 B C O hk G29
 have G20 : Cal l.prog w K mg base 6 "lone_point" 2 (m_lone_point K c) := ok_lone_point D20 B C O hk G17 G18 G19
 have G31 : Cal l.prog w K mg base 6 "mixture_of" 2 (m_mixture_of K c) := ok_mixture_of D31 B C O hk G7 G30 G2 G28
 have G21 : Cal l.prog w K mg base 7 "lone_points" 2 (m_lone_points K c) := ok_lone_points D21 B C O hk G20 G14
 have G22 : Cal l.prog w K mg base 8 "staying" 1 (m_staying K c) := ok_staying D22 B C O hk G15 G21 G13
 have G23 : Cal l.prog w K mg base 8 "thinned" 1 (m_thinned K c) := ok_thinned D23 B C O hk G21 G13
 have G32 : Cal l.prog w K mg base 9 "struck" 1 (m_struck K c) := ok_struck D32 B C O hk G31 G24 G23
 exact law_sp hk (ok_law F40 B C O hk G32 G23 G22 G39 G38 G34)
theorem walk {l : W.OpenLaw} {q : Program} {loose : List Str} {XP : (Str → Option Value) → Heap → Prop} {YP : World → Heap → Prop} {d : DefRec} {K : Params → W.Frag} (hn : l.most = some 63) (hdf : d.params.defaults = [])
  (hY : ∀ (w : World) (h : Heap), YP w h → (K w.params).In h) (hK : ∀ w : World, noLists (K w.params) = true)
  (F : ∀ (w : World) (mg : Str → Option Value) (fa : Addr) (h : Heap), (K w.params).In h → h.Ns mainGlobals mg → mg d.name = some (.ref fa) →
   ∃ fd : FuncData, (∀ (s : Shared) (u : Value), BindsTo s fd ⟨[u], []⟩ [("_law_script", u)]) ∧ ∀ base : Heap, (K w.params).In base → base.Ns mainGlobals mg → FnOk l.prog w (K w.params) mg base (CXr l.prog w) 10 fa fd ["_law_script"] spLaw) :
  W.WalkO q loose XP YP l.row.toRowW d [] (fun f vs => PySem.call f vs) :=
 L2.walk_of (n := 63) (k := 10) (x := "_law_script") (CX := fun w => CXr l.prog w) (sp := fun _ => spLaw) hn (by decide) hdf ⟨rfl, by decide, by decide⟩ hY F (fun w _ a ns hl _ hS => ⟨a, ns, rfl, hS.elim id (by rintro ⟨_, _, _, e, hc, _⟩; exact (noLists_no (hK w) e hc).elim), hl, fun _ => rfl⟩) (by rintro _ _ _ _ _ ⟨_, _, _, _, _, _, _, z⟩; exact z)
end My
open PySem PySem.W PyProof.Rows
set_option maxRecDepth 100000 in
set_option maxHeartbeats 0 in
theorem PySem.Challenge.cw_creasecurve_k11_known_planes_struck_out_holds : PySem.Challenge.rw_creasecurve_k11_known_planes_struck_out.Holds := by
 w_on; o_law; k_head; (case hw => w_witness2)
 k_fill
 refine My.walk (l := PySem.Challenge.rw_creasecurve_k11_known_planes_struck_out) rfl rfl (fun w h Y => W.kIn_of Y) ?noL ?F
 case noL => intro w; rfl
 case F =>
  intro w mg fa h KX G hmg
  refine' My.all_mk KX G hmg ?a1 ?l1 ?c1 ?k1 ?a2 ?l2 ?c2 ?k2 ?a3 ?l3 ?c3 ?k3 ?a4 ?l4 ?c4 ?k4 ?a5 ?l5 ?c5 ?k5 ?a6 ?l6 ?c6 ?k6 ?a7 ?l7 ?c7 ?k7 ?a8 ?l8 ?c8 ?k8 ?a9 ?l9 ?c9 ?k9 ?a10 ?l10 ?c10 ?k10 ?a11 ?l11 ?c11 ?k11 ?a12 ?l12 ?c12 ?k12 ?a13 ?l13 ?c13 ?k13 ?a14 ?l14 ?c14 ?k14 ?a15 ?l15 ?c15 ?k15 ?a16 ?l16 ?c16 ?k16 ?a17 ?l17 ?c17 ?k17 ?a18 ?l18 ?c18 ?k18 ?a19 ?l19 ?c19 ?k19 ?a20 ?l20 ?c20 ?k20 ?a21 ?l21 ?c21 ?k21 ?a22 ?l22 ?c22 ?k22 ?a23 ?l23 ?c23 ?k23 ?a24 ?l24 ?c24 ?k24 ?a25 ?l25 ?c25 ?k25 ?a26 ?l26 ?c26 ?k26 ?a27 ?l27 ?c27 ?k27 ?a28 ?l28 ?c28 ?k28 ?a29 ?l29 ?c29 ?k29 ?a30 ?l30 ?c30 ?k30 ?a31 ?l31 ?c31 ?k31 ?a32 ?l32 ?c32 ?k32 ?a33 ?l33 ?c33 ?k33 ?a34 ?l34 ?c34 ?k34 ?a35 ?l35 ?c35 ?k35 ?a36 ?l36 ?c36 ?k36 ?a37 ?l37 ?c37 ?k37 ?a38 ?l38 ?c38 ?k38 ?a39 ?l39 ?c39 ?k39 ?a40 ?l40 ?c40 ?k40 ?z0 ?z1 ?z2 ?z3 ?z4 ?z5 ?z6 ?z7 ?z8 ?z9 ?z10 ?z11 ?z12 ?z13 ?z14 ?nRoofError ?nNoFraction ?eNoFraction ?xii ?xib ?xtt ?xll
  (case a1 => k_is)
  (case l1 => k_is)
  (case c1 => k_is)
  (case k1 => k_is)
  (case a2 => k_is)
  (case l2 => k_is)
  (case c2 => k_is)
  (case k2 => k_is)
  (case a3 => k_is)
  (case l3 => k_is)
  (case c3 => k_is)
  (case k3 => k_is)
  (case a4 => k_is)
  (case l4 => k_is)
  (case c4 => k_is)
  (case k4 => k_is)
  (case a5 => k_is)
  (case l5 => k_is)
  (case c5 => k_is)
  (case k5 => k_is)
  (case a6 => k_is)
  (case l6 => k_is)
  (case c6 => k_is)
  (case k6 => k_is)
  (case a7 => k_is)
  (case l7 => k_is)
  (case c7 => k_is)
  (case k7 => k_is)
  (case a8 => k_is)
  (case l8 => k_is)
  (case c8 => k_is)
  (case k8 => k_is)
  (case a9 => k_is)
  (case l9 => k_is)
  (case c9 => k_is)
  (case k9 => k_is)
  (case a10 => k_is)
  (case l10 => k_is)
  (case c10 => k_is)
  (case k10 => k_is)
  (case a11 => k_is)
  (case l11 => k_is)
  (case c11 => k_is)
  (case k11 => k_is)
  (case a12 => k_is)
  (case l12 => k_is)
  (case c12 => k_is)
  (case k12 => k_is)
  (case a13 => k_is)
  (case l13 => k_is)
  (case c13 => k_is)
  (case k13 => k_is)
  (case a14 => k_is)
  (case l14 => k_is)
  (case c14 => k_is)
  (case k14 => k_is)
  (case a15 => k_is)
  (case l15 => k_is)
  (case c15 => k_is)
  (case k15 => k_is)
  (case a16 => k_is)
  (case l16 => k_is)
  (case c16 => k_is)
  (case k16 => k_is)
  (case a17 => k_is)
  (case l17 => k_is)
  (case c17 => k_is)
  (case k17 => k_is)
  (case a18 => k_is)
  (case l18 => k_is)
  (case c18 => k_is)
  (case k18 => k_is)
  (case a19 => k_is)
  (case l19 => k_is)
  (case c19 => k_is)
  (case k19 => k_is)
  (case a20 => k_is)
  (case l20 => k_is)
  (case c20 => k_is)
  (case k20 => k_is)
  (case a21 => k_is)
  (case l21 => k_is)
  (case c21 => k_is)
  (case k21 => k_is)
  (case a22 => k_is)
  (case l22 => k_is)
  (case c22 => k_is)
  (case k22 => k_is)
  (case a23 => k_is)
  (case l23 => k_is)
  (case c23 => k_is)
  (case k23 => k_is)
  (case a24 => k_is)
  (case l24 => k_is)
  (case c24 => k_is)
  (case k24 => k_is)
  (case a25 => k_is)
  (case l25 => k_is)
  (case c25 => k_is)
  (case k25 => k_is)
  (case a26 => k_is)
  (case l26 => k_is)
  (case c26 => k_is)
  (case k26 => k_is)
  (case a27 => k_is)
  (case l27 => k_is)
  (case c27 => k_is)
  (case k27 => k_is)
  (case a28 => k_is)
  (case l28 => k_is)
  (case c28 => k_is)
  (case k28 => k_is)
  (case a29 => k_is)
  (case l29 => k_is)
  (case c29 => k_is)
  (case k29 => k_is)
  (case a30 => k_is)
  (case l30 => k_is)
  (case c30 => k_is)
  (case k30 => k_is)
  (case a31 => k_is)
  (case l31 => k_is)
  (case c31 => k_is)
  (case k31 => k_is)
  (case a32 => k_is)
  (case l32 => k_is)
  (case c32 => k_is)
  (case k32 => k_is)
  (case a33 => k_is)
  (case l33 => k_is)
  (case c33 => k_is)
  (case k33 => k_is)
  (case a34 => k_is)
  (case l34 => k_is)
  (case c34 => k_is)
  (case k34 => k_is)
  (case a35 => k_is)
  (case l35 => k_is)
  (case c35 => k_is)
  (case k35 => k_is)
  (case a36 => k_is)
  (case l36 => k_is)
  (case c36 => k_is)
  (case k36 => k_is)
  (case a37 => k_is)
  (case l37 => k_is)
  (case c37 => k_is)
  (case k37 => k_is)
  (case a38 => k_is)
  (case l38 => k_is)
  (case c38 => k_is)
  (case k38 => k_is)
  (case a39 => k_is)
  (case l39 => k_is)
  (case c39 => k_is)
  (case k39 => k_is)
  (case a40 => k_is)
  (case l40 => k_is)
  (case c40 => k_is)
  (case k40 => k_is)
  (case z0 => k_is)
  (case z1 => k_is)
  (case z2 => k_is)
  (case z3 => k_is)
  (case z4 => k_is)
  (case z5 => k_is)
  (case z6 => k_is)
  (case z7 => k_is)
  (case z8 => k_is)
  (case z9 => k_is)
  (case z10 => k_is)
  (case z11 => k_is)
  (case z12 => k_is)
  (case z13 => k_is)
  (case z14 => k_is)
  (case nRoofError => k_is)
  (case nNoFraction => k_is)
  (case eNoFraction => k_exc)
  (case xii => kit_is)
  (case xib => kit_is)
  (case xtt => kit_is)
  (case xll => kit_is)

import PyProof.Rows.All
import Wide.All
import OpenK.AllK
import Wide.FinOn
import Lean
import PyProof.EqAt
import PyProof.EqKinds
import PyProof.TupleCall
import PySem.Challenge.RW_creasecurve_k44_two_on_top_at_each_point
set_option Elab.async false
set_option linter.all false
set_option maxRecDepth 100000
namespace L2
open PySem PySem.Spec PyProof.Rows
abbrev Key := Sum Int Str
def keyIs : Key → Value → Bool
 | .inl k, v => Value.isInt k v
 | .inr x, v => Value.isStrOf x v
def keyH (w : World) : Key → Int
 | .inl k => hashInt k
 | .inr x => hashStr w x
theorem keyIs_shape : ∀ {k : Key} {v : Value}, keyIs k v = true → (∃ i t, k = Sum.inl i ∧ v = Value.int i t) ∨ (∃ x t, k = Sum.inr x ∧ v = Value.str x t)
 | .inl i, v, h => by
  obtain ⟨t, e⟩ := Value.isInt_shape (k := i) (v := v) h
  exact .inl ⟨i, t, rfl, e⟩
 | .inr x, v, h => by
  obtain ⟨t, e⟩ := Value.isStrOf_shape (x := x) (v := v) h
  exact .inr ⟨x, t, rfl, e⟩
theorem keyIs_int (i : Int) (t : Tok) : keyIs (.inl i) (.int i t) = true := by simp [keyIs, Value.isInt]
theorem keyIs_str (x : Str) (t : Tok) : keyIs (.inr x) (.str x t) = true := by simp [keyIs, Value.isStrOf]
theorem key_ll (a b : Int) : decide ((Sum.inl a : Key) = Sum.inl b) = (a == b) := by
 by_cases e : a = b
 ·subst e; simp
 ·have h : ¬ (Sum.inl a : Key) = Sum.inl b := fun q => e (Sum.inl.inj q)
  rw [decide_eq_false h]
  exact (beq_eq_false_iff_ne.mpr e).symm
theorem key_rr (a b : Str) : decide ((Sum.inr a : Key) = Sum.inr b) = decide (a = b) := by
 by_cases e : a = b
 ·subst e; simp
 ·have h : ¬ (Sum.inr a : Key) = Sum.inr b := fun q => e (Sum.inr.inj q)
  rw [decide_eq_false h, decide_eq_false e]
theorem key_lr (a : Int) (b : Str) : decide ((Sum.inl a : Key) = Sum.inr b) = false := decide_eq_false (fun q => nomatch q)
theorem key_rl (a : Str) (b : Int) : decide ((Sum.inr a : Key) = Sum.inl b) = false := decide_eq_false (fun q => nomatch q)
def mixKind (prog : Program) (w : World) : PySem.KeyKind prog w Key where
 is := keyIs
 hash := keyH w
 inj := fun v a b ha hb => by
  rcases keyIs_shape ha with ⟨i, t, rfl, rfl⟩ | ⟨x, t, rfl, rfl⟩
  ·rcases keyIs_shape hb with ⟨j, u, rfl, e⟩ | ⟨y, u, rfl, e⟩
   ·injection e with e1 _; rw [e1]
   ·exact nomatch e
  ·rcases keyIs_shape hb with ⟨j, u, rfl, e⟩ | ⟨y, u, rfl, e⟩
   ·exact nomatch e
   ·injection e with e1 _; rw [e1]
 byValue := fun k v h => by
  rcases keyIs_shape h with ⟨i, t, rfl, rfl⟩ | ⟨x, t, rfl, rfl⟩ <;> rfl
 pyHash := fun hv h => by
  rcases keyIs_shape hv with ⟨i, t, rfl, rfl⟩ | ⟨x, t, rfl, rfl⟩
  ·exact wpAny_pyHash_int h
  ·exact wpAny_pyHash_str h
 eqBool := fun hu hv h => by
  rcases keyIs_shape hu with ⟨i, t, rfl, rfl⟩ | ⟨x, t, rfl, rfl⟩
  ·rcases keyIs_shape hv with ⟨j, u, rfl, rfl⟩ | ⟨y, u, rfl, rfl⟩
   ·rw [key_ll] at h; exact wpAny_eqBool_int h
   ·rw [key_lr] at h; exact SeqAt.EqAt.int_str i t y u _ _ _ _ h
  ·rcases keyIs_shape hv with ⟨j, u, rfl, rfl⟩ | ⟨y, u, rfl, rfl⟩
   ·rw [key_rl] at h; exact SeqAt.EqAt.str_int x t j u _ _ _ _ h
   ·rw [key_rr] at h; exact wpAny_eqBool_str h
 «strs» := fun k x t v h => by
  rcases keyIs_shape h with ⟨i, u, rfl, e⟩ | ⟨y, u, rfl, e⟩
  ·exact nomatch e
  ·injection e with e1 _
   subst e1
   cases v <;> rfl
theorem mixKind_int (prog : Program) (w : World) (i : Int) (t : Tok) : (mixKind prog w).is (.inl i) (.int i t) = true := keyIs_int i t
theorem mixKind_str (prog : Program) (w : World) (x : Str) (t : Tok) : (mixKind prog w).is (.inr x) (.str x t) = true := keyIs_str x t
inductive V where
 | non | bl (b : Bool) | int (i : Int) | str (x : Str) | byt (b : Array UInt8) | flt (b : UInt64) | ref (a : Addr) | ty (n : String)
 deriving DecidableEq
def RelV : V → Value → Prop
 | .non, u => u = Value.none
 | .bl b, u => u = Value.bool b
 | .int i, u => ∃ t, u = Value.int i t
 | .str x, u => ∃ t, u = Value.str x t
 | .byt b, u => ∃ t, u = Value.bytes b t
 | .flt b, u => ∃ t, u = Value.float b t
 | .ref a, u => u = Value.ref a
 | .ty n, u => u = Value.type n
abbrev Vals : List V → List Value → Prop := Paired RelV
theorem Vals.length {xs : List V} {us : List Value} (r : Vals xs us) : xs.length = us.length := Paired.length r
theorem Vals.get : ∀ {xs : List V} {us : List Value} {i : Nat} {x : V}, Vals xs us → xs[i]? = some x → ∃ u, us[i]? = some u ∧ RelV x u
 | _, _, _, _, .nil, e => by simp at e
 | _, _, 0, _, .cons r _, e => by simp at e; subst e; exact ⟨_, rfl, r⟩
 | _, _, i + 1, x, .cons _ t, e => by
  obtain ⟨u, h1, h2⟩ := Vals.get (i := i) (x := x) t (by simpa using e)
  exact ⟨u, by simpa using h1, h2⟩
theorem Vals.append : ∀ {xs ys : List V} {us ws : List Value}, Vals xs us → Vals ys ws → Vals (xs ++ ys) (us ++ ws)
 | _, _, _, _, .nil, s => s
 | _, _, _, _, .cons r t, s => .cons r (Vals.append t s)
theorem Vals.take : ∀ {xs : List V} {us : List Value} (n : Nat), Vals xs us → Vals (xs.take n) (us.take n)
 | _, _, 0, _ => .nil
 | _, _, _ + 1, .nil => .nil
 | _, _, n + 1, .cons r t => .cons r (Vals.take n t)
theorem Vals.drop : ∀ {xs : List V} {us : List Value} (n : Nat), Vals xs us → Vals (xs.drop n) (us.drop n)
 | _, _, 0, r => r
 | _, _, _ + 1, .nil => .nil
 | _, _, n + 1, .cons _ t => Vals.drop n t
def RelO : Option V → Option Value → Prop
 | some v, some u => RelV v u
 | none, none => True
 | _, _ => False
def KV {κ : Type} : List (κ × V) → List (κ × Value) → Prop := Paired fun (p : κ × V) (q : κ × Value) => p.1 = q.1 ∧ RelV p.2 q.2
def kV : Key → V
 | .inl i => .int i
 | .inr x => .str x
inductive HO where
 /-- a list -/
 | lst (xs : List V)
 /-- a tuple (never changes) -/
 | tup (xs : List V)
 /-- a dict whose keys are ints and texts; one whose keys are tuples of ints and texts (the empty one is both) -/
 | dK (kvs : List (Key × V)) | dT (kvs : List (List Key × V))
 /-- a set of ints: its members, its size -/
 | set (S : Int → Bool) (n : Nat)
 /-- an instance of the class at C, its dict at dx, its attributes -/
 | ins (C dx : Addr) (fs : List (Str × V))
 /-- the dict of the instance at x -/
 | own (x : Addr)
 /-- the dict of an exception -/
 | xd (fs : List (Str × V))
 /-- a bound method, f of x -/
 | met (f x : Addr)
 /-- a range object lo, lo + 1, .. below hi -/
 | rng (lo hi : Int)
 /-- a thing that is known to the object (the script; a dict while a loop walks it): read, never written while it is so -/
 | frz (o : Obj) (u : HO)
 /-- a code object's table -/
 | tbl (ps : Array Value)
 /-- any other thing, by what is true of its one object (a def of one's own: SetO a S n := HO.ext fun h => ..) -/
 | ext (φ : Heap → Prop)
abbrev Hp := Addr → Option HO
def upd (H : Hp) (a : Addr) (o : HO) : Hp := fun b => if b = a then some o else H b
theorem upd_same {H : Hp} {a : Addr} {o : HO} : upd H a o a = some o := by unfold upd; rw [if_pos rfl]
theorem upd_ne {H : Hp} {a b : Addr} {o : HO} (h : b ≠ a) : upd H a o b = H b := by unfold upd; rw [if_neg h]
theorem ne_of_none {H : Hp} {a b : Addr} {o : HO} (h : H a = some o) (h' : H b = none) : a ≠ b := by
 intro e; subst e; rw [h] at h'; cases h'
section
variable (P : Program) (w : World)
def ObjOk (H : Hp) (h : Heap) (a : Addr) : HO → Prop
 | .lst xs => xs.length ≤ sizeLine ∧ ∃ (its : List Value) (n : Nat), Vals xs its ∧ h.get? a = some { cls := .type "list", data := .seq its.toArray n }
 | .tup xs => xs.length ≤ sizeLine ∧ ∃ its : List Value, Vals xs its ∧ IsTup h a its.toArray
 | .dK kvs => kvs.length ≤ sizeLine ∧ (a == sysModules) = false ∧ ∃ vs, KV kvs vs ∧ h.DictOf (mixKind P w) a vs
 | .dT kvs => kvs.length ≤ sizeLine ∧ (a == sysModules) = false ∧ ∃ xs : List (List Key × Addr × Value),
   Paired (fun (p : List Key × V) (q : List Key × Addr × Value) => p.1 = q.1 ∧ H q.2.1 = some (.tup (p.1.map kV)) ∧ RelV p.2 q.2.2) kvs xs ∧
   ∃ o es ep, h.get? a = some o ∧ o.ExactDict ∧ o.data = .dict es ep ∧ es.toList = xs.map (entryOfKey (tupleKind (mixKind P w))) ∧ (xs.map (·.1)).Nodup
 | .set S n => h.SetOf (intKind P w) a S n
 | .ins C dx fs => H dx = some (.own a) ∧ fs.length ≤ 1000 ∧ dx ≠ a ∧ h.get? a = some (PySem.W.instObj C dx) ∧
   ∃ mA, h.Ns1 dx mA ∧ (∀ f, RelO (fs.lookup f) (mA f)) ∧ PySem.Within mA (fs.map (·.1))
 | .own _ => ∃ o, h.get? a = some o
 | .xd fs => ∃ mA, h.Ns1 a mA ∧ ∀ f, RelO (fs.lookup f) (mA f)
 | .rng lo hi => ∃ t u v, h.get? a = some { cls := .type "range", data := .fields #[.int lo t, .int hi u, .int 1 v] }
 | .frz o u => h.get? a = some o ∧ ObjOk H h a u
 | .tbl ps => h.get? a = some { cls := .none, data := .fields ps }
 | .met f x => h.get? a = some (PySem.W.methodObj (.ref f) (.ref x))
 | .ext φ => φ h ∧ (∃ o, h.get? a = some o) ∧ ∀ h1 h2 : Heap, φ h1 → (∀ o, h1.get? a = some o → h2.get? a = some o) → φ h2
def HOk (H : Hp) (h : Heap) : Prop := ∀ a o, H a = some o → ObjOk P w H h a o
end
section
variable {P : Program} {w : World} {H H' : Hp} {h h' : Heap} {a : Addr} {o : HO}
theorem ObjOk.lt (x : ObjOk P w H h a o) : a < h.objs.size := by
 cases o with
 | lst xs => obtain ⟨_, _, _, _, e⟩ := x; exact Heap.lt_size e
 | tup xs => obtain ⟨_, _, _, p⟩ := x; exact p.lt
 | dK kvs => obtain ⟨_, _, _, _, o, _, _, e, _⟩ := x; exact Heap.lt_size e
 | dT kvs => obtain ⟨_, _, _, _, o, _, _, e, _⟩ := x; exact Heap.lt_size e
 | set S n => obtain ⟨o, _, _, _, e, _⟩ := x; exact Heap.lt_size e
 | ins C dx fs => obtain ⟨_, _, _, e, _⟩ := x; exact Heap.lt_size e
 | own y => obtain ⟨_, e⟩ := x; exact Heap.lt_size e
 | xd fs => obtain ⟨_, ⟨_, _, _, e, _⟩, _⟩ := x; exact Heap.lt_size e
 | rng lo hi => obtain ⟨_, _, _, e⟩ := x; exact Heap.lt_size e
 | frz ob u => obtain ⟨e, _⟩ := x; exact Heap.lt_size e
 | tbl ps => exact Heap.lt_size (show h.get? a = some _ from x)
 | met f y => exact Heap.lt_size (show h.get? a = some _ from x)
 | ext φ => obtain ⟨_, ⟨_, e⟩, _⟩ := x; exact Heap.lt_size e
theorem Paired.mapP {α β : Type} {F G : α → β → Prop} : ∀ {l₁ : List α} {l₂ : List β}, Paired F l₁ l₂ → (∀ a b, F a b → G a b) → Paired G l₁ l₂
 | _, _, .nil, _ => .nil
 | _, _, .cons r t, f => .cons (f _ _ r) (Paired.mapP t f)
theorem ObjOk.stay (x : ObjOk P w H h a o) (k : ∀ b u, (b = a ∨ H b = some (.own a)) → h.get? b = some u → h'.get? b = some u)
  (ho : ∀ b, H b = some (.own a) → H' b = some (.own a)) (ht : ∀ b xs, H b = some (.tup xs) → H' b = some (.tup xs)) : ObjOk P w H' h' a o := by
 induction o with
 | lst xs => obtain ⟨z, its, n, r, e⟩ := x; exact ⟨z, its, n, r, k _ _ (.inl rfl) e⟩
 | tup xs => obtain ⟨z, its, r, ob, e, c⟩ := x; exact ⟨z, its, r, ob, k _ _ (.inl rfl) e, c⟩
 | dK kvs => obtain ⟨z, y, vs, r, ob, es, ep, e, c⟩ := x; exact ⟨z, y, vs, r, ob, es, ep, k _ _ (.inl rfl) e, c⟩
 | dT kvs =>
  obtain ⟨z, y, xs, r, ob, es, ep, e, c⟩ := x
  exact ⟨z, y, xs, Paired.mapP r fun p q z => ⟨z.1, ht _ _ z.2.1, z.2.2⟩, ob, es, ep, k _ _ (.inl rfl) e, c⟩
 | set S n => obtain ⟨ob, es, ep, t, e, c⟩ := x; exact ⟨ob, es, ep, t, k _ _ (.inl rfl) e, c⟩
 | ins C dx fs =>
  obtain ⟨d, z, ne, e, mA, ⟨od, es, ep, e2, c⟩, r⟩ := x
  exact ⟨ho _ d, z, ne, k _ _ (.inl rfl) e, mA, ⟨od, es, ep, k _ _ (.inr d) e2, c⟩, r⟩
 | own y => obtain ⟨ob, e⟩ := x; exact ⟨ob, k _ _ (.inl rfl) e⟩
 | xd fs => obtain ⟨mA, ⟨od, es, ep, e, c⟩, r⟩ := x; exact ⟨mA, ⟨od, es, ep, k _ _ (.inl rfl) e, c⟩, r⟩
 | rng lo hi => obtain ⟨t, u, v, e⟩ := x; exact ⟨t, u, v, k _ _ (.inl rfl) e⟩
 | frz ob u ih => obtain ⟨e, q⟩ := x; exact ⟨k _ _ (.inl rfl) e, ih q⟩
 | tbl ps =>
  have e : h.get? a = some { cls := .none, data := .fields ps } := x
  show h'.get? a = some { cls := .none, data := .fields ps }
  exact k a _ (.inl rfl) e
 | met f y =>
  have e : h.get? a = some (PySem.W.methodObj (.ref f) (.ref y)) := x
  show h'.get? a = some (PySem.W.methodObj (.ref f) (.ref y))
  exact k a _ (.inl rfl) e
 | ext φ => obtain ⟨p, ⟨o, e⟩, st⟩ := x; exact ⟨st _ _ p fun o q => k _ _ (.inl rfl) q, ⟨o, k _ _ (.inl rfl) e⟩, st⟩
theorem HOk.lt (x : HOk P w H h) (e : H a = some o) : a < h.objs.size := (x a o e).lt
theorem HOk.fresh (x : HOk P w H h) (e : h.objs.size ≤ a) : H a = none := by
 cases q : H a with
 | none => rfl
 | some u => exact absurd (Nat.lt_of_lt_of_le (x.lt q) e) (Nat.lt_irrefl _)
theorem HOk.kept (x : HOk P w H h) (k : ∀ b u, h.get? b = some u → h'.get? b = some u) : HOk P w H h' := fun a o e =>
 (x a o e).stay (fun b u _ q => k b u q) (fun _ q => q) fun _ _ q => q
theorem HOk.laid (x : HOk P w H h) (k : ∀ b u, h.get? b = some u → h'.get? b = some u) (hp : h.objs.size ≤ a) (new : ObjOk P w (upd H a o) h' a o) : HOk P w (upd H a o) h' := fun b u e => by
 have hn := x.fresh hp
 by_cases hb : b = a
 ·subst hb; rw [upd_same] at e; cases e; exact new
 ·rw [upd_ne hb] at e
  exact (x b u e).stay (fun c v _ q => k c v q) (fun c q => by rw [upd_ne (ne_of_none q hn)]; exact q) fun c xs q => by rw [upd_ne (ne_of_none q hn)]; exact q
end
def Rd (H : Hp) (a : Addr) (u : HO) : Prop := H a = some u ∨ ∃ o, H a = some (.frz o u)
theorem Rd.ok {P : Program} {w : World} {H : Hp} {h : Heap} {a : Addr} {u : HO} (r : Rd H a u) (x : HOk P w H h) : ObjOk P w H h a u := by
 rcases r with r | ⟨o, r⟩
 ·exact x a u r
 ·obtain ⟨_, q⟩ := x a _ r
  exact q
def Mut : Option HO → Prop
 | some (.lst _) => True
 | some (.dK _) => True
 | some (.dT _) => True
 | some (.set _ _) => True
 | some (.ins _ _ _) => True
 | some (.ext _) => True
 | _ => False
section
variable {P : Program} {w : World} {H : Hp} {h h' : Heap} {x e : Addr} {o' : HO}
theorem HOk.write (ok : HOk P w H h) (mu : Mut (H x)) (he : e = x ∨ H e = some (.own x)) (k : ∀ b u, b ≠ e → h.get? b = some u → h'.get? b = some u) (heo : ∃ u, h'.get? e = some u)
  (new : ObjOk P w (upd H x o') h' x o') : HOk P w (upd H x o') h' := fun b u q => by
 have nown : ∀ c y, H c = some (.own y) → c ≠ x := fun c y r z => by subst z; rw [r] at mu; exact mu
 have ntup : ∀ c xs, H c = some (.tup xs) → c ≠ x := fun c xs r z => by subst z; rw [r] at mu; exact mu
 by_cases hb : b = x
 ·subst hb; rw [upd_same] at q; cases q; exact new
 ·rw [upd_ne hb] at q
  by_cases hbe : b = e
  ·have q' : H b = some (.own x) := by
    rcases he with z | z
    ·exact absurd (hbe.trans z) hb
    ·rw [hbe]; exact z
   rw [q] at q'; cases q'
   obtain ⟨v, hv⟩ := heo
   exact ⟨v, by rw [hbe]; exact hv⟩
  ·refine (ok b u q).stay (fun c v hc r => k c v ?_ r) (fun c r => by rw [upd_ne (nown c b r)]; exact r) fun c xs r => by rw [upd_ne (ntup c xs r)]; exact r
   rcases hc with rfl | hc
   ·exact hbe
   ·rintro rfl
    rcases he with z | z
    ·exact nown c b hc z
    ·rw [hc] at z; cases z; exact hb rfl
end
structure Un (fs ex : List Addr) (H H' : Hp) (h h' : Heap) : Prop where
 keep : ∀ b o, h.get? b = some o → H b = none → b ∉ fs → b ∉ ex → h'.get? b = some o
 slot : ∀ b o, h.get? b = some o → H b = none → b ∈ fs → b ∉ ex → ∃ sl, h'.get? b = some { o with slots := sl }
 free : ∀ b o, h.get? b = some o → H b = none → b ∉ ex → H' b = none
 there : ∀ b o, h.get? b = some o → b ∉ ex → ∃ o', h'.get? b = some o'
 tups : ∀ b xs, H b = some (.tup xs) → H' b = some (.tup xs)
 frzs : ∀ b o u, H b = some (.frz o u) → H' b = some (.frz o u)
 tbls : ∀ b ps, H b = some (.tbl ps) → ∃ more, H' b = some (.tbl (ps ++ more))
section
variable {fs fs' ex ex' : List Addr} {H H1 H2 : Hp} {h h1 h2 h' : Heap} {a x e : Addr} {o : HO}
theorem Un.any (u : Un fs ex H H1 h h1) {b : Addr} {ob : Obj} (q : h.get? b = some ob) (n : H b = none) (hx : b ∉ ex) : ∃ sl, h1.get? b = some { ob with slots := sl } := by
 by_cases hb : b ∈ fs
 ·exact u.slot b ob q n hb hx
 ·exact ⟨ob.slots, u.keep b ob q n hb hx⟩
theorem Un.kept (k : ∀ b u, h.get? b = some u → h'.get? b = some u) : Un fs ex H H h h' :=
 ⟨fun b ob q _ _ _ => k b ob q, fun b ob q _ _ _ => ⟨ob.slots, k b ob q⟩, fun _ _ _ n _ => n, fun b ob q _ => ⟨ob, k b ob q⟩, fun _ _ q => q, fun _ _ _ q => q, fun _ ps q => ⟨#[], by rw [q]; simp⟩⟩
theorem Un.refl : Un fs ex H H h h := Un.kept fun _ _ q => q
theorem Un.laid (k : ∀ b u, h.get? b = some u → h'.get? b = some u) (hp : h.objs.size ≤ a) (hn : H a = none) : Un fs ex H (upd H a o) h h' where
 keep := fun b u q _ _ _ => k b u q
 slot := fun b u q _ _ _ => ⟨u.slots, k b u q⟩
 free := fun b u q n _ => by rw [upd_ne (Nat.ne_of_lt (Nat.lt_of_lt_of_le (Heap.lt_size q) hp))]; exact n
 there := fun b u q _ => ⟨u, k b u q⟩
 tups := fun b xs q => by rw [upd_ne (ne_of_none q hn)]; exact q
 frzs := fun b u xs q => by rw [upd_ne (ne_of_none q hn)]; exact q
 tbls := fun b ps q => ⟨#[], by rw [upd_ne (ne_of_none q hn), q]; simp⟩
theorem Un.write (mu : Mut (H x)) (he : e = x ∨ H e = some (.own x)) (k : ∀ b u, b ≠ e → h.get? b = some u → h'.get? b = some u) (heo : ∃ u, h'.get? e = some u) : Un fs ex H (upd H x o) h h' := by
 have hx : ∀ b, H b = none → b ≠ x := fun b n z => by subst z; rw [n] at mu; exact mu
 have hb : ∀ b, H b = none → b ≠ e := fun b n z => by
  subst z
  rcases he with r | r
  ·exact hx b n r
  ·rw [n] at r; cases r
 have hm : ∀ b u, H b = some u → ¬ Mut (some u) → b ≠ x := fun b u q nm z => by subst z; rw [q] at mu; exact nm mu
 refine ⟨fun b u q n _ _ => k b u (hb b n) q, fun b u q n _ _ => ⟨u.slots, k b u (hb b n) q⟩, fun b u q n _ => by rw [upd_ne (hx b n)]; exact n, fun b u q _ => ?_,
  fun b xs q => by rw [upd_ne (hm b _ q fun z => z)]; exact q, fun b u xs q => by rw [upd_ne (hm b _ q fun z => z)]; exact q, fun b ps q => ⟨#[], by rw [upd_ne (hm b _ q fun z => z), q]; simp⟩⟩
 by_cases hbe : b = e
 ·subst hbe; exact heo
 ·exact ⟨u, k b u hbe q⟩
end
def trk (h : Heap) (H : Hp) : List Addr := (List.range h.objs.size).filter fun a => (H a).isSome
def hidT (h : Heap) (H : Hp) : Heap := PySem.W.hideAll h (trk h H)
theorem hidT_size (h : Heap) (H : Hp) : (hidT h H).objs.size = h.objs.size := PySem.W.hideAll_size _ _
theorem hidT_get {h : Heap} {H : Hp} {b : Addr} {o : Obj} (e : h.get? b = some o) (n : H b = none) : (hidT h H).get? b = some o :=
 PySem.W.hideAll_get _ e fun hm => by
  have q : (H b).isSome = true := (List.mem_filter.mp hm).2
  rw [n] at q; simp at q
theorem of_hidT {h : Heap} {H : Hp} {b : Addr} {o : Obj} (e : (hidT h H).get? b = some o) : h.get? b = some o ∧ H b = none := by
 have e' : h.get? b = some o := PySem.W.of_hideAll (trk h H) e
 refine ⟨e', ?_⟩
 cases q : H b with
 | none => rfl
 | some x =>
  have hm : b ∈ trk h H := List.mem_filter.mpr ⟨List.mem_range.mpr (Heap.lt_size e'), by simp [q]⟩
  have z : (hidT h H).get? b = none := PySem.W.hideAll_none (trk h H) hm
  rw [z] at e; cases e
def allNews (g h : Heap) (L : Addr) : List (Addr × Obj) := (List.range h.objs.size).filterMap fun a => if a = L ∨ (g.get? a).isSome = true then none else (h.get? a).map fun o => (a, o)
def rest (g h : Heap) (L d : Addr) : List (Addr × Obj) := (allNews g h L).filter fun p => decide (p.1 ≠ d)
structure Mod (K : PySem.W.Frag) (mg : Str → Option Value) (base : Heap) : Prop where
 kin : K.In base
 glob : base.Ns mainGlobals mg
 blt : ∃ mb, base.Ns builtinsNs mb ∧ ∀ x : Str, x ≠ "__name__" → mb x = bootBuiltins x
 nolimit : base.NoLimit
structure Cx where
 prog : Program
 w : World
 K : PySem.W.Frag
 mg : Str → Option Value
 base : Heap
 A : Around
 N : List Str
 s₀ : Shared
 H₀ : Hp
 env : Env
 outer : List Env
 stack : List Env
 ex : List Addr
 fn : Str → Bool
 calm : Bool
 pn : List (Addr × Obj)
 xe : Value → Shared → Prop
def frs (l : List Env) : List Addr := l.filterMap (·.frame)
abbrev Cx.fs (X : Cx) : List Addr := frs X.outer
def Vis (sc : Scope) (x : Str) : Prop := sc.names.lookup x = some .local ∨ sc.names.lookup x = some .cell ∨ sc.names.lookup x = some .free
def Loc (sc : Scope) (x : Str) : Prop := sc.names.lookup x = some .local ∨ sc.names.lookup x = some .cell
def Look (env : Env) (h : Heap) (m : Str → Option Value) (x : Str) (u : Value) : Prop :=
 (env.kindOf x = some .local ∧ m x = some u) ∨ ((env.kindOf x = some .cell ∨ env.kindOf x = some .free) ∧ ∃ c, env.cells.lookup x = some c ∧ h.IsCell c (some u))
structure Cx.Ok (X : Cx) : Prop where
 mod : Mod X.K X.mg X.base
 kind : X.env.scope.kind = .function
 glob : X.env.globals = mainGlobals
 blt : X.env.builtins = builtinsNs
 above : X.s₀.heap.objs.size ≤ X.env.locals
 inj : ∀ x y c, X.env.cells.lookup x = some c → X.env.cells.lookup y = some c → x = y
 has : ∀ x, (X.env.kindOf x = some .cell ∨ X.env.kindOf x = some .free) → ∃ c, X.env.cells.lookup x = some c
 cab : ∀ x c, X.fn x = true → X.env.cells.lookup x = some c → X.s₀.heap.objs.size ≤ c
 hd : X.calm = true → X.A.handled = none
 frames : X.A.frames = some X.stack
 stk : X.stack = X.outer ∨ (X.stack = X.env :: X.outer ∧ X.env.frame = some X.env.locals)
 exf : ∀ b ∈ X.ex, b ≠ X.env.locals ∧ ∀ x c, X.env.cells.lookup x = some c → c ≠ b
 bs : ∀ b o, X.base.get? b = some o → X.s₀.heap.get? b = some o ∧ X.H₀ b = none
 bsz : X.base.objs.size ≤ X.s₀.heap.objs.size
 noex : ∀ b o, X.base.get? b = some o → b ∉ X.ex
 exfs : ∀ b ∈ X.ex, b ∉ X.fs
 funs : X.s₀.heap.FunFrames X.base X.outer
 frf : ∀ b ∈ X.fs, X.H₀ b = none
structure Inv (X : Cx) (pins : List (Addr × Obj)) (σ : List (Option V)) (H : Hp) (s : Shared) : Prop where
 ok : X.Ok
 os : s.os = X.s₀.os
 bare : AllBare s.gens
 base : Un X.fs X.ex X.H₀ H X.s₀.heap s.heap
 loc : ∃ m, s.heap.Ns X.env.locals m ∧ ∀ (i : Nat) (x : Str) (v : V), X.N[i]? = some x → σ[i]? = some (some v) → Vis X.env.scope x → ∃ u, RelV v u ∧ Look X.env s.heap m x u
 cell : ∀ x c, X.env.cells.lookup x = some c → ∃ v, s.heap.IsCell c v
 free : H X.env.locals = none
 freeC : ∀ x c, X.env.cells.lookup x = some c → H c = none
 pin : ∀ p ∈ X.pn ++ pins, s.heap.get? p.1 = some p.2 ∧ H p.1 = none ∧ p.1 ≠ X.env.locals ∧ p.1 ∉ X.fs ∧ ∀ v, p.2.data ≠ .cell v
 hok : HOk X.prog X.w H s.heap
 len : σ.length = X.N.length
section
variable {X : Cx} {pins : List (Addr × Obj)} {σ : List (Option V)} {H H' : Hp} {s : Shared} {h' : Heap}
theorem Cx.Ok.nofr (ok : X.Ok) {b : Addr} {o : Obj} (e : X.base.get? b = some o) : b ∉ X.fs := fun hb => by
 have := (ok.funs.mem hb).1
 rw [e] at this; cases this
theorem Inv.bs (I : Inv X pins σ H s) : ∀ b o, X.base.get? b = some o → s.heap.get? b = some o ∧ H b = none := fun b o e =>
 ⟨I.base.keep b o (I.ok.bs b o e).1 (I.ok.bs b o e).2 (I.ok.nofr e) (I.ok.noex b o e), I.base.free b o (I.ok.bs b o e).1 (I.ok.bs b o e).2 (I.ok.noex b o e)⟩
theorem Inv.bk (I : Inv X pins σ H s) : ∀ b o, X.base.get? b = some o → s.heap.get? b = some o := fun b o e => (I.bs b o e).1
theorem Inv.mod (I : Inv X pins σ H s) : Mod X.K X.mg X.base := I.ok.mod
theorem Inv.kIn (I : Inv X pins σ H s) : X.K.In s.heap := I.ok.mod.kin.keeps I.bk
theorem Inv.lt (I : Inv X pins σ H s) : X.env.locals < s.heap.objs.size := let ⟨_, hn, _⟩ := I.loc; hn.lt
theorem Inv.sz (I : Inv X pins σ H s) : X.s₀.heap.objs.size ≤ s.heap.objs.size := Nat.le_trans I.ok.above (Nat.le_of_lt I.lt)
theorem Inv.nofs (I : Inv X pins σ H s) {a : Addr} (h : s.heap.objs.size ≤ a) : a ∉ X.fs := fun hb => by
 obtain ⟨_, o, ho, _⟩ := I.ok.funs.mem hb
 exact absurd (Nat.lt_of_lt_of_le (Heap.lt_size ho) (Nat.le_trans I.sz h)) (Nat.lt_irrefl _)
theorem Inv.cne (I : Inv X pins σ H s) : ∀ x c, X.env.cells.lookup x = some c → c ≠ X.env.locals := fun x c e z => by
 obtain ⟨v, o, ho, hd⟩ := I.cell x c e
 obtain ⟨m, ⟨o', es, ep, ho', hd', _⟩, _⟩ := I.loc
 rw [z, ho'] at ho; cases ho; rw [hd'] at hd; cases hd
theorem Inv.funs (I : Inv X pins σ H s) : s.heap.FunFrames X.base X.outer := by
 have all : ∀ (l : List Env), (∀ b ∈ frs l, b ∈ X.fs) → X.s₀.heap.FunFrames X.base l → s.heap.FunFrames X.base l := by
  intro l
  induction l with
  | nil => intro _ _; trivial
  | cons env r ih =>
   intro hs hl
   obtain ⟨hk, ⟨L, o, hf, hn, ho, hd⟩, hr⟩ := hl
   have hL : L ∈ X.fs := hs L (by unfold frs; rw [List.filterMap_cons, hf]; exact List.mem_cons_self)
   obtain ⟨sl, e⟩ := I.base.slot L o ho (I.ok.frf L hL) hL fun z => I.ok.exfs L z hL
   exact ⟨hk, ⟨L, _, hf, hn, e, hd⟩, ih (fun b hb => hs b (by unfold frs; rw [List.filterMap_cons, hf]; exact List.mem_cons_of_mem _ hb)) hr⟩
 exact all X.outer (fun _ hb => hb) I.ok.funs
theorem Inv.stack (I : Inv X pins σ H s) : s.heap.FunFrames X.base X.stack := by
 rcases I.ok.stk with e | ⟨e, hf⟩
 ·rw [e]; exact I.funs
 ·rw [e]
  obtain ⟨m, hn, _⟩ := I.loc
  refine .cons (by rw [I.ok.kind]; decide) hf hn ?_ I.funs
  exact Heap.get?_none_of_le (Nat.le_trans I.ok.bsz I.ok.above)
theorem Inv.stkSub (I : Inv X pins σ H s) : ∀ b ∈ frs X.stack, b ∈ X.env.locals :: X.fs := fun b hb => by
 rcases I.ok.stk with e | ⟨e, hf⟩
 ·rw [e] at hb; exact List.mem_cons_of_mem _ hb
 ·rw [e] at hb
  unfold frs at hb
  rw [List.filterMap_cons, hf] at hb
  exact hb
theorem Inv.stkFree (I : Inv X pins σ H s) : ∀ b ∈ frs X.stack, H b = none := fun b hb => by
 rcases List.mem_cons.mp (I.stkSub b hb) with e | hb
 ·rw [e]; exact I.free
 ·obtain ⟨_, o, ho, _⟩ := I.ok.funs.mem hb
  exact I.base.free b o ho (I.ok.frf b hb) fun z => I.ok.exfs b z hb
theorem Inv.step {g' : Array GenState} {t' : Nat} {d' : Drawn} {ch : List Addr} (I : Inv X pins σ H s)
  (hch : ∀ b ∈ ch, (b ∈ X.ex ∨ X.s₀.heap.objs.size ≤ b) ∧ b ≠ X.env.locals ∧ (∀ x c, X.env.cells.lookup x = some c → c ≠ b) ∧ ∀ p ∈ X.pn ++ pins, p.1 ≠ b)
  (keep : ∀ b o, b ≠ X.env.locals → b ∉ X.fs → b ∉ ch → s.heap.get? b = some o → H b = none → h'.get? b = some o)
  (slot : ∀ b o, b ≠ X.env.locals → b ∈ X.fs → b ∉ ch → s.heap.get? b = some o → H b = none → ∃ sl, h'.get? b = some { o with slots := sl }) (free : ∀ b o, b ∉ ch → s.heap.get? b = some o → H b = none → H' b = none)
  (there : ∀ b o, b ∉ ch → s.heap.get? b = some o → ∃ o', h'.get? b = some o')
  (tups : ∀ b xs, H b = some (.tup xs) → H' b = some (.tup xs)) (frzs : ∀ b o u, H b = some (.frz o u) → H' b = some (.frz o u)) (tbls : ∀ b ps, H b = some (.tbl ps) → ∃ more, H' b = some (.tbl (ps ++ more)))
  (ns : ∀ m, s.heap.Ns X.env.locals m → h'.Ns X.env.locals m) (hok : HOk X.prog X.w H' h') (hg : AllBare g') :
  Inv X pins σ H' { s with heap := h', gens := g', drawn := d', toks := t' } := by
 have neL : ∀ b o, X.s₀.heap.get? b = some o → b ≠ X.env.locals := fun b o e => Nat.ne_of_lt (Nat.lt_of_lt_of_le (Heap.lt_size e) I.ok.above)
 have neC : ∀ b o, X.s₀.heap.get? b = some o → b ∉ X.ex → b ∉ ch := fun b o e hx hb => by
  rcases (hch b hb).1 with z | z
  ·exact hx z
  ·exact absurd (Nat.lt_of_lt_of_le (Heap.lt_size e) z) (Nat.lt_irrefl _)
 have cellK : ∀ x c, X.env.cells.lookup x = some c → ∀ v, s.heap.IsCell c v → h'.IsCell c v := fun x c e v ⟨o, ho, hd⟩ => by
  have nch : c ∉ ch := fun z => (hch c z).2.2.1 x c e rfl
  by_cases hc : c ∈ X.fs
  ·obtain ⟨sl, q⟩ := slot c o (I.cne x c e) hc nch ho (I.freeC x c e)
   exact ⟨_, q, hd⟩
  ·exact ⟨o, keep c o (I.cne x c e) hc nch ho (I.freeC x c e), hd⟩
 refine ⟨I.ok, I.os, hg, ⟨fun b o e n hb hx => ?_, fun b o e n hb hx => ?_, fun b o e n hx => ?_, fun b o e hx => ?_, fun b xs e => tups b xs (I.base.tups b xs e), fun b o xs e => frzs b o xs (I.base.frzs b o xs e), fun b ps e => ?_⟩, ?_, fun x c e => ?_, ?_, fun x c e => ?_, fun p hp => ?_, hok, I.len⟩
 ·exact keep b o (neL b o e) hb (neC b o e hx) (I.base.keep b o e n hb hx) (I.base.free b o e n hx)
 ·obtain ⟨sl, e1⟩ := I.base.slot b o e n hb hx
  obtain ⟨sl', e2⟩ := slot b _ (neL b o e) hb (neC b o e hx) e1 (I.base.free b o e n hx)
  exact ⟨sl', e2⟩
 ·obtain ⟨o', e1⟩ := I.base.there b o e hx
  exact free b o' (neC b o e hx) e1 (I.base.free b o e n hx)
 ·obtain ⟨o', e1⟩ := I.base.there b o e hx
  exact there b o' (neC b o e hx) e1
 ·obtain ⟨m1, e1⟩ := I.base.tbls b ps e
  obtain ⟨m2, e2⟩ := tbls b _ e1
  exact ⟨m1 ++ m2, by rw [e2, Array.append_assoc]⟩
 ·obtain ⟨m, hn, hl⟩ := I.loc
  refine ⟨m, ns m hn, fun i x v e1 e2 e3 => ?_⟩
  obtain ⟨u, r, l⟩ := hl i x v e1 e2 e3
  refine ⟨u, r, ?_⟩
  rcases l with l | ⟨k, c, e, z⟩
  ·exact .inl l
  ·exact .inr ⟨k, c, e, cellK x c e _ z⟩
 ·obtain ⟨v, z⟩ := I.cell x c e
  exact ⟨v, cellK x c e v z⟩
 ·obtain ⟨m, ⟨o, _, _, ho, _⟩, _⟩ := I.loc
  exact free _ o (fun z => (hch _ z).2.1 rfl) ho I.free
 ·obtain ⟨v, o, ho, hd⟩ := I.cell x c e
  exact free c o (fun z => (hch c z).2.2.1 x c e rfl) ho (I.freeC x c e)
 ·obtain ⟨e, n, ne, nf, d⟩ := I.pin p hp
  have nch : p.1 ∉ ch := fun z => (hch p.1 z).2.2.2 p hp rfl
  exact ⟨keep p.1 p.2 ne nf nch e n, free p.1 p.2 nch e n, ne, nf, d⟩
theorem Inv.un {t' : Nat} (I : Inv X pins σ H s) (u : Un X.fs [] H H' s.heap h') (hok : HOk X.prog X.w H' h') : Inv X pins σ H' { s with heap := h', toks := t' } := by
 obtain ⟨m, ⟨o, es, ep, ho, r⟩, _⟩ := id I.loc
 obtain ⟨sl, hL⟩ := u.any ho I.free (by simp)
 exact I.step (g' := s.gens) (d' := s.drawn) (ch := []) (fun _ z => nomatch z) (fun b o _ hb _ e n => u.keep b o e n hb (by simp)) (fun b o _ hb _ e n => u.slot b o e n hb (by simp)) (fun b o _ e n => u.free b o e n (by simp)) (fun b o _ e => u.there b o e (by simp)) u.tups u.frzs u.tbls (fun m' hm => by
  obtain ⟨o', es', ep', ho', r'⟩ := hm
  rw [ho] at ho'; cases ho'
  exact ⟨_, es', ep', hL, r'⟩) hok I.bare
theorem Inv.call {g' : Array GenState} {t' : Nat} {d' : Drawn} {ch : List Addr} (I : Inv X pins σ H s) (u : Un (frs X.stack) ch H H' s.heap h') (hok : HOk X.prog X.w H' h') (hg : AllBare g')
  (hch : ∀ b ∈ ch, (b ∈ X.ex ∨ X.s₀.heap.objs.size ≤ b) ∧ b ≠ X.env.locals ∧ (∀ x c, X.env.cells.lookup x = some c → c ≠ b) ∧ ∀ p ∈ X.pn ++ pins, p.1 ≠ b) :
  Inv X pins σ H' { s with heap := h', gens := g', drawn := d', toks := t' } := by
 obtain ⟨m, ⟨o, es, ep, ho, r⟩, _⟩ := id I.loc
 obtain ⟨sl, hL⟩ := u.any ho I.free fun z => (hch _ z).2.1 rfl
 exact I.step (ch := ch) hch (fun b o hL hb hc e n => u.keep b o e n (fun z => (List.mem_cons.mp (I.stkSub b z)).elim hL hb) hc) (fun b o _ _ hc e n => u.any e n hc) (fun b o hc e n => u.free b o e n hc) (fun b o hc e => u.there b o e hc) u.tups u.frzs u.tbls (fun m' hm => by
  obtain ⟨o', es', ep', ho', r'⟩ := hm
  rw [ho] at ho'; cases ho'
  exact ⟨_, es', ep', hL, r'⟩) hok hg
theorem Inv.turned {t' : Nat} {it : Addr} (I : Inv X pins σ H s) (k : ∀ b o, b ≠ it → s.heap.get? b = some o → h'.get? b = some o) (hn : H it = none) (hL : it ≠ X.env.locals)
  (h1 : it ∈ X.ex ∨ X.s₀.heap.objs.size ≤ it) (h2 : ∀ x c, X.env.cells.lookup x = some c → c ≠ it) (h3 : ∀ p ∈ X.pn ++ pins, p.1 ≠ it) : Inv X pins σ H { s with heap := h', toks := t' } := by
 have nit : ∀ b u, H b = some u → b ≠ it := fun b u e z => by rw [z, hn] at e; cases e
 refine I.step (g' := s.gens) (d' := s.drawn) (ch := [it]) (fun b hb => ?_) (fun b o _ _ hc e _ => k b o (fun z => hc (by simp [z])) e) (fun b o _ _ hc e _ => ⟨o.slots, k b o (fun z => hc (by simp [z])) e⟩) (fun _ _ _ _ n => n)
  (fun b o hc e => ⟨o, k b o (fun z => hc (by simp [z])) e⟩) (fun _ _ e => e) (fun _ _ _ e => e) (fun b ps e => ⟨#[], by rw [e]; simp⟩) (fun m hm => ?_) (fun b u e => ?_) I.bare
 ·have e : b = it := by simpa using hb
  subst e
  exact ⟨h1, hL, h2, h3⟩
 ·obtain ⟨o, es, ep, ho, r⟩ := hm
  exact ⟨o, es, ep, k _ o (Ne.symm hL) ho, r⟩
 ·refine (I.hok b u e).stay (fun c v hc q => k c v ?_ q) (fun _ q => q) fun _ _ q => q
  rcases hc with z | z
  ·rw [z]; exact nit b u e
  ·exact nit c _ z
theorem Inv.tok (I : Inv X pins σ H s) (t : Nat) : Inv X pins σ H { s with toks := t } := I.un (h' := s.heap) (t' := t) Un.refl I.hok
theorem Inv.kept {t' : Nat} (I : Inv X pins σ H s) (k : ∀ b u, s.heap.get? b = some u → h'.get? b = some u) : Inv X pins σ H { s with heap := h', toks := t' } := I.un (Un.kept k) (I.hok.kept k)
theorem Inv.laid {a : Addr} {o : HO} {t' : Nat} (I : Inv X pins σ H s) (k : ∀ b u, s.heap.get? b = some u → h'.get? b = some u) (hp : s.heap.objs.size ≤ a) (new : ObjOk X.prog X.w (upd H a o) h' a o) :
  Inv X pins σ (upd H a o) { s with heap := h', toks := t' } := I.un (Un.laid k hp (I.hok.fresh hp)) (I.hok.laid k hp new)
theorem Inv.write {x e : Addr} {o : HO} {t' : Nat} (I : Inv X pins σ H s) (mu : Mut (H x)) (he : e = x ∨ H e = some (.own x)) (k : ∀ b u, b ≠ e → s.heap.get? b = some u → h'.get? b = some u) (heo : ∃ u, h'.get? e = some u)
  (new : ObjOk X.prog X.w (upd H x o) h' x o) : Inv X pins σ (upd H x o) { s with heap := h', toks := t' } := I.un (Un.write mu he k heo) (I.hok.write mu he k heo new)
theorem Inv.weak {σ' : List (Option V)} (I : Inv X pins σ H s) (hl : σ'.length = σ.length) (w : ∀ (i : Nat) v, σ'[i]? = some (some v) → σ[i]? = some (some v)) : Inv X pins σ' H s :=
 ⟨I.ok, I.os, I.bare, I.base, let ⟨m, hn, hl'⟩ := I.loc; ⟨m, hn, fun i x v e1 e2 e3 => hl' i x v e1 (w i v e2) e3⟩, I.cell, I.free, I.freeC, I.pin, I.hok, hl.trans I.len⟩
theorem Inv.pins_of {pins' : List (Addr × Obj)} (I : Inv X pins σ H s) (h : ∀ p ∈ pins', s.heap.get? p.1 = some p.2 ∧ H p.1 = none ∧ p.1 ≠ X.env.locals ∧ p.1 ∉ X.fs ∧ ∀ v, p.2.data ≠ .cell v) : Inv X pins' σ H s :=
 ⟨I.ok, I.os, I.bare, I.base, I.loc, I.cell, I.free, I.freeC, fun p hp => (List.mem_append.mp hp).elim (fun z => I.pin p (List.mem_append_left _ z)) (h p), I.hok, I.len⟩
theorem nodup_ix {N : List Str} (hN : N.Nodup) {i j : Nat} {x : Str} (a : N[i]? = some x) (b : N[j]? = some x) : i = j := by
 obtain ⟨h1, e1⟩ := List.getElem?_eq_some_iff.mp a
 obtain ⟨h2, e2⟩ := List.getElem?_eq_some_iff.mp b
 exact (List.getElem_inj hN).mp (e1.trans e2.symm)
theorem store_ok2 {M : Model} {A : Around} {E : Value → Shared → Prop} {i : Nat} {x : Str} {v : V} {u : Value} {Q : Unit → Shared → Prop} (I : Inv X pins σ H s) (hN : X.N.Nodup) (hi : X.N[i]? = some x) (hx : Loc X.env.scope x) (r : RelV v u)
  (h : ∀ s', Inv X pins (σ.set i (some v)) H s' → (∃ a, Heap.SameBut a s.heap s'.heap ∧ (a = X.env.locals ∨ X.env.cells.lookup x = some a)) → Q () s') (hf : X.fn x = true ∨ X.env.scope.names.lookup x = some .local := by first | exact .inl rfl | exact .inr rfl | assumption) : wpAny M A (storeName X.env x u) Q E s := by
 obtain ⟨m, hn, hl⟩ := id I.loc
 have hcls : (X.env.scope.kind == .class || (X.env.scope.kind == .module && X.env.locals != X.env.globals)) = false := by rw [I.ok.kind]; rfl
 have hiσ : i < σ.length := by rw [I.len]; exact (List.getElem?_eq_some_iff.mp hi).1
 have cne := I.cne
 have tracked : ∀ {a : Addr} {h' : Heap}, (∃ o, s.heap.get? a = some o ∧ H a = none) → Heap.SameBut a s.heap h' → HOk X.prog X.w H h' := fun {a h'} ha hs b ob e => by
  obtain ⟨_, _, hfree⟩ := ha
  refine (I.hok b ob e).stay (fun c w' hc q => (hs.2 c ?_).trans q) (fun _ q => q) fun _ _ q => q
  rintro rfl
  rcases hc with rfl | hc
  ·rw [hfree] at e; cases e
  ·rw [hfree] at hc; cases hc
 rcases hx with hk | hk
 ·refine wpAny_storeName_local hk hn (fun h' hn' hs => ?_) hcls
  obtain ⟨oL, _, _, hoL, _⟩ := id hn
  refine h _ ⟨I.ok, I.os, I.bare, ⟨fun b o e n hb hx => ?_, fun b o e n hb hx => ?_, I.base.free, fun b o e hx => ?_, I.base.tups, I.base.frzs, I.base.tbls⟩, ⟨_, hn', fun j y v' e1 e2 e3 => ?_⟩, fun y c e => ?_, I.free, I.freeC, fun p hp => ?_, tracked ⟨oL, hoL, I.free⟩ hs, by simpa using I.len⟩ ⟨_, hs, .inl rfl⟩
  ·exact (hs.2 b (Nat.ne_of_lt (Nat.lt_of_lt_of_le (Heap.lt_size e) I.ok.above))).trans (I.base.keep b o e n hb hx)
  ·obtain ⟨sl, e1⟩ := I.base.slot b o e n hb hx
   exact ⟨sl, (hs.2 b (Nat.ne_of_lt (Nat.lt_of_lt_of_le (Heap.lt_size e) I.ok.above))).trans e1⟩
  ·obtain ⟨o', e1⟩ := I.base.there b o e hx
   exact ⟨o', (hs.2 b (Nat.ne_of_lt (Nat.lt_of_lt_of_le (Heap.lt_size e) I.ok.above))).trans e1⟩
  ·by_cases hj : j = i
   ·subst hj
    rw [hi] at e1; cases e1
    rw [List.getElem?_set_self hiσ] at e2
    cases e2
    exact ⟨u, r, .inl ⟨hk, by simp⟩⟩
   ·rw [List.getElem?_set_ne (Ne.symm hj)] at e2
    obtain ⟨u', r', q⟩ := hl j y v' e1 e2 e3
    refine ⟨u', r', ?_⟩
    rcases q with ⟨k, e⟩ | ⟨k, c, e, z⟩
    ·refine .inl ⟨k, ?_⟩
     have : y ≠ x := fun e => hj (nodup_ix hN e1 (e ▸ hi))
     simp [this, e]
    ·exact .inr ⟨k, c, e, z.sameBut hs (cne y c e)⟩
  ·obtain ⟨w', z⟩ := I.cell y c e
   exact ⟨w', z.sameBut hs (cne y c e)⟩
  ·obtain ⟨e, n, ne, nf, d⟩ := I.pin p hp
   exact ⟨(hs.2 p.1 ne).trans e, n, ne, nf, d⟩
 ·have hfn : X.fn x = true := by
   rcases hf with z | z
   ·exact z
   ·rw [z] at hk; cases hk
  obtain ⟨c, hc⟩ := I.ok.has x (.inl hk)
  obtain ⟨w', z⟩ := I.cell x c hc
  refine wpAny_storeName_cell I.ok.kind hk hc z (fun h' hc' hs => ?_)
  obtain ⟨oc, hoc, hocd⟩ := id z
  refine h { s with heap := h' } ⟨I.ok, I.os, I.bare, ⟨fun b o e n hb hx => ?_, fun b o e n hb hx => ?_, I.base.free, fun b o e hx => ?_, I.base.tups, I.base.frzs, I.base.tbls⟩, ⟨m, hn.sameBut hs (Ne.symm (cne x c hc)), fun j y v' e1 e2 e3 => ?_⟩, fun y c' e => ?_, I.free, I.freeC, fun p hp => ?_, tracked ⟨oc, hoc, I.freeC x c hc⟩ hs, by simpa using I.len⟩ ⟨c, hs, .inr hc⟩
  ·exact (hs.2 b (Nat.ne_of_lt (Nat.lt_of_lt_of_le (Heap.lt_size e) (I.ok.cab x c hfn hc)))).trans (I.base.keep b o e n hb hx)
  ·obtain ⟨sl, e1⟩ := I.base.slot b o e n hb hx
   exact ⟨sl, (hs.2 b (Nat.ne_of_lt (Nat.lt_of_lt_of_le (Heap.lt_size e) (I.ok.cab x c hfn hc)))).trans e1⟩
  ·obtain ⟨o', e1⟩ := I.base.there b o e hx
   exact ⟨o', (hs.2 b (Nat.ne_of_lt (Nat.lt_of_lt_of_le (Heap.lt_size e) (I.ok.cab x c hfn hc)))).trans e1⟩
  ·by_cases hj : j = i
   ·subst hj
    rw [hi] at e1; cases e1
    rw [List.getElem?_set_self hiσ] at e2
    cases e2
    exact ⟨u, r, .inr ⟨.inl hk, c, hc, hc'⟩⟩
   ·rw [List.getElem?_set_ne (Ne.symm hj)] at e2
    obtain ⟨u', r', q⟩ := hl j y v' e1 e2 e3
    refine ⟨u', r', ?_⟩
    rcases q with q | ⟨k, c', e, z'⟩
    ·exact .inl q
    ·refine .inr ⟨k, c', e, z'.sameBut hs ?_⟩
     rintro rfl
     exact hj (nodup_ix hN e1 (I.ok.inj _ _ _ e hc ▸ hi))
  ·by_cases hcc : c' = c
   ·subst hcc; exact ⟨_, hc'⟩
   ·obtain ⟨w2, z2⟩ := I.cell y c' e
    exact ⟨w2, z2.sameBut hs hcc⟩
  ·obtain ⟨e, n, ne, nf, d⟩ := I.pin p hp
   refine ⟨(hs.2 p.1 ?_).trans e, n, ne, nf, d⟩
   intro q
   rw [q, hoc] at e
   have q' : oc = p.2 := Option.some.inj e
   exact d w' (by rw [← q']; exact hocd)
theorem store_ok {M : Model} {A : Around} {E : Value → Shared → Prop} {i : Nat} {x : Str} {v : V} {u : Value} {Q : Unit → Shared → Prop} (I : Inv X pins σ H s) (hN : X.N.Nodup) (hi : X.N[i]? = some x) (hx : Loc X.env.scope x) (r : RelV v u)
  (h : ∀ s', Inv X pins (σ.set i (some v)) H s' → Q () s') (hf : X.fn x = true ∨ X.env.scope.names.lookup x = some .local := by first | exact .inl rfl | exact .inr rfl | assumption) : wpAny M A (storeName X.env x u) Q E s :=
 store_ok2 I hN hi hx r (fun s' I' _ => h s' I') hf
theorem Inv.call' {s' : Shared} {ch : List Addr} (I : Inv X pins σ H s) (ho : s'.os = s.os) (u : Un (frs X.stack) ch H H' s.heap s'.heap) (hok : HOk X.prog X.w H' s'.heap) (hg : AllBare s'.gens)
  (hch : ∀ b ∈ ch, (b ∈ X.ex ∨ X.s₀.heap.objs.size ≤ b) ∧ b ≠ X.env.locals ∧ (∀ x c, X.env.cells.lookup x = some c → c ≠ b) ∧ ∀ p ∈ X.pn ++ pins, p.1 ≠ b) : Inv X pins σ H' s' := by
 obtain ⟨h', g', d', t', o'⟩ := s'
 have e : o' = s.os := ho
 subst e
 exact I.call (g' := g') (t' := t') (d' := d') u hok hg hch
end
abbrev XK := Value → Option Addr → Hp → Prop
abbrev St := List (Option V)
abbrev VK := V → Hp → Prop
abbrev TE := St → Hp → VK → Prop
abbrev TT := St → Hp → (Bool → Hp → Prop) → Prop
abbrev TA := St → Hp → (List V → Hp → Prop) → Prop
structure Ends where
 nx : St → Hp → Prop
 rt : VK
 bk : St → Hp → Prop := fun _ _ => False
 ct : St → Hp → Prop := fun _ _ => False
abbrev TS := Ends → St → Hp → Prop
def EP (X : Cx) (pins : List (Addr × Obj)) (σ : St) (Q : VK) (u : Value) (s' : Shared) : Prop := ∃ v H', Inv X pins σ H' s' ∧ RelV v u ∧ Q v H'
def TP (X : Cx) (pins : List (Addr × Obj)) (σ : St) (Q : Bool → Hp → Prop) (b : Bool) (s' : Shared) : Prop := ∃ H', Inv X pins σ H' s' ∧ Q b H'
def AP (X : Cx) (pins : List (Addr × Obj)) (σ : St) (Q : List V → Hp → Prop) (us : List Value) (s' : Shared) : Prop := ∃ vs H', Inv X pins σ H' s' ∧ Vals vs us ∧ Q vs H'
def SP (X : Cx) (pins : List (Addr × Obj)) (D : Ends) (f : Flow) (s' : Shared) : Prop :=
 match f with
 | .next => ∃ σ' H', Inv X pins σ' H' s' ∧ D.nx σ' H'
 | .brk => ∃ σ' H', Inv X pins σ' H' s' ∧ D.bk σ' H'
 | .cont => ∃ σ' H', Inv X pins σ' H' s' ∧ D.ct σ' H'
 | .ret u => ∃ v σ' H', Inv X pins σ' H' s' ∧ RelV v u ∧ D.rt v H'
def PE (X : Cx) (e : Expr) (t : TE) : Prop :=
 ∀ (pins : List (Addr × Obj)) (s : Shared) (σ : St) (H : Hp) (Q : VK), Inv X pins σ H s → t σ H Q → wpAny (model X.prog X.w) X.A (eval e X.env) (EP X pins σ Q) X.xe s
def PT (X : Cx) (e : Expr) (t : TT) : Prop :=
 ∀ (pins : List (Addr × Obj)) (s : Shared) (σ : St) (H : Hp) (Q : Bool → Hp → Prop), Inv X pins σ H s → t σ H Q → wpAny (model X.prog X.w) X.A (isTrue e X.env (eval e X.env)) (TP X pins σ Q) X.xe s
def PW (X : Cx) (e : Expr) (t : TT) : Prop :=
 ∀ (whole : Sem Value) (pins : List (Addr × Obj)) (s : Shared) (σ : St) (H : Hp) (Q : Bool → Hp → Prop), Inv X pins σ H s → t σ H Q → wpAny (model X.prog X.w) X.A (isTrue e X.env whole) (TP X pins σ Q) X.xe s
def PA (X : Cx) (es : List Expr) (t : TA) : Prop :=
 ∀ (pos : Pos) (pins : List (Addr × Obj)) (s : Shared) (σ : St) (H : Hp) (Q : List V → Hp → Prop), Inv X pins σ H s → t σ H Q → wpAny (model X.prog X.w) X.A (spliced (backTo pos (starEach es X.env))) (AP X pins σ Q) X.xe s
def PS (X : Cx) (st : Stmt) (t : TS) : Prop :=
 ∀ (pins : List (Addr × Obj)) (s : Shared) (σ : St) (H : Hp) (D : Ends), Inv X pins σ H s → t D σ H → wpAny (model X.prog X.w) X.A (exec st X.env) (SP X pins D) X.xe s
def PSs (X : Cx) (st : List Stmt) (t : TS) : Prop :=
 ∀ (pins : List (Addr × Obj)) (s : Shared) (σ : St) (H : Hp) (D : Ends), Inv X pins σ H s → t D σ H → wpAny (model X.prog X.w) X.A (execs st X.env) (SP X pins D) X.xe s
theorem thn {α : Type} {t : Sem α} {Q Q' : α → Shared → Prop} {M : Model} {A : Around} {E : Value → Shared → Prop} {s : Shared} (h : wpAny M A t Q E s) (hQ : ∀ a s, Q a s → Q' a s) : wpAny M A t Q' E s := wpAny_mono h hQ fun _ _ x => x
section
variable {X : Cx}
def tVar (i : Nat) : TE := fun σ H Q => ∃ v, σ[i]? = some (some v) ∧ Q v H
def tC (v : V) : TE := fun _ H Q => Q v H
theorem pe_var {i : Nat} {x : Str} {pos : Pos} (hN : X.N[i]? = some x) (hv : Vis X.env.scope x) (hd : (x == ("__debug__" : Str)) = false := by decide) (hcd : (x == ("__classdict__" : Str)) = false := by decide) : PE X (.Name x pos) (tVar i) := by
 intro pins s σ H Q I h
 obtain ⟨v, e, h⟩ := h
 obtain ⟨m, hn, hl⟩ := I.loc
 obtain ⟨u, r, l⟩ := hl i x v hN e hv
 have fin : EP X pins σ Q u s := ⟨v, H, I, r, h⟩
 rcases l with ⟨hk, hm⟩ | ⟨hk, c, hc, hcell⟩
 ·exact wpAny_Name (wpAny_loadName_local I.ok.kind hk hn hm fin) hd
 ·rcases hk with hk | hk
  ·exact wpAny_Name (wpAny_loadName_cell I.ok.kind hk hc hcell fin) hd
  ·exact wpAny_Name (wpAny_loadName_free I.ok.kind hk hc hcell fin hcd) hd
theorem pe_int {i j pos} : PE X (.Constant (.int i) j pos) (tC (.int i)) := fun _ _ _ H _ I h => wpAny_Constant_int ⟨.int i, H, I.tok _, ⟨_, rfl⟩, h⟩
theorem pe_bl {b j pos} : PE X (.Constant (.bool b) j pos) (tC (.bl b)) := fun _ _ _ H _ I h => Constant_bool ⟨.bl b, H, I, rfl, h⟩
theorem pe_str {x j pos} : PE X (.Constant (.str x) j pos) (tC (.str x)) := fun _ _ _ H _ I h => Calls.Constant_str ⟨.str x, H, I.tok _, ⟨_, rfl⟩, h⟩
def Gl (X : Cx) (x : Str) : Prop := X.env.kindOf x = some .globalImplicit
theorem ld_glob {E : Value → Shared → Prop} {pins : List (Addr × Obj)} {s : Shared} {σ : St} {H : Hp} {x : Str} {u : Value} {pos : Pos} {Q : Value → Shared → Prop} (I : Inv X pins σ H s) (hg : Gl X x) (hm : X.mg x = some u) (h : Q u s)
  (hd : (x == ("__debug__" : Str)) = false := by decide) : wpAny (model X.prog X.w) X.A (eval (.Name x pos) X.env) Q E s :=
 Calls.Name_function_global I.ok.kind hg (Calls.loadGlobal_global (by rw [I.ok.glob]; exact I.mod.glob.keeps I.bk) hm h) hd
theorem ld_blt {E : Value → Shared → Prop} {pins : List (Addr × Obj)} {s : Shared} {σ : St} {H : Hp} {x : Str} {u : Value} {pos : Pos} {Q : Value → Shared → Prop} (I : Inv X pins σ H s) (hg : Gl X x) (hm : X.mg x = none) (hv : bootBuiltins x = some u) (h : Q u s)
  (hn : x ≠ "__name__" := by decide) (hd : (x == ("__debug__" : Str)) = false := by decide) : wpAny (model X.prog X.w) X.A (eval (.Name x pos) X.env) Q E s := by
 obtain ⟨mb, h1, h2⟩ := I.mod.blt
 exact Calls.Name_function_global I.ok.kind hg (Calls.loadGlobal_builtin (by rw [I.ok.glob]; exact I.mod.glob.keeps I.bk) hm (by rw [I.ok.blt]; exact h1.keeps I.bk) ((h2 x hn).trans hv) h) hd
theorem pe_glob {x : Str} {v : V} {u : Value} {pos : Pos} (hg : Gl X x) (hm : X.mg x = some u) (r : RelV v u) (hd : (x == ("__debug__" : Str)) = false := by decide) : PE X (.Name x pos) (tC v) :=
 fun _ _ _ H _ I h => ld_glob I hg hm ⟨v, H, I, r, h⟩ hd
theorem pe_bltn {x : Str} {v : V} {u : Value} {pos : Pos} (hg : Gl X x) (hm : X.mg x = none) (hv : bootBuiltins x = some u) (r : RelV v u) (hn : x ≠ "__name__" := by decide) (hd : (x == ("__debug__" : Str)) = false := by decide) : PE X (.Name x pos) (tC v) :=
 fun _ _ _ H _ I h => ld_blt I hg hm hv ⟨v, H, I, r, h⟩ hn hd
variable {a b : Expr} {ta tb : TE} {pos : Pos}
def tB (t : TE) : TT := fun σ H Q => t σ H fun x H1 => ∃ c, x = .bl c ∧ Q c H1
theorem pt_val {e : Expr} {t : TE} (h : PE X e t) (he : ∀ whole, isTrue e X.env whole = (do let v ← whole; standAt e.pos; holding [v] (truthy v)) := by intro _; rfl) : PT X e (tB t) := by
 intro pins s σ H Q I hw
 refine isTrue_plain (thn (h pins s σ H _ I hw) fun v s1 ⟨x, H1, I1, r1, q1⟩ => ?_) (he _)
 obtain ⟨d, rfl, q⟩ := q1
 cases r1
 exact wpAny_truthy_bool ⟨H1, I1, q⟩
variable {tA tB' : TT} {rest : List Expr}
def tAnd (t u : TT) : TT := fun σ H Q => t σ H fun c H1 => if c = true then u σ H1 Q else Q false H1
def tOr (t u : TT) : TT := fun σ H Q => t σ H fun c H1 => if c = true then Q true H1 else u σ H1 Q
def tNot (t : TT) : TT := fun σ H Q => t σ H fun c H1 => Q (!c) H1
theorem pw_and1 (ha : PT X a tA) : PW X (.BoolOp .And [a] pos) tA := by
 intro wh pins s σ H Q I h
 refine isTrue_and (thn (ha pins s σ H Q I h) fun c s1 e => ?_)
 cases c with
 | true => exact isTrue_and_nil e
 | false => exact e
theorem pw_or1 (ha : PT X a tA) : PW X (.BoolOp .Or [a] pos) tA := by
 intro wh pins s σ H Q I h
 refine isTrue_or (thn (ha pins s σ H Q I h) fun c s1 e => ?_)
 cases c with
 | false => exact isTrue_or_nil e
 | true => exact e
theorem pw_and (ha : PT X a tA) (hb : PW X (.BoolOp .And (b :: rest) pos) tB') : PW X (.BoolOp .And (a :: b :: rest) pos) (tAnd tA tB') := by
 intro wh pins s σ H Q I h
 refine isTrue_and (thn (ha pins s σ H _ I h) fun c s1 ⟨H1, I1, q1⟩ => ?_)
 cases c with
 | true => exact hb wh pins s1 σ H1 Q I1 q1
 | false => exact ⟨H1, I1, q1⟩
theorem pw_or (ha : PT X a tA) (hb : PW X (.BoolOp .Or (b :: rest) pos) tB') : PW X (.BoolOp .Or (a :: b :: rest) pos) (tOr tA tB') := by
 intro wh pins s σ H Q I h
 refine isTrue_or (thn (ha pins s σ H _ I h) fun c s1 ⟨H1, I1, q1⟩ => ?_)
 cases c with
 | true => exact ⟨H1, I1, q1⟩
 | false => exact hb wh pins s1 σ H1 Q I1 q1
theorem pt_not (ha : PT X a tA) : PT X (.UnaryOp .Not a pos) (tNot tA) := by
 intro pins s σ H Q I h
 exact isTrue_not (ha pins s σ H (fun c H1 => Q (!c) H1) I h)
def tAndV (ta tb : TE) : TE := fun σ H Q => ta σ H fun x H1 => ∃ c, x = .bl c ∧ if c = true then tb σ H1 Q else Q (.bl false) H1
def tNotV (ta : TE) : TE := fun σ H Q => ta σ H fun x H1 => ∃ c, x = .bl c ∧ Q (.bl (!c)) H1
theorem pe_one {op} {t : TE} (h : PE X a t) : PE X (.BoolOp op [a] pos) t := fun pins s σ H Q I hw => BoolOp_one (h pins s σ H Q I hw)
theorem pe_and (ha : PE X a ta) (hb : PE X (.BoolOp .And (b :: rest) pos) tb) : PE X (.BoolOp .And (a :: b :: rest) pos) (tAndV ta tb) := by
 intro pins s σ H Q I h
 refine BoolOp_and (thn (ha pins s σ H _ I h) fun v s1 ⟨x, H1, I1, r1, q1⟩ => ?_)
 obtain ⟨c, rfl, q1⟩ := q1
 cases r1
 refine wpAny_truthy_bool ?_
 cases c with
 | true => exact hb pins s1 σ H1 Q I1 q1
 | false => exact ⟨.bl false, H1, I1, rfl, q1⟩
theorem pe_not (ha : PE X a ta) : PE X (.UnaryOp .Not a pos) (tNotV ta) := by
 intro pins s σ H Q I h
 refine UnaryOp_ (thn (ha pins s σ H _ I h) fun v s1 ⟨x, H1, I1, r1, q1⟩ => ?_)
 obtain ⟨c, rfl, q1⟩ := q1
 cases r1
 exact not_of (wpAny_truthy_bool ⟨.bl (!c), H1, I1, rfl, q1⟩)
end
def SqL (K : PySem.W.Frag) (H : Hp) (a : Addr) (xs : List V) : Prop :=
 Rd H a (.lst xs) ∨
  ∃ (o : Obj) (its : Array Value) (n : Nat), K.lookup a = some o ∧ o.cls = .type "list" ∧ o.dict = none ∧ o.data = .seq its n ∧ its.size ≤ sizeLine ∧ Vals xs its.toList
def SqT (K : PySem.W.Frag) (H : Hp) (a : Addr) (xs : List V) : Prop :=
 Rd H a (.tup xs) ∨
  ∃ (o : Obj) (its : Array Value) (n : Nat), K.lookup a = some o ∧ o.cls = .type "tuple" ∧ o.data = .seq its n ∧ its.size ≤ sizeLine ∧ Vals xs its.toList
def absV : Value → Option V
 | .none => some .non
 | .bool b => some (.bl b)
 | .int i _ => some (.int i)
 | .str x _ => some (.str x)
 | .bytes b _ => some (.byt b)
 | .float b _ => some (.flt b)
 | .ref a => some (.ref a)
 | .type n => some (.ty n)
 | _ => none
theorem RelV.abs {x : V} {u : Value} (r : RelV x u) : absV u = some x := by
 cases x with
 | non => cases r; rfl
 | bl _ => cases r; rfl
 | int _ => obtain ⟨t, rfl⟩ := r; rfl
 | str _ => obtain ⟨t, rfl⟩ := r; rfl
 | byt _ => obtain ⟨t, rfl⟩ := r; rfl
 | flt _ => obtain ⟨t, rfl⟩ := r; rfl
 | ref _ => cases r; rfl
 | ty _ => cases r; rfl
theorem RelV.inj {x y : V} {u : Value} (r : RelV x u) (q : RelV y u) : x = y := Option.some.inj (r.abs.symm.trans q.abs)
theorem Vals.inj : ∀ {xs ys : List V} {us : List Value}, Vals xs us → Vals ys us → xs = ys
 | _, _, _, .nil, .nil => rfl
 | _, _, _, .cons r t, .cons r' t' => by rw [r.inj r', Vals.inj t t']
section
variable {X : Cx} {pins : List (Addr × Obj)} {σ : St} {H : Hp} {s : Shared} {a : Addr} {xs ys : List V}
theorem SqL.of {K : PySem.W.Frag} (h : H a = some (.lst xs)) : SqL K H a xs := .inl (.inl h)
theorem SqT.of {K : PySem.W.Frag} (h : H a = some (.tup xs)) : SqT K H a xs := .inl (.inl h)
theorem Inv.list (I : Inv X pins σ H s) (h : SqL X.K H a xs) : ∃ its : List Value, Vals xs its ∧ PlainL s.heap a its.toArray ∧ xs.length ≤ sizeLine := by
 rcases h with h | ⟨o, its, n, hk, hc, hd, hs, hz, r⟩
 ·obtain ⟨z, its, n, r, e⟩ := h.ok I.hok
  exact ⟨its, r, ⟨_, n, e, rfl, rfl, rfl⟩, z⟩
 ·refine ⟨its.toList, r, ⟨o, n, I.kIn a o hk, hc, hd, by simpa using hs⟩, ?_⟩
  have e := r.length
  simp only [Array.length_toList] at e
  omega
theorem Inv.tuple (I : Inv X pins σ H s) (h : SqT X.K H a xs) : ∃ its : List Value, Vals xs its ∧ IsTup s.heap a its.toArray ∧ xs.length ≤ sizeLine := by
 rcases h with h | ⟨o, its, n, hk, hc, hs, hz, r⟩
 ·obtain ⟨z, its, r, p⟩ := h.ok I.hok
  exact ⟨its, r, p, z⟩
 ·refine ⟨its.toList, r, ⟨o, I.kIn a o hk, hc, n, by simpa using hs⟩, ?_⟩
  have e := r.length
  simp only [Array.length_toList] at e
  omega
theorem Inv.list_inj (I : Inv X pins σ H s) (h : SqL X.K H a xs) (h' : SqL X.K H a ys) : xs = ys := by
 obtain ⟨its, r, ⟨o, n, e, _, _, d⟩, _⟩ := I.list h
 obtain ⟨its', r', ⟨o', n', e', _, _, d'⟩, _⟩ := I.list h'
 rw [e] at e'; cases e'
 rw [d] at d'
 injection d' with d1 _
 have : its = its' := by simpa using congrArg Array.toList d1
 subst this
 exact r.inj r'
end
section
variable {X : Cx} {pins : List (Addr × Obj)} {σ : St} {H : Hp} {s : Shared} {E : Value → Shared → Prop}
end
section
variable {X : Cx} {st : Stmt} {rest : List Stmt} {t u : TS} {e : Expr} {te : TE} {pos : Pos}
def tNext : TS := fun D σ H => D.nx σ H
def tSeq (t u : TS) : TS := fun D σ H => t { D with nx := u D } σ H
theorem pss_nil : PSs X [] tNext := fun _ _ σ H _ I h => wpAny_execs_nil ⟨σ, H, I, h⟩
theorem pss_cons (h1 : PS X st t) (h2 : PSs X rest u) : PSs X (st :: rest) (tSeq t u) := by
 intro pins s σ H D I h
 refine wpAny_execs_cons (thn (h1 pins s σ H { D with nx := u D } I h) fun f s1 q => ?_)
 cases f with
 | next =>
  obtain ⟨σ', H', I', q⟩ := q
  exact h2 pins s1 σ' H' D I' q
 | ret v => exact q
 | brk => exact q
 | cont => exact q
theorem pss_one (h1 : PS X st t) : PSs X [st] t := by
 intro pins s σ H D I h
 refine wpAny_execs_cons (thn (h1 pins s σ H D I h) fun f s1 q => ?_)
 cases f with
 | next => exact wpAny_execs_nil q
 | ret v => exact q
 | brk => exact q
 | cont => exact q
theorem Inv.quiet {pins : List (Addr × Obj)} {σ : St} {H : Hp} {s : Shared} (I : Inv X pins σ H s) : interactive X.env = false := by simp [interactive, I.ok.kind]
def tDrop (te : TE) : TS := fun D σ H => te σ H fun _ H1 => D.nx σ H1
theorem ps_expr (he : PE X e te) (hs : swapsWith e none pos.line X.env = pure false := by rfl) : PS X (.Expr e pos) (tDrop te) := by
 intro pins s σ H D I h
 exact wpAny_Expr_any (thn (he pins s σ H _ I h) fun v s1 ⟨x, H1, I1, r1, q1⟩ => ⟨σ, H1, I1, q1⟩) I.quiet hs
def tRet (te : TE) : TS := fun D σ H => te σ H D.rt
theorem ps_ret (he : PE X e te) : PS X (.Return (some e) pos) (tRet te) := by
 intro pins s σ H D I h
 exact wpAny_Return_some (thn (he pins s σ H _ I h) fun v s1 ⟨x, H1, I1, r1, q1⟩ => ⟨x, σ, H1, I1, r1, q1⟩)
def tIfS (c : TT) (t u : TS) : TS := fun D σ H => c σ H fun b H1 => if b = true then t D σ H1 else u D σ H1
theorem ps_if {c : Expr} {a b : List Stmt} {tc : TT} (hc : PT X c tc) (ha : PSs X a t) (hb : PSs X b u) : PS X (.If c a b pos) (tIfS tc t u) := by
 intro pins s σ H D I h
 refine wpAny_If (thn (hc pins s σ H _ I h) fun d s1 ⟨H1, I1, q1⟩ => ?_)
 cases d with
 | true => exact ha pins s1 σ H1 D I1 q1
 | false => exact hb pins s1 σ H1 D I1 q1
end
abbrev TG := V → St → Hp → (St → Hp → Prop) → Prop
abbrev TGs := List V → St → Hp → (St → Hp → Prop) → Prop
def PG (X : Cx) (target : Expr) (t : TG) : Prop :=
 ∀ (pins : List (Addr × Obj)) (s : Shared) (σ : St) (H : Hp) (v : V) (u : Value) (Q : St → Hp → Prop), Inv X pins σ H s → RelV v u → t v σ H Q →
  wpAny (model X.prog X.w) X.A (assign target X.env u) (fun _ s' => ∃ σ' H', Inv X pins σ' H' s' ∧ Q σ' H') X.xe s
def PGs (X : Cx) (ts : List Expr) (t : TGs) : Prop :=
 ∀ (pins : List (Addr × Obj)) (s : Shared) (σ : St) (H : Hp) (vs : List V) (us : List Value) (Q : St → Hp → Prop), Inv X pins σ H s → Vals vs us → t vs σ H Q →
  wpAny (model X.prog X.w) X.A (assignInOrder ((assignEach ts X.env).map (·.2)) us) (fun _ s' => ∃ σ' H', Inv X pins σ' H' s' ∧ Q σ' H') X.xe s
section
variable {X : Cx} {pos : Pos}
def gName (i : Nat) : TG := fun v σ H Q => Q (σ.set i (some v)) H
theorem pg_name {i : Nat} {x : Str} (hN : X.N.Nodup) (hi : X.N[i]? = some x) (hx : Loc X.env.scope x) (hf : X.fn x = true ∨ X.env.scope.names.lookup x = some .local := by first | exact .inl rfl | exact .inr rfl | assumption) : PG X (.Name x pos) (gName i) := by
 intro pins s σ H v u Q I r h
 exact wpAny_assign_Name (store_ok I hN hi hx r (fun s' I' => ⟨_, H, I', h⟩) hf)
def gNil : TGs := fun vs σ H Q => vs = [] ∧ Q σ H
def gCons (t : TG) (u : TGs) : TGs := fun vs σ H Q => ∃ v r, vs = v :: r ∧ t v σ H fun σ' H' => u r σ' H' Q
theorem pgs_nil : PGs X [] gNil := by
 intro pins s σ H vs us Q I r h
 obtain ⟨e, h⟩ := h
 subst e
 cases r
 exact assignInOrder_nil ⟨σ, H, I, h⟩
theorem pgs_cons {e : Expr} {es : List Expr} {t : TG} {u : TGs} (h1 : PG X e t) (h2 : PGs X es u)
  (hs : (assignEach (e :: es) X.env).map (·.2) = assign e X.env :: (assignEach es X.env).map (·.2) := by rfl) : PGs X (e :: es) (gCons t u) := by
 intro pins s σ H vs us Q I r h
 obtain ⟨v, vr, e1, h⟩ := h
 subst e1
 cases r with
 | cons r rr =>
  rw [hs]
  refine assignInOrder_cons (thn (h1 pins s σ H _ _ _ I r h) fun _ s1 ⟨σ1, H1, I1, q1⟩ => ?_)
  exact h2 pins s1 σ1 H1 _ _ Q I1 rr q1
def gTup (K : PySem.W.Frag) (n : Nat) (t : TGs) : TG := fun v σ H Q => ∃ a xs, v = .ref a ∧ SqT K H a xs ∧ xs.length = n ∧ t xs σ H Q
theorem pg_tup {es : List Expr} {k : Nat} {t : TGs} {n : Nat} (hc : X.calm = true) (h : PGs X es t)
  (hn : (assignEach es X.env).length = n := by rfl) (hst : (assignEach es X.env).findIdx? (·.1) = none := by rfl) : PG X (.Tuple es k pos) (gTup X.K n t) := by
 intro pins s σ H v u Q I r hw
 obtain ⟨a, xs, e1, hq, hl, hw⟩ := hw
 subst e1
 cases r
 obtain ⟨its, rv, ht, hz⟩ := I.tuple hq
 refine assign_Tuple_tuple (I.ok.hd hc) ht (by simp [hn, ← hl, rv.length]) hst fun h' hx => ?_
 have I1 : Inv X pins σ H { s with heap := h' } := I.kept (t' := s.toks) fun b o e => hx b o (Nat.ne_of_lt (Heap.lt_size e)) e
 exact h pins _ σ H xs _ Q I1 (by simpa using rv) hw
def tAsg (te : TE) (g : TG) : TS := fun D σ H => te σ H fun x H1 => g x σ H1 D.nx
theorem ps_set {i : Nat} {x : Str} {e : Expr} {te : TE} {pos' : Pos} (hN : X.N.Nodup) (hi : X.N[i]? = some x) (hx : Loc X.env.scope x) (he : PE X e te) (hs : swapsWith e (some (.Name x pos')) pos.line X.env = pure false := by rfl) (hf : X.fn x = true ∨ X.env.scope.names.lookup x = some .local := by first | exact .inl rfl | exact .inr rfl | assumption) :
  PS X (.Assign [.Name x pos'] e pos) (tAsg te (gName i)) := by
 intro pins s σ H D I h
 refine wpAny_Assign_Name (thn (he pins s σ H _ I h) fun v s1 ⟨y, H1, I1, r1, q1⟩ => ?_) hs
 exact store_ok I1 hN hi hx r1 (fun s2 I2 => ⟨_, H1, I2, q1⟩) hf
end
section
variable {X : Cx} {pos : Pos}
def tWhile (c : TT) (tb : TS) : TS := fun D σ H => ∃ W : Nat → St → Hp → Prop, (∃ m, W m σ H) ∧ ∀ m σ H, W m σ H →
 c σ H fun b H1 => if b = true then ∃ N : St → Hp → Prop, (∀ σ' H', N σ' H' → ∃ m', m' < m ∧ W m' σ' H') ∧ tb { D with nx := N, ct := N, bk := D.nx } σ H1 else D.nx σ H1
theorem ps_while {c : Expr} {body : List Stmt} {tc : TT} {tb : TS} (hp : PassesOwn (model X.prog X.w) X.A X.env X.xe) (hc : PT X c tc) (hb : PSs X body tb) : PS X (.While c body [] pos) (tWhile tc tb) := by
 intro pins s σ H D I h
 obtain ⟨W, ⟨m0, w0⟩, turn⟩ := h
 refine wpAny_While (codeAny_whileLoop (fun n s' => ∃ σ' H', Inv X pins σ' H' s' ∧ W n σ' H') ?_ m0 ⟨σ, H, I, w0⟩)
 rintro n s1 ⟨σ1, H1, I1, w1⟩
 refine wpAny_passesOwn hp (thn (hc pins s1 σ1 H1 _ I1 (turn n σ1 H1 w1)) fun b s2 ⟨H2, I2, q2⟩ => ?_)
 cases b with
 | true =>
  obtain ⟨N, hN, q2⟩ := q2
  rw [if_pos rfl]
  refine wpAny_passesOwn hp (thn (hb pins s2 σ1 H2 _ I2 q2) fun f s3 q3 => ?_)
  cases f with
  | next =>
   obtain ⟨σ3, H3, I3, n3⟩ := q3
   obtain ⟨m', hm, w3⟩ := hN σ3 H3 n3
   exact ⟨m', hm, σ3, H3, I3, w3⟩
  | cont =>
   obtain ⟨σ3, H3, I3, n3⟩ := q3
   obtain ⟨m', hm, w3⟩ := hN σ3 H3 n3
   exact ⟨m', hm, σ3, H3, I3, w3⟩
  | brk => exact q3
  | ret v => exact q3
 | false =>
  rw [if_neg Bool.false_ne_true]
  exact wpAny_execs_nil ⟨σ1, H2, I2, q2⟩
end
structure It where
 go : Nat → Hp → Prop
 yld : Nat → Hp → V → Hp → Prop
 stop : Nat → Hp → Prop
def FpOk (X : Cx) (pins : List (Addr × Obj)) (H : Hp) (b : Addr) : Prop :=
 H b = none ∧ b ≠ X.env.locals ∧ b ∉ X.fs ∧ (b ∈ X.ex ∨ X.s₀.heap.objs.size ≤ b) ∧ (∀ x c, X.env.cells.lookup x = some c → c ≠ b) ∧ ∀ p ∈ X.pn ++ pins, p.1 ≠ b
theorem Inv.fpOk {X : Cx} {pins : List (Addr × Obj)} {σ : St} {H H' : Hp} {s : Shared} {b : Addr} (I : Inv X pins σ H s) (hb : s.heap.objs.size ≤ b) (hn : H' b = none) : FpOk X pins H' b := by
 refine ⟨hn, Nat.ne_of_gt (Nat.lt_of_lt_of_le I.lt hb), I.nofs hb, .inr (Nat.le_trans I.sz hb), fun x c e z => ?_, fun p hp z => ?_⟩
 ·obtain ⟨v, q⟩ := I.cell x c e
  exact absurd (Nat.lt_of_lt_of_le q.lt (by rw [z]; exact hb)) (Nat.lt_irrefl _)
 ·exact absurd (Nat.lt_of_lt_of_le (Heap.lt_size (I.pin p hp).1) (by rw [z]; exact hb)) (Nat.lt_irrefl _)
structure Turn (P : Program) (w : World) (K : PySem.W.Frag) (tg : Expr) (J : It) (fp : List Addr) (it : Addr) (tn : Nat → Heap → Prop) : Prop where
 mem : it ∈ fp
 obj : ∀ i h, tn i h → ∀ b ∈ fp, ∃ o, h.get? b = some o ∧ ∀ v, o.data ≠ .cell v
 keep : ∀ i h h', tn i h → (∀ b ∈ fp, ∀ o, h.get? b = some o → h'.get? b = some o) → tn i h'
 item : ∀ (X : Cx), X.prog = P → X.w = w → X.K = K → X.calm = true → ∀ (i : Nat) (pins : List (Addr × Obj)) (s : Shared) (σ : St) (H : Hp) (E : Value → Shared → Prop), Inv X pins σ H s → (∀ b ∈ fp, FpOk X pins H b) → tn i s.heap → J.go i H →
  wpAny (model P w) X.A (pyNext (.ref it)) (fun r s1 => ∃ u, r = some u ∧
   wpAny (model P w) X.A (letOwnedTupleGo tg (.ref it) u) (fun _ s2 => ∃ x H', Inv X pins σ H' s2 ∧ RelV x u ∧ J.yld i H x H' ∧ tn (i + 1) s2.heap ∧ ∀ b ∈ fp, H' b = none) E s1) E s
 done : ∀ (X : Cx), X.prog = P → X.w = w → X.K = K → X.calm = true → ∀ (i : Nat) (pins : List (Addr × Obj)) (s : Shared) (σ : St) (H : Hp) (E : Value → Shared → Prop), Inv X pins σ H s → (∀ b ∈ fp, FpOk X pins H b) → tn i s.heap → J.stop i H →
  wpAny (model P w) X.A (pyNext (.ref it)) (fun r s1 => r = none ∧ Inv X pins σ H s1) E s
 self : ∀ (A : Around) (i : Nat) (s : Shared) (Q : Value → Shared → Prop) (E : Value → Shared → Prop), tn i s.heap → Q (.ref it) s → wpAny (model P w) A (pyIter (.ref it)) Q E s
abbrev TI := St → Hp → (It → Hp → Prop) → Prop
def PIE (X : Cx) (pins : List (Addr × Obj)) (σ : St) (tg : Expr) (R : It → Hp → Prop) (itv : Value) (s2 : Shared) : Prop :=
 ∃ (it : Addr) (fp : List Addr) (tn : Nat → Heap → Prop) (J : It) (H' : Hp), itv = .ref it ∧ Inv X pins σ H' s2 ∧ Turn X.prog X.w X.K tg J fp it tn ∧ tn 0 s2.heap ∧ (∀ b ∈ fp, FpOk X pins H' b) ∧ R J H'
def PI (X : Cx) (tg iter : Expr) (wi : TI) : Prop :=
 ∀ (pins : List (Addr × Obj)) (s : Shared) (σ : St) (H : Hp) (R : It → Hp → Prop), Inv X pins σ H s → wi σ H R →
  wpAny (model X.prog X.w) X.A (eval iter X.env) (fun v s1 => wpAny (model X.prog X.w) X.A (pyIter v) (PIE X pins σ tg R) X.xe s1) X.xe s
theorem go_of {M : Model} {A : Around} {E : Value → Shared → Prop} {s : Shared} {tg : Expr} {it : Addr} {u : Value} {o : Obj} {n : String} {vs : Array Value} {Q : Unit → Shared → Prop} (ho : s.heap.get? it = some o) (hc : o.cls = .type n) (hd : o.data = .fields vs)
  (hn : ["enumerate", "zip", "dict_itemiterator", "dict_reverseitemiterator", "odict_iterator", "itertools.zip_longest", "itertools.pairwise"].contains n = false) (hQ : Q () s) : wpAny M A (letOwnedTupleGo tg (.ref it) u) Q E s := by
 unfold letOwnedTupleGo
 cases tg <;> first
  | exact wpAny_pure hQ
  | (cases u <;> first
    | exact wpAny_pure hQ
    | (refine wpAny_bind (wpAny_load ho ?_)
       rw [hc, hd]
       show wpAny M A (if (["enumerate", "zip", "dict_itemiterator", "dict_reverseitemiterator", "odict_iterator", "itertools.zip_longest", "itertools.pairwise"].contains n && vs[0]? == some (rawInt _)) = true then _ else _) Q E s
       rw [if_neg (by intro h; rw [hn, Bool.false_and] at h; cases h)]
       exact wpAny_pure hQ))
def Itl (K : PySem.W.Frag) (a : Addr) : It :=
 ⟨fun i H => ∃ xs x, SqL K H a xs ∧ xs[i]? = some x, fun i H x H' => H' = H ∧ ∀ xs, SqL K H a xs → xs[i]? = some x, fun i H => ∃ xs, SqL K H a xs ∧ xs.length ≤ i⟩
def Itr (lo : Int) (n : Nat) : It := ⟨fun i _ => i < n, fun i H x H' => H' = H ∧ x = .int (lo + i), fun i _ => n ≤ i⟩
theorem turn_list {P : Program} {w : World} {K : PySem.W.Frag} {tg : Expr} (a it : Addr) : Turn P w K tg (Itl K a) [it] it (fun i h => h.IsListIter it a i) where
 mem := by simp
 obj := fun i h st b hb => by
  have e : b = it := by simpa using hb
  subst e
  obtain ⟨o, e, c, d⟩ := st
  exact ⟨o, e, fun v z => by rw [d] at z; cases z⟩
 keep := fun i h h' st k => st.at fun o e => k it (by simp) o e
 item := by
  intro X hP hw hK hc i pins s σ H E I hf st hg
  subst hP hw hK
  obtain ⟨xs, x, hq, hx⟩ := hg
  obtain ⟨its, rv, p, hz⟩ := I.list hq
  obtain ⟨u, hu, ru⟩ := rv.get hx
  obtain ⟨f0, f1, f2, f3, f4, f5⟩ := hf it (by simp)
  refine wpAny_pyNext_list_item st p.isList (x := u) (by simpa using hu) fun h' st' sb => ?_
  have I1 : Inv X pins σ H { s with heap := h' } := I.turned (t' := s.toks) (fun b o hb e => (sb.2 b hb).trans e) f0 f1 f3 f4 f5
  obtain ⟨o, e, c, d⟩ := id st'
  exact ⟨u, rfl, go_of (s := { s with heap := h' }) e c d (by decide) ⟨x, H, I1, ru, ⟨rfl, fun ys hy => by rw [I.list_inj hy hq]; exact hx⟩, st', fun b hb => (hf b hb).1⟩⟩
 done := by
  intro X hP hw hK hc i pins s σ H E I hf st hg
  subst hP hw hK
  obtain ⟨xs, hq, hx⟩ := hg
  obtain ⟨its, rv, p, hz⟩ := I.list hq
  obtain ⟨f0, f1, f2, f3, f4, f5⟩ := hf it (by simp)
  have hl := rv.length
  exact wpAny_pyNext_list_end (I.ok.hd hc) st p.isList (by simp; omega) fun h' eb => ⟨rfl, I.turned (t' := s.toks) (fun b o hb e => eb b o hb e) f0 f1 f3 f4 f5⟩
 self := fun _ _ _ _ _ st h => wpAny_pyIter_listiter st h
theorem turn_range {P : Program} {w : World} {K : PySem.W.Frag} {tg : Expr} (it : Addr) (lo : Int) (n : Nat) : Turn P w K tg (Itr lo n) [it] it (fun i h => IsRangeIter h it (lo + (i : Nat) * 1) ((n : Int) - (i : Nat)) 1) where
 mem := by simp
 obj := fun i h st b hb => by
  have e : b = it := by simpa using hb
  subst e
  exact ⟨_, st, fun v z => by
   have z' : Data.fields _ = Data.cell v := z
   cases z'⟩
 keep := fun i h h' st k => k it (by simp) _ st
 item := by
  intro X hP hw hK hc i pins s σ H E I hf st hg
  subst hP hw hK
  obtain ⟨f0, f1, f2, f3, f4, f5⟩ := hf it (by simp)
  have W := Walks.range (prog := X.prog) (w := X.w) (I.ok.hd hc) it lo 1 n
  refine W.item i s _ _ hg st fun v h' tk hv st' kk => ?_
  obtain ⟨t, rfl⟩ := hv
  have I1 : Inv X pins σ H { s with heap := h', toks := tk } := I.turned (fun b o hb e => kk b o (by simpa using hb) e) f0 f1 f3 f4 f5
  refine ⟨_, rfl, go_of (s := { s with heap := h', toks := tk }) (n := "range_iterator") st' rfl rfl (by decide) ⟨.int (lo + i), H, I1, ⟨t, ?_⟩, ⟨rfl, rfl⟩, st', fun b hb => (hf b hb).1⟩⟩
  rw [Int.mul_one]
 done := by
  intro X hP hw hK hc i pins s σ H E I hf st hg
  subst hP hw hK
  obtain ⟨f0, f1, f2, f3, f4, f5⟩ := hf it (by simp)
  exact wpAny_pyNext_range_end (I.ok.hd hc) st (by have : n ≤ i := hg; omega) fun h' eb => ⟨rfl, I.turned (t' := s.toks) (fun b o hb e => eb b o hb e) f0 f1 f3 f4 f5⟩
 self := fun _ _ _ _ _ st h => wpAny_pyIter_rangeiter st h
section
variable {X : Cx} {tg : Expr}
def iList (K : PySem.W.Frag) (tl : TE) : TI := fun σ H R => tl σ H fun x H1 => ∃ a, x = .ref a ∧ (∃ xs, SqL K H1 a xs) ∧ R (Itl K a) H1
theorem pi_list {l : Expr} {tl : TE} (hl : PE X l tl) : PI X tg l (iList X.K tl) := by
 intro pins s σ H R I h
 refine thn (hl pins s σ H _ I h) fun v s1 ⟨x, H1, I1, r1, q1⟩ => ?_
 obtain ⟨a, e, ⟨xs, hq⟩, q⟩ := q1
 subst e
 cases r1
 obtain ⟨its, rv, p, hz⟩ := I1.list hq
 refine wpAny_pyIter_list p.isList ?_
 refine ⟨s1.heap.objs.size, [s1.heap.objs.size], _, _, H1, rfl, I1.kept (t' := s1.toks) fun b o e => Heap.get?_push_of_some _ e, turn_list a _, ⟨_, Heap.get?_push_size _ rfl, rfl, rfl⟩, fun b hb => ?_, q⟩
 have e : b = s1.heap.objs.size := by simpa using hb
 subst e
 exact I1.fpOk (Nat.le_refl _) (I1.hok.fresh (Nat.le_refl _))
theorem range_it {pins : List (Addr × Obj)} {σ : St} {H : Hp} {s : Shared} {R : It → Hp → Prop} {E : Value → Shared → Prop} {lo hi : Int} {t u v : Tok} {tk : Nat} (I : Inv X pins σ H s) (h1 : -(2 ^ 62) ≤ lo) (h2 : lo < 2 ^ 62) (h3 : -(2 ^ 62) ≤ hi) (h4 : hi < 2 ^ 62)
  (q : R (Itr lo (hi - lo).toNat) H) : wpAny (model X.prog X.w) X.A (pyIter (.ref s.heap.objs.size)) (PIE X pins σ tg R) E { s with heap := s.heap.push { cls := .type "range", data := .fields #[.int lo t, .int hi u, .int 1 v] }, toks := tk } := by
 refine wpAny_pyIter_range (IsRange.new ..) (small_one h1 h2 h3 h4) ?_
 have I1 : Inv X pins σ H { s with heap := s.heap.push { cls := .type "range", data := .fields #[.int lo t, .int hi u, .int 1 v] }, toks := tk } := I.kept fun b o e => Heap.get?_push_of_some _ e
 refine ⟨(s.heap.push { cls := .type "range", data := .fields #[.int lo t, .int hi u, .int 1 v] }).objs.size, [(s.heap.push { cls := .type "range", data := .fields #[.int lo t, .int hi u, .int 1 v] }).objs.size], _, _, H, rfl,
  I1.kept (t' := tk) fun b o e => Heap.get?_push_of_some _ e, turn_range _ lo (hi - lo).toNat, ?_, fun b hb => ?_, q⟩
 ·have e1 : lo + ((0 : Nat) : Int) * 1 = lo := by simp
  have e2 : (((hi - lo).toNat : Nat) : Int) - ((0 : Nat) : Int) = Builtin.Range.rangeSize lo hi 1 := by rw [rangeSize_one]; split <;> omega
  show IsRangeIter _ _ (lo + ((0 : Nat) : Int) * 1) ((((hi - lo).toNat : Nat) : Int) - ((0 : Nat) : Int)) 1
  rw [e1, e2]
  exact Heap.get?_push_size _ rfl
 ·have e : b = (s.heap.push { cls := .type "range", data := .fields #[.int lo t, .int hi u, .int 1 v] }).objs.size := by simpa using hb
  subst e
  exact I1.fpOk (Nat.le_refl _) (I1.hok.fresh (Nat.le_refl _))
def iRng1 (ta : TA) : TI := fun σ H R => ta σ H fun vs H1 => ∃ j : Int, vs = [.int j] ∧ -(2 ^ 62) ≤ j ∧ j < 2 ^ 62 ∧ R (Itr 0 j.toNat) H1
theorem pi_range1 {a : Expr} {ta : TA} {p pos : Pos} (hg : Gl X "range") (hm : X.mg "range" = none) (ha : PA X [a] ta) (hs : starEach [a] X.env = [(false, eval a X.env)] := by rfl) : PI X tg (.Call (.Name "range" p) [a] [] pos) (iRng1 ta) := by
 intro pins s σ H R I h
 refine Call_ (ld_blt I hg hm boot_range (PyProof.Rows.callWith_type1 (thn (ha pos pins s σ H _ I h) fun us s1 ⟨vs, H1, I1, r1, q1⟩ => ?_) hs rfl))
 obtain ⟨j, e, q1, q2, q⟩ := q1
 subst e
 cases r1 with
 | cons r rr =>
  cases rr
  obtain ⟨t, rfl⟩ := r
  exact call_range_1 (range_it I1 (by omega) (by omega) q1 q2 (by simpa using q))
def tFor (wi : TI) (g : TG) (tb : TS) : TS := fun D σ H => wi σ H fun J H1 => ∃ W : Nat → Nat → St → Hp → Prop, (∃ m, W 0 m σ H1) ∧ ∀ i m σ H, W i m σ H →
 (J.stop i H ∧ D.nx σ H) ∨ (J.go i H ∧ ∃ N : St → Hp → Prop, (∀ σ' H', N σ' H' → ∃ m', m' < m ∧ W (i + 1) m' σ' H') ∧ ∀ x H', J.yld i H x H' → g x σ H' fun σ2 H2 => tb { D with nx := N, ct := N, bk := D.nx } σ2 H2)
def pinsAt (fp : List Addr) (h : Heap) : List (Addr × Obj) := fp.filterMap fun b => (h.get? b).map fun o => (b, o)
theorem mem_pinsAt {fp : List Addr} {h : Heap} {b : Addr} {o : Obj} (hb : b ∈ fp) (e : h.get? b = some o) : (b, o) ∈ pinsAt fp h := List.mem_filterMap.mpr ⟨b, hb, by rw [e]; rfl⟩
theorem of_pinsAt {fp : List Addr} {h : Heap} {p : Addr × Obj} (hp : p ∈ pinsAt fp h) : p.1 ∈ fp ∧ h.get? p.1 = some p.2 := by
 obtain ⟨b, hb, e⟩ := List.mem_filterMap.mp hp
 cases q : h.get? b with
 | none => rw [q] at e; cases e
 | some o =>
  rw [q] at e
  have e' : (b, o) = p := Option.some.inj e
  subst e'
  exact ⟨hb, q⟩
theorem Inv.pinned {pins : List (Addr × Obj)} {σ : St} {H : Hp} {s : Shared} {fp : List Addr} (I : Inv X pins σ H s) (hf : ∀ b ∈ fp, FpOk X pins H b) (ho : ∀ b ∈ fp, ∃ o, s.heap.get? b = some o ∧ ∀ v, o.data ≠ .cell v) : Inv X (pins ++ pinsAt fp s.heap) σ H s :=
 I.pins_of fun p hp => (List.mem_append.mp hp).elim (fun z => I.pin p (List.mem_append_right _ z)) fun z => by
  obtain ⟨hb, e⟩ := of_pinsAt z
  obtain ⟨f0, f1, f2, _⟩ := hf p.1 hb
  obtain ⟨o, e', d⟩ := ho p.1 hb
  rw [e] at e'; cases e'
  exact ⟨e, f0, f1, f2, d⟩
theorem Inv.unpinned {pins pl : List (Addr × Obj)} {σ : St} {H : Hp} {s : Shared} (I : Inv X (pins ++ pl) σ H s) : Inv X pins σ H s := I.pins_of fun p hp => I.pin p (List.mem_append_right _ (List.mem_append_left _ hp))
theorem ps_for {iter : Expr} {body : List Stmt} {wi : TI} {g : TG} {tb : TS} {pos : Pos} (hp : PassesOwn (model X.prog X.w) X.A X.env X.xe) (hc : X.calm = true) (hi : PI X tg iter wi) (hg : PG X tg g) (hb : PSs X body tb)
  (hs : ∀ x, foldedSetIterable iter X.env x = pure x := by intro _; rfl) : PS X (.For tg iter body [] pos) (tFor wi g tb) := by
 intro pins s σ H D I h
 refine wpAny_For (thn (hi pins s σ H _ I h) fun v s1 h1 => thn h1 fun itv s2 h2 => ?_) hs
 obtain ⟨it, fp, tn, J, H2, e, I2, T, st2, f2, W, ⟨m0, w0⟩, turn⟩ := h2
 subst e
 have stat : ∀ {H' : Hp}, (∀ b ∈ fp, H' b = none) → ∀ b ∈ fp, FpOk X pins H' b := fun hn b hb => ⟨hn b hb, (f2 b hb).2⟩
 refine codeAny_forLoop_any (fun n s' => ∃ i σ' H', Inv X pins σ' H' s' ∧ tn i s'.heap ∧ (∀ b ∈ fp, H' b = none) ∧ W i n σ' H') ?_ m0 ⟨0, σ, H2, I2, st2, fun b hb => (f2 b hb).1, w0⟩
 rintro n s3 ⟨i, σ3, H3, I3, st3, fr3, w3⟩
 rcases turn i n σ3 H3 w3 with ⟨stop, qn⟩ | ⟨go, N, hN, step⟩
 ·refine wpAny_passesOwn hp (thn (T.done X rfl rfl rfl hc i pins s3 σ3 H3 X.xe I3 (stat fr3) st3 stop) fun r s4 ⟨hr, I4⟩ => ?_)
  subst hr
  exact wpAny_execs_nil ⟨σ3, H3, I4, qn⟩
 ·refine wpAny_passesOwn hp (thn (T.item X rfl rfl rfl hc i pins s3 σ3 H3 X.xe I3 (stat fr3) st3 go) fun r s4 ⟨u, hr, h4⟩ => ?_)
  subst hr
  refine wpAny_passesOwn hp (thn h4 fun _ s5 ⟨x, H5, I5, r5, y5, st5, fr5⟩ => ?_)
  have I5' := I5.pinned (stat fr5) (T.obj _ _ st5)
  refine wpAny_passesOwn hp (thn (hg _ s5 σ3 H5 x u _ I5' r5 (step x H5 y5)) fun _ s6 ⟨σ6, H6, I6, q6⟩ => ?_)
  refine wpAny_passesOwn hp (thn (hb _ s6 σ6 H6 _ I6 q6) fun f s7 q7 => ?_)
  have again : ∀ {σ7 : St} {H7 : Hp}, Inv X (pins ++ pinsAt fp s5.heap) σ7 H7 s7 → N σ7 H7 → ∃ m, m < n ∧ ∃ i σ' H', Inv X pins σ' H' s7 ∧ tn i s7.heap ∧ (∀ b ∈ fp, H' b = none) ∧ W i m σ' H' := fun {σ7 H7} I7 n7 => by
   obtain ⟨m', hm, w7⟩ := hN σ7 H7 n7
   refine ⟨m', hm, i + 1, σ7, H7, I7.unpinned, T.keep _ _ _ st5 fun b hb o e => (I7.pin (b, o) (List.mem_append_right _ (List.mem_append_right _ (mem_pinsAt hb e)))).1, fun b hb => ?_, w7⟩
   obtain ⟨o, e, d⟩ := T.obj _ _ st5 b hb
   exact (I7.pin (b, o) (List.mem_append_right _ (List.mem_append_right _ (mem_pinsAt hb e)))).2.1
  cases f with
  | next => obtain ⟨σ7, H7, I7, n7⟩ := q7; exact again I7 n7
  | cont => obtain ⟨σ7, H7, I7, n7⟩ := q7; exact again I7 n7
  | brk => obtain ⟨σ7, H7, I7, q7⟩ := q7; exact ⟨σ7, H7, I7.unpinned, q7⟩
  | ret v => obtain ⟨x7, σ7, H7, I7, r7, q7⟩ := q7; exact ⟨x7, σ7, H7, I7.unpinned, r7, q7⟩
end
abbrev R2 := V → V → Hp → VK → Prop
def OpR (X : Cx) (f : Value → Value → Sem Value) (r : R2) : Prop :=
 ∀ (pins : List (Addr × Obj)) (s : Shared) (σ : St) (H : Hp) (x y : V) (v u : Value) (Q : VK), Inv X pins σ H s → RelV x v → RelV y u → r x y H Q →
  wpAny (model X.prog X.w) X.A (f v u) (EP X pins σ Q) X.xe s
def UnR (X : Cx) (f : Value → Sem Value) (r : V → Hp → VK → Prop) : Prop :=
 ∀ (pins : List (Addr × Obj)) (s : Shared) (σ : St) (H : Hp) (x : V) (v : Value) (Q : VK), Inv X pins σ H s → RelV x v → r x H Q →
  wpAny (model X.prog X.w) X.A (f v) (EP X pins σ Q) X.xe s
def CallR (X : Cx) (f : Value) (r : List V → Hp → VK → Prop) : Prop :=
 ∀ (pins : List (Addr × Obj)) (s : Shared) (σ : St) (H : Hp) (xs : List V) (us : List Value) (Q : VK), Inv X pins σ H s → Vals xs us → r xs H Q →
  wpAny (model X.prog X.w) X.A (call f us) (EP X pins σ Q) X.xe s
def tOp (r : R2) (ta tb : TE) : TE := fun σ H Q => ta σ H fun x H1 => tb σ H1 fun y H2 => r x y H2 Q
def tUn (r : V → Hp → VK → Prop) (ta : TE) : TE := fun σ H Q => ta σ H fun x H1 => r x H1 Q
def rI (C : Int → Int → Prop) (g : Int → Int → V) : R2 := fun x y H Q => ∃ i j, x = .int i ∧ y = .int j ∧ C i j ∧ Q (g i j) H
def rI0 (g : Int → Int → V) : R2 := fun x y H Q => ∃ i j, x = .int i ∧ y = .int j ∧ Q (g i j) H
def rU (g : Int → V) : V → Hp → VK → Prop := fun x H Q => ∃ i, x = .int i ∧ Q (g i) H
section
variable {X : Cx} {a b c : Expr} {ta tb tc : TE} {pos : Pos}
theorem binT (ha : PE X a ta) (hb : PE X b tb) {pins : List (Addr × Obj)} {s : Shared} {σ : St} {H : Hp} {R : V → V → Hp → Prop} (I : Inv X pins σ H s)
  (h : ta σ H fun x H1 => tb σ H1 fun y H2 => R x y H2) {Q : Value → Shared → Prop} {f : Value → Value → Sem Value}
  (hf : ∀ v u s2 x y H2, Inv X pins σ H2 s2 → RelV x v → RelV y u → R x y H2 → wpAny (model X.prog X.w) X.A (f v u) Q X.xe s2) :
  wpAny (model X.prog X.w) X.A (eval a X.env) (fun v s₁ => wpAny (model X.prog X.w) X.A (eval b X.env) (fun u s₂ => wpAny (model X.prog X.w) X.A (f v u) Q X.xe s₂) X.xe s₁) X.xe s := by
 refine thn (ha pins s σ H _ I h) fun v s1 ⟨x, H1, I1, r1, q1⟩ => ?_
 refine thn (hb pins s1 σ H1 _ I1 q1) fun u s2 ⟨y, H2, I2, r2, q2⟩ => ?_
 exact hf v u s2 x y H2 I2 r1 r2 q2
theorem pe_op {op : Operator} {r : R2} (ho : OpR X (binaryOp op) r) (ha : PE X a ta) (hb : PE X b tb) : PE X (.BinOp a op b pos) (tOp r ta tb) := by
 intro pins s σ H Q I h
 exact wpAny_BinOp (binT ha hb I h fun v u s2 x y H2 I2 rx ry q => ho pins s2 σ H2 x y v u Q I2 rx ry q)
theorem pe_un {op : UnaryOp} {r : V → Hp → VK → Prop} (ho : UnR X (unaryOp op) r) (ha : PE X a ta) : PE X (.UnaryOp op a pos) (tUn r ta) := by
 intro pins s σ H Q I h
 exact UnaryOp_ (thn (ha pins s σ H _ I h) fun v s1 ⟨x, H1, I1, r1, q1⟩ => ho pins s1 σ H1 x v Q I1 r1 q1)
theorem opI {f : Value → Value → Sem Value} {C : Int → Int → Prop} {g : Int → Int → Int}
  (rule : ∀ (i j : Int) (t u : Tok) (s : Shared) (Q : Value → Shared → Prop) (E : Value → Shared → Prop), C i j → Q (.int (g i j) s.toks) { s with toks := s.toks + 1 } → wpAny (model X.prog X.w) X.A (f (.int i t) (.int j u)) Q E s) :
  OpR X f (rI C fun i j => .int (g i j)) := by
 intro pins s σ H x y v u Q I rx ry h
 obtain ⟨i, j, rfl, rfl, hc, q⟩ := h
 obtain ⟨t, rfl⟩ := rx
 obtain ⟨t', rfl⟩ := ry
 exact rule i j t t' s _ _ hc ⟨.int (g i j), H, I.tok _, ⟨_, rfl⟩, q⟩
theorem opI0 {f : Value → Value → Sem Value} {g : Int → Int → Int}
  (rule : ∀ (i j : Int) (t u : Tok) (s : Shared) (Q : Value → Shared → Prop) (E : Value → Shared → Prop), Q (.int (g i j) s.toks) { s with toks := s.toks + 1 } → wpAny (model X.prog X.w) X.A (f (.int i t) (.int j u)) Q E s) :
  OpR X f (rI0 fun i j => .int (g i j)) := by
 intro pins s σ H x y v u Q I rx ry h
 obtain ⟨i, j, rfl, rfl, q⟩ := h
 obtain ⟨t, rfl⟩ := rx
 obtain ⟨t', rfl⟩ := ry
 exact rule i j t t' s _ _ ⟨.int (g i j), H, I.tok _, ⟨_, rfl⟩, q⟩
theorem opB0 {f : Value → Value → Sem Value} {g : Int → Int → Bool}
  (rule : ∀ (i j : Int) (t u : Tok) (s : Shared) (Q : Value → Shared → Prop) (E : Value → Shared → Prop), Q (.bool (g i j)) s → wpAny (model X.prog X.w) X.A (f (.int i t) (.int j u)) Q E s) :
  OpR X f (rI0 fun i j => .bl (g i j)) := by
 intro pins s σ H x y v u Q I rx ry h
 obtain ⟨i, j, rfl, rfl, q⟩ := h
 obtain ⟨t, rfl⟩ := rx
 obtain ⟨t', rfl⟩ := ry
 exact rule i j t t' s _ _ ⟨.bl (g i j), H, I, rfl, q⟩
def CPow (i j : Int) : Prop := 0 ≤ j ∧ j ≤ 1000000 ∧ i.natAbs < 2 ^ 64
def CMul (i j : Int) : Prop := (-(2 ^ 64) < i ∧ i < 2 ^ 64) ∨ (-(2 ^ 64) < j ∧ j < 2 ^ 64)
theorem CMul.ok {i j : Int} (h : CMul i j) : IntMulOk i j := by
 rcases h with ⟨h1, h2⟩ | ⟨h1, h2⟩
 ·exact .of_left (intBits_le_64 h1 h2)
 ·exact .of_right (intBits_le_64 h1 h2)
theorem op_add : OpR X (binaryOp .Add) (rI0 fun i j => .int (i + j)) := opI0 fun _ _ _ _ _ _ _ q => add_int q
theorem op_sub : OpR X (binaryOp .Sub) (rI0 fun i j => .int (i - j)) := opI0 fun _ _ _ _ _ _ _ q => sub_int q
theorem op_modN : OpR X (binaryOp .Mod) (rI (fun _ j => j ≠ 0) fun i j => .int (i.fmod j)) := opI fun _ _ _ _ _ _ _ hc q => mod_int' hc q
theorem op_pow : OpR X (binaryOp .Pow) (rI CPow fun i j => .int (i ^ j.toNat)) := opI fun _ _ _ _ _ _ _ hc q => pow_int_small hc.1 hc.2.1 hc.2.2 q
theorem unI {f : Value → Sem Value} {g : Int → Int}
  (rule : ∀ (i : Int) (t : Tok) (s : Shared) (Q : Value → Shared → Prop) (E : Value → Shared → Prop), Q (.int (g i) s.toks) { s with toks := s.toks + 1 } → wpAny (model X.prog X.w) X.A (f (.int i t)) Q E s) :
  UnR X f (rU fun i => .int (g i)) := by
 intro pins s σ H x v Q I rx h
 obtain ⟨i, rfl, q⟩ := h
 obtain ⟨t, rfl⟩ := rx
 exact rule i t s _ _ ⟨.int (g i), H, I.tok _, ⟨_, rfl⟩, q⟩
theorem un_neg : UnR X (unaryOp .USub) (rU fun i => .int (-i)) := unI fun _ _ _ _ _ q => neg_int q
end
section
variable {X : Cx} {a b c : Expr} {ta tb tc : TE} {pos : Pos}
theorem op_lt : OpR X (compareOp .Lt) (rI0 fun i j => .bl (decide (i < j))) := opB0 fun _ _ _ _ _ _ _ q => lt_int q
theorem op_gt : OpR X (compareOp .Gt) (rI0 fun i j => .bl (decide (j < i))) := opB0 fun _ _ _ _ _ _ _ q => gt_int q
theorem OpR.or {f : Value → Value → Sem Value} {r r' : R2} (h : OpR X f r) (h' : OpR X f r') : OpR X f (fun x y H Q => r x y H Q ∨ r' x y H Q) := by
 intro pins s σ H x y v u Q I rx ry q
 rcases q with q | q
 ·exact h pins s σ H x y v u Q I rx ry q
 ·exact h' pins s σ H x y v u Q I rx ry q
theorem nomark (b : Expr) {op : CmpOp} (h : op ≠ .In := by decide) (h2 : op ≠ .NotIn := by decide) : behindInMarks op b = false := by
 have e1 : (op == CmpOp.In) = false := by cases op <;> first | rfl | exact absurd rfl h
 have e2 : (op == CmpOp.NotIn) = false := by cases op <;> first | rfl | exact absurd rfl h2
 cases b <;> simp [behindInMarks, e1, e2]
theorem pe_cmpR {op : CmpOp} {r : R2} (ho : OpR X (compareOp op) r) (ha : PE X a ta) (hb : PE X b tb) (hm : behindInMarks op b = false) : PE X (.Compare a [op] [b] pos) (tOp r ta tb) := by
 intro pins s σ H Q I h
 exact wpAny_Compare1 (binT ha hb I h fun v u s2 x y H2 I2 rx ry q => ho pins s2 σ H2 x y v u Q I2 rx ry q) hm
def tTest (t : TE) : TT := fun σ H Q => t σ H fun x H' => ∃ k, x = .bl k ∧ Q k H'
theorem pt_cmpR {op : CmpOp} {r : R2} (ho : OpR X (compareOp op) r) (ha : PE X a ta) (hb : PE X b tb) (hm : behindInMarks op b = false) : PT X (.Compare a [op] [b] pos) (tTest (tOp r ta tb)) := by
 intro pins s σ H Q I h
 refine wpAny_isTrue_Compare1 (thn (ha pins s σ H _ I h) fun v s1 ⟨x, H1, I1, r1, q1⟩ => thn (hb pins s1 σ H1 _ I1 q1) fun u s2 ⟨y, H2, I2, r2, q2⟩ =>
  thn (ho pins s2 σ H2 x y v u _ I2 r1 r2 q2) fun c s3 ⟨z, H3, I3, r3, k, e, q3⟩ => ?_) hm
 subst e
 cases r3
 exact wpAny_truthy_bool ⟨H3, I3, q3⟩
theorem line63 : (sizeLine : Nat) < 2 ^ 63 := by rw [sizeLine_eq]; decide
theorem op_add_str : OpR X (binaryOp .Add) (fun x y H Q => ∃ i j, x = .str i ∧ y = .str j ∧ i.length + j.length ≤ sizeLine ∧ Q (.str (i ++ j)) H) := by
 intro pins s σ H x y v u Q I rx ry h
 obtain ⟨i, j, rfl, rfl, hz, q⟩ := h
 obtain ⟨t, rfl⟩ := rx
 obtain ⟨t', rfl⟩ := ry
 exact add_str (fun t' tk => ⟨.str (i ++ j), H, I.tok _, ⟨_, rfl⟩, q⟩) hz
theorem vals1 {x : V} {us : List Value} (r : Vals [x] us) : ∃ u, us = [u] ∧ RelV x u := by
 cases r with
 | cons r1 r2 => cases r2; exact ⟨_, rfl, r1⟩
theorem vals2 {x y : V} {us : List Value} (r : Vals [x, y] us) : ∃ u w', us = [u, w'] ∧ RelV x u ∧ RelV y w' := by
 cases r with
 | cons r1 r2 =>
  cases r2 with
  | cons r3 r4 => cases r4; exact ⟨_, _, rfl, r1, r3⟩
theorem call_abs : CallR X (.builtin "abs") (fun xs H Q => ∃ i, xs = [.int i] ∧ Q (.int (if i < 0 then -i else i)) H) := by
 intro pins s σ H xs us Q I r h
 obtain ⟨i, rfl, q⟩ := h
 obtain ⟨u, rfl, t, rfl⟩ := vals1 r
 exact call_abs_int fun u tk => ⟨.int (if i < 0 then -i else i), H, I.tok _, ⟨_, rfl⟩, q⟩
end
structure ObjM (h : Heap) (x dx C : Addr) (mA : Str → Option Value) : Prop where
 obj : h.get? x = some (PySem.W.instObj C dx)
 ns : h.Ns1 dx mA
 ne : dx ≠ x
theorem lookIn_ns {h : Heap} {dx : Addr} {mA : Str → Option Value} (n : h.Ns1 dx mA) : ∃ od, h.get? dx = some od ∧ ∀ name, PySem.W.lookIn name od = some (mA name) := by
 obtain ⟨o, es, ep, ho, hd, hk, _, hm⟩ := n
 refine ⟨o, ho, fun name => ?_⟩
 have e := hm name
 unfold nsFind findBy at e
 rw [← Array.find?_toList] at e
 unfold PySem.W.lookIn
 rw [hd]
 dsimp only
 split
 ·rename_i y q
  rw [q] at e
  exact congrArg some e
 ·rename_i q
  rw [q] at e
  have a : es.toList.any (·.refKey) = false := by
   rw [List.any_eq_false]
   intro y hy
   obtain ⟨z, t, hkey⟩ := hk y (Array.mem_toList_iff.mp hy)
   simp [DictEntry.refKey, hkey]
  have a' : ¬ es.toList.any (·.refKey) = true := by rw [a]; exact Bool.false_ne_true
  rw [if_neg a']
  exact congrArg some e
theorem ObjM.look {h : Heap} {x dx C : Addr} {mA : Str → Option Value} (I : ObjM h x dx C mA) : ∃ od, PySem.W.InstAt h x (PySem.W.instObj C dx) C (some od) ∧ ∀ name, PySem.W.lookIn name od = some (mA name) :=
 let ⟨od, ho, hl⟩ := lookIn_ns I.ns
 ⟨od, ⟨I.obj, rfl, rfl, ho⟩, hl⟩
section
variable {prog : Program} {w : World} {A : Around} {E : Value → Shared → Prop} {s : Shared} {K : PySem.W.Frag} {x dx C f : Addr} {mA : Str → Option Value} {name : Str} {v : Value}
end
section
variable {P : Program} {w : World} {H H' : Hp} {h h' : Heap} {a C dx : Addr} {fs fs' : List (Str × V)}
theorem ins_get (hok : HOk P w H h) (e : H a = some (.ins C dx fs)) : ∃ mA, ObjM h a dx C mA ∧ (∀ f, RelO (fs.lookup f) (mA f)) ∧ PySem.Within mA (fs.map (·.1)) ∧ fs.length ≤ 1000 ∧ H dx = some (.own a) := by
 obtain ⟨d, z, ne, ob, mA, n, r, q⟩ := (show ObjOk P w H h a (.ins C dx fs) from hok a _ e)
 exact ⟨mA, ⟨ob, n, ne⟩, r, q, z, d⟩
end
structure Cls (K : PySem.W.Frag) (C : Addr) : Prop where
 pg : PySem.W.plainGet K C Str.empty = true
 hd : PySem.W.hasDictIn K C = true
 po : PySem.W.plainOver K C = true
 sa : PySem.W.findIn K (.ref C) "__setattr__" = some (some (.builtin "object.__setattr__"))
theorem Cls.get {K : PySem.W.Frag} {C : Addr} (c : Cls K C) (f : Str) : PySem.W.plainGet K C f = true := c.pg
section
variable {X : Cx} {pins : List (Addr × Obj)} {σ : St} {H : Hp} {s : Shared} {a C dx : Addr} {fs : List (Str × V)} {f : Str} {v : V} {A : Around} {E : Value → Shared → Prop}
end
section
variable {X : Cx} {o e value : Expr} {f : Str} {pos pos' tpos : Pos} {ta tv : TE}
end
section
variable {X : Cx} {pins : List (Addr × Obj)} {σ : St} {H : Hp} {s : Shared} {A : Around} {E : Value → Shared → Prop} {Q : Value → Shared → Prop} {c : Value} {b : Bool}
inductive TyOf (K : PySem.W.Frag) (H : Hp) : V → Value → Prop where
 | non : TyOf K H .non (.type "NoneType")
 | bl (x : Bool) : TyOf K H (.bl x) (.type "bool")
 | int (i : Int) : TyOf K H (.int i) (.type "int")
 | str (x : Str) : TyOf K H (.str x) (.type "str")
 | flt (x : UInt64) : TyOf K H (.flt x) (.type "float")
 | lst {a : Addr} {xs : List V} (e : H a = some (.lst xs)) : TyOf K H (.ref a) (.type "list")
 | frz {a : Addr} {o : Obj} {xs : List V} (e : H a = some (.frz o (.lst xs))) : TyOf K H (.ref a) (.type "list")
 | tup {a : Addr} {xs : List V} (e : H a = some (.tup xs)) : TyOf K H (.ref a) (.type "tuple")
 | dK {a : Addr} {kvs : List (Key × V)} (e : H a = some (.dK kvs)) : TyOf K H (.ref a) (.type "dict")
 | dT {a : Addr} {kvs : List (List Key × V)} (e : H a = some (.dT kvs)) : TyOf K H (.ref a) (.type "dict")
 | ins {a C dx : Addr} {fs : List (Str × V)} (e : H a = some (.ins C dx fs)) (cl : Cls K C) (ha : PySem.W.findIn K (.ref C) "__class__" = some (some (.builtin "object.__class__")))
   (hn : PySem.W.specialIn K (.builtin "object.__class__") "__get__" = some (some (.builtin "getset_descriptor.__get__"))) (htk : PySem.W.takesIn K (.builtin "object.__class__") = some true)
   (hm : PySem.W.mroIn K C (.type "object") = some true) : TyOf K H (.ref a) (.ref C)
theorem isinst_ok {x : V} {u t : Value} (I : Inv X pins σ H s) (rx : RelV x u) (ty : TyOf X.K H x t) (e : PySem.W.kitOne X.K t c = some b) (h : ∀ tk, Q (.bool b) { s with toks := tk }) :
  wpAny (model X.prog X.w) A (call (.builtin "isinstance") [u, c]) Q E s := by
 cases ty with
 | non => cases (show u = Value.none from rx); exact PySem.W.kia_one PySem.W.kitx_none I.kIn True.intro e (fun z => nomatch z) h
 | bl y => cases (show u = Value.bool y from rx); exact PySem.W.kia_one PySem.W.kitx_bool I.kIn True.intro e (fun z => nomatch z) h
 | int i => obtain ⟨t, q⟩ := (show ∃ t, u = Value.int i t from rx); cases q; exact PySem.W.kia_one PySem.W.kitx_int I.kIn True.intro e (fun z => nomatch z) h
 | str y => obtain ⟨t, q⟩ := (show ∃ t, u = Value.str y t from rx); cases q; exact PySem.W.kia_one PySem.W.kitx_str I.kIn True.intro e (fun z => nomatch z) h
 | flt y => obtain ⟨t, q⟩ := (show ∃ t, u = Value.float y t from rx); cases q; exact PySem.W.kia_one PySem.W.kitx_float I.kIn True.intro e (fun z => nomatch z) h
 | @lst a xs ea =>
  cases (show u = Value.ref a from rx)
  obtain ⟨_, _, n, _, h1⟩ := (show ObjOk X.prog X.w H s.heap a (.lst xs) from I.hok a _ ea)
  exact PySem.W.kia_one PySem.W.kitx_list I.kIn ⟨_, h1, rfl⟩ e (fun z => nomatch z) h
 | @frz a ob xs ea =>
  cases (show u = Value.ref a from rx)
  obtain ⟨_, _, _, n, _, h1⟩ := (show ObjOk X.prog X.w H s.heap a (.frz ob (.lst xs)) from I.hok a _ ea)
  exact PySem.W.kia_one PySem.W.kitx_list I.kIn ⟨_, h1, rfl⟩ e (fun z => nomatch z) h
 | @tup a xs ea =>
  cases (show u = Value.ref a from rx)
  obtain ⟨_, _, _, p⟩ := (show ObjOk X.prog X.w H s.heap a (.tup xs) from I.hok a _ ea)
  obtain ⟨o, h1, h2, _⟩ := p
  exact PySem.W.kia_one PySem.W.kitx_tuple I.kIn ⟨o, h1, h2⟩ e (fun z => nomatch z) h
 | @dK a kvs ea =>
  cases (show u = Value.ref a from rx)
  obtain ⟨_, _, vs, _, p⟩ := (show ObjOk X.prog X.w H s.heap a (.dK kvs) from I.hok a _ ea)
  obtain ⟨o, es, ep, h1, h2, _⟩ := p
  exact PySem.W.kia_one PySem.W.kitx_dict I.kIn ⟨o, h1, h2.1⟩ e (fun z => nomatch z) h
 | @dT a kvs ea =>
  cases (show u = Value.ref a from rx)
  obtain ⟨_, _, xs, _, o, es, ep, h1, h2, _⟩ := (show ObjOk X.prog X.w H s.heap a (.dT kvs) from I.hok a _ ea)
  exact PySem.W.kia_one PySem.W.kitx_dict I.kIn ⟨o, h1, h2.1⟩ e (fun z => nomatch z) h
 | @ins a C dx fs ea cl ha hn htk hm =>
  cases (show u = Value.ref a from rx)
  obtain ⟨mA, O, _⟩ := ins_get I.hok ea
  obtain ⟨od, J, _⟩ := O.look
  exact PySem.W.kia_one (PySem.W.kitx_own (cl.get _) cl.hd ha hn htk hm) I.kIn J e (fun z => nomatch z) h
end
structure Room (k : Nat) (A : Around) : Prop where
 hd : A.handled = none
 dp : A.depth + 3 * k + 5 < recursionLimit
 un : A.units + 16 * k + 200 < cLine
theorem Room.mono {j k : Nat} {A : Around} (r : Room k A) (h : j ≤ k) : Room j A := ⟨r.hd, by have := r.dp; omega, by have := r.un; omega⟩
theorem Room.deeper {k : Nat} {A : Around} (r : Room (k + 1) A) (env : Env) : Room k (A.deeper env) :=
 ⟨r.hd, by have := r.dp; show A.depth + 1 + 3 * k + 5 < _; omega, by have := r.un; show A.units + 3 + 16 * k + 200 < _; omega⟩
theorem Room.depth {k : Nat} {A : Around} (r : Room k A) : A.depth < recursionLimit := by have := r.dp; omega
def tNil : TA := fun _ H Q => Q [] H
def tCons (ta : TE) (tr : TA) : TA := fun σ H Q => ta σ H fun x H1 => tr σ H1 fun xs H2 => Q (x :: xs) H2
section
variable {X : Cx} {e : Expr} {es : List Expr} {te : TE} {t : TA} {pos : Pos}
theorem pa_nil : PA X [] tNil := fun _ _ _ _ H Q I h => Calls.spliced_nil ⟨[], H, I, .nil, h⟩
theorem pa_cons (ha : PE X e te) (hr : PA X es t) (hs : starEach (e :: es) X.env = (false, eval e X.env) :: starEach es X.env := by rfl) : PA X (e :: es) (tCons te t) := by
 intro pos pins s σ H Q I h
 rw [hs]
 show wpAny _ _ (spliced ((false, eval e X.env) :: backTo pos (starEach es X.env))) _ _ s
 refine Calls.spliced_cons (thn (ha pins s σ H _ I h) fun u s1 ⟨x, H1, I1, r1, q1⟩ => ?_)
 exact thn (hr pos pins s1 σ H1 _ I1 q1) fun us s2 ⟨xs, H2, I2, r2, q2⟩ => ⟨x :: xs, H2, I2, .cons r1 r2, q2⟩
def tTup (t : TA) : TE := fun σ H Q => t σ H fun xs H1 => xs.length ≤ sizeLine ∧ ∀ p, H1 p = none → Q (.ref p) (upd H1 p (.tup xs))
def tLst (t : TA) : TE := fun σ H Q => t σ H fun xs H1 => xs.length ≤ sizeLine ∧ ∀ p, H1 p = none → Q (.ref p) (upd H1 p (.lst xs))
theorem pe_tup {x1} (h : PA X es t) : PE X (.Tuple es x1 pos) (tTup t) := by
 intro pins s σ H Q I hq
 refine wpAny_Tuple_spliced (thn (h pos pins s σ H _ I hq) fun us s1 ⟨xs, H1, I1, r, z, q⟩ => ⟨by rw [← r.length]; exact z, ?_⟩)
 have hf : H1 s1.heap.objs.size = none := I1.hok.fresh (Nat.le_refl _)
 refine ⟨.ref s1.heap.objs.size, upd H1 s1.heap.objs.size (.tup xs), I1.laid (t' := s1.toks) (fun b u e => Heap.get?_push_of_some _ e) (Nat.le_refl _) ?_, rfl, q _ hf⟩
 exact ⟨z, us, r, ⟨_, Heap.get?_push_size _ rfl, rfl, _, rfl⟩⟩
theorem pe_lst (h : PA X es t) : PE X (.List es pos) (tLst t) := by
 intro pins s σ H Q I hq
 refine wpAny_List_spliced (thn (h pos pins s σ H _ I hq) fun us s1 ⟨xs, H1, I1, r, z, q⟩ => ⟨by rw [← r.length]; exact z, ?_⟩)
 have hf : H1 s1.heap.objs.size = none := I1.hok.fresh (Nat.le_refl _)
 refine ⟨.ref s1.heap.objs.size, upd H1 s1.heap.objs.size (.lst xs), I1.laid (t' := s1.toks) (fun b u e => Heap.get?_push_of_some _ e) (Nat.le_refl _) ?_, rfl, q _ hf⟩
 exact ⟨z, us, 0, r, Heap.get?_push_size _ rfl⟩
end
abbrev Sp := List V → Hp → VK → XK → Prop
abbrev CXT := List Env → Hp → Shared → XK → Value → Shared → Prop
structure Env0 (P : Program) (w : World) (K : PySem.W.Frag) (mg : Str → Option Value) (base : Heap) (A : Around) (outer : List Env) (s : Shared) (H : Hp) : Prop where
 frames : A.frames = some outer
 mod : Mod K mg base
 bs : ∀ b o, base.get? b = some o → s.heap.get? b = some o ∧ H b = none
 bsz : base.objs.size ≤ s.heap.objs.size
 funs : s.heap.FunFrames base outer
 frf : ∀ b ∈ frs outer, H b = none
 hok : HOk P w H s.heap
 bare : AllBare s.gens
def CE (outer : List Env) (P : Program) (w : World) (H : Hp) (s : Shared) (Q : VK) (u : Value) (s' : Shared) : Prop :=
 ∃ v H', s'.os = s.os ∧ AllBare s'.gens ∧ Un (frs outer) [] H H' s.heap s'.heap ∧ HOk P w H' s'.heap ∧ RelV v u ∧ Q v H'
def CR (CX : CXT) (outer : List Env) (P : Program) (w : World) (H : Hp) (s : Shared) (Q : VK) (E : XK) (r : Result) (s' : Shared) : Prop :=
 match r with
 | .ok (.ret u) => CE outer P w H s Q u s'
 | .ok _ => False
 | .error e => CX outer H s E e s'
structure FnOk (P : Program) (w : World) (K : PySem.W.Frag) (mg : Str → Option Value) (base : Heap) (CX : CXT) (k : Nat) (f : Addr) (fd : FuncData) (ps : List Str) (sp : Sp) : Prop where
 len : ∀ vs H Q E, sp vs H Q E → vs.length = ps.length
 run : ∀ (A : Around) (outer : List Env) (s : Shared) (H : Hp) (args : Args) (us : List Value) (vs : List V) (Q : VK) (E : XK), Room k A → Env0 P w K mg base A outer s H → BindsTo s fd args (ps.zip us) → Vals vs us → sp vs H Q E →
  codeAny (model P w) A (.call (.ref f) args) (CR CX outer P w H s Q E) s
theorem FnOk.mono {P : Program} {w : World} {K : PySem.W.Frag} {mg : Str → Option Value} {base : Heap} {CX : CXT} {j k : Nat} {f : Addr} {fd : FuncData} {ps : List Str} {sp : Sp} (F : FnOk P w K mg base CX j f fd ps sp) (h : j ≤ k) :
  FnOk P w K mg base CX k f fd ps sp := ⟨F.len, fun A outer s H args us vs Q E hr => F.run A outer s H args us vs Q E (hr.mono h)⟩
theorem FnOk.imp {P : Program} {w : World} {K : PySem.W.Frag} {mg : Str → Option Value} {base : Heap} {CX : CXT} {k : Nat} {f : Addr} {fd : FuncData} {ps : List Str} {sp sp' : Sp} (F : FnOk P w K mg base CX k f fd ps sp)
  (h : ∀ vs H Q E, sp' vs H Q E → sp vs H Q E) : FnOk P w K mg base CX k f fd ps sp' :=
 ⟨fun vs H Q E q => F.len vs H Q E (h _ _ _ _ q), fun A outer s H args us vs Q E hr he hb hv hs => F.run A outer s H args us vs Q E hr he hb hv (h _ _ _ _ hs)⟩
section
variable {X : Cx} {pins : List (Addr × Obj)} {σ : St} {H : Hp} {s s' : Shared}
theorem Inv.env0 (I : Inv X pins σ H s) : Env0 X.prog X.w X.K X.mg X.base X.A X.stack s H :=
 ⟨I.ok.frames, I.ok.mod, I.bs, Nat.le_trans I.ok.bsz I.sz, I.stack, I.stkFree, I.hok, I.bare⟩
theorem Inv.after {Q : VK} {u : Value} (I : Inv X pins σ H s) (h : CE X.stack X.prog X.w H s Q u s') : EP X pins σ Q u s' := by
 obtain ⟨v, H', os, bare, un, hok, r, q⟩ := h
 obtain ⟨hh, g, d, t, os'⟩ := s'
 obtain rfl : os' = s.os := os
 exact ⟨v, H', I.call (h' := hh) (g' := g) (d' := d) (t' := t) (ch := []) un hok bare (fun b z => absurd z (by simp)), r, q⟩
end
def Binds (K : PySem.W.Frag) (fd : FuncData) (ps : List Str) (ds : List Value) : Prop :=
 ∀ (s : Shared) (us : List Value), K.In s.heap → (us ++ ds).length = ps.length → BindsTo s fd ⟨us, []⟩ (ps.zip (us ++ ds))
theorem Binds.all {K : PySem.W.Frag} {fd : FuncData} {ps : List Str} (h : ∀ us : List Value, us.length = ps.length → bindArgs fd ⟨us, []⟩ = pure (ps.zip us)) : Binds K fd ps [] := fun s us _ hl => by
 rw [List.append_nil] at hl ⊢
 exact .of_eq (h us hl)
def Passes (CX : CXT) (X : Cx) (E : XK) : Prop := ∀ (pins : List (Addr × Obj)) (σ : St) (H : Hp) (s : Shared) (e : Value) (s' : Shared), Inv X pins σ H s → CX X.stack H s E e s' → X.xe e s'
section
variable {X : Cx} {CX : CXT} {k : Nat} {f C : Addr} {fd : FuncData} {ps : List Str} {sp : Sp} {dvs : List V} {ds : List Value} {E : XK} {x m : Str} {p pos apos : Pos} {e o : Expr} {es : List Expr} {ta : TE} {t : TA}
end
section
variable {X : Cx} {CX : CXT} {k : Nat} {f C : Addr} {fd : FuncData} {ps ks : List Str} {sp : Sp} {E : XK} {x m : Str} {p pos apos kpos : Pos} {e o : Expr} {es : List Expr} {kws : List Keyword} {te ta : TE} {t tk : TA} {nm : Option Str}
variable {g : List Value → List Value → List Value} {gV : List V → List V → List V}
end
structure FnScope (N P : List Str) (sc : Scope) : Prop where
 kind : sc.kind = .function
 co : sc.isCoroutine = false
 gen : sc.isGenerator = false
 nd : N.Nodup
 pre : N.take P.length = P
 par : ∀ x ∈ P, sc.names.lookup x = some .local ∨ sc.names.lookup x = some .cell
 nofree : ∀ y ∈ sc.names, y.2 ≠ .free
theorem bindL_out {kindOf : Str → Option NameKind} {x : Str} : ∀ {binds : List (Str × Value)} {m : Str → Option Value}, (∀ v, (x, v) ∉ binds) → bindL kindOf binds m x = m x
 | [], _, _ => rfl
 | (n, v) :: r, m, h => by
  unfold bindL
  rw [bindL_out fun w hw => h w (List.mem_cons_of_mem _ hw)]
  split
  ·have : x ≠ n := by rintro rfl; exact h v List.mem_cons_self
   simp [this]
  ·rfl
theorem bindC_out {kindOf : Str → Option NameKind} {x : Str} : ∀ {binds : List (Str × Value)} {m : Str → Option Value}, (∀ v, (x, v) ∉ binds) → bindC kindOf binds m x = m x
 | [], _, _ => rfl
 | (n, v) :: r, m, h => by
  unfold bindC
  rw [bindC_out fun w hw => h w (List.mem_cons_of_mem _ hw)]
  split
  ·rfl
  ·have : x ≠ n := by rintro rfl; exact h v List.mem_cons_self
   simp [this]
theorem bindL_get {kindOf : Str → Option NameKind} {x : Str} {v : Value} : ∀ {P : List Str} {vs : List Value} {i : Nat} {m : Str → Option Value}, P.Nodup → P[i]? = some x → vs[i]? = some v → kindOf x = some .local →
  bindL kindOf (P.zip vs) m x = some v
 | [], _, _, _, _, h, _, _ => by simp at h
 | _ :: _, [], _, _, _, _, h, _ => by simp at h
 | p :: P, w :: vs, 0, m, nd, h1, h2, hk => by
  simp at h1 h2; subst h1; subst h2
  show bindL kindOf ((p, w) :: P.zip vs) m p = _
  unfold bindL
  rw [bindL_out fun v hv => (List.nodup_cons.mp nd).1 (List.of_mem_zip hv).1, if_pos hk]
  simp
 | p :: P, w :: vs, i + 1, m, nd, h1, h2, hk => by
  show bindL kindOf ((p, w) :: P.zip vs) m x = _
  unfold bindL
  exact bindL_get (i := i) (List.nodup_cons.mp nd).2 (by simpa using h1) (by simpa using h2) hk
theorem bindC_get {kindOf : Str → Option NameKind} {x : Str} {v : Value} : ∀ {P : List Str} {vs : List Value} {i : Nat} {m : Str → Option Value}, P.Nodup → P[i]? = some x → vs[i]? = some v → kindOf x ≠ some .local →
  bindC kindOf (P.zip vs) m x = some v
 | [], _, _, _, _, h, _, _ => by simp at h
 | _ :: _, [], _, _, _, _, h, _ => by simp at h
 | p :: P, w :: vs, 0, m, nd, h1, h2, hk => by
  simp at h1 h2; subst h1; subst h2
  show bindC kindOf ((p, w) :: P.zip vs) m p = _
  unfold bindC
  rw [bindC_out fun v hv => (List.nodup_cons.mp nd).1 (List.of_mem_zip hv).1, if_neg hk]
  simp
 | p :: P, w :: vs, i + 1, m, nd, h1, h2, hk => by
  show bindC kindOf ((p, w) :: P.zip vs) m x = _
  unfold bindC
  exact bindC_get (i := i) (List.nodup_cons.mp nd).2 (by simpa using h1) (by simpa using h2) hk
def start (N : List Str) (vs : List V) : St := vs.map some ++ List.replicate (N.length - vs.length) none
def cxOf (CX : CXT) (P : Program) (w : World) (K : PySem.W.Frag) (mg : Str → Option Value) (base : Heap) (N : List Str) (qual : Str) (scope : Scope) (f : Addr) (cd : Value) (A : Around) (outer : List Env) (s : Shared) (H : Hp) (E : XK) : Cx where
 prog := P
 w := w
 K := K
 mg := mg
 base := base
 A := A.deeper (envOfC qual scope s.heap.objs.size f cd)
 N := N
 s₀ := s
 H₀ := H
 env := envOfC qual scope s.heap.objs.size f cd
 outer := outer
 stack := envOfC qual scope s.heap.objs.size f cd :: outer
 ex := []
 calm := true
 fn := fun _ => true
 pn := []
 xe := fun e s' => wpAny (model P w) (A.deeper (envOfC qual scope s.heap.objs.size f cd)) (leaving (envOfC qual scope s.heap.objs.size f cd) e) (fun _ s'' => CX outer H s E e s'') (fun e' s'' => CX outer H s E e' s'') s'
theorem cell_has {sc : Scope} {n : Nat} {x : Str} (h : sc.names.lookup x = some .cell) : ∃ c, (cellsFrom n sc.names []).lookup x = some c := by
 have q := PySem.W.cellsFrom_some sc.names n [] (.inl h)
 exact Option.isSome_iff_exists.mp q
theorem inv_start {CX : CXT} {P : Program} {w : World} {K : PySem.W.Frag} {mg : Str → Option Value} {base : Heap} {N ps : List Str} {qual : Str} {scope : Scope} {f : Addr} {cd : Value} {A : Around} {outer : List Env} {s s1 : Shared} {H : Hp} {E : XK} {us : List Value} {vs : List V}
  (S : FnScope N ps scope) (hd : A.handled = none) (e0 : Env0 P w K mg base A outer s H) (hl : vs.length = ps.length) (r : Vals vs us)
  (x : InCallC s s.heap.objs.size (bindL (envOfC qual scope s.heap.objs.size f cd).kindOf (ps.zip us) fun _ => none) (cellsFrom (s.heap.objs.size + 1) scope.names []) (bindC (envOfC qual scope s.heap.objs.size f cd).kindOf (ps.zip us) fun _ => none) s1) :
  Inv (cxOf CX P w K mg base N qual scope f cd A outer s H E) [] (start N vs) H s1 := by
 have hpl : ps.length ≤ N.length := by have := congrArg List.length S.pre; rw [List.length_take] at this; omega
 obtain ⟨h1, tk, rfl, hk⟩ := x.done
 have noA : ∀ b : Addr, b ∉ (cxOf CX P w K mg base N qual scope f cd A outer s H E).ex := fun b z => absurd (show b ∈ ([] : List Addr) from z) (by simp)
 refine ⟨⟨e0.mod, S.kind, rfl, rfl, Nat.le_refl _, fun y z c h1 h2 => ?_, fun y hy => ?_, fun y c _ h => ?_, fun _ => hd, Around.frames_deeper e0.frames, .inr ⟨rfl, rfl⟩, fun b z => absurd z (noA b), e0.bs, e0.bsz, fun b _ _ => noA b, fun b z => absurd z (noA b), e0.funs, e0.frf⟩,
  rfl, e0.bare, Un.kept hk, ⟨_, x.toInCall.ns, fun i y v h1 h2 h3 => ?_⟩, fun y c h => ⟨_, x.cell y c h⟩, e0.hok.fresh (Nat.le_refl _), fun y c h => ?_, fun p hp => absurd (show p ∈ ([] : List (Addr × Obj)) from hp) (by simp), e0.hok.kept hk, ?_⟩
 ·exact name_of_addr x.apart (PySem.mem_of_lookup h1) (PySem.mem_of_lookup h2)
 ·have hy : scope.names.lookup y = some .cell ∨ scope.names.lookup y = some .free := hy
  rcases hy with hy | hy
  ·exact cell_has hy
  ·exact absurd rfl (S.nofree _ (PySem.mem_of_lookup hy))
 ·exact Nat.le_of_lt (x.above y c (PySem.mem_of_lookup h))
 ·have hi : i < vs.length := by
   unfold start at h2
   by_cases hi : i < vs.length
   ·exact hi
   ·rw [List.getElem?_append_right (by simpa using hi)] at h2
    rw [List.getElem?_replicate] at h2
    split at h2 <;> cases h2
  have ha : vs[i]? = some v := by
   unfold start at h2
   rw [List.getElem?_append_left (by simpa using hi), List.getElem?_map] at h2
   cases e : vs[i]? with
   | none => rw [e] at h2; cases h2
   | some a => rw [e] at h2; cases h2; rfl
  obtain ⟨u, hu, rv⟩ := r.get ha
  have hp : ps[i]? = some y := by
   rw [← S.pre, List.getElem?_take_of_lt (by omega)]; exact h1
  have ndP : ps.Nodup := by rw [← S.pre]; exact S.nd.sublist (List.take_sublist _ _)
  refine ⟨u, rv, ?_⟩
  rcases S.par y (List.mem_of_getElem? hp) with k | k
  ·exact .inl ⟨k, bindL_get ndP hp hu k⟩
  ·obtain ⟨c, e⟩ := cell_has (n := s.heap.objs.size + 1) k
   refine .inr ⟨.inl k, c, e, ?_⟩
   have q := x.cell y c e
   rw [bindC_get ndP hp hu (by show scope.names.lookup y ≠ _; rw [k]; decide)] at q
   exact q
 ·exact e0.hok.fresh (Nat.le_of_lt (x.above y c (PySem.mem_of_lookup h)))
 ·unfold start
  show _ = N.length
  rw [List.length_append, List.length_map, List.length_replicate]
  omega
theorem fn_of {CX : CXT} {P : Program} {w : World} {K : PySem.W.Frag} {mg : Str → Option Value} {base : Heap} {k : Nat} {f : Addr} {name qual : Str} {params : Arguments} {body : List Stmt} {scope : Scope} {dV kV doc pm cdv ct oc : Value} {an od : Option Addr}
  {osl : Array (Option Value)} {N ps : List Str} {sp : Sp} (lk : K.lookup f = some ⟨oc, od, .func (PySem.W.fnOf name qual params body scope dV kV doc pm an cdv ct), osl⟩) (hcd : PySem.W.codeIn K cdv qual = true) (S : FnScope N ps scope)
  (len : ∀ vs H Q E, sp vs H Q E → vs.length = ps.length)
  (hbody : ∀ (A : Around) (outer : List Env) (s : Shared) (H : Hp) (vs : List V) (Q : VK) (E : XK), Room k (A.deeper (envOfC qual scope s.heap.objs.size f cdv)) → sp vs H Q E →
   ∃ t, PSs (cxOf CX P w K mg base N qual scope f cdv A outer s H E) body t ∧ t { nx := fun _ H' => Q .non H', rt := Q } (start N vs) H) :
  FnOk P w K mg base CX (k + 1) f (PySem.W.fnOf name qual params body scope dV kV doc pm an cdv ct) ps sp := by
 refine ⟨len, fun A outer s H args us vs Q E hr e0 hb r hsp => ?_⟩
 have hl := len _ _ _ _ hsp
 have KX : K.In s.heap := e0.mod.kin.keeps fun b o e => (e0.bs b o e).1
 have lim : s.heap.NoLimit := e0.mod.nolimit.keeps fun b o e => (e0.bs b o e).1
 have hkind : ∀ y ∈ ps.zip us, scope.names.lookup y.1 = some .local ∨ (scope.names.lookup y.1 = some .cell ∧ ((cellsFrom (s.heap.objs.size + 1) scope.names []).lookup y.1).isSome = true) := fun ⟨n, v⟩ hy => by
  rcases S.par n (List.of_mem_zip hy).1 with q | q
  ·exact .inl q
  ·exact .inr ⟨q, PySem.W.cellsFrom_some _ _ _ (.inl q)⟩
 refine codeAny_call_function hr.depth (KX _ _ lk) rfl S.co S.gen rfl (PySem.W.codeRec_of KX hcd) (hb _ _ _ _ ?_)
 refine wpAny_newFunctionEnv_cells S.kind hkind fun env he s1 x => ?_
 subst he
 refine ⟨lim.keeps x.toInCall.keep, codeAny_func ?_⟩
 obtain ⟨t, ht, hq⟩ := hbody A outer s H vs Q E (hr.deeper _) hsp
 have I : Inv (cxOf CX P w K mg base N qual scope f cdv A outer s H E) [] (start N vs) H s1 := inv_start S hr.hd e0 hl r x
 refine wpAny_mono (ht [] s1 (start N vs) H _ I hq) (fun fl s' hs => ?_) fun e s' hs => hs
 have fin : ∀ {σ' : St} {H' : Hp} {v : V} {u : Value}, Inv (cxOf CX P w K mg base N qual scope f cdv A outer s H E) [] σ' H' s' → RelV v u → Q v H' → CE outer P w H s Q u s' :=
  fun {σ' H' v u} J rv q => ⟨v, H', J.os, J.bare, J.base, J.hok, rv, q⟩
 cases fl with
 | ret u =>
  obtain ⟨v, σ', H', J, rv, q⟩ := hs
  exact fin J rv q
 | next =>
  obtain ⟨σ', H', J, q⟩ := hs
  exact fin (v := V.non) (u := Value.none) J rfl q
 | brk =>
  obtain ⟨_, _, _, q⟩ := hs
  exact False.elim q
 | cont =>
  obtain ⟨_, _, _, q⟩ := hs
  exact False.elim q
section
variable {X : Cx} {x : Str} {p pos : Pos} {e : Expr} {es : List Expr} {t : TA} {id T : String} {r : List V → Hp → VK → Prop}
def tCB (r : List V → Hp → VK → Prop) (t : TA) : TE := fun σ H Q => t σ H fun vs H1 => r vs H1 Q
theorem pe_callB (hc : CallR X (.builtin id) r) (hg : Gl X x) (hm : X.mg x = none) (hv : bootBuiltins x = some (.builtin id)) (ha : PA X (e :: es) t) (hn : x ≠ "__name__" := by decide) (hdb : (x == ("__debug__" : Str)) = false := by decide)
  (he : starEach (e :: es) X.env = (false, eval e X.env) :: starEach es X.env := by rfl) (hpl : (backTo pos (starEach es X.env)).any (·.1) = false := by rfl) : PE X (.Call (.Name x p) (e :: es) [] pos) (tCB r t) := by
 intro pins s σ H Q I h
 refine wpAny_Call_Name_kw (ld_blt I hg hm hv ?_ hn hdb)
 exact PyProof.Rows.callWith_builtin1 (thn (ha pos pins s σ H _ I h) fun us s1 ⟨vs, H1, I1, r1, q1⟩ => hc pins s1 σ H1 vs us Q I1 r1 q1) he hpl
theorem pe_callTy (hc : CallR X (.type T) r) (hg : Gl X x) (hm : X.mg x = none) (hv : bootBuiltins x = some (.type T)) (ha : PA X (e :: es) t) (hn : x ≠ "__name__" := by decide) (hdb : (x == ("__debug__" : Str)) = false := by decide)
  (he : starEach (e :: es) X.env = (false, eval e X.env) :: starEach es X.env := by rfl) (hpl : (backTo pos (starEach es X.env)).any (·.1) = false := by rfl) : PE X (.Call (.Name x p) (e :: es) [] pos) (tCB r t) := by
 intro pins s σ H Q I h
 refine wpAny_Call_Name_kw (ld_blt I hg hm hv ?_ hn hdb)
 exact PyProof.Rows.callWith_type1 (thn (ha pos pins s σ H _ I h) fun us s1 ⟨vs, H1, I1, r1, q1⟩ => hc pins s1 σ H1 vs us Q I1 r1 q1) he hpl
end
end L2
namespace HT
open PySem PyProof.Rows
def lexLt : List Int → List Int → Bool
 | [], [] => false
 | [], _ :: _ => true
 | _ :: _, [] => false
 | x :: xs, y :: ys => if x = y then lexLt xs ys else decide (x < y)
theorem lexLt_cons (x y : Int) (xs ys : List Int) : lexLt (x :: xs) (y :: ys) = if x = y then lexLt xs ys else decide (x < y) := rfl
section
open PySem.SeqAt
open PySem.AutoSeq1 (wpAny_loadPart')
open PySem.MeetsSeq PySem.MeetsSeq2 PySem.MeetsSeq3
end
section
variable {prog : Program} {w : World} {A : Around} {E : Value → Shared → Prop} {s : Shared}
def sIx (n d : Nat) : Option Int → Nat
 | none => d
 | some v => if v < 0 then (v + (n : Int)).toNat else min v.toNat n
theorem sIx_nat (n d k : Nat) : sIx n d (some (k : Int)) = min k n := by
 show (if (k : Int) < 0 then ((k : Int) + (n : Int)).toNat else min (k : Int).toNat n) = min k n
 rw [if_neg (by omega), Int.toNat_natCast]
end
end HT
namespace L2
open PySem PySem.Spec PyProof.Rows
abbrev TO := St → Hp → (Option Int → Hp → Prop) → Prop
def PO (X : Cx) (e : Option Expr) (t : TO) : Prop :=
 ∀ (pins : List (Addr × Obj)) (s : Shared) (σ : St) (H : Hp) (Q : Option Int → Hp → Prop), Inv X pins σ H s → t σ H Q →
  wpAny (model X.prog X.w) X.A (evalPart e X.env) (fun u s' => ∃ o H', Inv X pins σ H' s' ∧ IsPart u o ∧ Q o H') X.xe s
def tPart (t : TE) : TO := fun σ H Q => t σ H fun x H1 => ∃ i, x = .int i ∧ Q (some i) H1
theorem intsAre_of {ns : List Int} : ∀ {us : List Value}, Vals (ns.map V.int) us → IntsAre us ns := by
 induction ns with
 | nil => intro us r; rw [List.map_nil] at r; cases r; exact .nil
 | cons n ns ih =>
  intro us r
  rw [List.map_cons] at r
  cases r with
  | cons r1 r2 =>
   obtain ⟨t, e⟩ := r1
   subst e
   exact .cons n t (ih r2)
section
variable {X : Cx} {e : Expr} {te : TE} {lo hi : Option Expr} {tl th : TO} {pos p2 : Pos}
theorem po_some (h : PE X e te) : PO X (some e) (tPart te) := by
 intro pins s σ H Q I hw
 rw [evalPart_some]
 refine thn (h pins s σ H _ I hw) fun u s1 ⟨x, H1, I1, r1, q1⟩ => ?_
 obtain ⟨i, rfl, q⟩ := q1
 obtain ⟨t, rfl⟩ := r1
 exact ⟨some i, H1, I1, .int i t, q⟩
def SlR (X : Cx) (r : V → Option Int → Option Int → Hp → VK → Prop) : Prop :=
 ∀ (pins : List (Addr × Obj)) (s : Shared) (σ : St) (H : Hp) (x : V) (v vl vu : Value) (lo hi : Option Int) (sl : Addr) (Q : VK), Inv X pins σ H s → RelV x v → s.heap.IsSliceOf sl vl vu .none → IsPart vl lo → IsPart vu hi → r x lo hi H Q →
  ∃ T id, typeLookup (.type T) "__getitem__" = pure (some (.builtin id)) ∧ s.TypeIs v T ∧ wpAny (model X.prog X.w) X.A (getItem v (.ref sl)) (EP X pins σ Q) X.xe s
def tSl (r : V → Option Int → Option Int → Hp → VK → Prop) (te : TE) (tl th : TO) : TE := fun σ H Q => te σ H fun x H1 => tl σ H1 fun l H2 => th σ H2 fun u H3 => r x l u H3 Q
theorem pe_slice {r : V → Option Int → Option Int → Hp → VK → Prop} (hr : SlR X r) (he : PE X e te) (hl : PO X lo tl) (hu : PO X hi th) : PE X (.Subscript e (.Slice lo hi none p2) pos) (tSl r te tl th) := by
 intro pins s σ H Q I h
 refine Subscript_ (thn (he pins s σ H _ I h) fun v s1 ⟨x, H1, I1, r1, q1⟩ => ?_)
 refine wpAny_Slice (thn (hl pins s1 σ H1 _ I1 q1) fun vl s2 ⟨l, H2, I2, pl, q2⟩ => thn (hu pins s2 σ H2 _ I2 q2) fun vu s3 ⟨u, H3, I3, pu, q3⟩ => ?_)
 rw [evalPart_none]
 refine wpAny_pure ?_
 have I4 : Inv X pins σ H3 { s3 with heap := s3.heap.push { cls := .type "slice", data := .fields #[vl, vu, .none] } } := I3.kept (t' := s3.toks) fun b ob q => Heap.get?_push_of_some _ q
 obtain ⟨T, id, hT, ht, hg⟩ := hr pins { s3 with heap := s3.heap.push { cls := .type "slice", data := .fields #[vl, vu, .none] } } σ H3 x v vl vu l u s3.heap.objs.size Q I4 r1 (Heap.IsSliceOf.new ..) pl pu q3
 show wpAny (model X.prog X.w) X.A (subscriptTail e (.Slice lo hi none p2) v (.ref s3.heap.objs.size)) (EP X pins σ Q) X.xe { s3 with heap := s3.heap.push { cls := .type "slice", data := .fields #[vl, vu, .none] } }
 exact tail_any (ops := [.ref s3.heap.objs.size, v]) ht hT hg (by with_unfolding_all rfl)
def cutV (xs : List V) (lo hi : Option Int) : List V := (xs.drop (HT.sIx xs.length 0 lo)).take (HT.sIx xs.length xs.length hi - HT.sIx xs.length 0 lo)
theorem cutV_length (xs : List V) (lo hi : Option Int) : (cutV xs lo hi).length ≤ xs.length := by
 unfold cutV
 rw [List.length_take, List.length_drop]
 omega
end
def ixN (n : Nat) (i : Int) : Option Nat := if 0 ≤ i then (if i < n then some i.toNat else none) else if -(n : Int) ≤ i then some (i + n).toNat else none
def atI {α : Type} (xs : List α) (i : Int) : Option α := (ixN xs.length i).bind fun j => xs[j]?
theorem ixN_seq {n : Nat} {i : Int} {j : Nat} (h : ixN n i = some j) : seqIndex? i n = some j ∧ j < n ∧ -(n : Int) ≤ i ∧ i < n := by
 unfold ixN at h
 by_cases h0 : 0 ≤ i
 ·rw [if_pos h0] at h
  by_cases h1 : i < n
  ·rw [if_pos h1] at h
   have e : i.toNat = j := Option.some.inj h
   exact ⟨by rw [seqIndex_of h0 h1, e], by omega, by omega, h1⟩
  ·rw [if_neg h1] at h; cases h
 ·rw [if_neg h0] at h
  by_cases h1 : -(n : Int) ≤ i
  ·rw [if_pos h1] at h
   have e : (i + n).toNat = j := Option.some.inj h
   exact ⟨by rw [seqIndex_neg (by omega) h1, e], by omega, h1, by omega⟩
  ·rw [if_neg h1] at h; cases h
theorem atI_get {α : Type} {xs : List α} {i : Int} {v : α} (h : atI xs i = some v) : ∃ j, seqIndex? i xs.length = some j ∧ xs[j]? = some v ∧ j < xs.length ∧ -(xs.length : Int) ≤ i ∧ i < xs.length := by
 unfold atI at h
 cases e : ixN xs.length i with
 | none => rw [e] at h; cases h
 | some j =>
  rw [e] at h
  obtain ⟨h1, h2, h3, h4⟩ := ixN_seq e
  exact ⟨j, h1, h, h2, h3, h4⟩
theorem atI_nat {α : Type} {xs : List α} {j : Nat} {v : α} (h : xs[j]? = some v) : atI xs (j : Int) = some v := by
 have hj : j < xs.length := (List.getElem?_eq_some_iff.mp h).1
 have e : ixN xs.length (j : Int) = some j := by
  unfold ixN
  rw [if_pos (by omega), if_pos (by omega)]; simp
 unfold atI; rw [e]; exact h
def PlainIx (b : Expr) : Prop := ∀ o i, subscripted b false o i = operate [o, i] (getItem o i)
def IxR (X : Cx) (r : R2) : Prop :=
 ∀ (value slice : Expr) (pins : List (Addr × Obj)) (s : Shared) (σ : St) (H : Hp) (x y : V) (v u : Value) (Q : VK), Inv X pins σ H s → RelV x v → RelV y u → r x y H Q →
  subscripted slice false v u = operate [v, u] (getItem v u) → wpAny (model X.prog X.w) X.A (subscriptTail value slice v u) (EP X pins σ Q) X.xe s
def MtR (X : Cx) (id : String) (r : V → List V → Hp → VK → Prop) : Prop :=
 ∀ (pins : List (Addr × Obj)) (s : Shared) (σ : St) (H : Hp) (x : V) (xs : List V) (v : Value) (us : List Value) (Q : VK), Inv X pins σ H s → RelV x v → Vals xs us → r x xs H Q →
  wpAny (model X.prog X.w) X.A (call (.builtin id) (v :: us)) (EP X pins σ Q) X.xe s
section
variable {X : Cx} {a b : Expr} {ta tb : TE} {pos : Pos}
theorem IxR.or {r r' : R2} (h : IxR X r) (h' : IxR X r') : IxR X (fun x y H Q => r x y H Q ∨ r' x y H Q) := by
 intro value slice pins s σ H x y v u Q I rx ry q hs
 rcases q with q | q
 ·exact h value slice pins s σ H x y v u Q I rx ry q hs
 ·exact h' value slice pins s σ H x y v u Q I rx ry q hs
theorem pe_ix {r : R2} (hr : IxR X r) (ha : PE X a ta) (hb : PE X b tb) (hs : PlainIx b) : PE X (.Subscript a b pos) (tOp r ta tb) := by
 intro pins s σ H Q I h
 exact Subscript_ (binT ha hb I h fun v u s2 x y H2 I2 rx ry q => hr a b pins s2 σ H2 x y v u Q I2 rx ry q (hs _ _))
def rIxL (K : PySem.W.Frag) : R2 := fun x y H Q => ∃ p xs i v, x = .ref p ∧ y = .int i ∧ SqL K H p xs ∧ atI xs i = some v ∧ Q v H
def rIxT (K : PySem.W.Frag) : R2 := fun x y H Q => ∃ p xs i v, x = .ref p ∧ y = .int i ∧ SqT K H p xs ∧ atI xs i = some v ∧ Q v H
theorem ix_list : IxR X (rIxL X.K) := by
 intro value slice pins s σ H x y v u Q I rx ry h hs
 obtain ⟨p, xs, i, z, rfl, rfl, hq, he, q⟩ := h
 cases rx
 obtain ⟨t, rfl⟩ := ry
 obtain ⟨its, r, pl, hz⟩ := I.list hq
 obtain ⟨j, h1, h2, h3, h4, h5⟩ := atI_get he
 obtain ⟨w, ew, rw'⟩ := r.get h2
 have hl := r.length
 have hn := line63
 have fin : EP X pins σ Q w s := ⟨z, H, I, rw', q⟩
 by_cases h0 : 0 ≤ i
 ·have hj : i.toNat = j := by
   rw [seqIndex_of h0 h5] at h1
   exact Option.some.inj h1
  exact item_listR pl.isList h0 (by omega) (by rw [hj]; simpa using ew) fin hs
 ·have hj : (i + (its.toArray.size : Int)).toNat = j := by
   rw [seqIndex_neg (by omega) h4] at h1
   rw [List.size_toArray, ← hl]
   exact Option.some.inj h1
  exact subscriptTail_builtinR (x := w) pl.isList.typeIs slot_list_getitem.lookup
   (wpAny_getItem_list_neg (Q := fun r s' => r = w ∧ EP X pins σ Q r s') pl.isList (by omega) (by rw [List.size_toArray] <;> omega) (by omega) (by rw [hj]; simpa using ew) ⟨rfl, fin⟩) hs
theorem ix_tup : IxR X (rIxT X.K) := by
 intro value slice pins s σ H x y v u Q I rx ry h hs
 obtain ⟨p, xs, i, z, rfl, rfl, hq, he, q⟩ := h
 cases rx
 obtain ⟨t, rfl⟩ := ry
 obtain ⟨its, r, pl, hz⟩ := I.tuple hq
 obtain ⟨j, h1, h2, h3, h4, h5⟩ := atI_get he
 obtain ⟨w, ew, rw'⟩ := r.get h2
 have hl := r.length
 have hn := line63
 have fin : EP X pins σ Q w s := ⟨z, H, I, rw', q⟩
 exact subscriptTail_builtinR (x := w) pl.typeIs slot_tuple_getitem.lookup
  (getItem_tuple (j := j) (Q := fun r s' => r = w ∧ EP X pins σ Q r s') pl (by omega) (by omega) (by rw [List.size_toArray, ← hl]; exact h1) (by simpa using ew) ⟨rfl, fin⟩) hs
theorem slice_bounds (lo hi : Option Int) (n : Nat) : (sliceBounds lo hi none n).1 = ((HT.sIx n 0 lo : Nat) : Int) ∧ (sliceBounds lo hi none n).2.1 = ((HT.sIx n n hi : Nat) : Int) ∧ (sliceBounds lo hi none n).2.2 = 1 := by
 refine ⟨?_, ?_, rfl⟩
 ·cases lo with
  | none => simp [sliceBounds, HT.sIx]
  | some i =>
   simp only [sliceBounds, HT.sIx, Option.getD_none, show (1 : Int) > 0 by decide, if_true]
   by_cases h : i < 0
   ·simp only [h, if_true] <;> omega
   ·simp only [h, if_false] <;> omega
 ·cases hi with
  | none => simp [sliceBounds, HT.sIx]
  | some i =>
   simp only [sliceBounds, HT.sIx, Option.getD_none, show (1 : Int) > 0 by decide, if_true]
   by_cases h : i < 0
   ·simp only [h, if_true] <;> omega
   ·simp only [h, if_false] <;> omega
theorem slicePick_cut (its : List Value) (lo hi : Option Int) : slicePick its.toArray lo hi none = ((its.drop (HT.sIx its.length 0 lo)).take (HT.sIx its.length its.length hi - HT.sIx its.length 0 lo)).toArray := by
 obtain ⟨h1, h2, h3⟩ := slice_bounds lo hi its.toArray.size
 unfold slicePick
 rw [h1, h2, h3]
 simp only [sliceRange_one, pick_run, List.size_toArray] <;> rfl
def rSlL (K : PySem.W.Frag) : V → Option Int → Option Int → Hp → VK → Prop := fun x lo hi H Q => ∃ a xs, x = .ref a ∧ SqL K H a xs ∧ ∀ p, H p = none → Q (.ref p) (upd H p (.lst (cutV xs lo hi)))
theorem sl_list : SlR X (rSlL X.K) := by
 intro pins s σ H x v vl vu lo hi sl Q I rx hs pl pu h
 obtain ⟨a, xs, rfl, hx, q⟩ := h
 cases rx
 obtain ⟨its, r, ht, hz⟩ := I.list hx
 have hlen := r.length
 refine ⟨"list", _, slot_list_getitem.lookup, ht.isList.typeIs, ?_⟩
 refine wpAny_getItem_list_slice ht.isList hs pl pu .none (by simp) ?_ (by rw [List.size_toArray] <;> omega)
 rw [slicePick_cut, ← hlen]
 refine ⟨.ref s.heap.objs.size, _, I.laid (t' := s.toks) (o := .lst (cutV xs lo hi)) (fun b ob q => Heap.get?_push_of_some _ q) (Nat.le_refl _) ?_, rfl, q _ (I.hok.fresh (Nat.le_refl _))⟩
 exact ⟨Nat.le_trans (cutV_length xs lo hi) hz, _, 0, (r.drop (HT.sIx xs.length 0 lo)).take (HT.sIx xs.length xs.length hi - HT.sIx xs.length 0 lo), Heap.get?_push_size _ rfl⟩
def flatV : V → Bool
 | .non => true
 | .bl _ => true
 | .int _ => true
 | .str _ => true
 | _ => false
def eqV : V → V → Bool
 | .non, .non => true
 | .bl a, .bl b => a == b
 | .bl a, .int b => (if a then 1 else 0) == b
 | .int a, .bl b => a == (if b then 1 else 0)
 | .int a, .int b => a == b
 | .str a, .str b => a == b
 | _, _ => false
theorem eqAt_V {A : Around} {s : Shared} {y x : V} {u v : Value} (ry : RelV y u) (rx : RelV x v) (fy : flatV y = true) (fx : flatV x = true) : SeqAt.EqAt A s u v (eqV y x) := by
 cases y with
 | non =>
  cases ry
  cases x with
  | non => cases rx; exact SeqAt.EqAt.same _
  | bl b => cases rx; exact SeqAt.EqAt.none_bool b
  | int b => obtain ⟨t, rfl⟩ := rx; exact SeqAt.EqAt.none_int b t
  | str b => obtain ⟨t, rfl⟩ := rx; exact SeqAt.EqAt.none_str b t
  | _ => exact absurd (show false = true from fx) Bool.false_ne_true
 | bl a =>
  cases ry
  cases x with
  | non => cases rx; exact SeqAt.EqAt.bool_none a
  | bl b => cases rx; exact SeqAt.EqAt.bool_bool a b
  | int b => obtain ⟨t, rfl⟩ := rx; exact SeqAt.EqAt.bool_int a b t
  | str b => obtain ⟨t, rfl⟩ := rx; exact SeqAt.EqAt.bool_str a b t
  | _ => exact absurd (show false = true from fx) Bool.false_ne_true
 | int a =>
  obtain ⟨t', rfl⟩ := ry
  cases x with
  | non => cases rx; exact SeqAt.EqAt.int_none a t'
  | bl b => cases rx; exact SeqAt.EqAt.int_bool a t' b
  | int b => obtain ⟨t, rfl⟩ := rx; exact SeqAt.EqAt.int_int a t' b t
  | str b => obtain ⟨t, rfl⟩ := rx; exact SeqAt.EqAt.int_str a t' b t
  | _ => exact absurd (show false = true from fx) Bool.false_ne_true
 | str a =>
  obtain ⟨t', rfl⟩ := ry
  cases x with
  | non => cases rx; exact SeqAt.EqAt.str_none a t'
  | bl b => cases rx; exact SeqAt.EqAt.str_bool a t' b
  | int b => obtain ⟨t, rfl⟩ := rx; exact SeqAt.EqAt.str_int a t' b t
  | str b => obtain ⟨t, rfl⟩ := rx; exact SeqAt.EqAt.str_str a t' b t
  | _ => exact absurd (show false = true from fx) Bool.false_ne_true
 | _ => exact absurd (show false = true from fy) Bool.false_ne_true
def eqU (x : V) (u : Value) : Bool := match u with
 | .none => eqV .non x
 | .bool b => eqV (.bl b) x
 | .int i _ => eqV (.int i) x
 | .str z _ => eqV (.str z) x
 | _ => false
theorem eqU_of {x y : V} {u : Value} (r : RelV y u) (f : flatV y = true) : eqU x u = eqV y x := by
 cases y with
 | non => cases r; rfl
 | bl b => cases r; rfl
 | int i => obtain ⟨t, rfl⟩ := r; rfl
 | str z => obtain ⟨t, rfl⟩ := r; rfl
 | _ => exact absurd (show false = true from f) Bool.false_ne_true
theorem any_eqU {x : V} : ∀ {xs : List V} {us : List Value}, Vals xs us → xs.all flatV = true → us.any (eqU x) = xs.any fun y => eqV y x
 | _, _, .nil, _ => rfl
 | y :: xs, u :: us, .cons r t, f => by
  rw [List.all_cons, Bool.and_eq_true] at f
  rw [List.any_cons, List.any_cons, eqU_of r f.1, any_eqU t f.2]
theorem mem_eqAt {A : Around} {s : Shared} {x : V} {v : Value} (rx : RelV x v) (fx : flatV x = true) : ∀ {xs : List V} {us : List Value}, Vals xs us → xs.all flatV = true → ∀ u ∈ us, SeqAt.EqAt A s u v (eqU x u)
 | _, _, .nil, _ => fun u hu => by cases hu
 | y :: xs, u :: us, .cons r t, f => fun u' hu => by
  rw [List.all_cons, Bool.and_eq_true] at f
  rcases List.mem_cons.mp hu with rfl | hu
  ·rw [eqU_of r f.1]; exact eqAt_V r rx f.1 fx
  ·exact mem_eqAt rx fx t f.2 u' hu
def inV (x : V) (xs : List V) : Bool := xs.any fun y => eqV y x
def rIn (K : PySem.W.Frag) (neg : Bool) : R2 := fun x y H Q => ∃ p xs, y = .ref p ∧ (SqL K H p xs ∨ SqT K H p xs) ∧ flatV x = true ∧ xs.all flatV = true ∧ Q (.bl (if neg then !inV x xs else inV x xs)) H
theorem op_notIn_seq : OpR X (compareOp .NotIn) (rIn X.K true) := by
 intro pins s σ H x y v u Q I rx ry h
 obtain ⟨p, xs, rfl, hq, fx, fs, q⟩ := h
 cases ry
 rcases hq with hq | hq
 ·obtain ⟨its, r, pl, hz⟩ := I.list hq
  refine SeqAt.notIn_listAt (eqU x) pl.isList (fun w hw => mem_eqAt rx fx r fs w (by simpa using hw)) ⟨.bl _, H, I, rfl, ?_⟩
  rw [show its.toArray.any (eqU x) = its.any (eqU x) by simp, any_eqU r fs]
  exact q
 ·obtain ⟨its, r, pl, hz⟩ := I.tuple hq
  refine SeqAt.notIn_tupleAt (eqU x) pl (fun w hw => mem_eqAt rx fx r fs w (by simpa using hw)) ⟨.bl _, H, I, rfl, ?_⟩
  rw [show its.toArray.any (eqU x) = its.any (eqU x) by simp, any_eqU r fs]
  exact q
theorem call_len_seq : CallR X (.builtin "len") (fun xs H Q => ∃ p ys, xs = [.ref p] ∧ (SqL X.K H p ys ∨ SqT X.K H p ys) ∧ Q (.int ys.length) H) := by
 intro pins s σ H xs us Q I r h
 obtain ⟨p, ys, rfl, hq, q⟩ := h
 obtain ⟨u, rfl, rx⟩ := vals1 r
 cases rx
 have hn := line63
 rcases hq with hq | hq
 ·obtain ⟨its, r', pl, hz⟩ := I.list hq
  have hlen := r'.length
  exact Calls.call_len_list pl.isList (by simp only [List.size_toArray] <;> omega) ⟨.int ys.length, H, I.tok _, ⟨s.toks + 1, by rw [List.size_toArray, hlen]⟩, q⟩
 ·obtain ⟨its, r', pl, hz⟩ := I.tuple hq
  have hlen := r'.length
  exact len_tuple pl (by simp only [List.size_toArray] <;> omega) ⟨.int ys.length, H, I.tok _, ⟨s.toks + 1, by rw [List.size_toArray, hlen]⟩, q⟩
theorem call_list_of : CallR X (.type "list") (fun xs H Q => ∃ p ys, xs = [.ref p] ∧ (SqL X.K H p ys ∨ SqT X.K H p ys) ∧ ∀ l, H l = none → Q (.ref l) (upd H l (.lst ys))) := by
 intro pins s σ H xs us Q I r h
 obtain ⟨p, ys, rfl, hq, q⟩ := h
 obtain ⟨u, rfl, rx⟩ := vals1 r
 cases rx
 have fin : ∀ (its : List Value), Vals ys its → ys.length ≤ sizeLine → ∀ (h' : Heap) (c' : Nat), (∀ b o', s.heap.get? b = some o' → h'.get? b = some o') →
   h'.get? s.heap.objs.size = some { cls := .type "list", dict := none, data := .seq its.toArray c', slots := #[] } → EP X pins σ Q (.ref s.heap.objs.size) { s with heap := h' } := fun its r' hz h' c' kp e =>
  ⟨.ref s.heap.objs.size, _, I.laid (t' := s.toks) kp (Nat.le_refl _) (show ObjOk X.prog X.w _ h' _ (.lst ys) from ⟨hz, its, c', r', e⟩), rfl, q _ (I.hok.fresh (Nat.le_refl _))⟩
 rcases hq with hq | hq
 ·obtain ⟨its, r', pl, hz⟩ := I.list hq
  have hlen := r'.length
  obtain ⟨o, ho, hc, n, hd⟩ := pl.isList
  exact call_list_seq p (.inl rfl) ho hc hd (fun h' c' kp e => fin its r' hz h' c' kp e) (by simp only [List.size_toArray] <;> omega)
 ·obtain ⟨its, r', pl, hz⟩ := I.tuple hq
  have hlen := r'.length
  obtain ⟨o, ho, hc, n, hd⟩ := pl
  exact call_list_seq p (.inr rfl) ho hc hd (fun h' c' kp e => fin its r' hz h' c' kp e) (by simp only [List.size_toArray] <;> omega)
def tyV (K : PySem.W.Frag) (T : String) (x : V) (H : Hp) : Prop := match x with
 | .str _ => T = "str"
 | .int _ => T = "int"
 | .ref p => (T = "list" ∧ ∃ xs, SqL K H p xs) ∨ (T = "tuple" ∧ ∃ o, K.lookup p = some o ∧ o.cls = .type "tuple" ∧ o.dict = none) ∨
   (T = "dict" ∧ ((∃ kvs, H p = some (.dK kvs)) ∨ ∃ kvs, H p = some (.dT kvs))) ∨ (T = "set" ∧ ∃ S n, H p = some (.set S n))
 | _ => False
theorem tyV_is {pins : List (Addr × Obj)} {σ : St} {H : Hp} {s : Shared} {T : String} {x : V} {v : Value} (I : Inv X pins σ H s) (r : RelV x v) (ty : tyV X.K T x H) :
  s.TypeIs v T ∧ ∀ a, v = .ref a → ∃ ob, s.heap.get? a = some ob ∧ ob.dict = none := by
 cases x with
 | str z =>
  obtain ⟨t, rfl⟩ := r
  cases (show T = "str" from ty)
  exact ⟨typeIs_str s z t, fun _ e => nomatch e⟩
 | int i =>
  obtain ⟨t, rfl⟩ := r
  cases (show T = "int" from ty)
  exact ⟨typeIs_int s i t, fun _ e => nomatch e⟩
 | ref p =>
  cases r
  rcases ty with ⟨rfl, xs, hq⟩ | ⟨rfl, o, hk, hc, hd⟩ | ⟨rfl, hk⟩ | ⟨rfl, S, n, hk⟩
  ·obtain ⟨its, _, pl, _⟩ := I.list hq
   refine ⟨pl.isList.typeIs, fun a e => ?_⟩
   cases e
   obtain ⟨o, n, e, c, hd, _⟩ := pl
   exact ⟨o, e, hd⟩
  ·refine ⟨⟨o, I.kIn p o hk, hc⟩, fun a e => ?_⟩
   cases e
   exact ⟨o, I.kIn _ o hk, hd⟩
  ·have z : ∃ o, s.heap.get? p = some o ∧ o.ExactDict := by
    rcases hk with ⟨kvs, hk⟩ | ⟨kvs, hk⟩
    ·obtain ⟨_, _, _, _, o, _, _, e, ex, _⟩ := I.hok p _ hk
     exact ⟨o, e, ex⟩
    ·obtain ⟨_, _, _, _, o, _, _, e, ex, _⟩ := I.hok p _ hk
     exact ⟨o, e, ex⟩
   obtain ⟨o, e, ex⟩ := z
   refine ⟨⟨o, e, ex.1⟩, fun a e2 => ?_⟩
   cases e2
   exact ⟨o, e, ex.2.1⟩
  ·obtain ⟨o, _, _, _, e, ex, _⟩ := I.hok p _ hk
   refine ⟨⟨o, e, ex.1⟩, fun a e2 => ?_⟩
   cases e2
   exact ⟨o, e, ex.2.1⟩
 | _ => exact False.elim ty
def tBM (K : PySem.W.Frag) (T : String) (r : V → List V → Hp → VK → Prop) (to : TE) (t : TA) : TE := fun σ H Q => to σ H fun x H1 => tyV K T x H1 ∧ t σ H1 fun xs H2 => r x xs H2 Q
variable {o e : Expr} {es : List Expr} {to : TE} {t : TA} {name : Str} {apos cpos : Pos} {T id : String} {r : V → List V → Hp → VK → Prop}
theorem pe_bm (pa : PlainAttrs T) (slot : Slot T name id) (hty : typeOf (.builtin id) = pure (.type "method_descriptor")) (hm : MtR X id r) (ho : PE X o to) (ha : PA X (e :: es) t)
  (hbase : attributeBase o name X.env (eval o X.env) = eval o X.env := by rfl)
  (hfew : ((backTo cpos (starEach (e :: es) X.env)).all (fun x => !x.1) && (backToKw cpos (keywordEach [] X.env)).all (fun x => x.1.isSome)
   && decide ((e :: es).length + ([] : List Keyword).length + (if ([] : List Keyword).isEmpty then 0 else 1) < 30)) = true := by rfl)
  (hline : (apos.endLine == cpos.line) = true := by rfl) (hs : starEach (e :: es) X.env = (false, eval e X.env) :: starEach es X.env := by rfl) (hplain : (backTo cpos (starEach es X.env)).any (·.1) = false := by rfl) :
  PE X (.Call (.Attribute o name apos) (e :: es) [] cpos) (tBM X.K T r to t) := by
 intro pins s σ H Q I h
 refine wpAny_Call_method_late hbase hfew hline rfl (thn (ho pins s σ H _ I h) fun v s1 ⟨x, H1, I1, r1, ty, q1⟩ => ?_)
 obtain ⟨h1, h2⟩ := tyV_is I1 r1 ty
 refine ⟨T, id, pa, slot, hty, h1, h2, ?_⟩
 have hA := ha cpos pins s1 σ H1 _ I1 q1
 rw [hs] at hA ⊢
 refine Calls.callWith_builtin (by show (false || (backTo cpos (starEach es X.env)).any (·.1)) = false; rw [hplain] <;> rfl) (Calls.evalArgs_plain ?_)
 exact thn hA fun us s2 ⟨vs, H2, I2, r2, q2⟩ => hm pins s2 σ H2 x vs v us Q I2 r1 r2 q2
end
def MtM (X : Cx) (id : String) (r : V → List V → Hp → VK → Prop) : Prop :=
 ∀ (pins : List (Addr × Obj)) (s : Shared) (σ : St) (H : Hp) (x : V) (xs : List V) (v : Value) (us : List Value) (Q : VK), Inv X pins σ H s → RelV x v → Vals xs us → r x xs H Q →
  wpAny (model X.prog X.w) X.A (call (.builtin id) (v :: us)) (EP X pins σ Q) X.xe s
theorem Vals.one : ∀ {x : V} {us : List Value}, Vals [x] us → ∃ u, us = [u] ∧ RelV x u
 | _, _, .cons r .nil => ⟨_, rfl, r⟩
section
variable {X : Cx} {pins : List (Addr × Obj)} {σ : St} {H : Hp} {s : Shared} {l b : Addr} {xs ys zs : List V}
theorem Inv.lset {its its' : List Value} {n : Nat} {f : Array Value → Array Value} {t' : Nat} (I : Inv X pins σ H s) (hH : H l = some (.lst xs))
  (e : s.heap.get? l = some { cls := .type "list", data := .seq its.toArray n }) (hf : f its.toArray = its'.toArray) (hv : Vals ys its') (hz : ys.length ≤ sizeLine) :
  Inv X pins σ (upd H l (.lst ys)) { s with heap := s.heap.update l (Obj.mapSeq f), toks := t' } := by
 have q := PySem.IsL.update e f
 rw [hf] at q
 refine I.write (x := l) (e := l) (by rw [hH]; exact trivial) (.inl rfl) (fun b' u hb hu => (Heap.get?_update_other s.heap (Obj.mapSeq f) (Ne.symm hb)).trans hu) ⟨_, q⟩ ?_
 exact ⟨hz, its', _, hv, q⟩
theorem Inv.lnew {its : List Value} {t' : Nat} (I : Inv X pins σ H s) (hv : Vals ys its) (hz : ys.length ≤ sizeLine) :
  Inv X pins σ (upd H s.heap.objs.size (.lst ys)) { s with heap := s.heap.push { cls := .type "list", data := .seq its.toArray }, toks := t' } :=
 I.laid (fun _ _ q => Heap.get?_push_of_some _ q) (Nat.le_refl _) ⟨hz, its, 0, hv, Heap.get?_push_size _ rfl⟩
theorem Inv.fresh (I : Inv X pins σ H s) : H s.heap.objs.size = none := I.hok.fresh (Nat.le_refl _)
theorem Inv.lstM (I : Inv X pins σ H s) (hH : H l = some (.lst xs)) : xs.length ≤ sizeLine ∧ ∃ (its : List Value) (n : Nat), Vals xs its ∧ xs.length = its.length ∧ s.heap.get? l = some { cls := .type "list", data := .seq its.toArray n } := by
 obtain ⟨z, its, n, r, e⟩ := I.hok l _ hH
 exact ⟨z, its, n, r, r.length, e⟩
theorem notLongL {n : Nat} (h : n ≤ sizeLine) : Builtin.List.listTooLong n = false := by
 unfold Builtin.List.listTooLong
 exact decide_eq_false (by omega)
end
section
variable {X : Cx}
def rAppend : V → List V → Hp → VK → Prop := fun x vs H Q => ∃ l xs y, x = .ref l ∧ vs = [y] ∧ H l = some (.lst xs) ∧ xs.length < sizeLine ∧ Q .non (upd H l (.lst (xs ++ [y])))
theorem mt_append : MtM X "list.append" rAppend := by
 intro pins s σ H x vs v us Q I rx rv h
 obtain ⟨l, xs, y, rfl, rfl, hH, hz, q⟩ := h
 cases rx
 obtain ⟨u, rfl, ru⟩ := rv.one
 obtain ⟨z, its, n, r, hl, e⟩ := I.lstM hH
 refine call_meets F.slot_list_append ⟨_, e, rfl⟩ F.entry_list_append (F.args_list_append_2 _ _) (PySem.list_append l its.toArray n u (by rw [List.size_toArray]; omega)) ⟨e, ?_⟩
 refine ⟨.non, _, I.lset (its' := its ++ [u]) hH e (by simp) (r.append (.cons ru .nil)) ?_, rfl, q⟩
 rw [List.length_append, List.length_singleton]
 omega
def rExtend : V → List V → Hp → VK → Prop := fun x vs H Q => ∃ l b xs zs, x = .ref l ∧ vs = [.ref b] ∧ H l = some (.lst xs) ∧ H b = some (.lst zs) ∧ xs.length + zs.length ≤ sizeLine ∧ Q .non (upd H l (.lst (xs ++ zs)))
theorem mt_extend : MtM X "list.extend" rExtend := by
 intro pins s σ H x vs v us Q I rx rv h
 obtain ⟨l, b, xs, zs, rfl, rfl, hH, hB, hz, q⟩ := h
 cases rx
 obtain ⟨u, rfl, ru⟩ := rv.one
 cases ru
 obtain ⟨z, its, n, r, hl, e⟩ := I.lstM hH
 obtain ⟨z2, its2, n2, r2, hl2, e2⟩ := I.lstM hB
 have hsz : its.toArray.size + its2.toArray.size ≤ sizeLine := by rw [List.size_toArray, List.size_toArray]; omega
 have hlong : ¬ (!its.toArray.isEmpty && Builtin.List.listTooLong (its.toArray.size + its2.toArray.size)) = true := by
  rw [notLongL hsz, Bool.and_false]
  exact Bool.false_ne_true
 refine call_meets F.slot_list_extend ⟨_, e, rfl⟩ F.entry_list_extend (F.args_list_extend_2 _ _)
  (AutoSeq1.list_extend_list_list_0 l its.toArray n b its2.toArray n2 hlong (by rw [List.size_toArray]; omega) (by omega)) ⟨e, e2, ?_⟩
 refine ⟨.non, _, I.lset (its' := its ++ its2) hH e (by simp) (r.append r2) ?_, rfl, q⟩
 rw [List.length_append]
 omega
end
section
variable {prog : Program} {w : World} {A : Around} {E : Value → Shared → Prop} {s : Shared}
set_option maxRecDepth 100000 in
end
section
variable {X : Cx}
end
section
variable {κ : Type} [DecidableEq κ]
end
theorem kV_is {P : Program} {w : World} {k : Key} {u : Value} (r : RelV (kV k) u) : (mixKind P w).is k u = true := by
 cases k with
 | inl i => obtain ⟨t, e⟩ := (show ∃ t, u = Value.int i t from r); subst e; exact mixKind_int P w i t
 | inr x => obtain ⟨t, e⟩ := (show ∃ t, u = Value.str x t from r); subst e; exact mixKind_str P w x t
theorem items_are {P : Program} {w : World} : ∀ {ks : List Key} {us : List Value}, Vals (ks.map kV) us → ItemsAre (mixKind P w) ks us
 | [], _, r => by rw [List.map_nil] at r; cases r; exact .nil
 | k :: ks, _, r => by
  rw [List.map_cons] at r
  cases r with
  | cons h t => exact .cons (kV_is h) (items_are t)
section
variable {P : Program} {w : World} {H : Hp} {h : Heap} {a : Addr}
theorem key_of {ks : List Key} (ok : HOk P w H h) (e : H a = some (.tup (ks.map kV))) : (tupleKind (mixKind P w)).is h ks a := by
 obtain ⟨_, its, r, o, h1, h2, n, h3⟩ := (show ObjOk P w H h a (.tup (ks.map kV)) from ok a _ e)
 exact ⟨o, its.toArray, n, h1, h2, h3, by simpa using items_are r⟩
end
section
variable {X : Cx} {pins : List (Addr × Obj)} {σ : St} {H : Hp} {s : Shared} {a : Addr} {y v : V} {u r : Value} {o : Option V} {A : Around} {E : Value → Shared → Prop}
end
section
variable {X : Cx} {pins : List (Addr × Obj)} {σ : St} {H : Hp} {s : Shared} {a : Addr} {kvs : List (Key × V)} {k : Key} {u : Value} {A : Around} {E : Value → Shared → Prop}
end
section
variable {X : Cx} {o i e value : Expr} {pos pos' tpos : Pos} {td ty tv : TE}
end
section
variable {X : Cx} {pos : Pos}
end
section
variable {X : Cx} {pins : List (Addr × Obj)} {σ : St} {H : Hp} {s : Shared} {a : Addr} {y d : V} {u r : Value} {o : Option V} {A : Around} {E : Value → Shared → Prop}
end
section
variable {X : Cx} {o e f : Expr} {apos cpos : Pos} {td ty tx : TE}
end
section
variable {X : Cx} {pins : List (Addr × Obj)} {σ : St} {H : Hp} {s : Shared} {a : Addr} {kvs : List (Key × V)} {A : Around} {E : Value → Shared → Prop}
end
section
variable {X : Cx} {pins : List (Addr × Obj)} {σ : St} {H : Hp} {s : Shared} {a : Addr} {y : V} {u : Value} {A : Around} {E : Value → Shared → Prop}
end
end L2
namespace Att
open PySem PySem.W PySem.Calls PyProof.Rows
theorem ints_of_wellAll {P : Params} {h : Heap} : ∀ (ns : List Int) (vs : List Value), WellAll P h vs (ns.map WData.int) → IntsAre vs ns := by
 intro ns
 induction ns with
 | nil =>
  intro vs w
  rw [List.map_nil] at w
  cases w
  exact .nil
 | cons n ns ih =>
  intro vs w
  rw [List.map_cons] at w
  cases w with
  | cons a b =>
   cases a
   exact .cons _ _ (ih _ b)
theorem script_of {l : OpenLaw} {n : Nat} (hn : l.most = some n) {P : Params} {h : Heap} {args : List WData} {vals : List Value}
  (hpre : l.row.toRowW.claim.pre args = true) (hwl : WellAll P h vals args) :
  ∃ a vs ns, vals = [Value.ref a] ∧ args = [WData.list (ns.map WData.int)] ∧ h.get? a = some { cls := .type "list", data := .seq vs.toArray } ∧ IntsAre vs ns ∧ ns.length ≤ n := by
 have hsh : WShape.hasAll [] args [.list .int] = true := (pre_splitW hpre).1
 have hc : l.pre.holds [] { args := args } = true := (pre_splitW hpre).2
 obtain ⟨d, r, rfl, h1, h2⟩ := hasAllW_cons hsh
 obtain rfl := hasAllW_nil h2
 obtain ⟨xs, rfl, h3⟩ := hasW_list h1
 obtain ⟨ns, rfl⟩ := items_int h3
 have hlen : ns.length ≤ n := by
  unfold OpenLaw.pre at hc
  have h4 : (WTm.not (.lt (.lit (.int (n : Int))) (.len (.arg 0)))).holds [] { args := [.list (ns.map .int)] } = true := by
   have h4 := (holds_andW hc).1
   rw [hn] at h4
   exact h4
  have h5 := condW_of h4 (w_not (w_lt w_lit (w_len_list (w_arg rfl))))
  rw [List.length_map] at h5
  refine Nat.le_of_not_lt fun q => ?_
  have q' : (n : Int) < ((ns.length : Nat) : Int) := by omega
  first
   | (rw [decide_eq_true q'] at h5; exact absurd h5 (by decide))
   | (simp at h5; omega)
 cases hwl with
 | cons w1 w2 =>
  cases w2
  cases w1 with
  | list ho hall => exact ⟨_, _, ns, rfl, rfl, ho, ints_of_wellAll ns _ hall, hlen⟩
theorem post_true (l : OpenLaw) (args : List WData) : l.row.toRowW.claim.post args (.bool true) args = true :=
 postW_of (r := l.row.toRowW) (X := (true == true))
  (show WShape.has [] (.bool true) .bool = true by first | rfl | decide | simp [WShape.has, WShape.arms, WShape.armsAll])
  (show (WTm.eq .res (.lit (.bool true))).value [] { args := args, res := some (.bool true), after := args } = some (.bool (true == true)) from w_eq_bool (w_res rfl) w_lit) rfl
theorem attach_call {l : OpenLaw} {n : Nat} {q : Program} {loose : List Str} {XP : (Str → Option Value) → Heap → Prop} {YP : World → Heap → Prop} {d : DefRec}
  (hn : l.most = some n) (hdf : d.params.defaults = [])
  (call : ∀ (w : World) (s₀ s₁ : Shared) (mg mb : Str → Option Value) (fa : Addr) (o : Obj) (pm cd doc : Value) (a : Addr) (vs : List Value) (ns : List Int),
   Ground q loose [] XP w s₀ mg mb s₁.heap → YP w s₁.heap →
   s₁.heap.get? fa = some o → o.data = .func (docDef d.name d.params d.body d.scope pm cd doc) → s₁.heap.CodeRec cd d.name → mg d.name = some (.ref fa) →
   s₁.heap.get? a = some { cls := .type "list", data := .seq vs.toArray } → IntsAre vs ns → ns.length ≤ n → s₁.gens = #[] →
   codeAny (model l.prog w) callerA (.call (.ref fa) ⟨[.ref a], []⟩) (fun r s' => r = .ok (.ret (.bool true)) ∧ OldK s₁.heap s'.heap ∧ s'.os = s₁.os ∧ AllBare s'.gens) s₁) :
  WalkO q loose XP YP l.row.toRowW d [] (fun f vs => PySem.call f vs) := by
 intro w s₀ s₁ mg mb G Y fa o pm cd doc dV kV ho hd hcd hD hmg hg args vals as hpre hlay hrd hwl hlo
 obtain rfl : dV = .none := Dflts.none hD hdf
 obtain rfl : kV = .none := Dflts.noKw hD
 obtain ⟨a, vs, ns, rfl, rfl, hobj, hints, hlen⟩ := script_of hn hpre hwl
 refine enter_call (codeAny_mono (call w s₀ s₁ mg mb fa o pm cd doc a vs ns G Y ho (fd_plain hd) hcd hmg hobj hints hlen hg) fun r s' hq => ?_)
 obtain ⟨rfl, h2, h3, h4⟩ := hq
 exact ⟨.inl ⟨.bool true, .bool true, [], rfl, fun _ => rfl, .bool true, post_true l _, fun _ => ⟨List.Pairwise.nil, fun _ hm => (nomatch hm)⟩⟩, h2, h3, h4⟩
section
variable {prog : Program} {w : World} {A : Around} {E : Value → Shared → Prop} {s : Shared} {K : Frag}
end
end Att
namespace L2
open PySem PySem.Spec PyProof.Rows
theorem vals_ints : ∀ {vs : List Value} {ns : List Int}, IntsAre vs ns → Vals (ns.map V.int) vs
 | _, _, .nil => .nil
 | _, _, .cons n t h => .cons ⟨t, rfl⟩ (vals_ints h)
def Only (H : Hp) : Prop := ∀ b, H b = none ∨ ∃ o xs, H b = some (.frz o (.lst xs))
theorem law_call {P : Program} {w : World} {K : PySem.W.Frag} {mg mb : Str → Option Value} {CX : CXT} {k : Nat} {fa a : Addr} {fd : FuncData} {x : Str} {sp : Sp} {s₁ : Shared} {vs : List Value} {ns : List Int}
  (KX : K.In s₁.heap) (hns : s₁.heap.Ns mainGlobals mg) (hb : s₁.heap.Ns builtinsNs mb) (hbb : ∀ x : Str, x ≠ "__name__" → mb x = bootBuiltins x) (hlim : s₁.heap.NoLimit) (hg : s₁.gens = #[])
  (ha : s₁.heap.get? a = some { cls := .type "list", data := .seq vs.toArray }) (hi : IntsAre vs ns) (hl : ns.length ≤ sizeLine) (hr : Room k callerA)
  (F : ∀ base : Heap, K.In base → base.Ns mainGlobals mg → FnOk P w K mg base CX k fa fd [x] sp) (hbind : ∀ (s : Shared) (u : Value), BindsTo s fd ⟨[u], []⟩ [(x, u)])
  (hsp : ∀ H : Hp, Only H → SqL K H a (ns.map V.int) → sp [.ref a] H (fun v _ => v = .bl true) fun _ _ _ => False)
  (hCX : ∀ H e s', CX [] H s₁ (fun _ _ _ => False) e s' → False) :
  codeAny (model P w) callerA (.call (.ref fa) ⟨[.ref a], []⟩) (fun r s' => r = .ok (.ret (.bool true)) ∧ OldK s₁.heap s'.heap ∧ s'.os = s₁.os ∧ AllBare s'.gens) s₁ := by
 have rv := vals_ints hi
 have lenV := hi.length
 have core : ∀ H : Hp, Only H → SqL K H a (ns.map V.int) → HOk P w H s₁.heap → (∀ b, H b ≠ none → b = a) → (H a ≠ none → K.lookup a = none) →
   codeAny (model P w) callerA (.call (.ref fa) ⟨[.ref a], []⟩) (fun r s' => r = .ok (.ret (.bool true)) ∧ OldK s₁.heap s'.heap ∧ s'.os = s₁.os ∧ AllBare s'.gens) s₁ := by
  intro H hO hS hok hA hK
  have base_of : ∀ {b : Addr} {o : Obj}, s₁.heap.get? b = some o → H b = none → (hidT s₁.heap H).get? b = some o := fun e n => hidT_get e n
  have noA : ∀ {b : Addr} {o : Obj} {es : Array DictEntry} {ep : Nat}, s₁.heap.get? b = some o → o.data = .dict es ep → H b = none := fun {b o es ep} e d => by
   cases q : H b with
   | none => rfl
   | some u =>
    have e' : b = a := hA b (by rw [q]; simp)
    subst e'
    rw [ha] at e; cases e
    have d' : Data.seq vs.toArray _ = Data.dict es ep := d
    cases d'
  have nsK : ∀ {b : Addr} {m : Str → Option Value}, s₁.heap.Ns b m → (hidT s₁.heap H).Ns b m := fun {b m} ⟨o, es, ep, e, d, r⟩ => ⟨o, es, ep, base_of e (noA e d), d, r⟩
  have hKb : K.In (hidT s₁.heap H) := fun b o e => base_of (KX b o e) (by
   cases q : H b with
   | none => rfl
   | some u =>
    have e' : b = a := hA b (by rw [q]; simp)
    subst e'
    rw [hK (by rw [q]; simp)] at e; cases e)
  have hM : Mod K mg (hidT s₁.heap H) := ⟨hKb, nsK hns, ⟨mb, nsK hb, hbb⟩, let ⟨mc, h1, h2⟩ := hlim; ⟨mc, nsK h1, h2⟩⟩
  have e0 : Env0 P w K mg (hidT s₁.heap H) callerA [] s₁ H := ⟨rfl, hM, fun b o e => of_hidT e, Nat.le_of_eq (hidT_size _ _), trivial, fun b hb => absurd (show b ∈ ([] : List Addr) from hb) (by simp), hok, .of_eq hg⟩
  refine codeAny_mono ((F _ hKb (nsK hns)).run callerA [] s₁ H ⟨[.ref a], []⟩ [.ref a] [.ref a] _ _ hr e0 (hbind s₁ (.ref a)) (.cons rfl .nil) (hsp H hO hS)) fun r s' h => ?_
  cases r with
  | error e => exact (hCX H e s' h).elim
  | ok fl =>
   cases fl with
   | next => exact False.elim h
   | brk => exact False.elim h
   | cont => exact False.elim h
   | ret u =>
    obtain ⟨v, H', os, bare, un, hok', r', q⟩ := h
    have q' : v = .bl true := q
    subst q'
    obtain rfl : u = Value.bool true := r'
    refine ⟨rfl, OldK.of_keep fun b o e => ?_, os, bare⟩
    cases q : H b with
    | none => exact un.keep b o e q (by intro z; exact absurd (show b ∈ ([] : List Addr) from z) (by simp)) (by simp)
    | some u =>
     rcases hO b with z | ⟨ob, xs, z⟩
     ·rw [q] at z; cases z
     ·have z2 := un.frzs b ob _ z
      obtain ⟨e1, _⟩ := hok b _ z
      obtain ⟨e2, _⟩ := hok' b _ z2
      rw [e] at e1; cases e1
      exact e2
 cases hk : K.lookup a with
 | some o =>
  have e := KX a o hk
  rw [ha] at e
  cases e
  refine core (fun _ => none) (fun _ => .inl rfl) (.inr ⟨_, vs.toArray, _, hk, rfl, rfl, rfl, by rw [List.size_toArray, lenV]; exact hl, by simpa using rv⟩) (fun b u z => by have z' : (none : Option HO) = some u := z; cases z') (fun b z => absurd rfl z) fun z => absurd rfl z
 | none =>
  refine core (fun b => if b = a then some (.frz { cls := .type "list", data := .seq vs.toArray } (.lst (ns.map V.int))) else none) (fun b => ?_) (.inl (.inr ⟨{ cls := .type "list", data := .seq vs.toArray }, if_pos rfl⟩)) (fun b u z => ?_) (fun b z => ?_) fun _ => hk
  ·by_cases hb : b = a
   ·exact .inr ⟨_, _, if_pos hb⟩
   ·exact .inl (if_neg hb)
  ·by_cases hb : b = a
   ·have z' := (if_pos hb).symm.trans z
    cases z'
    subst hb
    exact ⟨ha, by rw [List.length_map]; exact hl, vs, _, rv, ha⟩
   ·have z' := (if_neg hb).symm.trans z
    cases z'
  ·by_cases hb : b = a
   ·exact hb
   ·exact absurd (if_neg hb) z
theorem walk_of {l : PySem.W.OpenLaw} {n k : Nat} {q : Program} {loose : List Str} {XP : (Str → Option Value) → Heap → Prop} {YP : World → Heap → Prop} {d : DefRec} {K : Params → PySem.W.Frag} {CX : World → CXT} {sp : World → Sp} {x : Str}
  (hn : l.most = some n) (hn2 : n ≤ sizeLine) (hdf : d.params.defaults = []) (hr : Room k callerA)
  (hY : ∀ (w : World) (h : Heap), YP w h → (K w.params).In h)
  (F : ∀ (w : World) (mg : Str → Option Value) (fa : Addr) (h : Heap), (K w.params).In h → h.Ns mainGlobals mg → mg d.name = some (.ref fa) →
   ∃ fd : FuncData, (∀ (s : Shared) (u : Value), BindsTo s fd ⟨[u], []⟩ [(x, u)]) ∧
    ∀ base : Heap, (K w.params).In base → base.Ns mainGlobals mg → FnOk l.prog w (K w.params) mg base (CX w) k fa fd [x] (sp w))
  (hsp : ∀ (w : World) (H : Hp) (a : Addr) (ns : List Int), ns.length ≤ n → Only H → SqL (K w.params) H a (ns.map V.int) → sp w [.ref a] H (fun v _ => v = .bl true) fun _ _ _ => False)
  (hCX : ∀ (w : World) (H : Hp) (s : Shared) (e : Value) (s' : Shared), CX w [] H s (fun _ _ _ => False) e s' → False) :
  PySem.W.WalkO q loose XP YP l.row.toRowW d [] (fun f vs => PySem.call f vs) := by
 refine Att.attach_call hn hdf fun w s₀ s₁ mg mb fa o pm cd doc a vs ns G Y ho hd hcd hmg hobj hints hlen hg => ?_
 have KX := hY w _ Y
 obtain ⟨fd, hb, hF⟩ := F w mg fa _ KX G.T.g hmg
 exact law_call KX G.T.g G.T.b G.T.builtins G.T.nolimit hg hobj hints (Nat.le_trans hlen hn2) hr hF hb (fun H hO hS => hsp w H a ns hlen hO hS) fun H e s' => hCX w H s₁ e s'
def defArgs (s : Stmt) : Arguments := match s with
 | .FunctionDef _ a _ _ _ _ _ _ _ _ => a
 | _ => { posonlyargs := [], args := [], vararg := none, kwonlyargs := [], kw_defaults := [], kwarg := none, defaults := [] }
def defBody (s : Stmt) : List Stmt := match s with
 | .FunctionDef _ _ b _ _ _ _ _ _ _ => b
 | _ => []
def defScope (s : Stmt) : Scope := match s with
 | .FunctionDef _ _ _ _ _ _ sc _ _ _ => sc
 | _ => { kind := .function, names := [], isGenerator := false, isCoroutine := false }
abbrev E0 : XK := fun _ _ _ => False
structure Fun (K : PySem.W.Frag) (x qual : Str) (st : Stmt) (f : Addr) (fd : FuncData) : Prop where
 ex : ∃ (oc : Value) (od : Option Addr) (kV doc pm : Value) (an : Option Addr) (cdv ct : Value) (osl : Array (Option Value)),
  fd = PySem.W.fnOf x qual (defArgs st) (defBody st) (defScope st) .none kV doc pm an cdv ct ∧ K.lookup f = some ⟨oc, od, .func fd, osl⟩ ∧ PySem.W.codeIn K cdv qual = true
 kp : PySem.W.keepIn K (.ref f) = true
section
variable {P : Program} {w : World} {K : PySem.W.Frag} {mg : Str → Option Value} {base : Heap}
theorem Fun.binds {x qual : Str} {st : Stmt} {f : Addr} {fd : FuncData} {ps : List Str} (F : Fun K x qual st f fd)
  (h : ∀ (kV doc pm : Value) (an : Option Addr) (cdv ct : Value) (us : List Value), us.length = ps.length → bindArgs (PySem.W.fnOf x qual (defArgs st) (defBody st) (defScope st) .none kV doc pm an cdv ct) ⟨us, []⟩ = pure (ps.zip us)) : Binds K fd ps [] := by
 obtain ⟨oc, od, kV, doc, pm, an, cdv, ct, osl, rfl, lk, hcd⟩ := F.ex
 exact .all (h kV doc pm an cdv ct)
theorem fun_mk {x qual : Str} {st : Stmt} {f : Addr} {oc : Value} {od an : Option Addr} {osl : Array (Option Value)} {kV doc pm cdv ct : Value} (l : K.lookup f = some ⟨oc, od, .func (PySem.W.fnOf x qual (defArgs st) (defBody st) (defScope st) .none kV doc pm an cdv ct), osl⟩)
  (c : PySem.W.codeIn K cdv qual = true) (k : PySem.W.keepIn K (.ref f) = true) : Fun K x qual st f (PySem.W.fnOf x qual (defArgs st) (defBody st) (defScope st) .none kV doc pm an cdv ct) := ⟨⟨oc, od, kV, doc, pm, an, cdv, ct, osl, rfl, l, c⟩, k⟩
end
section
variable {X : Cx}
theorem pv (i : Nat) {x : Str} {pos : Pos} (hN : X.N[i]? = some x := by rfl) (hv : Vis X.env.scope x := by first | exact Or.inl rfl | exact Or.inr (Or.inl rfl) | exact Or.inr (Or.inr rfl)) (hd : (x == ("__debug__" : Str)) = false := by decide)
  (hcd : (x == ("__classdict__" : Str)) = false := by decide) : PE X (.Name x pos) (tVar i) := pe_var hN hv hd hcd
end
def Same (H H' : Hp) : Prop := ∀ b o, H b = some o → H' b = some o
theorem Same.refl (H : Hp) : Same H H := fun _ _ h => h
theorem Same.trans {H H1 H2 : Hp} (a : Same H H1) (b : Same H1 H2) : Same H H2 := fun c o h => b c o (a c o h)
theorem Same.free {H H' : Hp} (e : Same H H') {l : Addr} (h : H' l = Option.none) : H l = Option.none := by
 cases q : H l with
 | none => rfl
 | some o =>
  rw [e l o q] at h
  cases h
theorem Same.seq {K : PySem.W.Frag} {H H' : Hp} {a : Addr} {xs : List V} (e : Same H H') (h : SqL K H a xs) : SqL K H' a xs := by
 rcases h with (h | ⟨o, h⟩) | h
 ·exact .inl (.inl (e _ _ h))
 ·exact .inl (.inr ⟨o, e _ _ h⟩)
 ·exact .inr h
section
variable {X : Cx}
end
section
variable {κ : Type} [DecidableEq κ]
end
end L2

set_option maxHeartbeats 4000000
namespace PySem.W
open PySem PySem.Spec PySem.Calls PyProof.Rows Builtin Builtin.ObjectAttr Builtin.Getset_descriptor
section
variable {prog : Program} {w : World} {A : Around} {E : Value → Shared → Prop} {K : Frag} {h : Heap} {g : Array GenState} {d : Drawn} {t : Nat} {os : OsState} {a C : Addr}
structure ExcK (K : Frag) (C : Addr) : Prop where
 ga : findIn K (.ref C) "__getattribute__" = some (some (.builtin "BaseException.__getattribute__"))
 gt : findIn K (.ref C) "__getattr__" = some none
 cl : findIn K (.ref C) "__class__" = some (some (.builtin "object.__class__"))
 mo : mroIn K C (.type "object") = some true
 mb : mroIn K C (.type "BaseException") = some true
 ic : (clsIn K C).isSome = true
def ExcAt (a : Addr) (cls : Value) (h : Heap) : Prop := ∃ o, h.get? a = some o ∧ o.cls = cls ∧ ∃ vs, o.data = .fields vs
theorem ExcAt.ty {cls : Value} (p : ExcAt a cls h) (M : Model) : Looks M h (typeOf (.ref a)) cls := by
 obtain ⟨o, h1, h2, _⟩ := p
 exact h2 ▸ (Looks.ld h1).andThen .now
theorem xc_get {tp : Value} {R : Result → Shared → Prop} (X : K.In h) (T : ExcK K C) (p : ExcAt a (.ref C) h) (hq : R (.ok (.ret (.ref C))) ⟨h, g, d, t, os⟩) :
  codeAny (model prog w) A (.call (.builtin "getset_descriptor.__get__") ⟨[.builtin "object.__class__", .ref a, tp], []⟩) R ⟨h, g, d, t, os⟩ := by
 have La := p.ty (model prog w)
 have Lb := looks_mroIn (M := model prog w) X T.mo
 refine codeAny_call_builtin KF.slot_gs.plain KF.entry_gs (KF.slot_gs.check _ _ _ _ _ _ _ _ KF.type_class (KF.args_gs _ _ _) ?_)
 unfold Builtin.«getset_descriptor.__get__» descrGet
 rw [dga_obj]
 refine wpAny_bind (wpAny_pure ?_)
 unfold descrGetter descrCheckInstance descrNameAndClass isInstance
 simp only [KF.owner_class]
 repeat lk
 refine ⟨Code.quiet_builtin _ (by decide +kernel), codeAny_builtin KF.entry_class ?_⟩
 unfold Builtin.«object.__class__» shownTypeOf
 repeat lk
 exact hq
theorem xc_entry {tk : Tok} {Q : Fin → Shared → Prop} (X : K.In h) (T : ExcK K C) (p : ExcAt a (.ref C) h) (hq : Q (.done (.ret (.ref C))) ⟨h, g, d, t, os⟩) :
  wpAny (model prog w) A (Builtin.«object.__getattribute__» ⟨[.ref a, .str "__class__" tk], []⟩) Q E ⟨h, g, d, t, os⟩ := by
 have La := p.ty (model prog w)
 have Lc := looks_findIn (M := model prog w) X T.cl
 have hT5 : (⟨h, g, d, t, os⟩ : Shared).TypeIs (.builtin "object.__class__") "getset_descriptor" := F.typeOf_object_class
 have e5 := F.typeOf_object_class
 have e6 := F.slot_gs_get.lookup
 have e7 := F.slot_gs_set.lookup
 repeat (any_goals (first | assumption | with_reducible refine Looks.at (by assumption) ?_ | wp_step))
 refine xc_get X T p ?_
 repeat (any_goals (first | assumption | wp_step))
theorem xc_check {M : Model} {nameV : Value} {Q : Unit → Shared → Prop} (X : K.In h) (T : ExcK K C) (p : ExcAt a (.ref C) h) (hq : Q () ⟨h, g, d, t, os⟩) :
  wpAny M A (checkBuiltinCall "BaseException.__getattribute__" ⟨[.ref a, nameV], []⟩) Q E ⟨h, g, d, t, os⟩ := by
 have hk : builtinKind "BaseException.__getattribute__" = some .slot := by decide +kernel
 have hsp : splitId "BaseException.__getattribute__" = some ("BaseException", "__getattribute__") := by decide +kernel
 have La := p.ty M
 have Lb := looks_mroIn (M := M) X T.mb
 have ha := F.args_bexc_ga (.ref a) nameV
 simp only [checkBuiltinCall, hk, hsp]
 refine wpAny_bind ?_
 unfold isInstance
 repeat (any_goals (first | assumption | with_reducible refine Looks.at (by assumption) ?_ | wp_step))
theorem xc_call {tk : Tok} {R : Result → Shared → Prop} (X : K.In h) (T : ExcK K C) (p : ExcAt a (.ref C) h) (hq : R (.ok (.ret (.ref C))) ⟨h, g, d, t, os⟩) :
  codeAny (model prog w) A (.call (.builtin "BaseException.__getattribute__") ⟨[.ref a, .str "__class__" tk], []⟩) R ⟨h, g, d, t, os⟩ :=
 codeAny_call_builtin F.attr_ValueError.ga.plain F.entry_bexc_ga (xc_check X T p (xc_entry X T p hq))
theorem xc_by {tk : Tok} {Q : Value → Shared → Prop} (X : K.In h) (T : ExcK K C) (p : ExcAt a (.ref C) h) (hq : Q (.ref C) ⟨h, g, d, t, os⟩) : wpAny (model prog w) A (getAttrBy (.ref a) (.str "__class__" tk) false) Q E ⟨h, g, d, t, os⟩ := by
 have La := p.ty (model prog w)
 have Lg := looks_findIn (M := model prog w) X T.ga
 have Lt := looks_findIn (M := model prog w) X T.gt
 have f3 := F.attr_ValueError.ga.bind (.ref a)
 have hx0 : (false && onTheHeap (Value.builtin "BaseException.__getattribute__")) = false := rfl
 have hx2 : (Value.builtin "BaseException.__getattribute__" == Value.builtin "object.__getattribute__") = false := by decide +kernel
 have hx1 : (onTheHeap (Value.ref C) && Value.builtin "BaseException.__getattribute__" == Value.builtin "object.__getattribute__") = false := by rw [hx2]; rfl
 repeat (any_goals (first | assumption | with_reducible refine Looks.at (by assumption) ?_ | wp_step))
 refine xc_call X T p ?_
 repeat (any_goals (first | assumption | wp_step))
theorem xc_attr {Q : Option Value → Shared → Prop} (X : K.In h) (T : ExcK K C) (p : ExcAt a (.ref C) h) (hq : Q (some (.ref C)) ⟨h, g, d, t + 1, os⟩) : wpAny (model prog w) A (getAttr? (.ref a) "__class__") Q E ⟨h, g, d, t, os⟩ := by
 unfold getAttr? getAttrBy?
 repeat (any_goals (first | assumption | with_reducible apply xc_by X T p | wp_step))
theorem kitx_exc (T : ExcK K C) : KitX K (.ref a) (.ref C) (ExcAt a (.ref C)) where
 ty := fun M _ _ p => p.ty M
 it := fun _ _ X _ => by
  have hs := T.ic
  unfold clsIn at hs
  split at hs
  ·rename_i ho
   intro A' Q' E' s' k q
   unfold isType loadHead
   exact wpAny_bind (wpAny_loadPart (k _ _ (X _ _ ho)) (wpAny_pure q))
  ·cases hs
 ne := fun h tp dd its n sl X htp => by
  refine Bool.eq_false_iff.mpr fun q => ?_
  have e : C = tp := Value.ref.inj (beq_iff_eq.mp q)
  have hs := T.ic
  unfold clsIn at hs
  split at hs
  ·rename_i ho
   have z := X _ _ ho
   rw [e, htp] at z
   cases z
  ·cases hs
 ca := fun {_ _ _ _ _ s} X p k => by
  obtain ⟨hh, gg, dd, tt, oo⟩ := s
  exact xc_attr X T p k
end
end PySem.W

namespace L2
open PySem PySem.Spec PyProof.Rows
structure Flown (P : Program) (w : World) (outer : List Env) (H : Hp) (s : Shared) (ea : Addr) (cls : Value) (H' : Hp) (B : Heap) (a0 : Value) (s' : Shared) : Prop where
 os : s'.os = s.os
 bare : AllBare s'.gens
 un : Un (frs outer) [] H H' s.heap s'.heap
 hok : HOk P w H' s'.heap
 fly : Heap.FlyingW B outer ea cls a0 s'.heap
 inB : ∀ b o, s'.heap.get? b = some o → (H' b ≠ none ∨ ((∃ u, s.heap.get? b = some u) ∧ b ∉ frs outer)) → B.get? b = some o
 new : s.heap.get? ea = none
 nt : H' ea = none
def CXr (P : Program) (w : World) : CXT := fun outer H s E e s' =>
 ∃ (ea : Addr) (cls : Value) (H' : Hp) (B : Heap) (a0 : Value), e = .ref ea ∧ Flown P w outer H s ea cls H' B a0 s' ∧ E cls none H'
theorem hok_keep {P : Program} {w : World} {H : Hp} {h h' : Heap} (ok : HOk P w H h) (k : ∀ b o, H b ≠ none → h.get? b = some o → h'.get? b = some o) : HOk P w H h' := fun a o e =>
 (ok a o e).stay (fun b u hb q => k b u (by
  rcases hb with z | z
  ·rw [z, e]; exact fun q => nomatch q
  ·rw [z]; exact fun q => nomatch q) q) (fun _ q => q) fun _ _ q => q
theorem objOk_there {P : Program} {w : World} {H : Hp} {h : Heap} {a : Addr} {o : HO} (x : ObjOk P w H h a o) : ∃ ob, h.get? a = some ob := by
 cases o with
 | lst xs => obtain ⟨_, _, _, _, e⟩ := x; exact ⟨_, e⟩
 | tup xs => obtain ⟨_, _, _, ob, e, _⟩ := x; exact ⟨_, e⟩
 | dK kvs => obtain ⟨_, _, _, _, o, _, _, e, _⟩ := x; exact ⟨_, e⟩
 | dT kvs => obtain ⟨_, _, _, _, o, _, _, e, _⟩ := x; exact ⟨_, e⟩
 | set S n => obtain ⟨o, _, _, _, e, _⟩ := x; exact ⟨_, e⟩
 | ins C dx fs => obtain ⟨_, _, _, e, _⟩ := x; exact ⟨_, e⟩
 | own y => exact x
 | xd fs => obtain ⟨_, ⟨_, _, _, e, _⟩, _⟩ := x; exact ⟨_, e⟩
 | rng lo hi => obtain ⟨_, _, _, e⟩ := x; exact ⟨_, e⟩
 | frz ob u => obtain ⟨e, _⟩ := x; exact ⟨_, e⟩
 | tbl ps => exact ⟨_, (show h.get? a = some _ from x)⟩
 | met f y => exact ⟨_, (show h.get? a = some _ from x)⟩
 | ext φ => obtain ⟨_, e, _⟩ := x; exact e
theorem HOk.there {P : Program} {w : World} {H : Hp} {h : Heap} {a : Addr} (x : HOk P w H h) (n : H a ≠ none) : ∃ ob, h.get? a = some ob := by
 cases q : H a with
 | none => exact absurd q n
 | some u => exact objOk_there (x a u q)
section
variable {P : Program} {w : World} {K : PySem.W.Frag} {mg : Str → Option Value} {base : Heap} {N : List Str} {qual : Str} {scope : Scope} {f : Addr} {cd : Value} {A : Around} {outer : List Env} {s : Shared} {H : Hp} {E : XK}
theorem frs_cons {env : Env} {l : List Env} {L : Addr} (h : env.frame = some L) : frs (env :: l) = L :: frs l := by
 unfold frs
 rw [List.filterMap_cons, h]
theorem flown_mk {X : Cx} {pins : List (Addr × Obj)} {σ : St} {H1 H' : Hp} {s1 : Shared} {B h'' : Heap} {ea : Addr} {cls a0 : Value} {g' : Array GenState} {d' : Drawn} {t' : Nat} {os' : OsState}
  (I : Inv X pins σ H1 s1) (hx : X.ex = []) (hs : X.env.locals ∉ frs X.outer)
  (ho : os' = X.s₀.os) (hg : AllBare g')
  (fly : Heap.FlyingW B X.outer ea cls a0 h'')
  (kp : ∀ b o, s1.heap.get? b = some o → H1 b = none → b ∉ frs X.outer → b ≠ X.env.locals → B.get? b = some o)
  (sl : ∀ b o, s1.heap.get? b = some o → b ∈ frs X.outer → ∃ sl, h''.get? b = some { o with slots := sl })
  (fr : ∀ b o, s1.heap.get? b = some o → H1 b = none → H' b = none)
  (tups : ∀ b xs, H1 b = some (.tup xs) → H' b = some (.tup xs)) (frzs : ∀ b o u, H1 b = some (.frz o u) → H' b = some (.frz o u)) (tbls : ∀ b ps, H1 b = some (.tbl ps) → ∃ more, H' b = some (.tbl (ps ++ more)))
  (hok : HOk X.prog X.w H' h'') (inH : ∀ b o, h''.get? b = some o → H' b ≠ none → B.get? b = some o)
  (th : ∀ b o, s1.heap.get? b = some o → H1 b ≠ none → ∃ o', h''.get? b = some o')
  (inB : ∀ b o, s1.heap.get? b = some o → b ∉ frs X.outer → b ≠ X.env.locals → ∃ o', B.get? b = some o')
  (new : s1.heap.get? ea = none) (nt : H' ea = none) :
  Flown X.prog X.w X.outer X.H₀ X.s₀ ea cls H' B a0 ⟨h'', g', d', t', os'⟩ := by
 have hxn : ∀ b : Addr, b ∉ X.ex := fun b z => by rw [hx] at z; cases z
 have neL : ∀ b o, X.s₀.heap.get? b = some o → b ≠ X.env.locals := fun b o e => Nat.ne_of_lt (Nat.lt_of_lt_of_le (Heap.lt_size e) I.ok.above)
 have st := fly.1
 refine ⟨ho, hg, ⟨fun b o e n hb _ => ?_, fun b o e n hb _ => ?_, fun b o e n _ => ?_, fun b o e _ => ?_, fun b xs e => tups b xs (I.base.tups b xs e), fun b o u e => frzs b o u (I.base.frzs b o u e), fun b ps e => ?_⟩, hok, fly, fun b o e hb => ?_, ?_, nt⟩
 ·exact st b o (kp b o (I.base.keep b o e n hb (hxn b)) (I.base.free b o e n (hxn b)) hb (neL b o e))
 ·obtain ⟨l1, e1⟩ := I.base.slot b o e n hb (hxn b)
  obtain ⟨l2, e2⟩ := sl b _ e1 hb
  exact ⟨l2, e2⟩
 ·obtain ⟨o1, e1⟩ := I.base.there b o e (hxn b)
  exact fr b o1 e1 (I.base.free b o e n (hxn b))
 ·obtain ⟨o1, e1⟩ := I.base.there b o e (hxn b)
  by_cases hb : b ∈ frs X.outer
  ·obtain ⟨l2, e2⟩ := sl b o1 e1 hb
   exact ⟨_, e2⟩
  ·obtain ⟨o2, e2⟩ := inB b o1 e1 hb (neL b o e)
   exact ⟨o2, st b o2 e2⟩
 ·obtain ⟨m1, e1⟩ := I.base.tbls b ps e
  obtain ⟨m2, e2⟩ := tbls b _ e1
  exact ⟨m1 ++ m2, by rw [e2, Array.append_assoc]⟩
 ·rcases hb with hb | ⟨⟨u, hu⟩, hb⟩
  ·exact inH b o e hb
  ·obtain ⟨o1, e1⟩ := I.base.there b u hu (hxn b)
   obtain ⟨o2, e2⟩ := inB b o1 e1 hb (neL b u hu)
   have e3 := st b o2 e2
   have e4 : h''.get? b = some o := e
   rw [e3] at e4
   cases e4
   exact e2
 ·cases q : X.s₀.heap.get? ea with
  | none => rfl
  | some o =>
   obtain ⟨o', e'⟩ := I.base.there ea o q (hxn ea)
   rw [new] at e'
   cases e'
theorem passR : Passes (CXr P w) (cxOf (CXr P w) P w K mg base N qual scope f cd A outer s H E) E := by
 intro pins σ H1 s1 e s1' I h
 obtain ⟨ea, cls, H', B, a0, rfl, F, want⟩ := h
 have hfr : (cxOf (CXr P w) P w K mg base N qual scope f cd A outer s H E).A.frames = some (envOfC qual scope s.heap.objs.size f cd :: outer) := I.ok.frames
 have hstk : frs (cxOf (CXr P w) P w K mg base N qual scope f cd A outer s H E).stack = s.heap.objs.size :: frs outer := frs_cons rfl
 have hLo : s.heap.objs.size ∉ frs outer := fun z => by
  obtain ⟨_, o, ho, _⟩ := I.ok.funs.mem z
  exact absurd (Heap.lt_size ho) (Nat.lt_irrefl _)
 have nst : ∀ {b : Addr}, b ∉ frs outer → b ≠ s.heap.objs.size → b ∉ frs (cxOf (CXr P w) P w K mg base N qual scope f cd A outer s H E).stack := fun h1 h2 z => by
  rw [hstk] at z
  rcases List.mem_cons.mp z with z | z
  ·exact h2 z
  ·exact h1 z
 show wpAny (model P w) _ (leaving _ (.ref ea)) _ _ s1'
 refine wpAny_leaves_onW hfr rfl F.fly fun h'' fl' up => ?_
 have inB' : ∀ b o, s1'.heap.get? b = some o → H' b ≠ none → h''.get? b = some o := fun b o e n => fl'.1 b o (F.inB b o e (.inl n))
 refine ⟨ea, cls, H', B, a0, rfl, flown_mk (X := cxOf (CXr P w) P w K mg base N qual scope f cd A outer s H E) I rfl hLo (F.os.trans I.os) F.bare fl' (fun b o e n hb hL => ?_) (fun b o e hb => ?_) (fun b o e n => F.un.free b o e n (by simp)) F.un.tups F.un.frzs F.un.tbls
  (hok_keep F.hok fun b o n e => inB' b o e n) (fun b o e n => ?_) (fun b o e n => ?_) (fun b o e hb hL => ?_) F.new F.nt, want⟩
 ·exact F.inB b o (F.un.keep b o e n (nst hb hL) (by simp)) (.inr ⟨⟨o, e⟩, nst hb hL⟩)
 ·have hb' : b ∈ frs outer := hb
  have n : H1 b = none := by
   have := I.stkFree b (by rw [hstk]; exact List.mem_cons_of_mem _ hb')
   exact this
  obtain ⟨l1, e1⟩ := F.un.slot b o e n (by rw [hstk]; exact List.mem_cons_of_mem _ hb') (by simp)
  obtain ⟨_, o', ho', hd'⟩ := F.fly.2.2.1.mem (b := b) (by
   have : b ∈ frs (cxOf (CXr P w) P w K mg base N qual scope f cd A outer s H E).stack := by rw [hstk]; exact List.mem_cons_of_mem _ hb'
   exact this)
  rw [e1] at ho'
  cases ho'
  obtain ⟨l2, e2⟩ := up b _ e1 hd'
  exact ⟨l2, e2⟩
 ·obtain ⟨o1, e1⟩ := F.hok.there n
  have e2 := F.inB b o1 e1 (.inl n)
  have e3 := fl'.1 b o1 e2
  rw [e] at e3
  cases e3
  exact e2
 ·obtain ⟨o1, e1⟩ := F.un.there b o e (by simp)
  by_cases hb : b ∈ frs outer
  ·have hz : H1 b = none := I.stkFree b (by rw [hstk]; exact List.mem_cons_of_mem _ hb)
   exact absurd hz n
  ·by_cases hL : b = s.heap.objs.size
   ·have hz : H1 b = none := I.stkFree b (by rw [hstk, hL]; exact List.mem_cons_self)
    exact absurd hz n
   ·exact ⟨o1, fl'.1 b o1 (F.inB b o1 e1 (.inr ⟨⟨o, e⟩, nst hb hL⟩))⟩
 ·obtain ⟨o1, e1⟩ := F.un.there b o e (by simp)
  exact ⟨o1, F.inB b o1 e1 (.inr ⟨⟨o, e⟩, nst hb hL⟩)⟩
def Raises (X : Cx) (E : XK) : Prop := ∀ (pins : List (Addr × Obj)) (σ : St) (H : Hp) (s : Shared) (C : Addr) (h' : Heap) (e : Addr) (vs : List Value), Inv X pins σ H s → Heap.MadeExcOf s.heap h' e (.ref C) vs → E (.ref C) none H → X.xe (.ref e) { s with heap := h' }
theorem raisesR : Raises (cxOf (CXr P w) P w K mg base N qual scope f cd A outer s H E) E := by
 intro pins σ H1 s1 C h' e vs I hx want
 have hstk : frs (cxOf (CXr P w) P w K mg base N qual scope f cd A outer s H E).stack = s.heap.objs.size :: frs outer := frs_cons rfl
 have hfr : (cxOf (CXr P w) P w K mg base N qual scope f cd A outer s H E).A.frames = some (envOfC qual scope s.heap.objs.size f cd :: outer) := I.ok.frames
 have hLo : s.heap.objs.size ∉ frs outer := fun z => by
  obtain ⟨_, o, ho, _⟩ := I.ok.funs.mem z
  exact absurd (Heap.lt_size ho) (Nat.lt_irrefl _)
 have st : s1.heap.FunFrames base (envOfC qual scope s.heap.objs.size f cd :: outer) := I.stack
 have fin : s1.heap.FunFrames (PySem.W.hideAll s1.heap (s.heap.objs.size :: frs outer)) (envOfC qual scope s.heap.objs.size f cd :: outer) :=
  PySem.W.funFrames_hide st fun env he a ha => by
   rw [← hstk]
   exact List.mem_filterMap.mpr ⟨env, he, ha⟩
 have nfr : ∀ {b : Addr}, H1 b ≠ none → b ∉ s.heap.objs.size :: frs outer := fun n z => n (I.stkFree _ (by rw [hstk]; exact z))
 have nin : ∀ {b : Addr}, b ∉ frs outer → b ≠ s.heap.objs.size → b ∉ s.heap.objs.size :: frs outer := fun h1 h2 z => (List.mem_cons.mp z).elim h2 h1
 show wpAny (model P w) _ (leaving _ (.ref e)) _ _ { s1 with heap := h' }
 refine wpAny_leaves_madeW (base := PySem.W.hideAll s1.heap (s.heap.objs.size :: frs outer)) (h := s1.heap) hfr rfl (fun b o q => PySem.W.of_hideAll _ q) fin hx fun h'' t fl _ _ up => ?_
 refine ⟨e, .ref C, H1, _, .ref t, rfl, flown_mk (X := cxOf (CXr P w) P w K mg base N qual scope f cd A outer s H E) I rfl hLo I.os I.bare fl (fun b o q n hb hL => PySem.W.hideAll_get _ q (nin hb hL)) (fun b o q hb => ?_) (fun _ _ _ n => n) (fun _ _ q => q) (fun _ _ _ q => q)
  (fun b ps q => ⟨#[], by rw [q]; simp⟩) (hok_keep I.hok fun b o n q => fl.1 b o (PySem.W.hideAll_get _ q (nfr n))) (fun b o q n => ?_) (fun b o q n => ⟨o, fl.1 b o (PySem.W.hideAll_get _ q (nfr n))⟩) (fun b o q hb hL => ⟨o, PySem.W.hideAll_get _ q (nin hb hL)⟩) hx.new ?_, want⟩
 ·obtain ⟨_, o', ho', hd'⟩ := st.mem (b := b) (by
   have : b ∈ frs (envOfC qual scope s.heap.objs.size f cd :: outer) := by
    rw [frs_cons rfl]
    exact List.mem_cons_of_mem _ hb
   exact this)
  rw [q] at ho'
  cases ho'
  exact up b o (hx.keeps b o q) hd'
 ·obtain ⟨o1, e1⟩ := I.hok.there n
  have e2 := PySem.W.hideAll_get _ e1 (nfr n)
  have e3 := fl.1 b o1 e2
  rw [q] at e3
  cases e3
  exact e2
 ·cases q : H1 e with
  | none => rfl
  | some u =>
   obtain ⟨ob, eo⟩ := objOk_there (I.hok e u q)
   rw [hx.new] at eo
   cases eo
end
section
variable {X : Cx} {E : XK}
def tRaise (C : Addr) (E : XK) (t : TA) : TS := fun _ σ H => t σ H fun vs H1 => vs.length ≤ sizeLine ∧ E (.ref C) none H1
theorem ps_raise {x : Str} {e₀ : Expr} {rest : List Expr} {t : TA} {C : Addr} {bm : List Value} {B newId initId : String} {np cpos pos : Pos} (hx : Raises X E) (hc : X.calm = true) (hg : Gl X x) (O : OwnCls x C bm newId X.mg X.base)
  (FB : ExcBaseFacts B newId initId bm) (ha : PA X (e₀ :: rest) t) (hdb : (x == ("__debug__" : Str)) = false := by decide)
  (he : starEach (e₀ :: rest) X.env = (false, eval e₀ X.env) :: starEach rest X.env := by rfl) (hpl : (backTo cpos (starEach rest X.env)).any (·.1) = false := by rfl) :
  PS X (.Raise (some (.Call (.Name x np) (e₀ :: rest) [] cpos)) none pos) (tRaise C E t) := by
 intro pins s σ H D I h
 obtain ⟨tl, NN, nm, qn, bs, hdc, sn, sb, ab, cl, dd, z0, z1, z2, z3, z5, mN, hC, hN, hni, T⟩ := O.obj
 have hp : (backTo cpos (starEach (e₀ :: rest) X.env)).any (·.1) = false := by
  rw [he]
  show (false || (backTo cpos (starEach rest X.env)).any (·.1)) = false
  rw [hpl]
  all_goals rfl
 have h2 := ha cpos pins s σ H _ I h
 refine wpAny_Raise_call_subT (bm := tl) (N := NN) (nm := nm) (q := qn) (bs := bs) (hdct := hdc) (sn := sn) (sub := sb) (ab := ab) (col := cl) (dd := dd) (k0 := z0) (k1 := z1) (k2 := z2) (k3 := z3) (k5 := z5) FB (T.hasType FB.hasBase) (I.ok.hd hc) hp hni
  (ld_glob I hg O.bound ⟨rfl, ?_⟩ hdb)
 rw [he] at h2 ⊢
 refine Calls.evalArgs_plain (thn h2 fun us s2 ⟨vs, H1, I1, r, z, w'⟩ => ?_)
 exact ⟨rfl, by rw [← r.length]; exact z, I1.bk _ _ hC, hN.keeps I1.bk, T.keeps I1.bk, fun h' e hm => hx pins σ H1 s2 C h' e us I1 hm w'⟩
end
def PassesS (CX : CXT) (X : Cx) (E : St → XK) : Prop := ∀ (pins : List (Addr × Obj)) (σ : St) (H : Hp) (s : Shared) (e : Value) (s' : Shared), Inv X pins σ H s → CX X.stack H s (E σ) e s' → X.xe e s'
def tCallS (sp : Sp) (E : St → XK) (t : TA) : TE := fun σ H Q => t σ H fun vs H1 => sp vs H1 Q (E σ)
section
variable {X : Cx} {CX : CXT} {k : Nat} {f : Addr} {fd : FuncData} {ps : List Str} {sp : Sp} {E : St → XK} {x : Str} {p pos : Pos} {e : Expr} {es : List Expr} {t : TA}
theorem pe_callS (F : FnOk X.prog X.w X.K X.mg X.base CX k f fd ps sp) (hr : Room k X.A) (hg : Gl X x) (hm : X.mg x = some (.ref f)) (hk : PySem.W.keepIn X.K (.ref f) = true) (hb : Binds X.K fd ps []) (hx : PassesS CX X E)
  (ha : PA X (e :: es) t) (hdb : (x == ("__debug__" : Str)) = false := by decide) (he : starEach (e :: es) X.env = (false, eval e X.env) :: starEach es X.env := by rfl) (hpl : (backTo pos (starEach es X.env)).any (·.1) = false := by rfl) :
  PE X (.Call (.Name x p) (e :: es) [] pos) (tCallS sp E t) := by
 intro pins s σ H Q I h
 refine wpAny_Call_Name_kw (ld_glob I hg hm ?_ hdb)
 refine PySem.W.callWith_K (h₀ := X.base) I.ok.mod.kin hk (thn (ha pos pins s σ H _ I h) fun us s1 ⟨vs, H1, I1, r, q⟩ => ⟨I1.kIn, ?_⟩) he hpl
 have hl : us.length = ps.length := by rw [← r.length]; exact F.len _ _ _ _ q
 have hb' := hb s1 us I1.kIn (by rw [List.append_nil]; exact hl)
 rw [List.append_nil] at hb'
 refine wpAny_call (codeAny_mono (F.run X.A X.stack s1 H1 ⟨us, []⟩ us vs Q (E σ) hr I1.env0 hb' r q) fun rr s' hq => ?_)
 cases rr with
 | error e' => exact hx pins σ H1 s1 e' s' I1 hq
 | ok fl =>
  cases fl with
  | ret u => exact I1.after hq
  | next => exact False.elim hq
  | brk => exact False.elim hq
  | cont => exact False.elim hq
end
section
variable {X : Cx} {k : Nat} {f : Addr} {fd : FuncData} {ps : List Str} {sp : Sp} {x : Str} {p pos : Pos} {e : Expr} {es : List Expr} {t : TA}
end
def excO (e : Addr) (cls : Value) : HO := .ext fun h => ∃ o, h.get? e = some o ∧ o.cls = cls ∧ ∃ vs, o.data = .fields vs
abbrev blockCx (X : Cx) (scope : Scope) (cl : List (Str × Addr)) (C : Addr) (N : List Str) (s₀ : Shared) (H₀ : Hp) (ex : List Addr) (pn : List (Addr × Obj)) : Cx :=
 { X with env := compEnvC scope cl C X.env, N := N, s₀ := s₀, H₀ := H₀, outer := X.stack, stack := X.stack, ex := ex, fn := fun _ => false, pn := pn, xe := fun _ _ => False }
structure ClOk (X : Cx) (scope : Scope) (cl : List (Str × Addr)) : Prop where
 clos : closureFor scope X.env = pure cl
 sub : ∀ y c, cl.lookup y = some c → X.env.cells.lookup y = some c
 has : ∀ y, (relabel scope X.env).names.lookup y = some .cell ∨ (relabel scope X.env).names.lookup y = some .free → ∃ c, cl.lookup y = some c
def caps (js : List Nat) (σ : St) : St := js.map fun j => (σ[j]?).getD none
structure CapOk (X : Cx) (scope : Scope) (cl : List (Str × Addr)) (ys : List Str) (js : List Nat) : Prop where
 len : ys.length = js.length
 at_ : ∀ (i : Nat) (y : Str) (j : Nat), ys[i]? = some y → js[i]? = some j → X.N[j]? = some y ∧ (X.env.kindOf y = some .cell ∨ X.env.kindOf y = some .free) ∧ ((relabel scope X.env).names.lookup y = some .cell ∨ (relabel scope X.env).names.lookup y = some .free) ∧ (X.env.cells.lookup y).isSome = true ∧ cl.lookup y = X.env.cells.lookup y
section
variable {X : Cx}
end
def Sz (n : Nat) (x : Int) : Prop := x.natAbs < 2 ^ n
theorem Sz.mono {m n : Nat} {x : Int} (h : Sz m x) (l : m ≤ n) : Sz n x := Nat.lt_of_lt_of_le h (Nat.pow_le_pow_right (by decide) l)
theorem Sz.mul {m n : Nat} {x y : Int} (hx : Sz m x) (hy : Sz n y) : Sz (m + n) (x * y) := by
 unfold Sz at *
 rw [Int.natAbs_mul, Nat.pow_add]
 exact Nat.mul_lt_mul'' hx hy
theorem Sz.add {n : Nat} {x y : Int} (hx : Sz n x) (hy : Sz n y) : Sz (n + 1) (x + y) := by
 unfold Sz at *
 have := Int.natAbs_add_le x y
 rw [Nat.pow_succ]
 omega
theorem Sz.neg {n : Nat} {x : Int} (hx : Sz n x) : Sz n (-x) := by
 unfold Sz at *
 rw [Int.natAbs_neg]
 exact hx
theorem Sz.sub {n : Nat} {x y : Int} (hx : Sz n x) (hy : Sz n y) : Sz (n + 1) (x - y) := by
 have := Sz.add hx hy.neg
 rwa [Int.sub_eq_add_neg]
theorem Sz.le {n : Nat} {x y : Int} (hy : Sz n y) (h : x.natAbs ≤ y.natAbs) : Sz n x := Nat.lt_of_le_of_lt h hy
def CMulW (i j : Int) : Prop := Sz 60000 i ∧ Sz 60000 j
theorem CMulW.ok {i j : Int} (h : CMulW i j) : IntMulOk i j := .of_le (intBits_le_iff.mpr h.1) (intBits_le_iff.mpr h.2) (by decide)
def CDivW (i j : Int) : Prop := j ≠ 0 ∧ Sz 8000 j
section
variable {X : Cx}
theorem op_mulW : OpR X (binaryOp .Mult) (rI CMulW fun i j => .int (i * j)) := opI fun _ _ _ _ _ _ _ hc q => mul_int q hc.ok
theorem log2_small {n : Nat} (h : n < 2 ^ 8000) : n.log2 < 9000 := by
 by_cases z : n = 0
 ·rw [z]; decide
 ·have : n.log2 < 8000 := (Nat.log2_lt z).mpr h
  omega
theorem op_fdivW : OpR X (binaryOp .FloorDiv) (rI CDivW fun i j => .int (i.fdiv j)) := opI fun _ _ _ _ _ _ _ hc q => floordiv_int hc.1 q (.inl (PyProof.noPylong_of_log2 (log2_small hc.2)))
inductive TyX (K : PySem.W.Frag) (H : Hp) : V → Value → Prop where
 | plain {x : V} {t : Value} (h : TyOf K H x t) : TyX K H x t
 | exc {a C : Addr} (e : H a = some (excO a (.ref C))) (T : PySem.W.ExcK K C) : TyX K H (.ref a) (.ref C)
theorem RelV.tyOrRef {y : V} {c u : Value} (h : (∃ n, y = .ty n) ∨ ∃ a, y = .ref a) (r : RelV y c) (r' : RelV y u) : u = c := by
 rcases h with ⟨n, rfl⟩ | ⟨n, rfl⟩
 ·cases r; cases r'; rfl
 ·cases r; cases r'; rfl
def rIsiC (K : PySem.W.Frag) : List V → Hp → VK → Prop := fun xs H Q => ∃ x y t c b, xs = [x, y] ∧ ((∃ n, y = .ty n) ∨ ∃ a, y = .ref a) ∧ TyX K H x t ∧ RelV y c ∧ PySem.W.kitOne K t c = some b ∧ Q (.bl b) H
theorem call_isi : CallR X (.builtin "isinstance") (rIsiC X.K) := by
 intro pins s σ H xs us Q I r h
 obtain ⟨x, y, t, c, b, rfl, hy, ty, rc, e, q⟩ := h
 obtain ⟨u, w', rfl, r1, r2⟩ := vals2 r
 have ec := RelV.tyOrRef hy rc r2
 subst ec
 cases ty with
 | plain ty => exact isinst_ok I r1 ty e fun tk => ⟨.bl b, H, I.tok _, rfl, q⟩
 | @exc a C ea T =>
  cases (show u = Value.ref a from r1)
  obtain ⟨p, _, _⟩ := (show ObjOk X.prog X.w H s.heap a (excO a (.ref C)) from I.hok a _ ea)
  exact PySem.W.kia_one (PySem.W.kitx_exc T) I.kIn p e (fun z => nomatch z) fun tk => ⟨.bl b, H, I.tok _, rfl, q⟩
end
def tIsi (K : PySem.W.Frag) (te : TE) (v : V) : TE := fun σ H Q => te σ H fun x H1 => rIsiC K [x, v] H1 Q
theorem pe_isi {X : Cx} {e c : Expr} {te : TE} {v : V} {p pos : Pos} (hg : Gl X "isinstance") (hm : X.mg "isinstance" = none) (he : PE X e te) (hc : PE X c (tC v)) (h1 : starEach [e, c] X.env = (false, eval e X.env) :: starEach [c] X.env := by rfl)
  (h2 : (backTo pos (starEach [c] X.env)).any (·.1) = false := by rfl) (h3 : starEach [c] X.env = (false, eval c X.env) :: starEach [] X.env := by rfl) : PE X (.Call (.Name "isinstance" p) [e, c] [] pos) (tIsi X.K te v) := fun pins s σ H Q I h =>
 pe_callB call_isi hg hm (by decide +kernel) (pa_cons he (pa_cons hc pa_nil h3) h1) (by decide) (by decide) h1 h2 pins s σ H Q I h
theorem Fun.okX {P : Program} {w : World} {K : PySem.W.Frag} {mg : Str → Option Value} {base : Heap} {x qual : Str} {st : Stmt} {f : Addr} {fd : FuncData} {N ps : List Str} {k : Nat} {sp : Sp} (F : Fun K x qual st f fd) (S : FnScope N ps (defScope st)) (len : ∀ vs H Q E, sp vs H Q E → vs.length = ps.length)
  (hbody : ∀ (cdv : Value) (A : Around) (outer : List Env) (s : Shared) (H : Hp) (vs : List V) (Q : VK) (E : XK), Room k (A.deeper (envOfC qual (defScope st) s.heap.objs.size f cdv)) → sp vs H Q E →
   ∃ t, PSs (cxOf (CXr P w) P w K mg base N qual (defScope st) f cdv A outer s H E) (defBody st) t ∧ t { nx := fun _ H' => Q .non H', rt := Q } (start N vs) H) : FnOk P w K mg base (CXr P w) (k + 1) f fd ps sp := by
 obtain ⟨oc, od, kV, doc, pm, an, cdv, ct, osl, rfl, lk, hcd⟩ := F.ex
 exact fn_of lk hcd S len fun A outer s H vs Q E hr hsp => hbody cdv A outer s H vs Q E hr hsp
theorem Same.upd {H H' : Hp} {p : Addr} (h : Same H H') (hp : H' p = none) (o : HO) : Same H (upd H' p o) := fun b u q => by
 have := h b u q
 rw [upd_ne (ne_of_none this hp)]
 exact this
end L2

namespace FR
theorem gcd_turn {a b : Int} (ha : 0 ≤ a) (hb : 0 ≤ b) : Int.gcd b (a % b) = Int.gcd a b := by
 obtain ⟨m, rfl⟩ := Int.eq_ofNat_of_zero_le ha
 obtain ⟨n, rfl⟩ := Int.eq_ofNat_of_zero_le hb
 rw [← Int.natCast_emod, Int.gcd_natCast_natCast, Int.gcd_natCast_natCast, Nat.gcd_comm n, ← Nat.gcd_rec, Nat.gcd_comm]
theorem gcd_abs (a b : Int) : Int.gcd (if a < 0 then -a else a) (if b < 0 then -b else b) = Int.gcd a b := by
 split <;> split <;> simp [Int.gcd_neg, Int.neg_gcd]
theorem gcd_end {a : Int} (ha : 0 ≤ a) : ((Int.gcd a 0 : Nat) : Int) = a := by
 rw [Int.gcd_zero_right]
 omega
def sgn (b : Int) (g : Int) : Int := if b < 0 then -g else g
def mk (t b : Int) : Int × Int := (t.fdiv (sgn b (Int.gcd t b)), b.fdiv (sgn b (Int.gcd t b)))
theorem gcd_pos {t b : Int} (hb : b ≠ 0) : 0 < Int.gcd t b := Int.gcd_pos_of_ne_zero_right t hb
theorem parts (t b : Int) (hb : b ≠ 0) : ∃ t' b' : Int, t = (Int.gcd t b : Int) * t' ∧ b = (Int.gcd t b : Int) * b' ∧ Int.gcd t' b' = 1 := by
 obtain ⟨t', ht⟩ := Int.gcd_dvd_left t b
 obtain ⟨b', hb'⟩ := Int.gcd_dvd_right t b
 refine ⟨t', b', ht, hb', ?_⟩
 have g0 := gcd_pos (t := t) hb
 have e : Int.gcd t b = Int.gcd t b * Int.gcd t' b' := by
  have h : Int.gcd ((Int.gcd t b : Int) * t') ((Int.gcd t b : Int) * b') = (Int.gcd t b : Int).natAbs * Int.gcd t' b' := Int.gcd_mul_left ..
  rw [← ht, ← hb'] at h
  simpa using h
 have e2 : Int.gcd t b * 1 = Int.gcd t b * Int.gcd t' b' := by omega
 exact (Nat.eq_of_mul_eq_mul_left g0 e2).symm
theorem mk_parts {t b g t' b' : Int} (g0 : 0 < g) (ht : t = g * t') (hb : b = g * b') : (t.fdiv (sgn b g) = (if b < 0 then -t' else t')) ∧ (b.fdiv (sgn b g) = if b < 0 then -b' else b') := by
 unfold sgn
 by_cases h : b < 0
 ·rw [if_pos h, if_pos h, if_pos h]
  have e1 : t = (-g) * (-t') := by rw [ht, Int.neg_mul_neg]
  have e2 : b = (-g) * (-b') := by rw [hb, Int.neg_mul_neg]
  constructor
  ·conv => lhs; rw [e1]
   exact Int.mul_fdiv_cancel_left _ (by omega)
  ·conv => lhs; rw [e2]
   exact Int.mul_fdiv_cancel_left _ (by omega)
 ·rw [if_neg h, if_neg h, if_neg h]
  constructor
  ·conv => lhs; rw [ht]
   exact Int.mul_fdiv_cancel_left _ (by omega)
  ·conv => lhs; rw [hb]
   exact Int.mul_fdiv_cancel_left _ (by omega)
structure Fr (f : Int × Int) : Prop where
 pos : 1 ≤ f.2
 low : Int.gcd f.1 f.2 = 1
theorem mk_fr {t b : Int} (hb : b ≠ 0) : Fr (mk t b) ∧ (mk t b).1 * b = t * (mk t b).2 := by
 obtain ⟨t', b', e1, e2, e3⟩ := parts t b hb
 have g0 : (0 : Int) < (Int.gcd t b : Int) := by have := gcd_pos (t := t) hb; omega
 obtain ⟨p1, p2⟩ := mk_parts g0 e1 e2
 have q1 : (mk t b).1 = if b < 0 then -t' else t' := p1
 have q2 : (mk t b).2 = if b < 0 then -b' else b' := p2
 have hs : b < 0 ↔ b' < 0 := by
  constructor
  ·intro h
   rcases Int.lt_or_le b' 0 with z | z
   ·exact z
   ·have := Int.mul_nonneg (Int.le_of_lt g0) z
    omega
  ·intro h
   have := Int.mul_neg_of_pos_of_neg g0 h
   omega
 have hb' : b' ≠ 0 := by
  rintro rfl
  rw [Int.mul_zero] at e2
  exact hb e2
 refine ⟨⟨?_, ?_⟩, ?_⟩
 ·rw [q2]
  split
  ·rename_i h
   have := hs.mp h
   omega
  ·rename_i h
   have : ¬ b' < 0 := fun z => h (hs.mpr z)
   omega
 ·rw [q1, q2]
  split
  ·rw [Int.gcd_neg, Int.neg_gcd, e3]
  ·exact e3
 ·rw [q1, q2]
  generalize hg : (Int.gcd t b : Int) = g at *
  rw [e1, e2]
  split
  ·rw [Int.neg_mul, Int.mul_neg, Int.mul_left_comm, Int.mul_assoc]
  ·rw [Int.mul_left_comm, Int.mul_assoc]
end FR

namespace L2
open PySem PySem.Spec PyProof.Rows
section
variable {X : Cx}
end
open PySem.W (Dat kqdP kqdPs kqdOk kqd_lay kqd_eqv)
mutual
inductive HasD (H : Hp) : V → Dat → Prop
 | int (i : Int) : HasD H (.int i) (.int i)
 | tup {a : Addr} {xs : List V} {ds : List Dat} : H a = some (.tup xs) → HasDs H xs ds → HasD H (.ref a) (.tuple ds)
 | lst {a : Addr} {xs : List V} {ds : List Dat} : H a = some (.lst xs) → HasDs H xs ds → HasD H (.ref a) (.list ds)
inductive HasDs (H : Hp) : List V → List Dat → Prop
 | nil : HasDs H [] []
 | cons {x : V} {xs : List V} {d : Dat} {ds : List Dat} : HasD H x d → HasDs H xs ds → HasDs H (x :: xs) (d :: ds)
end
mutual
theorem HasD.keep {H H' : Hp} (k : ∀ a o, H a = some o → H' a = some o) : ∀ {v : V} {d : Dat}, HasD H v d → HasD H' v d
 | _, _, .int i => .int i
 | _, _, .tup h r => .tup (k _ _ h) (HasDs.keep k r)
 | _, _, .lst h r => .lst (k _ _ h) (HasDs.keep k r)
theorem HasDs.keep {H H' : Hp} (k : ∀ a o, H a = some o → H' a = some o) : ∀ {v : List V} {d : List Dat}, HasDs H v d → HasDs H' v d
 | _, _, .nil => .nil
 | _, _, .cons h r => .cons (HasD.keep k h) (HasDs.keep k r)
end
mutual
theorem HasD.reads {P : Program} {w : World} {H : Hp} {h : Heap} (ok : HOk P w H h) : ∀ {v : V} {d : Dat}, HasD H v d → ∀ {u : Value}, RelV v u → ∃ as, Reads h u (kqdP d) as
 | _, _, .int i, _, ⟨t, e⟩ => by subst e; exact ⟨_, Reads.int i t⟩
 | _, _, .tup hh r, _, e => by
  have e : _ = Value.ref _ := e
  subst e
  obtain ⟨_, its, rv, o, ho, hc, n, hd⟩ := (show ObjOk P w H h _ _ from ok _ _ hh)
  obtain ⟨as, q⟩ := HasDs.reads ok r rv
  rw [kqdP]
  exact ⟨as, reads_tuple_at ho hc hd (by simpa using q)⟩
 | _, _, .lst hh r, _, e => by
  have e : _ = Value.ref _ := e
  subst e
  obtain ⟨_, its, n, rv, ho⟩ := (show ObjOk P w H h _ _ from ok _ _ hh)
  obtain ⟨as, q⟩ := HasDs.reads ok r rv
  rw [kqdP]
  exact ⟨_, reads_list_at ho rfl rfl (by simpa using q)⟩
theorem HasDs.reads {P : Program} {w : World} {H : Hp} {h : Heap} (ok : HOk P w H h) : ∀ {vs : List V} {ds : List Dat}, HasDs H vs ds → ∀ {us : List Value}, Vals vs us → ∃ as, ReadsAll h us (kqdPs ds) as
 | _, _, .nil, _, .nil => ⟨_, ReadsAll.nil⟩
 | _, _, .cons hd r, _, .cons rv rt => by
  obtain ⟨as, q⟩ := HasD.reads ok hd rv
  obtain ⟨bs, p⟩ := HasDs.reads ok r rt
  rw [kqdPs]
  exact ⟨_, ReadsAll.cons q p⟩
end
section
variable {X : Cx}
end
section
variable {prog : Program} {w : World} {A : Around} {E : Value → Shared → Prop} {s : Shared} {d it : Addr} {es : Array DictEntry} {ep i : Nat}
end
section
variable {prog : Program} {w : World} {A : Around} {R : Result → Shared → Prop} {s : Shared}
abbrev testsOf (ifs : List Expr) (env : Env) : Sem Bool := forIn ifs true fun c r => if r = true then do let ok ← isTrue c env (eval c env); pure (ForInStep.yield ok) else pure (ForInStep.yield r)
theorem comp_loop {elt target iter : Expr} {ifs : List Expr} {scope : Scope} {pos : Pos} {it acc : Value} {env : Env} (I : Nat → Shared → Prop)
  (turn : ∀ n s, I n s → wpAny (model prog w) A (pyNext it) (fun r s₁ => match r with
   | none => R (.ok .next) s₁
   | some v => wpAny (model prog w) A (letOwnedTupleGo target it v) (fun _ s₀ => wpAny (model prog w) A (assign target env v) (fun _ s₂ =>
     wpAny (model prog w) A (testsOf ifs env) (fun ok s₃ =>
      if ok = true then wpAny (model prog w) A (eval elt env) (fun x s₄ =>
       wpAny (model prog w) A (call (.builtin "list.append") [acc, x]) (fun _ s₅ => ∃ m, m < n ∧ I m s₅) (fun _ _ => False) s₄) (fun _ _ => False) s₃
      else ∃ m, m < n ∧ I m s₃) (fun _ _ => False) s₂) (fun _ _ => False) s₀) (fun _ _ => False) s₁) (fun _ _ => False) s)
  (n : Nat) (h : I n s) : codeAny (model prog w) A (.compLoop (.ListComp elt [⟨target, iter, ifs, 0⟩] scope pos) 0 it acc env) R s := by
 refine codeAny_loop rfl I (fun n s hI => ?_) n h
 show wpAny _ A ((compTurn (.ListComp elt [⟨target, iter, ifs, 0⟩] scope pos) 0 it acc env).onRaise (fun x => do noteFrame x env; theTreesLotGoes x)) _ _ s
 refine wpAny_noted ?_
 rw [compTurn_list]
 refine wpAny_bind (wpAny_standAt (wpAny_bind (wpAny_mono (turn n s hI) (fun r s₁ h₁ => ?_) fun _ _ z => z.elim)))
 cases r with
 | none => exact wpAny_pure h₁
 | some v =>
  refine wpAny_bind (wpAny_mono h₁ (fun _ s₀ h₀ => ?_) fun _ _ z => z.elim)
  refine wpAny_bind (wpAny_mono h₀ (fun _ s₂ h₂ => wpAny_bind (wpAny_mono h₂ (fun ok s₃ h₃ => ?_) fun _ _ z => z.elim)) fun _ _ z => z.elim)
  cases ok with
  | false => exact wpAny_pure ⟨rfl, h₃⟩
  | true =>
   exact wpAny_bind (wpAny_bind (wpAny_mono h₃ (fun x s₄ h₄ => wpAny_bind (wpAny_mono h₄ (fun _ s₅ h₅ => wpAny_pure (wpAny_pure ⟨rfl, h₅⟩)) fun _ _ z => z.elim)) fun _ _ z => z.elim))
end
def PTs (X : Cx) (ifs : List Expr) (t : TT) : Prop :=
 ∀ (pins : List (Addr × Obj)) (s : Shared) (σ : St) (H : Hp) (Q : Bool → Hp → Prop), Inv X pins σ H s → t σ H Q → wpAny (model X.prog X.w) X.A (testsOf ifs X.env) (TP X pins σ Q) X.xe s
def tYes : TT := fun _ H Q => Q true H
theorem pts_nil {X : Cx} : PTs X [] tYes := fun _ _ _ H _ I h => wpAny_tests_nil ⟨H, I, h⟩
theorem pts_one {X : Cx} {c : Expr} {t : TT} (h : PT X c t) : PTs X [c] t := fun pins s σ H Q I hw => wpAny_tests_one (h pins s σ H Q I hw)
def tCompG (wi : TI) (g : TG) (tt : TT) (te : TE) (n : Nat) (js : List Nat) : TE := fun σ H Q => wi σ H fun J H1 => ∀ D, H1 D = none → ∃ (N : Nat) (W : Nat → List V → Hp → Prop), W 0 [] (upd H1 D (.lst [])) ∧ ∀ i ys H2, W i ys H2 →
 (J.stop i H2 ∧ Q (.ref D) H2) ∨ (i < N ∧ J.go i H2 ∧ ∀ v H3, J.yld i H2 v H3 → g v (List.replicate n none ++ caps js σ) H3 fun σ2 H4 => (σ2.length = n + js.length ∧ σ2.drop n = caps js σ) ∧ tt σ2 H4 fun b H5 =>
  if b = true then te σ2 H5 fun y H6 => H6 D = some (.lst ys) ∧ ys.length < sizeLine ∧ W (i + 1) (ys ++ [y]) (upd H6 D (.lst (ys ++ [y]))) else W (i + 1) ys H5)
section
variable {X : Cx}
theorem Inv.but {pins : List (Addr × Obj)} {σ : St} {H : Hp} {s : Shared} {C : Addr} {h' : Heap} (I : Inv X pins σ H s) (f : FpOk X pins H C) (hs : Heap.SameBut C s.heap h') : Inv X pins σ H { s with heap := h' } := by
 have ne : ∀ b, b ∉ [C] → b ≠ C := fun b hb z => hb (by rw [z]; exact .head _)
 refine I.call' (s' := { s with heap := h' }) (ch := [C]) rfl ⟨fun b o e n hb hx => (hs.2 b (ne b hx)).trans e, fun b o e n hb hx => ⟨o.slots, (hs.2 b (ne b hx)).trans e⟩, fun b o e n hx => n, fun b o e hx => ⟨o, (hs.2 b (ne b hx)).trans e⟩, fun b xs e => e, fun b o u e => e, fun b ps e => ⟨#[], by rw [Array.append_empty]; exact e⟩⟩ (hok_keep I.hok fun b o nn e => (hs.2 b (fun z => nn (by rw [z]; exact f.1))).trans e) I.bare fun b hb => ?_
 rw [List.mem_singleton.mp hb]
 exact ⟨f.2.2.2.1, f.2.1, f.2.2.2.2.1, f.2.2.2.2.2⟩
set_option maxHeartbeats 8000000 in
theorem comp_core {elt iter tg : Expr} {pos : Pos} {scope : Scope} {ifs : List Expr} {wi : TI} {g : TG} {tt : TT} {te : TE} {xs ys : List Str} {js : List Nat} {cl : List (Str × Addr)} (hc : X.calm = true) (hi : PI X tg iter wi)
  (hcl : ClOk X scope cl) (hcap : CapOk X scope cl ys js) (hcell : ∀ y ∈ scope.names, y.2 ≠ .cell) (hkind : scope.kind = .function) (hnames : ∀ y ∈ scope.names, y.2 = .local → scope.names.lookup y.1 = some .local)
  (hg : ∀ C s₀ H₀ ex pn, PG (blockCx X scope cl C (xs ++ ys) s₀ H₀ ex pn) tg g) (ht : ∀ C s₀ H₀ ex pn, PTs (blockCx X scope cl C (xs ++ ys) s₀ H₀ ex pn) ifs tt) (hb : ∀ C s₀ H₀ ex pn, PE (blockCx X scope cl C (xs ++ ys) s₀ H₀ ex pn) elt te)
  (hs : ∀ x, foldedSetIterable iter X.env x = pure x) {use : Option (Value → Sem Unit)} {QQ : Value → Shared → Prop} {Q : VK} {pins : List (Addr × Obj)} {s : Shared} {σ : St} {H : Hp} {cp : Pos} (I : Inv X pins σ H s)
  (hfin : ∀ (C D : Addr) (s' : Shared) (H' : Hp), Inv X pins σ H' s' → FpOk X pins H' C → (∃ m, s'.heap.Ns C m) → Q (.ref D) H' → compPost (model X.prog X.w) X.A X.xe use QQ (.ref D) C (.ok .next) s')
  (h : tCompG wi g tt te xs.length js σ H Q) :
  wpAny (model X.prog X.w) X.A (comprehension (.ListComp elt [⟨tg, iter, ifs, 0⟩] scope pos) scope X.env cp (newList []) false (eval iter X.env) use) QQ X.xe s := by
 refine wpAny_comprehension_free rfl hs hcl.clos hkind hnames (thn (hi pins s σ H _ I h) fun v s1 h1 => thn h1 fun itv s2 h2 => ?_)
 obtain ⟨it, fp, tn, J, H2, e, I2, T, st2, f2, q2⟩ := h2
 subst e
 obtain ⟨n, W, w0, turn⟩ := q2 s2.heap.objs.size I2.fresh
 refine wpAny_newObj_type (wpAny_newFunctionEnv hcell (by intro y hy; simp at hy) (fun h₁ hns₁ hsb₁ => ?_) hkind)
 dsimp only at hns₁ hsb₁ ⊢
 have I3 := I2.lnew (ys := []) (its := []) (t' := s2.toks) .nil (Nat.zero_le _)
 generalize hg3 : s2.heap.push { cls := .type "list", dict := none, data := .seq ([] : List Value).toArray } = g3 at hns₁ hsb₁ I3 ⊢
 have sz3 : g3.objs.size = s2.heap.objs.size + 1 := by rw [← hg3, Heap.size_push]
 generalize hC : g3.objs.size = C at hns₁ hsb₁ ⊢
 have old3 : ∀ b o, g3.get? b = some o → h₁.get? b = some o := fun b o q => hsb₁.extBut b o (by rw [← hC]; exact Nat.ne_of_lt (Heap.lt_size q)) (Heap.get?_push_of_some _ q)
 have old2 : ∀ b o, s2.heap.get? b = some o → g3.get? b = some o := fun b o q => by rw [← hg3]; exact Heap.get?_push_of_some _ q
 have fpl : ∀ b ∈ fp, ∃ o, s2.heap.get? b = some o ∧ ∀ v, o.data ≠ .cell v := T.obj _ _ st2
 have fplt : ∀ b ∈ fp, b < s2.heap.objs.size := fun b hb => let ⟨o, q, _⟩ := fpl b hb; Heap.lt_size q
 have H3n : ∀ b, b ≠ s2.heap.objs.size → upd H2 s2.heap.objs.size (.lst []) b = H2 b := fun b hb => upd_ne hb
 have fp3 : ∀ b ∈ fp, upd H2 s2.heap.objs.size (.lst []) b = none := fun b hb => by rw [H3n b (Nat.ne_of_lt (fplt b hb))]; exact (f2 b hb).1
 have okX := I3.ok
 have inj : ∀ y z c, cl.lookup y = some c → cl.lookup z = some c → y = z := fun y z c h1 h2 => okX.inj y z c (hcl.sub y c h1) (hcl.sub z c h2)
 have cellE : ∀ y c, cl.lookup y = some c → ∃ v, g3.IsCell c v := fun y c q => I3.cell y c (hcl.sub y c q)
 have st3 : g3.FunFrames X.base X.stack := I3.stack
 have exlt : ∀ b ∈ fp, b ≠ C := fun b hb => by rw [← hC, sz3]; exact Nat.ne_of_lt (Nat.lt_succ_of_lt (fplt b hb))
 have frlt : ∀ b ∈ frs X.stack, b < g3.objs.size := fun b hb => let ⟨_, o, q, _⟩ := st3.mem hb; Heap.lt_size q
 have okB : (blockCx X scope cl C (xs ++ ys) { s2 with heap := g3 } (upd H2 s2.heap.objs.size (.lst [])) fp (X.pn ++ pins)).Ok := by
  refine ⟨okX.mod, hkind, okX.glob, okX.blt, Nat.le_of_eq hC, inj, fun y hy => hcl.has y hy, (fun y c hf _ => nomatch hf), okX.hd, okX.frames, .inl rfl, fun b hb => ⟨exlt b hb, fun y c q z => ?_⟩, I3.bs, Nat.le_trans okX.bsz I3.sz, fun b o q hb => ?_, fun b hb => ?_, st3, I3.stkFree⟩
  ·subst z
   exact (f2 c hb).2.2.2.2.1 y c (hcl.sub y c q) rfl
  ·rcases (f2 b hb).2.2.2.1 with z | z
   ·exact okX.noex b o q z
   ·have := Heap.lt_size (okX.bs b o q).1
    exact absurd (Nat.lt_of_lt_of_le this z) (Nat.lt_irrefl _)
  ·intro hz
   rcases List.mem_cons.mp (I3.stkSub b hz) with z | z
   ·exact (f2 b hb).2.1 z
   ·exact (f2 b hb).2.2.1 z
 have tot : ∀ tk : Nat, Inv (blockCx X scope cl C (xs ++ ys) { s2 with heap := g3 } (upd H2 s2.heap.objs.size (.lst [])) fp (X.pn ++ pins)) [] (List.replicate xs.length none ++ caps js σ) (upd H2 s2.heap.objs.size (.lst [])) { s2 with heap := h₁, toks := tk } := fun tk => by
  refine ⟨okB, rfl, I3.bare, Un.kept old3, ⟨_, hns₁, fun i y v' e1 e2 e3 => ?_⟩, fun y c q => ?_, I3.hok.fresh (Nat.le_of_eq hC), fun y c q => ?_, fun p hp => ?_, I3.hok.kept old3, ?_⟩
  ·by_cases hix : i < xs.length
   ·rw [List.getElem?_append_left (by rw [List.length_replicate]; exact hix), List.getElem?_replicate] at e2
    split at e2 <;> cases e2
   ·have hix' : xs.length ≤ i := by omega
    obtain ⟨k, rfl⟩ : ∃ k, i = xs.length + k := ⟨i - xs.length, by omega⟩
    have e1' : ys[k]? = some y := by
     rw [List.getElem?_append_right (by omega)] at e1
     simpa using e1
    have e2' : (caps js σ)[k]? = some (some v') := by
     rw [List.getElem?_append_right (by rw [List.length_replicate]; omega), List.length_replicate] at e2
     simpa using e2
    unfold caps at e2'
    rw [List.getElem?_map] at e2'
    cases ej : js[k]? with
    | none => rw [ej] at e2'; cases e2'
    | some j =>
     rw [ej] at e2'
     have e2'' : (σ[j]?).getD none = some v' := Option.some.inj e2'
     have eσ : σ[j]? = some (some v') := by
      cases es : σ[j]? with
      | none => rw [es] at e2''; cases e2''
      | some z => rw [es] at e2''; have : z = some v' := e2''; rw [this]
     obtain ⟨c1, c2, c3, c4, c5⟩ := hcap.at_ k y j e1' ej
     obtain ⟨m0, hn0, hl0⟩ := I3.loc
     obtain ⟨u, r, l⟩ := hl0 j y v' c1 eσ (c2.elim (fun z => .inr (.inl z)) fun z => .inr (.inr z))
     refine ⟨u, r, .inr ⟨c3, ?_⟩⟩
     rcases l with ⟨l, _⟩ | ⟨_, c, hcc, z⟩
     ·rcases c2 with c2 | c2
      ·rw [c2] at l; cases l
      ·rw [c2] at l; cases l
     ·obtain ⟨o, ho, hd⟩ := z
      exact ⟨c, c5.trans hcc, o, old3 c o ho, hd⟩
  ·obtain ⟨v0, o, ho, hd⟩ := cellE y c q
   exact ⟨v0, o, old3 c o ho, hd⟩
  ·exact I3.freeC y c (hcl.sub y c q)
  ·have hp' : p ∈ X.pn ++ pins := by simpa using hp
   obtain ⟨p1, p2, p3, p4, p5⟩ := I3.pin p hp'
   refine ⟨old3 _ _ p1, p2, ?_, fun hz => ?_, p5⟩
   ·show p.1 ≠ C
    rw [← hC]
    exact Nat.ne_of_lt (Heap.lt_size p1)
   ·rcases List.mem_cons.mp (I3.stkSub p.1 hz) with z | z
    ·exact p3 z
    ·exact p4 z
  ·show (List.replicate xs.length none ++ caps js σ).length = (xs ++ ys).length
   unfold caps
   simp [hcap.len]
 have fpB : ∀ {H' : Hp}, (∀ b ∈ fp, H' b = none) → ∀ b ∈ fp, FpOk (blockCx X scope cl C (xs ++ ys) { s2 with heap := g3 } (upd H2 s2.heap.objs.size (.lst [])) fp (X.pn ++ pins)) [] H' b := fun hn b hb =>
  ⟨hn b hb, exlt b hb, okB.exfs b hb, .inl hb, (okB.exf b hb).2, fun p hp => (f2 b hb).2.2.2.2.2 p (by simpa using hp)⟩
 have fin : ∀ s' : Shared, (∃ i zs σ' H', Inv (blockCx X scope cl C (xs ++ ys) { s2 with heap := g3 } (upd H2 s2.heap.objs.size (.lst [])) fp (X.pn ++ pins)) [] σ' H' s' ∧ W i zs H' ∧ J.stop i H' ∧ Q (.ref s2.heap.objs.size) H') →
   compPost (model X.prog X.w) X.A X.xe use QQ (.ref s2.heap.objs.size) C (.ok .next) s' := by
  rintro s' ⟨i, zs, σ', H', Ib, w, stop, q⟩
  obtain ⟨m', hn', _⟩ := Ib.loc
  have ub := Ib.base
  have un : Un (frs X.stack) fp (upd H2 s2.heap.objs.size (.lst [])) H' g3 s'.heap := ub
  have IX : Inv X pins σ H' s' := I3.call' (s' := s') (ch := fp) Ib.os un Ib.hok Ib.bare fun b hb => ⟨(f2 b hb).2.2.2.1, (f2 b hb).2.1, (f2 b hb).2.2.2.2.1, (f2 b hb).2.2.2.2.2⟩
  exact hfin C _ s' H' IX (I3.fpOk (Nat.le_of_eq hC) Ib.free) ⟨m', hn'⟩ q
 have loop : ∀ s₃ : Shared, (∃ tk, s₃ = { s2 with heap := h₁, toks := tk }) →
   codeAny (model X.prog X.w) X.A (.compLoop (.ListComp elt [⟨tg, iter, ifs, 0⟩] scope pos) 0 (.ref it) (.ref s2.heap.objs.size) (compEnvC scope cl C X.env)) (compPost (model X.prog X.w) X.A X.xe use QQ (.ref s2.heap.objs.size) C) s₃ := by
  rintro s₃ ⟨tk, rfl⟩
  refine comp_loop (fun k s' => ∃ i zs H', k = n + 1 - i ∧ i ≤ n ∧ Inv (blockCx X scope cl C (xs ++ ys) { s2 with heap := g3 } (upd H2 s2.heap.objs.size (.lst [])) fp (X.pn ++ pins)) [] (List.replicate xs.length none ++ caps js σ) H' s' ∧ tn i s'.heap ∧ (∀ b ∈ fp, H' b = none) ∧ W i zs H')
   ?_ (n + 1) ⟨0, [], _, rfl, Nat.zero_le _, tot tk, T.keep _ _ _ st2 fun b hb o q => old3 b o (old2 b o q), fp3, w0⟩
  rintro k s' ⟨i, zs, H', rfl, hin, Ib, st, fr, w⟩
  rcases turn i zs H' w with ⟨stop, qq⟩ | ⟨hlt, go, step⟩
  ·refine wpAny_mono (T.done (blockCx X scope cl C (xs ++ ys) { s2 with heap := g3 } (upd H2 s2.heap.objs.size (.lst [])) fp (X.pn ++ pins)) rfl rfl rfl hc i [] s' _ H' (fun _ _ => False) Ib (fpB fr) st stop) (fun r s4 ⟨hr, I4⟩ => ?_) fun _ _ z => z.elim
   subst hr
   exact fin s4 ⟨i, zs, _, H', I4, w, stop, qq⟩
  ·refine wpAny_mono (T.item (blockCx X scope cl C (xs ++ ys) { s2 with heap := g3 } (upd H2 s2.heap.objs.size (.lst [])) fp (X.pn ++ pins)) rfl rfl rfl hc i [] s' _ H' (fun _ _ => False) Ib (fpB fr) st go) (fun r s4 ⟨u, hr, h4⟩ => ?_) fun _ _ z => z.elim
   subst hr
   refine wpAny_mono h4 (fun _ s5 ⟨v5, H5, I5, r5, y5, st5, fr5⟩ => ?_) fun _ _ z => z.elim
   have I5' := I5.pinned (fpB fr5) (T.obj _ _ st5)
   have hw5 := step v5 H5 y5
   refine wpAny_mono (hg C _ _ fp (X.pn ++ pins) _ s5 _ H5 v5 u _ I5' r5 hw5) (fun _ s6 ⟨σ6, H6, I6, ⟨hl6, hd6⟩, e6⟩ => ?_) fun _ _ z => z.elim
   have back : ∀ {H' : Hp} {s' : Shared} {pins' : List (Addr × Obj)}, Inv (blockCx X scope cl C (xs ++ ys) { s2 with heap := g3 } (upd H2 s2.heap.objs.size (.lst [])) fp (X.pn ++ pins)) pins' σ6 H' s' → Inv (blockCx X scope cl C (xs ++ ys) { s2 with heap := g3 } (upd H2 s2.heap.objs.size (.lst [])) fp (X.pn ++ pins)) pins' (List.replicate xs.length none ++ caps js σ) H' s' := fun I' => by
    refine I'.weak ?_ fun j v' e => ?_
    ·rw [hl6]; unfold caps; simp
    ·by_cases hj : j < xs.length
     ·rw [List.getElem?_append_left (by rw [List.length_replicate]; exact hj), List.getElem?_replicate] at e
      split at e <;> cases e
     ·rw [List.getElem?_append_right (by rw [List.length_replicate]; omega), List.length_replicate, ← hd6, List.getElem?_drop] at e
      rw [← e]
      congr 1
      omega
   refine wpAny_mono (ht C _ _ fp (X.pn ++ pins) _ s6 _ _ _ I6 e6) (fun ok s6b ⟨H6b, I6b, e6b⟩ => ?_) fun _ _ z => z.elim
   cases ok with
   | false =>
    rw [if_neg Bool.false_ne_true]
    have e6c : W (i + 1) zs H6b := by simpa using e6b
    have I8 := back I6b
    refine ⟨n + 1 - (i + 1), by omega, i + 1, zs, _, rfl, hlt, I8.unpinned (pins := []), ?_, fun b hb => ?_, e6c⟩
    ·exact T.keep _ _ _ st5 fun b hb o q => (I8.pin (b, o) (List.mem_append_right _ (List.mem_append_right _ (mem_pinsAt hb q)))).1
    ·obtain ⟨o, q, d⟩ := T.obj _ _ st5 b hb
     exact (I8.pin (b, o) (List.mem_append_right _ (List.mem_append_right _ (mem_pinsAt hb q)))).2.1
   | true =>
    rw [if_pos rfl]
    have e6c := e6b
    rw [if_pos rfl] at e6c
    refine wpAny_mono (hb C _ _ fp (X.pn ++ pins) _ s6b _ _ _ I6b e6c) (fun y s7 ⟨yv, H7, I7, r7, hD, hz, w7⟩ => ?_) fun _ _ z => z.elim
    obtain ⟨z7, its, n7, rv7, hl7, e7⟩ := I7.lstM hD
    refine append_at (n := n7) (its := its.toArray) e7 (fun h₈ sb8 eD8 => ?_) (by rw [List.size_toArray, ← hl7]; exact Nat.le_of_lt hz)
    have I8 : Inv _ _ _ (upd H7 s2.heap.objs.size (.lst (zs ++ [yv]))) { s7 with heap := h₈, toks := s7.toks } := I7.write (x := s2.heap.objs.size) (e := s2.heap.objs.size) (by rw [hD]; exact trivial) (.inl rfl) (fun b u hb q => (sb8.2 b hb).trans q) ⟨_, eD8⟩
     ⟨by rw [List.length_append]; exact hz, its ++ [y], n7 + 1, rv7.append (.cons r7 .nil), by rw [eD8, List.push_toArray]⟩
    have I9 := back I8
    refine ⟨n + 1 - (i + 1), by omega, i + 1, zs ++ [yv], _, rfl, hlt, I9.unpinned (pins := []), ?_, fun b hb => ?_, w7⟩
    ·exact T.keep _ _ _ st5 fun b hb o q => (I8.pin (b, o) (List.mem_append_right _ (List.mem_append_right _ (mem_pinsAt hb q)))).1
    ·obtain ⟨o, q, d⟩ := T.obj _ _ st5 b hb
     exact (I8.pin (b, o) (List.mem_append_right _ (List.mem_append_right _ (mem_pinsAt hb q)))).2.1
 exact codeAny_compStart_list (loop _ ⟨_, rfl⟩) (T.self _ 0 _ _ _ (T.keep _ _ _ st2 fun b hb o q => old3 b o (old2 b o q)) (loop _ ⟨_, rfl⟩))
theorem pe_compG {elt iter tg : Expr} {pos : Pos} {scope : Scope} {ifs : List Expr} {wi : TI} {g : TG} {tt : TT} {te : TE} {xs ys : List Str} {js : List Nat} {cl : List (Str × Addr)} (hc : X.calm = true) (hi : PI X tg iter wi)
  (hcl : ClOk X scope cl) (hcap : CapOk X scope cl ys js) (hcell : ∀ y ∈ scope.names, y.2 ≠ .cell) (hkind : scope.kind = .function) (hnames : ∀ y ∈ scope.names, y.2 = .local → scope.names.lookup y.1 = some .local)
  (hg : ∀ C s₀ H₀ ex pn, PG (blockCx X scope cl C (xs ++ ys) s₀ H₀ ex pn) tg g) (ht : ∀ C s₀ H₀ ex pn, PTs (blockCx X scope cl C (xs ++ ys) s₀ H₀ ex pn) ifs tt) (hb : ∀ C s₀ H₀ ex pn, PE (blockCx X scope cl C (xs ++ ys) s₀ H₀ ex pn) elt te)
  (hs : ∀ x, foldedSetIterable iter X.env x = pure x := by intro _; rfl) :
  PE X (.ListComp elt [⟨tg, iter, ifs, 0⟩] scope pos) (tCompG wi g tt te xs.length js) := by
 intro pins s σ H Q I h
 rw [eval_ListComp]
 exact comp_core hc hi hcl hcap hcell hkind hnames hg ht hb hs (use := none) (QQ := EP X pins σ Q) (Q := Q) I (fun C D s' H' IX f ⟨m, hn⟩ q => ⟨m, hn, fun h' hs' => ⟨.ref D, H', IX.but f hs', rfl, q⟩⟩) h
theorem ps_compG {elt iter tg : Expr} {pos py spos : Pos} {scope : Scope} {ifs : List Expr} {wi : TI} {g : TG} {tt : TT} {te : TE} {xs ys : List Str} {js : List Nat} {cl : List (Str × Addr)} {i : Nat} {y : Str} (hN : X.N.Nodup) (hiN : X.N[i]? = some y) (hx : Loc X.env.scope y) (hc : X.calm = true) (hi : PI X tg iter wi)
  (hcl : ClOk X scope cl) (hcap : CapOk X scope cl ys js) (hcell : ∀ y ∈ scope.names, y.2 ≠ .cell) (hkind : scope.kind = .function) (hnames : ∀ y ∈ scope.names, y.2 = .local → scope.names.lookup y.1 = some .local)
  (hg : ∀ C s₀ H₀ ex pn, PG (blockCx X scope cl C (xs ++ ys) s₀ H₀ ex pn) tg g) (ht : ∀ C s₀ H₀ ex pn, PTs (blockCx X scope cl C (xs ++ ys) s₀ H₀ ex pn) ifs tt) (hb : ∀ C s₀ H₀ ex pn, PE (blockCx X scope cl C (xs ++ ys) s₀ H₀ ex pn) elt te)
  (hsw : swapsWith (.ListComp elt [⟨tg, iter, ifs, 0⟩] scope pos) (some (.Name y py)) spos.line X.env = pure true) (hs : ∀ x, foldedSetIterable iter X.env x = pure x := by intro _; rfl)
  (hf : X.fn y = true ∨ X.env.scope.names.lookup y = some .local := by first | exact .inl rfl | exact .inr rfl | assumption) :
  PS X (.Assign [.Name y py] (.ListComp elt [⟨tg, iter, ifs, 0⟩] scope pos) spos) (tAsg (tCompG wi g tt te xs.length js) (gName i)) := by
 intro pins s σ H D I h
 rw [exec_Assign_Name_used _ _ _ _ hsw]
 refine wpAny_bind (wpAny_standAt (wpAny_bind ?_))
 show wpAny _ X.A (do let _ ← comprehension (.ListComp elt [⟨tg, iter, ifs, 0⟩] scope pos) scope X.env _ (newList []) false (eval iter X.env) (some (assign (.Name y py) X.env))) _ _ s
 refine wpAny_bind (wpAny_mono (comp_core hc hi hcl hcap hcell hkind hnames hg ht hb hs (use := some (assign (.Name y py) X.env)) (QQ := fun _ s' => ∃ σ' H', Inv X pins σ' H' s' ∧ D.nx σ' H') I (fun C L s' H' IX f ⟨m, hn⟩ q => ?_) h) (fun _ s' hq => wpAny_pure (wpAny_pure hq)) fun _ _ e => e)
 obtain ⟨o, es, ep, ho, hd, hr⟩ := id hn
 have IP := IX.pinned (fp := [C]) (fun b hb => by rw [List.mem_singleton.mp hb]; exact f) (fun b hb => by rw [List.mem_singleton.mp hb]; exact ⟨o, ho, fun v z => by rw [hd] at z; cases z⟩)
 refine wpAny_mono (pg_name (pos := py) hN hiN hx hf _ s' σ H' (.ref L) (.ref L) _ IP rfl q) (fun _ s2 ⟨σ2, H2, I2, q2⟩ => ?_) fun _ _ e => e
 have pc := I2.pin (C, o) (List.mem_append_right _ (List.mem_append_right _ (mem_pinsAt (.head _) ho)))
 exact ⟨m, ⟨o, es, ep, pc.1, hd, hr⟩, fun h' hs' => ⟨σ2, H2, (I2.unpinned (pins := pins)).but ⟨pc.2.1, f.2⟩ hs', q2⟩⟩
end
end L2

namespace M
open PySem PySem.Spec PyProof.Rows L2
abbrev D := PyData
inductive Res (α : Type) where
 | ok (a : α)
 | exc (C : Addr)
 | bad
def Res.bind {α β : Type} (r : Res α) (f : α → Res β) : Res β := match r with
 | .ok a => f a
 | .exc C => .exc C
 | .bad => .bad
def wpR {α : Type} (r : Res α) (Q : α → Prop) (E : Addr → Prop) : Prop := match r with
 | .ok a => Q a
 | .exc C => E C
 | .bad => False
theorem wpR_bind {α β : Type} {r : Res α} {f : α → Res β} {Q : β → Prop} {E : Addr → Prop} : wpR (r.bind f) Q E = wpR r (fun a => wpR (f a) Q E) E := by cases r <;> rfl
theorem wpR_mono {α : Type} {r : Res α} {Q Q' : α → Prop} {E E' : Addr → Prop} (h : wpR r Q E) (hQ : ∀ a, Q a → Q' a) (hE : ∀ C, E C → E' C) : wpR r Q' E' := by
 cases r with
 | ok a => exact hQ a h
 | exc C => exact hE C h
 | bad => exact h
inductive L where
 | p (d : D)
 | o (d : D)
 | x (C : Addr)
 | h (a : Addr)
inductive Ev where
 | p (d : D)
 | f (d : D)
 | b (d : D)
 | x (C : Addr)
def Ev.c : Ev → Ev
 | .f d => .p d
 | r => r
abbrev En := List (Option L)
def kD : Key → D
 | .inl i => .int i
 | .inr x => .str x
def tkD (ks : List Key) : D := .tuple (ks.map kD)
mutual
inductive Rep (K : PySem.W.Frag) (G : Hp) : V → D → Prop
 | non : Rep K G .non .none
 | bl (b : Bool) : Rep K G (.bl b) (.bool b)
 | int (i : Int) : Rep K G (.int i) (.int i)
 | str (x : Str) : Rep K G (.str x) (.str x)
 | tup {a : Addr} {xs : List V} {ds : List D} : G a = some (.tup xs) → Reps K G xs ds → Rep K G (.ref a) (.tuple ds)
 | lst {a : Addr} {xs : List V} {ds : List D} : Rd G a (.lst xs) → Reps K G xs ds → Rep K G (.ref a) (.list ds)
 | dT {a : Addr} {kv : List (List Key × V)} {kvs : List (D × D)} : G a = some (.dT kv) → RepT K G kv kvs → Rep K G (.ref a) (.dict kvs)
 | dK {a : Addr} {kv : List (Key × V)} {kvs : List (D × D)} : G a = some (.dK kv) → RepK K G kv kvs → Rep K G (.ref a) (.dict ((.none, .none) :: kvs))
inductive Reps (K : PySem.W.Frag) (G : Hp) : List V → List D → Prop
 | nil : Reps K G [] []
 | cons {x : V} {xs : List V} {d : D} {ds : List D} : Rep K G x d → Reps K G xs ds → Reps K G (x :: xs) (d :: ds)
inductive RepT (K : PySem.W.Frag) (G : Hp) : List (List Key × V) → List (D × D) → Prop
 | nil : RepT K G [] []
 | cons {k : List Key} {x : V} {d : D} {kv : List (List Key × V)} {kvs : List (D × D)} : Rep K G x d → RepT K G kv kvs → RepT K G ((k, x) :: kv) ((tkD k, d) :: kvs)
inductive RepK (K : PySem.W.Frag) (G : Hp) : List (Key × V) → List (D × D) → Prop
 | nil : RepK K G [] []
 | cons {k : Key} {x : V} {d : D} {kv : List (Key × V)} {kvs : List (D × D)} : Rep K G x d → RepK K G kv kvs → RepK K G ((k, x) :: kv) ((kD k, d) :: kvs)
end
inductive Cont (K : PySem.W.Frag) (G : Hp) : HO → D → Prop
 | lst {xs : List V} {ds : List D} : Reps K G xs ds → Cont K G (.lst xs) (.list ds)
 | dT {kv : List (List Key × V)} {kvs : List (D × D)} : RepT K G kv kvs → Cont K G (.dT kv) (.dict kvs)
 | dK {kv : List (Key × V)} {kvs : List (D × D)} : RepK K G kv kvs → Cont K G (.dK kv) (.dict ((.none, .none) :: kvs))
section
variable {K : PySem.W.Frag} {G G' H H' : Hp}
theorem rd_mono {a : Addr} {u : HO} (s : Same G G') (h : Rd G a u) : Rd G' a u := by
 rcases h with h | ⟨o, h⟩
 ·exact .inl (s _ _ h)
 ·exact .inr ⟨o, s _ _ h⟩
mutual
theorem Rep.mono (s : Same G G') : ∀ {v : V} {d : D}, Rep K G v d → Rep K G' v d
 | _, _, .non => .non
 | _, _, .bl b => .bl b
 | _, _, .int i => .int i
 | _, _, .str x => .str x
 | _, _, .tup h r => .tup (s _ _ h) (Reps.mono s r)
 | _, _, .lst h r => .lst (rd_mono s h) (Reps.mono s r)
 | _, _, .dT h r => .dT (s _ _ h) (RepT.mono s r)
 | _, _, .dK h r => .dK (s _ _ h) (RepK.mono s r)
theorem Reps.mono (s : Same G G') : ∀ {v : List V} {d : List D}, Reps K G v d → Reps K G' v d
 | _, _, .nil => .nil
 | _, _, .cons h r => .cons (Rep.mono s h) (Reps.mono s r)
theorem RepT.mono (s : Same G G') : ∀ {v : List (List Key × V)} {d : List (D × D)}, RepT K G v d → RepT K G' v d
 | _, _, .nil => .nil
 | _, _, .cons h r => .cons (Rep.mono s h) (RepT.mono s r)
theorem RepK.mono (s : Same G G') : ∀ {v : List (Key × V)} {d : List (D × D)}, RepK K G v d → RepK K G' v d
 | _, _, .nil => .nil
 | _, _, .cons h r => .cons (Rep.mono s h) (RepK.mono s r)
end
theorem Cont.mono (s : Same G G') {o : HO} {d : D} (h : Cont K G o d) : Cont K G' o d := by
 cases h with
 | lst r => exact .lst (r.mono s)
 | dT r => exact .dT (r.mono s)
 | dK r => exact .dK (r.mono s)
theorem Cont.rep {a : Addr} {o : HO} {d : D} (h : Cont K G o d) (e : G a = some o) : Rep K G (.ref a) d := by
 cases h with
 | lst r => exact .lst (.inl e) r
 | dT r => exact .dT e r
 | dK r => exact .dK e r
theorem Reps.length : ∀ {xs : List V} {ds : List D}, Reps K G xs ds → xs.length = ds.length
 | _, _, .nil => rfl
 | _, _, .cons _ r => by rw [List.length_cons, List.length_cons, Reps.length r]
theorem Reps.get : ∀ {xs : List V} {ds : List D} {i : Nat} {x : V}, Reps K G xs ds → xs[i]? = some x → ∃ d, ds[i]? = some d ∧ Rep K G x d
 | _, _, _, _, .nil, e => by simp at e
 | _, _, 0, _, .cons h _, e => by simp at e; subst e; exact ⟨_, rfl, h⟩
 | _, _, i + 1, _, .cons _ r, e => by
  have := Reps.get (i := i) r (by simpa using e)
  simpa using this
theorem Reps.get' : ∀ {xs : List V} {ds : List D} {i : Nat} {d : D}, Reps K G xs ds → ds[i]? = some d → ∃ x, xs[i]? = some x ∧ Rep K G x d
 | _, _, _, _, .nil, e => by simp at e
 | _, _, 0, _, .cons h _, e => by simp at e; subst e; exact ⟨_, rfl, h⟩
 | _, _, i + 1, _, .cons _ r, e => by
  have := Reps.get' (i := i) r (by simpa using e)
  simpa using this
theorem Reps.append : ∀ {xs ys : List V} {ds es : List D}, Reps K G xs ds → Reps K G ys es → Reps K G (xs ++ ys) (ds ++ es)
 | _, _, _, _, .nil, r => r
 | _, _, _, _, .cons h t, r => .cons h (Reps.append t r)
theorem Reps.take : ∀ {xs : List V} {ds : List D} (n : Nat), Reps K G xs ds → Reps K G (xs.take n) (ds.take n)
 | _, _, 0, _ => .nil
 | _, _, _ + 1, .nil => .nil
 | _, _, n + 1, .cons h t => .cons h (Reps.take n t)
theorem Reps.drop : ∀ {xs : List V} {ds : List D} (n : Nat), Reps K G xs ds → Reps K G (xs.drop n) (ds.drop n)
 | _, _, 0, r => r
 | _, _, _ + 1, .nil => .nil
 | _, _, n + 1, .cons _ t => Reps.drop n t
end
structure Step (G H G' H' : Hp) : Prop where
 g : Same G G'
 h : Same H H'
 gh : Same G' H'
 new : ∀ b, H b ≠ none → G b = none → G' b = none ∨ ∃ xs, H b = some (.tup xs)
theorem Step.off {G H G' H' : Hp} (s : Step G H G' H') {b : Addr} {o : HO} (h : H b = some o) (n : ∀ xs, o ≠ .tup xs) (g : G b = none) : G' b = none := by
 rcases s.new b (by rw [h]; exact fun z => nomatch z) g with z | ⟨xs, z⟩
 ·exact z
 ·rw [h] at z; exact absurd (Option.some.inj z) (n xs)
theorem same_ne {H H' : Hp} (s : Same H H') {b : Addr} (h : H b ≠ none) : H' b ≠ none := by
 cases e : H b with
 | none => exact absurd e h
 | some o => rw [s b o e]; exact fun z => nomatch z
theorem Step.refl {G H : Hp} (s : Same G H) : Step G H G H := ⟨Same.refl _, Same.refl _, s, fun _ _ h => .inl h⟩
theorem Step.trans {G H G1 H1 G2 H2 : Hp} (a : Step G H G1 H1) (b : Step G1 H1 G2 H2) : Step G H G2 H2 :=
 ⟨a.g.trans b.g, a.h.trans b.h, b.gh, fun c hc hg => by
  rcases a.new c hc hg with z | z
  ·rcases b.new c (same_ne a.h hc) z with y | ⟨xs, y⟩
   ·exact .inl y
   ·cases e : H c with
    | none => exact absurd e hc
    | some o =>
     rw [a.h _ _ e] at y
     exact .inr ⟨xs, y⟩
  ·exact .inr z⟩
theorem Step.put {G H : Hp} {a : Addr} {o : HO} (s : Same G H) (e : H a = none) : Step G H (upd G a o) (upd H a o) :=
 ⟨Same.upd (Same.refl _) (s.free e) o, Same.upd (Same.refl _) e o, fun b u q => by
  by_cases z : b = a
  ·subst z; rw [upd_same] at q ⊢; exact q
  ·rw [upd_ne z] at q ⊢; exact s b u q, fun b hb hg => by
  have z : b ≠ a := fun z => hb (z ▸ e)
  rw [upd_ne z]; exact .inl hg⟩
theorem Step.lay {G H : Hp} {a : Addr} {o : HO} (s : Same G H) (e : H a = none) : Step G H G (upd H a o) :=
 ⟨Same.refl _, Same.upd (Same.refl _) e o, Same.upd s e o, fun _ _ h => .inl h⟩
def EOk (K : PySem.W.Frag) (W : Addr → Option Nat) (Hs G H : Hp) (v : V) : Ev → Prop
 | .p d => Rep K G v d
 | .f d => ∃ a o, v = .ref a ∧ Hs a = none ∧ G a = none ∧ H a = some o ∧ Cont K G o d
 | .b d => ∃ a i o, v = .ref a ∧ W a = some i ∧ H a = some o ∧ Cont K G o d
 | .x C => ∃ e, v = .ref e ∧ G e = some (excO e (.ref C))
theorem EOk.step {K : PySem.W.Frag} {W : Addr → Option Nat} {Hs Hs' G H G' H' : Hp} {v : V} {r : Ev} (h : EOk K W Hs G H v r.c) (s : Step G H G' H') : EOk K W Hs' G' H' v r.c := by
 cases r with
 | p d => exact Rep.mono s.g h
 | f d => exact Rep.mono s.g h
 | b d =>
  obtain ⟨a, i, o, h1, h2, h3, h4⟩ := h
  exact ⟨a, i, o, h1, h2, s.h _ _ h3, h4.mono s.g⟩
 | x C =>
  obtain ⟨e, h1, h2⟩ := h
  exact ⟨e, h1, s.g _ _ h2⟩
theorem EOk.c {K : PySem.W.Frag} {W : Addr → Option Nat} {G H G1 H1 : Hp} {v : V} {r : Ev} (s : Step G H G1 H1) (h : EOk K W H G1 H1 v r) : ∃ G2, Step G H G2 H1 ∧ EOk K W H G2 H1 v r.c := by
 cases r with
 | p d => exact ⟨G1, s, h⟩
 | b d => exact ⟨G1, s, h⟩
 | x d => exact ⟨G1, s, h⟩
 | f d =>
  obtain ⟨a, o, rfl, h1, h2, h3, h4⟩ := h
  refine ⟨upd G1 a o, ⟨s.g.trans (Same.upd (Same.refl _) h2 o), s.h, fun b u q => ?_, fun b hb hg => ?_⟩, (h4.mono (Same.upd (Same.refl _) h2 o)).rep upd_same⟩
  ·by_cases z : b = a
   ·subst z; rw [upd_same] at q; rw [h3]; exact q
   ·rw [upd_ne z] at q; exact s.gh b u q
  ·have z : b ≠ a := fun z => hb (z ▸ h1)
   rw [upd_ne z]; exact s.new b hb hg
structure SimH (B G0 G : Hp) (W : Addr → Option Nat) (H : Hp) : Prop where
 gh : Same G H
 bh : Same B H
 g0 : Same G0 G
 gb : ∀ b, G b ≠ none → G0 b ≠ none ∨ B b = none ∨ ∃ xs, B b = some (.tup xs)
 wf : ∀ a i, W a = some i → G a = none ∧ B a = none ∧ ∃ o, H a = some o ∧ ∀ xs, o ≠ .tup xs
theorem SimH.step {B G0 G H G' H' : Hp} {W : Addr → Option Nat} (s : SimH B G0 G W H) (t : Step G H G' H') : SimH B G0 G' W H' := by
 refine ⟨t.gh, s.bh.trans t.h, s.g0.trans t.g, fun b hb => ?_, fun a i e => ?_⟩
 ·by_cases z : G b = none
  ·refine .inr ?_
   by_cases y : H b = none
   ·exact .inl (s.bh.free y)
   ·rcases t.new b y z with q | ⟨xs, q⟩
    ·exact absurd q hb
    ·cases e : B b with
     | none => exact .inl rfl
     | some o => rw [s.bh _ _ e] at q; exact .inr ⟨xs, q⟩
  ·exact s.gb b z
 ·obtain ⟨h1, h2, o, h3, h4⟩ := s.wf a i e
  exact ⟨t.off h3 h4 h1, h2, o, t.h _ _ h3, h4⟩
theorem Cont.mut {K : PySem.W.Frag} {G : Hp} {o : HO} {d : D} (h : Cont K G o d) : ∀ xs, o ≠ .tup xs := by
 intro xs z
 subst z
 cases h
def Slot (K : PySem.W.Frag) (W : Addr → Option Nat) (G H : Hp) (i : Nat) (v : V) : L → Prop
 | .p d => Rep K G v d
 | .o d => ∃ a o, v = .ref a ∧ W a = some i ∧ H a = some o ∧ Cont K G o d
 | .x C => ∃ e, v = .ref e ∧ G e = some (excO e (.ref C))
 | .h a => v = .ref a
def SimS (K : PySem.W.Frag) (W : Addr → Option Nat) (G H : Hp) (σ : L2.St) (en : En) : Prop := σ.length = en.length ∧ ∀ i l, en[i]? = some (some l) → ∃ v, σ[i]? = some (some v) ∧ Slot K W G H i v l
theorem Slot.step {K : PySem.W.Frag} {W : Addr → Option Nat} {G H G' H' : Hp} {i : Nat} {v : V} {l : L} (h : Slot K W G H i v l) (s : Step G H G' H') : Slot K W G' H' i v l := by
 cases l with
 | p d => exact Rep.mono s.g h
 | o d =>
  obtain ⟨a, o, h1, h2, h3, h4⟩ := h
  exact ⟨a, o, h1, h2, s.h _ _ h3, h4.mono s.g⟩
 | x C =>
  obtain ⟨e, h1, h2⟩ := h
  exact ⟨e, h1, s.g _ _ h2⟩
 | h a => exact h
theorem SimS.step {K : PySem.W.Frag} {W : Addr → Option Nat} {G H G' H' : Hp} {σ : L2.St} {en : En} (h : SimS K W G H σ en) (s : Step G H G' H') : SimS K W G' H' σ en :=
 ⟨h.1, fun i l e => let ⟨v, e1, e2⟩ := h.2 i l e; ⟨v, e1, e2.step s⟩⟩
def PostE (K : PySem.W.Frag) (W : Addr → Option Nat) (G H : Hp) (Q : VK) (r : Ev) : Prop := ∀ G' H' v, Step G H G' H' → EOk K W H G' H' v r → Q v H'
def PostB (G H : Hp) (Q : Bool → Hp → Prop) (b : Bool) : Prop := ∀ G' H', Step G H G' H' → Q b H'
def EOks (K : PySem.W.Frag) (W : Addr → Option Nat) (Hs G H : Hp) : List V → List Ev → Prop
 | [], [] => True
 | v :: vs, r :: rs => EOk K W Hs G H v r ∧ EOks K W Hs G H vs rs
 | _, _ => False
def PostA (K : PySem.W.Frag) (W : Addr → Option Nat) (G H : Hp) (Q : List V → Hp → Prop) (rs : List Ev) : Prop := ∀ G' H' vs, Step G H G' H' → EOks K W H G' H' vs rs → Q vs H'
def PostX (E : XK) (G H : Hp) (C : Addr) : Prop := ∀ G' H', Step G H G' H' → E (.ref C) none H'
theorem PostE.step {K : PySem.W.Frag} {W : Addr → Option Nat} {G H G' H' : Hp} {Q : VK} {r : Ev} (h : PostE K W G H Q r) (s : Step G H G' H') : PostE K W G' H' Q r := fun G2 H2 v s2 e => h G2 H2 v (s.trans s2) (by
 cases r with
 | p d => exact e
 | b d => exact e
 | x d => exact e
 | f d =>
  obtain ⟨a, o, h1, h2, h3, h4, h5⟩ := e
  exact ⟨a, o, h1, s.h.free h2, h3, h4, h5⟩)
theorem PostX.step {E : XK} {G H G' H' : Hp} {C : Addr} (h : PostX E G H C) (s : Step G H G' H') : PostX E G' H' C := fun G2 H2 s2 => h G2 H2 (s.trans s2)
theorem PostB.step {G H G' H' : Hp} {Q : Bool → Hp → Prop} {b : Bool} (h : PostB G H Q b) (s : Step G H G' H') : PostB G' H' Q b := fun G2 H2 s2 => h G2 H2 (s.trans s2)
def tE (K : PySem.W.Frag) (E : L2.St → XK) (f : En → Res Ev) : TE := fun σ H Q => ∃ B G0 G W en, SimH B G0 G W H ∧ SimS K W G H σ en ∧ wpR (f en) (PostE K W G H Q) (PostX (E σ) G H)
def DE (X : Cx) (E : L2.St → XK) (e : Expr) (f : En → Res Ev) : Prop := PE X e (tE X.K E f)
theorem DE.out {X : Cx} {E : L2.St → XK} {e : Expr} {f : En → Res Ev} (h : DE X E e f) : ∃ t, PE X e t ∧ ∀ B G0 G W H σ en Q, SimH B G0 G W H → SimS X.K W G H σ en → wpR (f en) (PostE X.K W G H Q) (PostX (E σ) G H) → t σ H Q :=
 ⟨_, h, fun B G0 G W H σ en Q h1 h2 h3 => ⟨B, G0, G, W, en, h1, h2, h3⟩⟩
theorem DE.in {X : Cx} {E : L2.St → XK} {e : Expr} {f : En → Res Ev} (h : ∃ t, PE X e t ∧ ∀ B G0 G W H σ en Q, SimH B G0 G W H → SimS X.K W G H σ en → wpR (f en) (PostE X.K W G H Q) (PostX (E σ) G H) → t σ H Q) : DE X E e f :=
 fun pins s σ H Q I ⟨B, G0, G, W, en, h1, h2, h3⟩ => let ⟨_, p, m⟩ := h; p pins s σ H Q I (m B G0 G W H σ en Q h1 h2 h3)
def tT (K : PySem.W.Frag) (E : L2.St → XK) (f : En → Res Bool) : TT := fun σ H Q => ∃ B G0 G W en, SimH B G0 G W H ∧ SimS K W G H σ en ∧ wpR (f en) (PostB G H Q) (PostX (E σ) G H)
def tA (K : PySem.W.Frag) (E : L2.St → XK) (f : En → Res (List Ev)) : TA := fun σ H Q => ∃ B G0 G W en, SimH B G0 G W H ∧ SimS K W G H σ en ∧ wpR (f en) (PostA K W G H Q) (PostX (E σ) G H)
def DT (X : Cx) (E : L2.St → XK) (e : Expr) (f : En → Res Bool) : Prop := PT X e (tT X.K E f)
def DW (X : Cx) (E : L2.St → XK) (e : Expr) (f : En → Res Bool) : Prop := PW X e (tT X.K E f)
def DA (X : Cx) (E : L2.St → XK) (es : List Expr) (f : En → Res (List Ev)) : Prop := PA X es (tA X.K E f)
section
variable {X : Cx} {E : L2.St → XK} {e : Expr} {es : List Expr} {f : En → Res Bool} {fr : En → Res (List Ev)}
theorem DT.out (h : DT X E e f) : ∃ t, PT X e t ∧ ∀ B G0 G W H σ en Q, SimH B G0 G W H → SimS X.K W G H σ en → wpR (f en) (PostB G H Q) (PostX (E σ) G H) → t σ H Q :=
 ⟨_, h, fun B G0 G W H σ en Q h1 h2 h3 => ⟨B, G0, G, W, en, h1, h2, h3⟩⟩
theorem DT.in (h : ∃ t, PT X e t ∧ ∀ B G0 G W H σ en Q, SimH B G0 G W H → SimS X.K W G H σ en → wpR (f en) (PostB G H Q) (PostX (E σ) G H) → t σ H Q) : DT X E e f :=
 fun pins s σ H Q I ⟨B, G0, G, W, en, h1, h2, h3⟩ => let ⟨_, p, m⟩ := h; p pins s σ H Q I (m B G0 G W H σ en Q h1 h2 h3)
theorem DW.out (h : DW X E e f) : ∃ t, PW X e t ∧ ∀ B G0 G W H σ en Q, SimH B G0 G W H → SimS X.K W G H σ en → wpR (f en) (PostB G H Q) (PostX (E σ) G H) → t σ H Q :=
 ⟨_, h, fun B G0 G W H σ en Q h1 h2 h3 => ⟨B, G0, G, W, en, h1, h2, h3⟩⟩
theorem DW.in (h : ∃ t, PW X e t ∧ ∀ B G0 G W H σ en Q, SimH B G0 G W H → SimS X.K W G H σ en → wpR (f en) (PostB G H Q) (PostX (E σ) G H) → t σ H Q) : DW X E e f :=
 fun wh pins s σ H Q I ⟨B, G0, G, W, en, h1, h2, h3⟩ => let ⟨_, p, m⟩ := h; p wh pins s σ H Q I (m B G0 G W H σ en Q h1 h2 h3)
theorem DA.out (h : DA X E es fr) : ∃ t, PA X es t ∧ ∀ B G0 G W H σ en Q, SimH B G0 G W H → SimS X.K W G H σ en → wpR (fr en) (PostA X.K W G H Q) (PostX (E σ) G H) → t σ H Q :=
 ⟨_, h, fun B G0 G W H σ en Q h1 h2 h3 => ⟨B, G0, G, W, en, h1, h2, h3⟩⟩
theorem DA.in (h : ∃ t, PA X es t ∧ ∀ B G0 G W H σ en Q, SimH B G0 G W H → SimS X.K W G H σ en → wpR (fr en) (PostA X.K W G H Q) (PostX (E σ) G H) → t σ H Q) : DA X E es fr :=
 fun pos pins s σ H Q I ⟨B, G0, G, W, en, h1, h2, h3⟩ => let ⟨_, p, m⟩ := h; p pos pins s σ H Q I (m B G0 G W H σ en Q h1 h2 h3)
end
theorem DW.t {X : Cx} {E : L2.St → XK} {e : Expr} {f : En → Res Bool} (h : DW X E e f) : DT X E e f := h _
section
variable {X : Cx} {E : L2.St → XK} {a b c e : Expr} {es : List Expr} {fa fb : En → Res Ev} {fr : En → Res (List Ev)} {pos : Pos}
theorem DE.go {K : PySem.W.Frag} {W : Addr → Option Nat} {G H : Hp} {EE : XK} {Q : VK} {r : Res Ev} {k : Ev → Res Ev} {Q' : VK} (hw : wpR (r.bind k) (PostE K W G H Q) (PostX EE G H))
  (h : ∀ (x : Ev) G1 H1 v, Step G H G1 H1 → EOk K W H G1 H1 v x.c → wpR (k x) (PostE K W G1 H1 Q) (PostX EE G1 H1) → Q' v H1) : wpR r (PostE K W G H Q') (PostX EE G H) := by
 rw [wpR_bind] at hw
 refine wpR_mono hw (fun x hx G1 H1 v s e => ?_) fun C h => h
 obtain ⟨G2, s2, e2⟩ := e.c s
 exact h x G2 H1 v s2 e2 (wpR_mono hx (fun r h => h.step s2) fun C h => h.step s2)
theorem DE.goB {K : PySem.W.Frag} {W : Addr → Option Nat} {G H : Hp} {EE : XK} {Q : Bool → Hp → Prop} {r : Res Ev} {k : Ev → Res Bool} {Q' : VK} (hw : wpR (r.bind k) (PostB G H Q) (PostX EE G H))
  (h : ∀ (x : Ev) G1 H1 v, Step G H G1 H1 → EOk K W H G1 H1 v x.c → wpR (k x) (PostB G1 H1 Q) (PostX EE G1 H1) → Q' v H1) : wpR r (PostE K W G H Q') (PostX EE G H) := by
 rw [wpR_bind] at hw
 refine wpR_mono hw (fun x hx G1 H1 v s e => ?_) fun C h => h
 obtain ⟨G2, s2, e2⟩ := e.c s
 exact h x G2 H1 v s2 e2 (wpR_mono hx (fun r h => h.step s2) fun C h => h.step s2)
def OpM (K : PySem.W.Frag) (r : R2) (op : Ev → Ev → Res Ev) : Prop := ∀ (W : Addr → Option Nat) (G H : Hp) (v u : V) (x y : Ev) (Q : VK), Same G H → EOk K W H G H v x.c → EOk K W H G H u y.c → wpR (op x.c y.c) (PostE K W G H Q) (fun _ => False) → r v u H Q
def mBin (op : Ev → Ev → Res Ev) (fa fb : En → Res Ev) : En → Res Ev := fun en => (fa en).bind fun x => (fb en).bind fun y => op x.c y.c
def NoX (op : Ev → Ev → Res Ev) : Prop := ∀ x y C, op x y ≠ .exc C
theorem noX {α : Type} {r : Res α} {Q : α → Prop} {E E' : Addr → Prop} (h : wpR r Q E) (n : ∀ C, r ≠ .exc C) : wpR r Q E' := by
 cases r with
 | ok a => exact h
 | exc C => exact absurd rfl (n C)
 | bad => exact h
theorem op_core {ta tb : TE} {r : R2} {op : Ev → Ev → Res Ev} (ma : ∀ B G0 G W H σ en Q, SimH B G0 G W H → SimS X.K W G H σ en → wpR (fa en) (PostE X.K W G H Q) (PostX (E σ) G H) → ta σ H Q)
  (mb : ∀ B G0 G W H σ en Q, SimH B G0 G W H → SimS X.K W G H σ en → wpR (fb en) (PostE X.K W G H Q) (PostX (E σ) G H) → tb σ H Q) (hm : OpM X.K r op) (hn : NoX op) :
  ∀ B G0 G W H σ en Q, SimH B G0 G W H → SimS X.K W G H σ en → wpR (mBin op fa fb en) (PostE X.K W G H Q) (PostX (E σ) G H) → tOp r ta tb σ H Q := by
 intro B G0 G W H σ en Q hh hs hw
 refine ma B G0 G W H σ en _ hh hs (DE.go hw fun x G1 H1 v s1 e1 h1 => ?_)
 refine mb B G0 G1 W H1 σ en _ (hh.step s1) (hs.step s1) (DE.go h1 fun y G2 H2 u s2 e2 h2 => ?_)
 exact hm W G2 H2 v u x y Q s2.gh (e1.step s2) (by cases y <;> exact e2) (noX h2 (hn _ _))
theorem de_op {op : Operator} {r : R2} {f : Ev → Ev → Res Ev} (ho : OpR X (binaryOp op) r) (hm : OpM X.K r f) (hn : NoX f) (ha : DE X E a fa) (hb : DE X E b fb) : DE X E (.BinOp a op b pos) (mBin f fa fb) := by
 obtain ⟨ta, pa, ma⟩ := ha.out
 obtain ⟨tb, pb, mb⟩ := hb.out
 refine DE.in ?_
 exact ⟨_, pe_op ho pa pb, op_core ma mb hm hn⟩
theorem de_cmp {op : CmpOp} {r : R2} {f : Ev → Ev → Res Ev} (ho : OpR X (compareOp op) r) (hm : OpM X.K r f) (hn : NoX f) (ha : DE X E a fa) (hb : DE X E b fb) (hk : behindInMarks op b = false) : DE X E (.Compare a [op] [b] pos) (mBin f fa fb) := by
 obtain ⟨ta, pa, ma⟩ := ha.out
 obtain ⟨tb, pb, mb⟩ := hb.out
 refine DE.in ?_
 exact ⟨_, pe_cmpR ho pa pb hk, op_core ma mb hm hn⟩
def truthR (r : Ev) : Res Bool := match r with
 | .p (.bool b) => .ok b
 | _ => .bad
def mTru (f : En → Res Ev) : En → Res Bool := fun en => (f en).bind truthR
theorem tru_core {t : TE} (m : ∀ B G0 G W H σ en Q, SimH B G0 G W H → SimS X.K W G H σ en → wpR (fa en) (PostE X.K W G H Q) (PostX (E σ) G H) → t σ H Q) :
  ∀ B G0 G W H σ en Q, SimH B G0 G W H → SimS X.K W G H σ en → wpR (mTru fa en) (PostB G H Q) (PostX (E σ) G H) → t σ H fun x H1 => ∃ k, x = .bl k ∧ Q k H1 := by
 intro B G0 G W H σ en Q hh hs hw
 refine m B G0 G W H σ en _ hh hs (DE.goB hw fun x G1 H1 v s1 e1 h1 => ?_)
 cases x with
 | p d =>
  cases d with
  | bool k => cases e1; exact ⟨k, rfl, h1 G1 H1 (Step.refl s1.gh)⟩
  | _ => exact False.elim h1
 | _ => exact False.elim h1
theorem dt_cmp {op : CmpOp} {r : R2} {f : Ev → Ev → Res Ev} (ho : OpR X (compareOp op) r) (hm : OpM X.K r f) (hn : NoX f) (ha : DE X E a fa) (hb : DE X E b fb) (hk : behindInMarks op b = false) : DT X E (.Compare a [op] [b] pos) (mTru (mBin f fa fb)) := by
 obtain ⟨ta, pa, ma⟩ := ha.out
 obtain ⟨tb, pb, mb⟩ := hb.out
 refine DT.in ?_
 exact ⟨_, pt_cmpR ho pa pb hk, tru_core (op_core ma mb hm hn)⟩
theorem dt_val (h : DE X E e fa) (he : ∀ whole, isTrue e X.env whole = (do let v ← whole; standAt e.pos; holding [v] (truthy v)) := by intro _; rfl) : DT X E e (mTru fa) := by
 obtain ⟨t, p, m⟩ := h.out
 refine DT.in ?_
 exact ⟨_, pt_val p he, tru_core m⟩
def mVar (i : Nat) : En → Res Ev := fun en => match en[i]? with
 | some (some (.p d)) => .ok (.p d)
 | some (some (.o d)) => .ok (.b d)
 | some (some (.x C)) => .ok (.x C)
 | _ => .bad
theorem de_var {i : Nat} {x : Str} (hN : X.N[i]? = some x) (hv : Vis X.env.scope x) (hd : (x == ("__debug__" : Str)) = false := by decide) (hcd : (x == ("__classdict__" : Str)) = false := by decide) : DE X E (.Name x pos) (mVar i) := by
 refine DE.in ?_
 refine ⟨_, pe_var hN hv hd hcd, fun B G0 G W H σ en Q hh hs hw => ?_⟩
 unfold mVar at hw
 split at hw
 ·rename_i d e
  obtain ⟨v, e1, e2⟩ := hs.2 i _ e
  exact ⟨v, e1, hw G H v (Step.refl hh.gh) e2⟩
 ·rename_i d e
  obtain ⟨v, e1, a, o, e2, e3, e4, e5⟩ := hs.2 i _ e
  exact ⟨v, e1, hw G H v (Step.refl hh.gh) ⟨a, i, o, e2, e3, e4, e5⟩⟩
 ·rename_i C e
  obtain ⟨v, e1, e2⟩ := hs.2 i _ e
  exact ⟨v, e1, hw G H v (Step.refl hh.gh) e2⟩
 ·exact hw.elim
def mC (d : D) : En → Res Ev := fun _ => .ok (.p d)
theorem const_core {v : V} {d : D} (h : ∀ G, Rep X.K G v d) : ∀ B G0 G W H σ en Q, SimH B G0 G W H → SimS X.K W G H σ en → wpR (mC d en) (PostE X.K W G H Q) (PostX (E σ) G H) → tC v σ H Q :=
 fun B G0 G W H σ en Q hh hs hw => hw G H v (Step.refl hh.gh) (h G)
theorem de_int {i j} : DE X E (.Constant (.int i) j pos) (mC (.int i)) := DE.in ⟨_, pe_int, const_core fun _ => .int i⟩
theorem de_bl {b j} : DE X E (.Constant (.bool b) j pos) (mC (.bool b)) := DE.in ⟨_, pe_bl, const_core fun _ => .bl b⟩
theorem de_str {x j} : DE X E (.Constant (.str x) j pos) (mC (.str x)) := DE.in ⟨_, pe_str, const_core fun _ => .str x⟩
theorem de_globI {x : Str} {i : Int} {t : Tok} (hg : Gl X x) (hm : X.mg x = some (.int i t)) (hd : (x == ("__debug__" : Str)) = false := by decide) : DE X E (.Name x pos) (mC (.int i)) := DE.in ⟨_, pe_glob (v := .int i) hg hm ⟨t, rfl⟩ hd, const_core fun _ => .int i⟩
variable {ga gb : En → Res Bool} {rest : List Expr}
def mAnd (f g : En → Res Bool) : En → Res Bool := fun en => (f en).bind fun c => if c = true then g en else .ok false
def mOr (f g : En → Res Bool) : En → Res Bool := fun en => (f en).bind fun c => if c = true then .ok true else g en
def mNot (f : En → Res Bool) : En → Res Bool := fun en => (f en).bind fun c => .ok (!c)
theorem dw_and1 (ha : DT X E a ga) : DW X E (.BoolOp .And [a] pos) ga := let ⟨t, p, m⟩ := ha.out; DW.in ⟨t, pw_and1 p, m⟩
theorem dw_or1 (ha : DT X E a ga) : DW X E (.BoolOp .Or [a] pos) ga := let ⟨t, p, m⟩ := ha.out; DW.in ⟨t, pw_or1 p, m⟩
theorem dw_and (ha : DT X E a ga) (hb : DW X E (.BoolOp .And (b :: rest) pos) gb) : DW X E (.BoolOp .And (a :: b :: rest) pos) (mAnd ga gb) := by
 obtain ⟨ta, pa, ma⟩ := ha.out
 obtain ⟨tb, pb, mb⟩ := hb.out
 refine DW.in ?_
 refine ⟨_, pw_and pa pb, fun B G0 G W H σ en Q hh hs hw => ma B G0 G W H σ en _ hh hs ?_⟩
 have hw : wpR ((ga en).bind _) _ _ := hw
 rw [wpR_bind] at hw
 refine wpR_mono hw (fun c hc G1 H1 s => ?_) fun C h => h
 cases c with
 | true => exact mb B G0 G1 W H1 σ en Q (hh.step s) (hs.step s) (wpR_mono hc (fun _ h => h.step s) fun _ h => h.step s)
 | false => exact hc G1 H1 s
theorem dw_or (ha : DT X E a ga) (hb : DW X E (.BoolOp .Or (b :: rest) pos) gb) : DW X E (.BoolOp .Or (a :: b :: rest) pos) (mOr ga gb) := by
 obtain ⟨ta, pa, ma⟩ := ha.out
 obtain ⟨tb, pb, mb⟩ := hb.out
 refine DW.in ?_
 refine ⟨_, pw_or pa pb, fun B G0 G W H σ en Q hh hs hw => ma B G0 G W H σ en _ hh hs ?_⟩
 have hw : wpR ((ga en).bind _) _ _ := hw
 rw [wpR_bind] at hw
 refine wpR_mono hw (fun c hc G1 H1 s => ?_) fun C h => h
 cases c with
 | false => exact mb B G0 G1 W H1 σ en Q (hh.step s) (hs.step s) (wpR_mono hc (fun _ h => h.step s) fun _ h => h.step s)
 | true => exact hc G1 H1 s
theorem dt_not (ha : DT X E a ga) : DT X E (.UnaryOp .Not a pos) (mNot ga) := by
 obtain ⟨ta, pa, ma⟩ := ha.out
 refine DT.in ?_
 refine ⟨_, pt_not pa, fun B G0 G W H σ en Q hh hs hw => ma B G0 G W H σ en _ hh hs ?_⟩
 have hw : wpR ((ga en).bind _) _ _ := hw
 rw [wpR_bind] at hw
 exact wpR_mono hw (fun c hc => hc) fun C h => h
def mAndV (f g : En → Res Ev) : En → Res Ev := fun en => (f en).bind fun c => match c with
 | .p (.bool true) => g en
 | .p (.bool false) => .ok (.p (.bool false))
 | _ => .bad
def mOrV (f g : En → Res Ev) : En → Res Ev := fun en => (f en).bind fun c => match c with
 | .p (.bool false) => g en
 | .p (.bool true) => .ok (.p (.bool true))
 | _ => .bad
def mNotV (f : En → Res Ev) : En → Res Ev := fun en => (f en).bind fun c => match c with
 | .p (.bool k) => .ok (.p (.bool (!k)))
 | _ => .bad
theorem de_one {op} (h : DE X E a fa) : DE X E (.BoolOp op [a] pos) fa := let ⟨t, p, m⟩ := h.out; DE.in ⟨t, pe_one p, m⟩
theorem de_and (ha : DE X E a fa) (hb : DE X E (.BoolOp .And (b :: rest) pos) fb) : DE X E (.BoolOp .And (a :: b :: rest) pos) (mAndV fa fb) := by
 obtain ⟨ta, pa, ma⟩ := ha.out
 obtain ⟨tb, pb, mb⟩ := hb.out
 refine DE.in ?_
 refine ⟨_, pe_and pa pb, fun B G0 G W H σ en Q hh hs hw => ma B G0 G W H σ en _ hh hs (DE.go hw fun x G1 H1 v s1 e1 h1 => ?_)⟩
 cases x with
 | p d =>
  cases d with
  | bool k =>
   cases e1
   cases k with
   | true => exact ⟨true, rfl, mb B G0 G1 W H1 σ en Q (hh.step s1) (hs.step s1) h1⟩
   | false => exact ⟨false, rfl, h1 G1 H1 _ (Step.refl s1.gh) (.bl false)⟩
  | _ => exact False.elim h1
 | _ => exact False.elim h1
theorem de_not (ha : DE X E a fa) : DE X E (.UnaryOp .Not a pos) (mNotV fa) := by
 obtain ⟨ta, pa, ma⟩ := ha.out
 refine DE.in ?_
 refine ⟨_, pe_not pa, fun B G0 G W H σ en Q hh hs hw => ma B G0 G W H σ en _ hh hs (DE.go hw fun x G1 H1 v s1 e1 h1 => ?_)⟩
 cases x with
 | p d =>
  cases d with
  | bool k =>
   cases e1
   exact ⟨k, rfl, h1 G1 H1 _ (Step.refl s1.gh) (.bl _)⟩
  | _ => exact False.elim h1
 | _ => exact False.elim h1
def mNil : En → Res (List Ev) := fun _ => .ok []
def mCons (f : En → Res Ev) (g : En → Res (List Ev)) : En → Res (List Ev) := fun en => (f en).bind fun x => (g en).bind fun xs => .ok (x.c :: xs)
theorem da_nil : DA X E [] mNil := DA.in ⟨_, pa_nil, fun B G0 G W H σ en Q hh hs hw => hw G H [] (Step.refl hh.gh) trivial⟩
theorem da_cons (ha : DE X E e fa) (hr : DA X E es fr) (hst : starEach (e :: es) X.env = (false, eval e X.env) :: starEach es X.env := by rfl) : DA X E (e :: es) (mCons fa fr) := by
 obtain ⟨ta, pa, ma⟩ := ha.out
 obtain ⟨tr, pr, mr⟩ := hr.out
 refine DA.in ?_
 refine ⟨_, pa_cons pa pr hst, fun B G0 G W H σ en Q hh hs hw => ma B G0 G W H σ en _ hh hs ?_⟩
 have hw : wpR ((fa en).bind _) _ _ := hw
 rw [wpR_bind] at hw
 refine wpR_mono hw (fun x hx G1 H1 v s e1 => ?_) fun C h => h
 obtain ⟨G2, s2, e2⟩ := e1.c s
 refine mr B G0 G2 W H1 σ en _ (hh.step s2) (hs.step s2) ?_
 rw [wpR_bind] at hx
 refine wpR_mono hx (fun xs hxs G3 H3 vs s3 e3 => ?_) fun C h => h.step s2
 refine hxs G3 H3 (v :: vs) (s2.trans s3) ⟨e2.step s3, ?_⟩
 clear hxs hx hw
 induction xs generalizing vs with
 | nil => cases vs <;> exact e3
 | cons y ys ih =>
  cases vs with
  | nil => exact e3
  | cons u us =>
   refine ⟨?_, ih us e3.2⟩
   have z := e3.1
   cases y with
   | p d => exact z
   | b d => exact z
   | x d => exact z
   | f d =>
    obtain ⟨a, o, h1, h2, h3⟩ := z
    exact ⟨a, o, h1, s2.h.free h2, h3⟩
end
inductive Out where
 | nx (en : En)
 | rt (l : L)
 | bk (en : En)
 | ct (en : En)
 | ex (C : Addr) (en : En)
abbrev MS := En → Option Out
def RetOk (K : PySem.W.Frag) (B G H : Hp) (v : V) : L → Prop
 | .p d => Rep K G v d
 | .o d => ∃ a o, v = .ref a ∧ G a = none ∧ B a = none ∧ H a = some o ∧ Cont K G o d
 | .x C => ∃ e, v = .ref e ∧ G e = some (excO e (.ref C))
 | .h _ => False
def PostS (K : PySem.W.Frag) (B G0 : Hp) (E : L2.St → XK) (Dn : Ends) : Out → Prop
 | .nx en => ∀ G W H σ, SimH B G0 G W H → SimS K W G H σ en → Dn.nx σ H
 | .bk en => ∀ G W H σ, SimH B G0 G W H → SimS K W G H σ en → Dn.bk σ H
 | .ct en => ∀ G W H σ, SimH B G0 G W H → SimS K W G H σ en → Dn.ct σ H
 | .rt l => ∀ G W H v, SimH B G0 G W H → RetOk K B G H v l → Dn.rt v H
 | .ex C en => ∀ G W H σ, SimH B G0 G W H → SimS K W G H σ en → E σ (.ref C) none H
def wpO (o : Option Out) (P : Out → Prop) : Prop := match o with
 | some r => P r
 | none => False
def tS (K : PySem.W.Frag) (E : L2.St → XK) (f : MS) : TS := fun Dn σ H => ∃ B G0 G W en, SimH B G0 G W H ∧ SimS K W G H σ en ∧ wpO (f en) (PostS K B G0 E Dn)
def DS (X : Cx) (E : L2.St → XK) (st : Stmt) (f : MS) : Prop := PS X st (tS X.K E f)
def DSs (X : Cx) (E : L2.St → XK) (st : List Stmt) (f : MS) : Prop := PSs X st (tS X.K E f)
section
variable {X : Cx} {E : L2.St → XK} {st : Stmt} {sts : List Stmt} {f g : MS} {fe : En → Res Ev} {fc : En → Res Bool} {e c : Expr} {pos : Pos}
theorem DS.in (h : ∃ t, PS X st t ∧ ∀ B G0 G W H σ en Dn, SimH B G0 G W H → SimS X.K W G H σ en → wpO (f en) (PostS X.K B G0 E Dn) → t Dn σ H) : DS X E st f :=
 fun pins s σ H Dn I ⟨B, G0, G, W, en, h1, h2, h3⟩ => let ⟨_, p, m⟩ := h; p pins s σ H Dn I (m B G0 G W H σ en Dn h1 h2 h3)
theorem DSs.in (h : ∃ t, PSs X sts t ∧ ∀ B G0 G W H σ en Dn, SimH B G0 G W H → SimS X.K W G H σ en → wpO (f en) (PostS X.K B G0 E Dn) → t Dn σ H) : DSs X E sts f :=
 fun pins s σ H Dn I ⟨B, G0, G, W, en, h1, h2, h3⟩ => let ⟨_, p, m⟩ := h; p pins s σ H Dn I (m B G0 G W H σ en Dn h1 h2 h3)
theorem DS.out (h : DS X E st f) : ∃ t, PS X st t ∧ ∀ B G0 G W H σ en Dn, SimH B G0 G W H → SimS X.K W G H σ en → wpO (f en) (PostS X.K B G0 E Dn) → t Dn σ H :=
 ⟨_, h, fun B G0 G W H σ en Dn h1 h2 h3 => ⟨B, G0, G, W, en, h1, h2, h3⟩⟩
theorem DSs.out (h : DSs X E sts f) : ∃ t, PSs X sts t ∧ ∀ B G0 G W H σ en Dn, SimH B G0 G W H → SimS X.K W G H σ en → wpO (f en) (PostS X.K B G0 E Dn) → t Dn σ H :=
 ⟨_, h, fun B G0 G W H σ en Dn h1 h2 h3 => ⟨B, G0, G, W, en, h1, h2, h3⟩⟩
def mNext : MS := fun en => some (.nx en)
def mSeq (f g : MS) : MS := fun en => match f en with
 | some (.nx e) => g e
 | r => r
theorem dss_nil : DSs X E [] mNext := DSs.in ⟨_, pss_nil, fun B G0 G W H σ en Dn hh hs hw => hw G W H σ hh hs⟩
theorem dss_one (h : DS X E st f) : DSs X E [st] f := let ⟨t, p, m⟩ := h.out; DSs.in ⟨t, pss_one p, m⟩
theorem dss_cons (h1 : DS X E st f) (h2 : DSs X E sts g) : DSs X E (st :: sts) (mSeq f g) := by
 obtain ⟨t, p, m⟩ := h1.out
 obtain ⟨u, q, n⟩ := h2.out
 refine DSs.in ⟨_, pss_cons p q, fun B G0 G W H σ en Dn hh hs hw => m B G0 G W H σ en _ hh hs ?_⟩
 unfold mSeq at hw
 cases ef : f en with
 | none => rw [ef] at hw; exact hw
 | some r =>
  rw [ef] at hw
  cases r with
  | nx e => exact fun G1 W1 H1 σ1 hh1 hs1 => n B G0 G1 W1 H1 σ1 e Dn hh1 hs1 hw
  | rt l => exact hw
  | bk e => exact hw
  | ct e => exact hw
  | ex C e => exact hw
theorem SimS.set {K : PySem.W.Frag} {W : Addr → Option Nat} {G H : Hp} {σ : L2.St} {en : En} {i : Nat} {v : V} {l : L} (h : SimS K W G H σ en) (hl : Slot K W G H i v l) : SimS K W G H (σ.set i (some v)) (en.set i (some l)) := by
 refine ⟨by rw [List.length_set, List.length_set]; exact h.1, fun j m e => ?_⟩
 rw [List.getElem?_set] at e
 rw [List.getElem?_set]
 by_cases hj : i = j
 ·subst hj
  rw [if_pos rfl] at e
  split at e
  ·rename_i hlt
   cases e
   rw [if_pos rfl, if_pos (by rw [h.1]; exact hlt)]
   exact ⟨v, rfl, hl⟩
  ·cases e
 ·rw [if_neg hj] at e ⊢
  exact h.2 j m e
def owner (W : Addr → Option Nat) (a : Addr) (i : Nat) : Addr → Option Nat := fun b => if b = a then some i else W b
theorem take_new {K : PySem.W.Frag} {B G0 G H : Hp} {W : Addr → Option Nat} {σ : L2.St} {en : En} {i : Nat} {a : Addr} {o : HO} {d : D} (hh : SimH B G0 G W H) (hs : SimS K W G H σ en) (hW : W a = none) (hG : G a = none) (hB : B a = none) (hH : H a = some o) (hc : Cont K G o d) :
  SimH B G0 G (owner W a i) H ∧ SimS K (owner W a i) G H (σ.set i (some (.ref a))) (en.set i (some (.o d))) := by
 refine ⟨⟨hh.gh, hh.bh, hh.g0, hh.gb, fun b j e => ?_⟩, SimS.set ⟨hs.1, fun j l e => ?_⟩ ⟨a, o, rfl, if_pos rfl, hH, hc⟩⟩
 ·unfold owner at e
  split at e
  ·rename_i z
   subst z
   exact ⟨hG, hB, o, hH, hc.mut⟩
  ·exact hh.wf b j e
 ·obtain ⟨v, e1, e2⟩ := hs.2 j l e
  refine ⟨v, e1, ?_⟩
  cases l with
  | p d => exact e2
  | x C => exact e2
  | h a => exact e2
  | o d =>
   obtain ⟨b, ob, h1, h2, h3, h4⟩ := e2
   refine ⟨b, ob, h1, ?_, h3, h4⟩
   unfold owner
   rw [if_neg (fun z => by rw [z, hW] at h2; cases h2)]
   exact h2
def mSet (i : Nat) (fe : En → Res Ev) : MS := fun en => match fe en with
 | .ok (.p d) => some (.nx (en.set i (some (.p d))))
 | .ok (.f d) => some (.nx (en.set i (some (.o d))))
 | .ok (.x C) => some (.nx (en.set i (some (.x C))))
 | .ok (.b _) => none
 | .exc C => some (.ex C en)
 | .bad => none
theorem SimH.lone {B G0 G H : Hp} {W : Addr → Option Nat} (hh : SimH B G0 G W H) {a : Addr} (h : H a = none) : W a = none := by
 cases e : W a with
 | none => rfl
 | some i =>
  obtain ⟨_, _, o, q, _⟩ := hh.wf a i e
  rw [h] at q; cases q
theorem set_core {te : TE} {i : Nat} (m : ∀ B G0 G W H σ en Q, SimH B G0 G W H → SimS X.K W G H σ en → wpR (fe en) (PostE X.K W G H Q) (PostX (E σ) G H) → te σ H Q) :
  ∀ B G0 G W H σ en Dn, SimH B G0 G W H → SimS X.K W G H σ en → wpO (mSet i fe en) (PostS X.K B G0 E Dn) → te σ H fun x H1 => Dn.nx (σ.set i (some x)) H1 := by
 intro B G0 G W H σ en Dn hh hs hw
 refine m B G0 G W H σ en _ hh hs ?_
 unfold mSet at hw
 cases ef : fe en with
 | bad => rw [ef] at hw; exact hw
 | exc C => rw [ef] at hw; exact fun G1 H1 s => hw G1 W H1 σ (hh.step s) (hs.step s)
 | ok r =>
  rw [ef] at hw
  cases r with
  | b d => exact hw.elim
  | p d => exact fun G1 H1 v s e => hw G1 W H1 _ (hh.step s) ((hs.step s).set e)
  | x C => exact fun G1 H1 v s e => hw G1 W H1 _ (hh.step s) ((hs.step s).set e)
  | f d =>
   rintro G1 H1 v s ⟨a, o, rfl, h1, h2, h3, h4⟩
   obtain ⟨q1, q2⟩ := take_new (i := i) (hh.step s) (hs.step s) (hh.lone h1) h2 (hh.bh.free h1) h3 h4
   exact hw G1 _ H1 _ q1 q2
theorem ds_set {i : Nat} {x : Str} {pos' : Pos} (hN : X.N.Nodup) (hi : X.N[i]? = some x) (hx : Loc X.env.scope x) (he : DE X E e fe) (hs : swapsWith e (some (.Name x pos')) pos.line X.env = pure false := by rfl) (hf : X.fn x = true ∨ X.env.scope.names.lookup x = some .local := by first | exact .inl rfl | exact .inr rfl | assumption) :
  DS X E (.Assign [.Name x pos'] e pos) (mSet i fe) := by
 obtain ⟨t, p, m⟩ := he.out
 exact DS.in ⟨_, ps_set hN hi hx p hs hf, set_core m⟩
def mDrop (fe : En → Res Ev) : MS := fun en => match fe en with
 | .ok _ => some (.nx en)
 | .exc C => some (.ex C en)
 | .bad => none
theorem ds_expr (he : DE X E e fe) (hs : swapsWith e none pos.line X.env = pure false := by rfl) : DS X E (.Expr e pos) (mDrop fe) := by
 obtain ⟨t, p, m⟩ := he.out
 refine DS.in ⟨_, ps_expr p hs, fun B G0 G W H σ en Dn hh hs hw => m B G0 G W H σ en _ hh hs ?_⟩
 unfold mDrop at hw
 cases ef : fe en with
 | bad => rw [ef] at hw; exact hw
 | exc C => rw [ef] at hw; exact fun G1 H1 s => hw G1 W H1 σ (hh.step s) (hs.step s)
 | ok r => rw [ef] at hw; exact fun G1 H1 v s _ => hw G1 W H1 σ (hh.step s) (hs.step s)
def retL : Ev → L
 | .p d => .p d
 | .f d => .o d
 | .b d => .o d
 | .x C => .x C
def mRet (fe : En → Res Ev) : MS := fun en => match fe en with
 | .ok r => some (.rt (retL r))
 | .exc C => some (.ex C en)
 | .bad => none
theorem ds_ret (he : DE X E e fe) : DS X E (.Return (some e) pos) (mRet fe) := by
 obtain ⟨t, p, m⟩ := he.out
 refine DS.in ⟨_, ps_ret p, fun B G0 G W H σ en Dn hh hs hw => m B G0 G W H σ en _ hh hs ?_⟩
 unfold mRet at hw
 cases ef : fe en with
 | bad => rw [ef] at hw; exact hw
 | exc C => rw [ef] at hw; exact fun G1 H1 s => hw G1 W H1 σ (hh.step s) (hs.step s)
 | ok r =>
  rw [ef] at hw
  intro G1 H1 v s e
  refine hw G1 W H1 v (hh.step s) ?_
  cases r with
  | p d => exact e
  | x C => exact e
  | f d =>
   obtain ⟨a, o, h0, h1, h2, h3, h4⟩ := e
   exact ⟨a, o, h0, h2, hh.bh.free h1, h3, h4⟩
  | b d =>
   obtain ⟨a, i, o, h0, h1, h3, h4⟩ := e
   have z := (hh.step s).wf a i h1
   exact ⟨a, o, h0, z.1, z.2.1, h3, h4⟩
def mIfS (c : En → Res Bool) (f g : MS) : MS := fun en => match c en with
 | .ok k => if k = true then f en else g en
 | .exc C => some (.ex C en)
 | .bad => none
theorem ds_if {A B : List Stmt} (hc : DT X E c fc) (ha : DSs X E A f) (hb : DSs X E B g) : DS X E (.If c A B pos) (mIfS fc f g) := by
 obtain ⟨tc, pc, mc⟩ := hc.out
 obtain ⟨t, p, m⟩ := ha.out
 obtain ⟨u, q, n⟩ := hb.out
 refine DS.in ⟨_, ps_if pc p q, fun B G0 G W H σ en Dn hh hs hw => mc B G0 G W H σ en _ hh hs ?_⟩
 unfold mIfS at hw
 cases ef : fc en with
 | bad => rw [ef] at hw; exact hw
 | exc C => rw [ef] at hw; exact fun G1 H1 s => hw G1 W H1 σ (hh.step s) (hs.step s)
 | ok k =>
  rw [ef] at hw
  intro G1 H1 s
  cases k with
  | true => exact m B G0 G1 W H1 σ en Dn (hh.step s) (hs.step s) hw
  | false => exact n B G0 G1 W H1 σ en Dn (hh.step s) (hs.step s) hw
def frz (i : Nat) (en : En) : En := match en[i]? with
 | some (some (.o d)) => en.set i (some (.p d))
 | _ => en
theorem frz_ok {K : PySem.W.Frag} {B G0 G H : Hp} {W : Addr → Option Nat} {σ : L2.St} {en : En} (i : Nat) (hh : SimH B G0 G W H) (hs : SimS K W G H σ en) : ∃ G' W', SimH B G0 G' W' H ∧ SimS K W' G' H σ (frz i en) := by
 unfold frz
 split
 ·rename_i d e
  obtain ⟨v, e1, a, o, rfl, e2, e3, e4⟩ := hs.2 i _ e
  obtain ⟨w1, w2, w3⟩ := hh.wf a i e2
  have sg : Same G (upd G a o) := Same.upd (Same.refl _) w1 o
  refine ⟨upd G a o, fun b => if b = a then none else W b, ⟨fun b u q => ?_, hh.bh, hh.g0.trans sg, fun b hb => ?_, fun b j e => ?_⟩, by rw [List.length_set]; exact hs.1, fun j l e5 => ?_⟩
  ·by_cases z : b = a
   ·subst z; rw [upd_same] at q; rw [e3]; exact q
   ·rw [upd_ne z] at q; exact hh.gh b u q
  ·by_cases z : b = a
   ·subst z; exact .inr (.inl w2)
   ·rw [upd_ne z] at hb; exact hh.gb b hb
  ·split at e
   ·cases e
   ·rename_i z
    rw [upd_ne z]; exact hh.wf b j e
  ·rw [List.getElem?_set] at e5
   by_cases hj : i = j
   ·subst hj
    rw [if_pos rfl] at e5
    split at e5
    ·cases e5
     exact ⟨_, e1, (e4.mono sg).rep upd_same⟩
    ·cases e5
   ·rw [if_neg hj] at e5
    obtain ⟨v, f1, f2⟩ := hs.2 j l e5
    refine ⟨v, f1, ?_⟩
    cases l with
    | p d => exact f2.mono sg
    | x C => obtain ⟨ea, g1, g2⟩ := f2; exact ⟨ea, g1, sg _ _ g2⟩
    | h a => exact f2
    | o d =>
     obtain ⟨b, ob, g1, g2, g3, g4⟩ := f2
     refine ⟨b, ob, g1, ?_, g3, g4.mono sg⟩
     show (if b = a then none else W b) = some j
     rw [if_neg (fun z => by rw [z, e2] at g2; exact hj (Option.some.inj g2))]
     exact g2
 ·exact ⟨G, W, hh, hs⟩
theorem dss_frz (i : Nat) (h : DSs X E sts f) : DSs X E sts (fun en => f (frz i en)) := by
 obtain ⟨t, p, m⟩ := h.out
 refine DSs.in ⟨t, p, fun B G0 G W H σ en Dn hh hs hw => ?_⟩
 obtain ⟨G', W', h1, h2⟩ := frz_ok i hh hs
 exact m B G0 G' W' H σ _ Dn h1 h2 hw
end
def mWh (c : En → Res Bool) (f : MS) : Nat → MS
 | 0, _ => none
 | n + 1, en => match c en with
  | .bad => none
  | .exc C => some (.ex C en)
  | .ok false => some (.nx en)
  | .ok true => match f en with
   | some (.nx e) => mWh c f n e
   | some (.ct e) => mWh c f n e
   | some (.bk e) => some (.nx e)
   | r => r
theorem mWh_more {c : En → Res Bool} {f : MS} : ∀ {n : Nat} {en : En} {r : Out}, mWh c f n en = some r → mWh c f (n + 1) en = some r
 | 0, _, _, h => by cases h
 | n + 1, en, r, h => by
  unfold mWh at h ⊢
  cases ec : c en with
  | bad => rw [ec] at h; exact h
  | exc C => rw [ec] at h; exact h
  | ok k =>
   rw [ec] at h
   cases k with
   | false => exact h
   | true =>
    dsimp only at h ⊢
    cases ef : f en with
    | none => rw [ef] at h; exact h
    | some o =>
     rw [ef] at h
     cases o with
     | nx e => exact mWh_more (n := n) h
     | ct e => exact mWh_more (n := n) h
     | bk e => exact h
     | rt l => exact h
     | ex C e => exact h
theorem mWh_le {c : En → Res Bool} {f : MS} {n m : Nat} {en : En} {r : Out} (h : mWh c f n en = some r) (l : n ≤ m) : mWh c f m en = some r := by
 induction l with
 | refl => exact h
 | step _ ih => exact mWh_more ih
open Classical in
noncomputable def mWhile (c : En → Res Bool) (f : MS) : MS := fun en => if h : ∃ n r, mWh c f n en = some r then mWh c f h.choose en else none
theorem mWhile_of {c : En → Res Bool} {f : MS} {n : Nat} {en : En} {r : Out} (h : mWh c f n en = some r) : mWhile c f en = some r := by
 unfold mWhile
 have hx : ∃ n r, mWh c f n en = some r := ⟨n, r, h⟩
 rw [dif_pos hx]
 obtain ⟨r', h'⟩ := hx.choose_spec
 rcases Nat.le_total n hx.choose with l | l
 ·exact mWh_le h l
 ·have := mWh_le h' l
  rw [h] at this
  rw [h']; exact this.symm
theorem mWhile_fuel {c : En → Res Bool} {f : MS} {en : En} {P : Out → Prop} (h : wpO (mWhile c f en) P) : ∃ n, wpO (mWh c f n en) P := by
 unfold mWhile at h
 split at h
 ·exact ⟨_, h⟩
 ·exact h.elim
section
variable {X : Cx} {E : L2.St → XK} {st : Stmt} {sts : List Stmt} {f g : MS} {fe : En → Res Ev} {fc : En → Res Bool} {e c : Expr} {pos : Pos}
theorem ds_while (hp : PassesOwn (model X.prog X.w) X.A X.env X.xe) (hc : DT X E c fc) (hb : DSs X E sts f) : DS X E (.While c sts [] pos) (mWhile fc f) := by
 obtain ⟨tc, pc, mc⟩ := hc.out
 obtain ⟨t, p, m⟩ := hb.out
 refine DS.in ⟨_, ps_while hp pc p, fun B G0 G W H σ en Dn hh hs hw => ?_⟩
 obtain ⟨n0, hw⟩ := mWhile_fuel hw
 refine ⟨fun n σ H => ∃ G W en, SimH B G0 G W H ∧ SimS X.K W G H σ en ∧ wpO (mWh fc f n en) (PostS X.K B G0 E Dn), ⟨n0, G, W, en, hh, hs, hw⟩, ?_⟩
 rintro n σ H ⟨G, W, en, hh, hs, hw⟩
 cases n with
 | zero => exact hw.elim
 | succ n =>
  refine mc B G0 G W H σ en _ hh hs ?_
  unfold mWh at hw
  cases ec : fc en with
  | bad => rw [ec] at hw; exact hw
  | exc C => rw [ec] at hw; exact fun G1 H1 s => hw G1 W H1 σ (hh.step s) (hs.step s)
  | ok k =>
   rw [ec] at hw
   intro G1 H1 s
   cases k with
   | false => exact hw G1 W H1 σ (hh.step s) (hs.step s)
   | true =>
    refine ⟨fun σ' H' => ∃ G W en, SimH B G0 G W H' ∧ SimS X.K W G H' σ' en ∧ wpO (mWh fc f n en) (PostS X.K B G0 E Dn), fun σ' H' q => ⟨n, Nat.lt_succ_self n, q⟩, ?_⟩
    refine m B G0 G1 W H1 σ en _ (hh.step s) (hs.step s) ?_
    dsimp only at hw
    cases ef : f en with
    | none => rw [ef] at hw; exact hw
    | some o =>
     rw [ef] at hw
     cases o with
     | nx e => exact fun G2 W2 H2 σ2 h2 s2 => ⟨G2, W2, e, h2, s2, hw⟩
     | ct e => exact fun G2 W2 H2 σ2 h2 s2 => ⟨G2, W2, e, h2, s2, hw⟩
     | bk e => exact hw
     | rt l => exact hw
     | ex C e => exact hw
end
def IterOk (K : PySem.W.Frag) (ds : List D) (G1 : Hp) (J : It) : Prop := ∀ G H, Same G1 G → Same G H →
 (∀ i d, ds[i]? = some d → J.go i H ∧ ∀ v H', J.yld i H v H' → ∃ G', Step G H G' H' ∧ Rep K G' v d) ∧ J.stop ds.length H
def tI (K : PySem.W.Frag) (E : L2.St → XK) (f : En → Res (List D)) : TI := fun σ H R => ∃ B G0 G W en, SimH B G0 G W H ∧ SimS K W G H σ en ∧ wpR (f en) (fun ds => ∀ G' H' J, Step G H G' H' → IterOk K ds G' J → R J H') (PostX (E σ) G H)
def DI (X : Cx) (E : L2.St → XK) (tg e : Expr) (f : En → Res (List D)) : Prop := PI X tg e (tI X.K E f)
def Kept (ks : List Nat) (σ σ' : L2.St) : Prop := σ'.length = σ.length ∧ ∀ j, j ∉ ks → σ'[j]? = σ[j]?
def tG (K : PySem.W.Frag) (ks : List Nat) (f : D → En → Option En) : TG := fun v σ H Q => ∃ G W en d en', Same G H ∧ SimS K W G H σ en ∧ Rep K G v d ∧ f d en = some en' ∧ ∀ σ', SimS K W G H σ' en' → Kept ks σ σ' → Q σ' H
def tGs (K : PySem.W.Frag) (ks : List Nat) (f : List D → En → Option En) : TGs := fun vs σ H Q => ∃ G W en ds en', Same G H ∧ SimS K W G H σ en ∧ Reps K G vs ds ∧ f ds en = some en' ∧ ∀ σ', SimS K W G H σ' en' → Kept ks σ σ' → Q σ' H
def DG (X : Cx) (tg : Expr) (ks : List Nat) (f : D → En → Option En) : Prop := PG X tg (tG X.K ks f)
def DGs (X : Cx) (tg : List Expr) (ks : List Nat) (f : List D → En → Option En) : Prop := PGs X tg (tGs X.K ks f)
theorem Kept.trans {ks ls : List Nat} {σ σ1 σ2 : L2.St} (a : Kept ks σ σ1) (b : Kept ls σ1 σ2) : Kept (ks ++ ls) σ σ2 :=
 ⟨b.1.trans a.1, fun j hj => (b.2 j fun z => hj (List.mem_append_right _ z)).trans (a.2 j fun z => hj (List.mem_append_left _ z))⟩
def mgName (i : Nat) : D → En → Option En := fun d en => some (en.set i (some (.p d)))
def mgNil : List D → En → Option En := fun ds en => match ds with
 | [] => some en
 | _ => none
def mgCons (f : D → En → Option En) (g : List D → En → Option En) : List D → En → Option En := fun ds en => match ds with
 | [] => none
 | d :: r => match f d en with
  | none => none
  | some e => g r e
def mgTup (n : Nat) (f : List D → En → Option En) : D → En → Option En := fun d en => match d with
 | .tuple ds => if ds.length = n then f ds en else none
 | _ => none
section
variable {X : Cx} {E : L2.St → XK} {pos : Pos}
theorem DI.in {tg e : Expr} {f : En → Res (List D)} (h : ∃ t, PI X tg e t ∧ ∀ B G0 G W H σ en R, SimH B G0 G W H → SimS X.K W G H σ en → wpR (f en) (fun ds => ∀ G' H' J, Step G H G' H' → IterOk X.K ds G' J → R J H') (PostX (E σ) G H) → t σ H R) : DI X E tg e f :=
 fun pins s σ H R I ⟨B, G0, G, W, en, h1, h2, h3⟩ => let ⟨_, p, m⟩ := h; p pins s σ H R I (m B G0 G W H σ en R h1 h2 h3)
theorem dg_name {i : Nat} {x : Str} (hN : X.N.Nodup) (hi : X.N[i]? = some x) (hx : Loc X.env.scope x) (hf : X.fn x = true ∨ X.env.scope.names.lookup x = some .local := by first | exact .inl rfl | exact .inr rfl | assumption) : DG X (.Name x pos) [i] (mgName i) := by
 intro pins s σ H v u Q I r ⟨G, W, en, d, en', h1, h2, h3, h4, h5⟩
 refine pg_name hN hi hx hf pins s σ H v u Q I r ?_
 cases h4
 exact h5 _ (h2.set h3) ⟨List.length_set .., fun j hj => List.getElem?_set_ne (fun z => hj (by rw [z]; exact .head _))⟩
theorem dgs_nil : DGs X [] [] mgNil := by
 intro pins s σ H vs us Q I r ⟨G, W, en, ds, en', h1, h2, h3, h4, h5⟩
 refine pgs_nil pins s σ H vs us Q I r ?_
 unfold mgNil at h4
 split at h4
 ·cases h4; cases h3; exact ⟨rfl, h5 _ h2 ⟨rfl, fun _ _ => rfl⟩⟩
 ·cases h4
theorem dgs_cons {e : Expr} {es : List Expr} {ks ls : List Nat} {f : D → En → Option En} {g : List D → En → Option En} (h1 : DG X e ks f) (h2 : DGs X es ls g)
  (hs : (assignEach (e :: es) X.env).map (·.2) = assign e X.env :: (assignEach es X.env).map (·.2) := by rfl) : DGs X (e :: es) (ks ++ ls) (mgCons f g) := by
 intro pins s σ H vs us Q I r ⟨G, W, en, ds, en', k1, k2, k3, k4, k5⟩
 refine pgs_cons h1 h2 hs pins s σ H vs us Q I r ?_
 unfold mgCons at k4
 cases k3 with
 | nil => cases k4
 | @cons x xs d ds hx hr =>
  dsimp only at k4
  split at k4
  ·cases k4
  ·rename_i e1 q1
   exact ⟨x, xs, rfl, G, W, en, d, e1, k1, k2, hx, q1, fun σ' hσ hk => ⟨G, W, e1, ds, en', k1, hσ, hr, k4, fun σ2 q1 q2 => k5 σ2 q1 (hk.trans q2)⟩⟩
theorem dg_tup {es : List Expr} {k : Nat} {ks : List Nat} {f : List D → En → Option En} {n : Nat} (hc : X.calm = true) (h : DGs X es ks f) (hn : (assignEach es X.env).length = n := by rfl) (hst : (assignEach es X.env).findIdx? (·.1) = none := by rfl) : DG X (.Tuple es k pos) ks (mgTup n f) := by
 intro pins s σ H v u Q I r ⟨G, W, en, d, en', k1, k2, k3, k4, k5⟩
 refine pg_tup hc h hn hst pins s σ H v u Q I r ?_
 unfold mgTup at k4
 split at k4
 ·rename_i ds
  split at k4
  ·rename_i hl
   cases k3 with
   | @tup a xs _ ha hr => exact ⟨a, xs, rfl, SqT.of (k1 _ _ ha), by rw [hr.length]; exact hl, G, W, en, ds, en', k1, k2, hr, k4, k5⟩
  ·cases k4
 ·cases k4
def mLoop (tg : D → En → Option En) (f : MS) : List D → MS
 | [], en => some (.nx en)
 | d :: ds, en => match tg d en with
  | none => none
  | some e1 => match f e1 with
   | some (.nx e2) => mLoop tg f ds e2
   | some (.ct e2) => mLoop tg f ds e2
   | some (.bk e2) => some (.nx e2)
   | r => r
def mFor (fi : En → Res (List D)) (tg : D → En → Option En) (f : MS) : MS := fun en => match fi en with
 | .ok ds => mLoop tg f ds en
 | .exc C => some (.ex C en)
 | .bad => none
theorem SimH.lower {B G0 G1 G H H1 : Hp} {W W1 : Addr → Option Nat} (h : SimH B G1 G W H) (h1 : SimH B G0 G1 W1 H1) : SimH B G0 G W H :=
 ⟨h.gh, h.bh, h1.g0.trans h.g0, fun b hb => (h.gb b hb).elim (fun z => h1.gb b z) .inr, h.wf⟩
theorem SimH.raise {B G0 G H : Hp} {W : Addr → Option Nat} (h : SimH B G0 G W H) : SimH B G G W H := ⟨h.gh, h.bh, Same.refl _, fun _ hb => .inl hb, h.wf⟩
theorem PostS.lower {K : PySem.W.Frag} {B G0 G1 H1 : Hp} {W1 : Addr → Option Nat} {Dn : Ends} {r : Out} (h : PostS K B G0 E Dn r) (h1 : SimH B G0 G1 W1 H1) : PostS K B G1 E Dn r := by
 cases r with
 | nx en => exact fun G W H σ a b => h G W H σ (a.lower h1) b
 | bk en => exact fun G W H σ a b => h G W H σ (a.lower h1) b
 | ct en => exact fun G W H σ a b => h G W H σ (a.lower h1) b
 | rt l => exact fun G W H σ a b => h G W H σ (a.lower h1) b
 | ex C en => exact fun G W H σ a b => h G W H σ (a.lower h1) b
theorem ds_for {tg iter : Expr} {body : List Stmt} {fi : En → Res (List D)} {ks : List Nat} {g : D → En → Option En} {f : MS} (hp : PassesOwn (model X.prog X.w) X.A X.env X.xe) (hc : X.calm = true) (hi : DI X E tg iter fi) (hg : DG X tg ks g) (hb : DSs X E body f)
  (hs : ∀ x, foldedSetIterable iter X.env x = pure x := by intro _; rfl) : DS X E (.For tg iter body [] pos) (mFor fi g f) := by
 obtain ⟨t, p, m⟩ := hb.out
 refine DS.in ⟨_, ps_for hp hc hi hg p hs, fun B G0 G W H σ en Dn hh hs hw => ⟨B, G0, G, W, en, hh, hs, ?_⟩⟩
 unfold mFor at hw
 cases ef : fi en with
 | bad => rw [ef] at hw; exact hw
 | exc C => rw [ef] at hw; exact fun G1 H1 s => hw G1 W H1 σ (hh.step s) (hs.step s)
 | ok ds =>
  rw [ef] at hw
  intro G1 H1 J s1 hJ
  have hh1 := hh.step s1
  refine ⟨fun i n σ H => n = ds.length - i ∧ i ≤ ds.length ∧ ∃ G W en, SimH B G1 G W H ∧ SimS X.K W G H σ en ∧ wpO (mLoop g f (ds.drop i) en) (PostS X.K B G0 E Dn),
   ⟨ds.length, rfl, Nat.zero_le _, G1, W, en, hh1.raise, hs.step s1, hw⟩, ?_⟩
  rintro i n σ H ⟨rfl, hi, G, W, en, hh, hs, hw⟩
  obtain ⟨j1, j2⟩ := hJ G H hh.g0 hh.gh
  by_cases hlt : i < ds.length
  ·refine .inr ?_
   obtain ⟨jg, jy⟩ := j1 i ds[i] (List.getElem?_eq_getElem hlt)
   rw [List.drop_eq_getElem_cons hlt] at hw
   unfold mLoop at hw
   refine ⟨jg, fun σ' H' => ∃ G W en, SimH B G1 G W H' ∧ SimS X.K W G H' σ' en ∧ wpO (mLoop g f (ds.drop (i + 1)) en) (PostS X.K B G0 E Dn), fun σ' H' q => ⟨ds.length - (i + 1), by omega, rfl, hlt, q⟩, fun v H' hy => ?_⟩
   obtain ⟨G2, s2, rv⟩ := jy v H' hy
   cases eg : g ds[i] en with
   | none => rw [eg] at hw; exact hw.elim
   | some e1 =>
    rw [eg] at hw
    dsimp only at hw
    refine ⟨G2, W, en, ds[i], e1, s2.gh, hs.step s2, rv, eg, fun σ' hσ _ => ?_⟩
    refine m B G1 G2 W H' σ' e1 _ (hh.step s2) hσ ?_
    cases ef2 : f e1 with
    | none => rw [ef2] at hw; exact hw
    | some o =>
     rw [ef2] at hw
     cases o with
     | nx e => exact fun G2 W2 H2 σ2 h2 s2 => ⟨G2, W2, e, h2, s2, hw⟩
     | ct e => exact fun G2 W2 H2 σ2 h2 s2 => ⟨G2, W2, e, h2, s2, hw⟩
     | bk e => exact PostS.lower (E := E) (Dn := Dn) (r := .nx e) hw hh1
     | rt l => exact PostS.lower (E := E) (Dn := Dn) (r := .rt l) hw hh1
     | ex C e => exact PostS.lower (E := E) (Dn := Dn) (r := .ex C e) hw hh1
  ·have e : i = ds.length := by omega
   subst e
   rw [List.drop_length] at hw
   exact .inl ⟨j2, hw G W H σ (hh.lower hh1) hs⟩
def listR (r : Ev) : Res (List D) := match r with
 | .p (.list ds) => .ok ds
 | _ => .bad
def mItL (fe : En → Res Ev) : En → Res (List D) := fun en => (fe en).bind fun r => listR r.c
theorem di_list {tg e : Expr} {fe : En → Res Ev} (he : DE X E e fe) : DI X E tg e (mItL fe) := by
 obtain ⟨t, p, m⟩ := he.out
 refine DI.in ⟨_, pi_list p, fun B G0 G W H σ en R hh hs hw => m B G0 G W H σ en _ hh hs ?_⟩
 have hw : wpR ((fe en).bind _) _ _ := hw
 rw [wpR_bind] at hw
 refine wpR_mono hw (fun r hr G1 H1 v s e => ?_) fun C h => h
 obtain ⟨G2, s2, e2⟩ := e.c s
 cases er : r.c with
 | p d =>
  rw [er] at hr e2
  cases d with
  | list ds =>
   cases e2 with
   | @lst a xs _ ha hrs =>
    refine ⟨a, rfl, ⟨xs, s2.gh.seq (.inl ha)⟩, hr G2 H1 _ s2 fun G3 H3 k1 k2 => ⟨fun i d ed => ?_, xs, (k1.trans k2).seq (.inl ha), Nat.le_of_eq hrs.length⟩⟩
    obtain ⟨x, ex, rx⟩ := hrs.get' ed
    refine ⟨⟨xs, x, (k1.trans k2).seq (.inl ha), ex⟩, fun v H' hy => ?_⟩
    obtain ⟨rfl, hy⟩ := hy
    have := hy xs ((k1.trans k2).seq (.inl ha))
    rw [ex] at this
    cases this
    exact ⟨G3, Step.refl k2, rx.mono k1⟩
  | _ => exact False.elim hr
 | f d => rw [er] at hr; exact False.elim hr
 | b d => rw [er] at hr; exact False.elim hr
 | x C => rw [er] at hr; exact False.elim hr
def rngL (lo : Int) (n : Nat) : List D := (List.range n).map fun (k : Nat) => PyData.int (lo + (k : Int))
def rng1R (rs : List Ev) : Res (List D) := match rs with
 | [.p (.int j)] => if -(2 ^ 62) ≤ j ∧ j < 2 ^ 62 then .ok (rngL 0 j.toNat) else .bad
 | _ => .bad
theorem iter_range (K : PySem.W.Frag) (lo : Int) (n : Nat) (G1 : Hp) : IterOk K (rngL lo n) G1 (Itr lo n) := fun G H _ k2 => by
 refine ⟨fun i d ed => ?_, by show n ≤ _; unfold rngL; rw [List.length_map, List.length_range]; exact Nat.le_refl _⟩
 unfold rngL at ed
 rw [List.getElem?_map] at ed
 by_cases hi : i < n
 ·rw [List.getElem?_range hi] at ed
  cases ed
  refine ⟨hi, fun v H' hy => ?_⟩
  obtain ⟨rfl, rfl⟩ := hy
  exact ⟨G, Step.refl k2, .int _⟩
 ·rw [List.getElem?_eq_none (by rw [List.length_range]; omega)] at ed
  cases ed
def mItA (r : List Ev → Res (List D)) (fr : En → Res (List Ev)) : En → Res (List D) := fun en => (fr en).bind r
theorem di_range1 {tg a : Expr} {fr : En → Res (List Ev)} {p : Pos} (hg : Gl X "range") (hm : X.mg "range" = none) (ha : DA X E [a] fr) (hs : starEach [a] X.env = [(false, eval a X.env)] := by rfl) : DI X E tg (.Call (.Name "range" p) [a] [] pos) (mItA rng1R fr) := by
 obtain ⟨t, q, m⟩ := ha.out
 refine DI.in ⟨_, pi_range1 hg hm q hs, fun B G0 G W H σ en R hh hs hw => m B G0 G W H σ en _ hh hs ?_⟩
 have hw : wpR ((fr en).bind _) _ _ := hw
 rw [wpR_bind] at hw
 refine wpR_mono hw (fun rs hr G1 H1 vs s e => ?_) fun C h => h
 unfold rng1R at hr
 split at hr
 ·rename_i j
  split at hr
  ·rename_i hj
   match vs, e with
   | [v], ⟨e1, _⟩ =>
    cases e1
    exact ⟨j, rfl, hj.1, hj.2, hr G1 H1 _ s (iter_range _ _ _ _)⟩
  ·exact False.elim hr
 ·exact False.elim hr
end
def argL : Ev → Option L
 | .p d => some (.p d)
 | .x C => some (.x C)
 | .b _ => none
 | .f _ => none
def argB : Ev → Option L
 | .p d => some (.p d)
 | .b d => some (.p d)
 | .x _ => none
 | .f _ => none
def argsL (g : Ev → Option L) : List Ev → Option (List L)
 | [] => some []
 | r :: rs => match g r with
  | none => none
  | some l => match argsL g rs with
   | none => none
   | some ls => some (l :: ls)
def retE : L → Ev
 | .p d => .p d
 | .o d => .f d
 | .x C => .x C
 | .h a => .x a
mutual
def lfD : D → Bool
 | .list _ => false
 | .dict _ => false
 | .tuple ds => lfA ds
 | _ => true
def lfA : List D → Bool
 | [] => true
 | d :: ds => lfD d && lfA ds
end
def lfP : List (D × D) → Bool
 | [] => true
 | p :: r => lfD p.2 && lfP r
def flatL : L → Bool
 | .p d => lfD d
 | .o (.list ds) => lfA ds
 | .o (.dict kvs) => lfP kvs
 | _ => false
def callR (n : Nat) (m : List L → Res L) (rs : List Ev) : Res Ev := match argsL argL rs with
 | some ls => if ls.length = n then (m ls).bind fun l => .ok (retE l) else .bad
 | none => match argsL argB rs with
  | some ls => if ls.length = n then (m ls).bind fun l => if flatL l = true then .ok (retE l) else .bad else .bad
  | none => .bad
def mCall (n : Nat) (m : List L → Res L) (fr : En → Res (List Ev)) : En → Res Ev := fun en => (fr en).bind (callR n m)
def ArgOk (K : PySem.W.Frag) (G : Hp) (v : V) : L → Prop
 | .p d => Rep K G v d
 | .o _ => False
 | .x C => ∃ e, v = .ref e ∧ G e = some (excO e (.ref C))
 | .h _ => False
def ArgsOk (K : PySem.W.Frag) (G : Hp) : List V → List L → Prop
 | [], [] => True
 | v :: vs, l :: ls => ArgOk K G v l ∧ ArgsOk K G vs ls
 | _, _ => False
theorem ArgsOk.length {K : PySem.W.Frag} {G : Hp} : ∀ {vs : List V} {ls : List L}, ArgsOk K G vs ls → vs.length = ls.length
 | [], [], _ => rfl
 | _ :: _, _ :: _, h => by rw [List.length_cons, List.length_cons, ArgsOk.length h.2]
def spM (K : PySem.W.Frag) (n : Nat) (m : List L → Res L) : Sp := fun vs H Q E => vs.length = n ∧ ∃ G ls, Same G H ∧ ArgsOk K G vs ls ∧
 wpR (m ls) (fun l => ∀ G' H' v, Step G H G' H' → RetOk K H G' H' v l → Q v H') (fun C => ∀ G' H', Step G H G' H' → E (.ref C) none H')
theorem args_L {K : PySem.W.Frag} {W : Addr → Option Nat} {Hs G H : Hp} : ∀ {rs : List Ev} {ls : List L} {vs : List V}, argsL argL rs = some ls → EOks K W Hs G H vs rs → ArgsOk K G vs ls
 | [], _, [], h, _ => by cases h; exact trivial
 | [], _, _ :: _, _, e => e.elim
 | _ :: _, _, [], _, e => e.elim
 | r :: rs, ls, v :: vs, h, e => by
  unfold argsL at h
  cases r with
  | p d =>
   cases er : argsL argL rs with
   | none => rw [er] at h; cases h
   | some ls' => rw [er] at h; cases h; exact ⟨e.1, args_L er e.2⟩
  | x C =>
   cases er : argsL argL rs with
   | none => rw [er] at h; cases h
   | some ls' => rw [er] at h; cases h; exact ⟨e.1, args_L er e.2⟩
  | b d => cases h
  | f d => cases h
def both (W : Addr → Option Nat) (G H : Hp) : Hp := fun b => match W b with
 | some _ => H b
 | none => G b
theorem both_same {W : Addr → Option Nat} {B G0 G H : Hp} (hh : SimH B G0 G W H) : Same G (both W G H) ∧ Same (both W G H) H := by
 refine ⟨fun b o e => ?_, fun b o e => ?_⟩
 ·unfold both
  cases ew : W b with
  | none => exact e
  | some i => rw [(hh.wf b i ew).1] at e; cases e
 ·unfold both at e
  cases ew : W b with
  | none => rw [ew] at e; exact hh.gh b o e
  | some i => rw [ew] at e; exact e
theorem args_B {K : PySem.W.Frag} {W : Addr → Option Nat} {Hs B G0 G H : Hp} (hh : SimH B G0 G W H) : ∀ {rs : List Ev} {ls : List L} {vs : List V}, argsL argB rs = some ls → EOks K W Hs G H vs rs → ArgsOk K (both W G H) vs ls
 | [], _, [], h, _ => by cases h; exact trivial
 | [], _, _ :: _, _, e => e.elim
 | _ :: _, _, [], _, e => e.elim
 | r :: rs, ls, v :: vs, h, e => by
  unfold argsL at h
  cases r with
  | p d =>
   cases er : argsL argB rs with
   | none => rw [er] at h; cases h
   | some ls' => rw [er] at h; cases h; exact ⟨Rep.mono (both_same hh).1 e.1, args_B hh er e.2⟩
  | b d =>
   cases er : argsL argB rs with
   | none => rw [er] at h; cases h
   | some ls' =>
    rw [er] at h; cases h
    refine ⟨?_, args_B hh er e.2⟩
    obtain ⟨a, i, o, rfl, h1, h2, h3⟩ := e.1
    exact (h3.mono (both_same hh).1).rep (by unfold both; rw [h1]; exact h2)
  | x d => cases h
  | f d => cases h
mutual
theorem lf_rep {K : PySem.W.Frag} {G G' : Hp} (k : ∀ b xs, G b = some (.tup xs) → G' b = some (.tup xs)) : ∀ {v : V} {d : D}, lfD d = true → Rep K G v d → Rep K G' v d
 | _, _, _, .non => .non
 | _, _, _, .bl b => .bl b
 | _, _, _, .int i => .int i
 | _, _, _, .str x => .str x
 | _, _, hf, .tup h r => .tup (k _ _ h) (lf_reps k (by unfold lfD at hf; exact hf) r)
 | _, _, hf, .lst _ _ => by unfold lfD at hf; cases hf
 | _, _, hf, .dT _ _ => by unfold lfD at hf; cases hf
 | _, _, hf, .dK _ _ => by unfold lfD at hf; cases hf
theorem lf_reps {K : PySem.W.Frag} {G G' : Hp} (k : ∀ b xs, G b = some (.tup xs) → G' b = some (.tup xs)) : ∀ {vs : List V} {ds : List D}, lfA ds = true → Reps K G vs ds → Reps K G' vs ds
 | _, _, _, .nil => .nil
 | _, _, hf, .cons h r => by
  unfold lfA at hf
  have hf := Bool.and_eq_true_iff.mp hf
  exact .cons (lf_rep k hf.1 h) (lf_reps k hf.2 r)
end
theorem lf_repT {K : PySem.W.Frag} {G G' : Hp} (k : ∀ b xs, G b = some (.tup xs) → G' b = some (.tup xs)) : ∀ {kv : List (List Key × V)} {kvs : List (D × D)}, lfP kvs = true → RepT K G kv kvs → RepT K G' kv kvs
 | _, _, _, .nil => .nil
 | _, _, hf, .cons h r => by
  unfold lfP at hf
  have hf := Bool.and_eq_true_iff.mp hf
  exact .cons (lf_rep k hf.1 h) (lf_repT k hf.2 r)
theorem lf_repK {K : PySem.W.Frag} {G G' : Hp} (k : ∀ b xs, G b = some (.tup xs) → G' b = some (.tup xs)) : ∀ {kv : List (Key × V)} {kvs : List (D × D)}, lfP kvs = true → RepK K G kv kvs → RepK K G' kv kvs
 | _, _, _, .nil => .nil
 | _, _, hf, .cons h r => by
  unfold lfP at hf
  have hf := Bool.and_eq_true_iff.mp hf
  exact .cons (lf_rep k hf.1 h) (lf_repK k hf.2 r)
def lessW (W : Addr → Option Nat) (G : Hp) : Hp := fun b => match W b with
 | some _ => none
 | none => G b
theorem flat_rep {K : PySem.W.Frag} {W : Addr → Option Nat} {H1 G H Hs : Hp} {v : V} {l : L} (hf : flatL l = true) (hH : Hs = Hs) (hs : ∀ b, H1 b = none → Hs b = none) (k : ∀ b xs, G b = some (.tup xs) → lessW W G b = some (.tup xs)) (h : RetOk K H1 G H v l) : EOk K W Hs (lessW W G) H v (retE l) := by
 have n0 : ∀ b, G b = none → lessW W G b = none := fun b e => by
  unfold lessW
  cases W b with
  | none => exact e
  | some _ => rfl
 cases l with
 | x C => cases hf
 | h a => cases hf
 | p d => exact lf_rep k hf h
 | o d =>
  obtain ⟨a, o, rfl, h1, h2, h3, h4⟩ := h
  refine ⟨a, o, rfl, hs _ h2, n0 _ h1, h3, ?_⟩
  cases h4 with
  | lst r => exact .lst (lf_reps k hf r)
  | dT r => exact .dT (lf_repT k hf r)
  | dK r => exact .dK (lf_repK k (by unfold flatL at hf; unfold lfP at hf; exact (Bool.and_eq_true_iff.mp hf).2) r)
theorem call_core {K : PySem.W.Frag} {W : Addr → Option Nat} {B G0 G H G1 H1 : Hp} {n : Nat} {m : List L → Res L} {rs : List Ev} {vs : List V} {Q : VK} {EE : XK} (hh : SimH B G0 G W H) (s : Step G H G1 H1) (e : EOks K W H G1 H1 vs rs)
  (hr : wpR (callR n m rs) (PostE K W G H Q) (PostX EE G H)) : spM K n m vs H1 Q EE := by
 unfold callR at hr
 split at hr
 ·rename_i ls el
  split at hr
  ·rename_i hn
   have ha := args_L el e
   refine ⟨by rw [ha.length]; exact hn, G1, ls, s.gh, ha, ?_⟩
   rw [wpR_bind] at hr
   refine wpR_mono hr (fun l hl G2 H2 v s2 rv => hl G2 H2 v (s.trans s2) ?_) fun C h G2 H2 s2 => h G2 H2 (s.trans s2)
   cases l with
   | p d => exact rv
   | x C => exact rv
   | h a => exact rv.elim
   | o d =>
    obtain ⟨a, o, h1, h2, h3, h4, h5⟩ := rv
    exact ⟨a, o, h1, s.h.free h3, h2, h4, h5⟩
  ·exact hr.elim
 ·split at hr
  ·rename_i ls el
   split at hr
   ·rename_i hn
    have hh1 := hh.step s
    have ha := args_B hh1 el e
    obtain ⟨k1, k2⟩ := both_same hh1
    refine ⟨by rw [ha.length]; exact hn, both W G1 H1, ls, k2, ha, ?_⟩
    rw [wpR_bind] at hr
    refine wpR_mono hr (fun l hl G2 H2 v s2 rv => ?_) fun C h G2 H2 s2 => h G1 H2 (s.trans ⟨Same.refl _, s2.h, s.gh.trans s2.h, fun _ _ q => .inl q⟩)
    split at hl
    ·rename_i hf
     have kt : ∀ b xs, G2 b = some (.tup xs) → lessW W G2 b = some (.tup xs) := fun b xs eb => by
      unfold lessW
      cases ew : W b with
      | none => exact eb
      | some i =>
       obtain ⟨_, _, o, e1, e2⟩ := hh1.wf b i ew
       have e3 := s2.gh _ _ eb
       rw [s2.h _ _ e1] at e3
       exact absurd (Option.some.inj e3) (e2 xs)
     refine hl (lessW W G2) H2 v ⟨fun b o eb => ?_, s.h.trans s2.h, fun b o eb => ?_, fun b hb hg => ?_⟩ (flat_rep hf rfl (fun b e => s.h.free e) kt rv)
     ·have e1 := s.g _ _ eb
      unfold lessW
      cases ew : W b with
      | none => exact s2.g _ _ (k1 _ _ e1)
      | some i => rw [(hh1.wf b i ew).1] at e1; cases e1
     ·unfold lessW at eb
      cases ew : W b with
      | none => rw [ew] at eb; exact s2.gh _ _ eb
      | some i => rw [ew] at eb; cases eb
     ·unfold lessW
      cases ew : W b with
      | some i => exact .inl rfl
      | none =>
       rcases s.new b hb hg with z | z
       ·have z2 : both W G1 H1 b = none := by unfold both; rw [ew]; exact z
        rcases s2.new b (same_ne s.h hb) z2 with y | ⟨xs, y⟩
        ·exact .inl y
        ·cases e : H b with
         | none => exact absurd e hb
         | some o => rw [s.h _ _ e] at y; exact .inr ⟨xs, y⟩
       ·exact .inr z
    ·exact hl.elim
   ·exact hr.elim
  ·exact hr.elim
section
variable {X : Cx} {E : L2.St → XK} {k : Nat} {f : Addr} {fd : FuncData} {ps : List Str} {x : Str} {p pos : Pos} {e : Expr} {es : List Expr} {fr : En → Res (List Ev)} {n : Nat} {m : List L → Res L}
theorem de_call (F : FnOk X.prog X.w X.K X.mg X.base (CXr X.prog X.w) k f fd ps (spM X.K n m)) (hr : Room k X.A) (hg : Gl X x) (hm : X.mg x = some (.ref f)) (hk : PySem.W.keepIn X.K (.ref f) = true) (hb : Binds X.K fd ps []) (hx : PassesS (CXr X.prog X.w) X E)
  (ha : DA X E (e :: es) fr) (hdb : (x == ("__debug__" : Str)) = false := by decide) (he : starEach (e :: es) X.env = (false, eval e X.env) :: starEach es X.env := by rfl) (hpl : (backTo pos (starEach es X.env)).any (·.1) = false := by rfl) :
  DE X E (.Call (.Name x p) (e :: es) [] pos) (mCall n m fr) := by
 obtain ⟨t, q, mm⟩ := ha.out
 refine DE.in ⟨_, pe_callS F hr hg hm hk hb hx q hdb he hpl, fun B G0 G W H σ en Q hh hs hw => mm B G0 G W H σ en _ hh hs ?_⟩
 have hw : wpR ((fr en).bind _) _ _ := hw
 rw [wpR_bind] at hw
 exact wpR_mono hw (fun rs hr G1 H1 vs s e => call_core hh s e hr) fun C h => h
def CallM (K : PySem.W.Frag) (r : List V → Hp → VK → Prop) (f : List Ev → Res Ev) : Prop := ∀ (W : Addr → Option Nat) (Hs G H : Hp) (vs : List V) (rs : List Ev) (Q : VK), Same G H → EOks K W Hs G H vs rs → wpR (f rs) (PostE K W G H Q) (fun _ => False) → r vs H Q
def NoXs (f : List Ev → Res Ev) : Prop := ∀ rs C, f rs ≠ .exc C
def mCallB (f : List Ev → Res Ev) (fr : En → Res (List Ev)) : En → Res Ev := fun en => (fr en).bind f
theorem callB_core {r : List V → Hp → VK → Prop} {f : List Ev → Res Ev} {t : TA} (hm : CallM X.K r f) (hn : NoXs f) (mm : ∀ B G0 G W H σ en Q, SimH B G0 G W H → SimS X.K W G H σ en → wpR (fr en) (PostA X.K W G H Q) (PostX (E σ) G H) → t σ H Q) :
  ∀ B G0 G W H σ en Q, SimH B G0 G W H → SimS X.K W G H σ en → wpR (mCallB f fr en) (PostE X.K W G H Q) (PostX (E σ) G H) → tCB r t σ H Q := by
 intro B G0 G W H σ en Q hh hs hw
 refine mm B G0 G W H σ en _ hh hs ?_
 have hw : wpR ((fr en).bind _) _ _ := hw
 rw [wpR_bind] at hw
 exact wpR_mono hw (fun rs hr G1 H1 vs s e => hm W H G1 H1 vs rs Q s.gh e (noX (wpR_mono hr (fun _ h => h.step s) fun _ h => h) (hn rs))) fun C h => h
theorem de_callB {id : String} {r : List V → Hp → VK → Prop} {f : List Ev → Res Ev} (hc : CallR X (.builtin id) r) (hM : CallM X.K r f) (hn : NoXs f) (hg : Gl X x) (hm : X.mg x = none) (hv : bootBuiltins x = some (.builtin id)) (ha : DA X E (e :: es) fr) (hnn : x ≠ "__name__" := by decide) (hdb : (x == ("__debug__" : Str)) = false := by decide)
  (he : starEach (e :: es) X.env = (false, eval e X.env) :: starEach es X.env := by rfl) (hpl : (backTo pos (starEach es X.env)).any (·.1) = false := by rfl) : DE X E (.Call (.Name x p) (e :: es) [] pos) (mCallB f fr) := by
 obtain ⟨t, q, mm⟩ := ha.out
 exact DE.in ⟨_, pe_callB hc hg hm hv q hnn hdb he hpl, callB_core hM hn mm⟩
theorem de_callTy {T : String} {r : List V → Hp → VK → Prop} {f : List Ev → Res Ev} (hc : CallR X (.type T) r) (hM : CallM X.K r f) (hn : NoXs f) (hg : Gl X x) (hm : X.mg x = none) (hv : bootBuiltins x = some (.type T)) (ha : DA X E (e :: es) fr) (hnn : x ≠ "__name__" := by decide) (hdb : (x == ("__debug__" : Str)) = false := by decide)
  (he : starEach (e :: es) X.env = (false, eval e X.env) :: starEach es X.env := by rfl) (hpl : (backTo pos (starEach es X.env)).any (·.1) = false := by rfl) : DE X E (.Call (.Name x p) (e :: es) [] pos) (mCallB f fr) := by
 obtain ⟨t, q, mm⟩ := ha.out
 exact DE.in ⟨_, pe_callTy hc hg hm hv q hnn hdb he hpl, callB_core hM hn mm⟩
end
def startE (n : Nat) (ls : List L) : En := ls.map some ++ List.replicate (n - ls.length) none
def runF (n : Nat) (f : MS) (ls : List L) : Res L := match f (startE n ls) with
 | some (.nx _) => .ok (.p .none)
 | some (.rt l) => .ok l
 | some (.ex C _) => .exc C
 | _ => .bad
theorem args_slots {K : PySem.W.Frag} {W : Addr → Option Nat} {G H : Hp} : ∀ {vs : List V} {ls : List L} (i : Nat) (l : L), ArgsOk K G vs ls → ls[i]? = some l → ∃ v, vs[i]? = some v ∧ ∀ j, Slot K W G H j v l
 | [], [], _, _, _, e => by simp at e
 | v :: vs, l :: ls, 0, m, h, e => by
  simp at e; subst e
  refine ⟨v, rfl, fun j => ?_⟩
  have z := h.1
  cases l with
  | p d => exact z
  | x C => exact z
  | h a => exact z.elim
  | o d => exact z.elim
 | v :: vs, l :: ls, i + 1, m, h, e => by
  have := args_slots (W := W) (H := H) i m h.2 (by simpa using e)
  simpa using this
theorem start_sim {K : PySem.W.Frag} {W : Addr → Option Nat} {G H : Hp} {N : List Str} {vs : List V} {ls : List L} (h : ArgsOk K G vs ls) : SimS K W G H (L2.start N vs) (startE N.length ls) := by
 have hl := h.length
 refine ⟨by unfold L2.start startE; simp [hl], fun i l e => ?_⟩
 unfold startE at e
 by_cases hi : i < ls.length
 ·rw [List.getElem?_append_left (by rw [List.length_map]; exact hi), List.getElem?_map] at e
  cases e2 : ls[i]? with
  | none => rw [e2] at e; cases e
  | some l' =>
   rw [e2] at e
   cases e
   obtain ⟨v, e3, e4⟩ := args_slots (W := W) (H := H) i l h e2
   refine ⟨v, ?_, e4 i⟩
   unfold L2.start
   rw [List.getElem?_append_left (by rw [List.length_map, hl]; exact hi), List.getElem?_map, e3]
   rfl
 ·rw [List.getElem?_append_right (by rw [List.length_map]; omega), List.getElem?_replicate] at e
  split at e <;> cases e
theorem step_of {G H G' H' : Hp} {W : Addr → Option Nat} (h : SimH H G G' W H') : Step G H G' H' := ⟨h.g0, h.bh, h.gh, fun b hb hg => by
 cases e : G' b with
 | none => exact .inl rfl
 | some o =>
  rcases h.gb b (by rw [e]; exact fun z => nomatch z) with z | z | z
  ·exact absurd hg z
  ·exact absurd z hb
  ·exact .inr z⟩
theorem body_core {K : PySem.W.Frag} {N : List Str} {n : Nat} {m : List L → Res L} {fm : MS} {vs : List V} {H : Hp} {Q : VK} {E : XK} (h : spM K n m vs H Q E) (hm : ∀ ls, m ls = .bad ∨ runF N.length fm ls = m ls) :
  tS K (fun _ => E) fm { nx := fun _ H' => Q .non H', rt := Q } (L2.start N vs) H := by
 obtain ⟨hl, G, ls, gh, ha, hw⟩ := h
 refine ⟨H, G, G, fun _ => none, startE N.length ls, ⟨gh, Same.refl _, Same.refl _, fun _ hb => .inl hb, fun a i e => nomatch e⟩, start_sim ha, ?_⟩
 rcases hm ls with e | e
 ·rw [e] at hw; exact hw.elim
 ·rw [← e] at hw
  unfold runF at hw
  cases ef : fm (startE N.length ls) with
  | none => rw [ef] at hw; exact hw
  | some o =>
   rw [ef] at hw
   cases o with
   | nx en => exact fun G' W' H' σ' h1 _ => hw G' H' .non (step_of h1) .non
   | rt l => exact fun G' W' H' v h1 h2 => hw G' H' v (step_of h1) h2
   | bk en => exact hw.elim
   | ct en => exact hw.elim
   | ex C en => exact fun G' W' H' σ' h1 _ => hw G' H' (step_of h1)
section
variable {P : Program} {w : World} {K : PySem.W.Frag} {mg : Str → Option Value} {base : Heap}
theorem passS {N : List Str} {qual : Str} {scope : Scope} {f : Addr} {cd : Value} {A : Around} {outer : List Env} {s : Shared} {H : Hp} {E : XK} : PassesS (CXr P w) (cxOf (CXr P w) P w K mg base N qual scope f cd A outer s H E) (fun _ => E) :=
 fun pins σ H s e s' I h => passR pins σ H s e s' I h
theorem passF {X : Cx} : PassesS (CXr P w) X (fun _ => E0) := fun _ _ _ _ _ _ _ ⟨_, _, _, _, _, _, _, z⟩ => z.elim
theorem fnM {x qual : Str} {st : Stmt} {f : Addr} {fd : FuncData} {N ps : List Str} {k n : Nat} {m : List L → Res L} (F : Fun K x qual st f fd) (S : FnScope N ps (defScope st)) (hn : n = ps.length)
  (hbody : ∀ (cdv : Value) (A : Around) (outer : List Env) (s : Shared) (H : Hp) (E : XK), Room k (A.deeper (envOfC qual (defScope st) s.heap.objs.size f cdv)) →
   ∃ fm, DSs (cxOf (CXr P w) P w K mg base N qual (defScope st) f cdv A outer s H E) (fun _ => E) (defBody st) fm ∧ ∀ ls, m ls = .bad ∨ runF N.length fm ls = m ls) : FnOk P w K mg base (CXr P w) (k + 1) f fd ps (spM K n m) := by
 refine F.okX S (fun vs H Q E h => ?_) (fun cdv A outer s H vs Q E hr h => ?_)
 ·rw [← hn]; exact h.1
 ·obtain ⟨fm, hd, hm⟩ := hbody cdv A outer s H E hr
  exact ⟨_, hd, body_core h hm⟩
end
def mRaise (C : Addr) (fr : En → Res (List Ev)) : MS := fun en => match fr en with
 | .ok rs => if rs.length ≤ 1000 then some (.ex C en) else none
 | .exc C => some (.ex C en)
 | .bad => none
theorem EOks.length {K : PySem.W.Frag} {W : Addr → Option Nat} {Hs G H : Hp} : ∀ {vs : List V} {rs : List Ev}, EOks K W Hs G H vs rs → vs.length = rs.length
 | [], [], _ => rfl
 | [], _ :: _, h => h.elim
 | _ :: _, [], h => h.elim
 | _ :: _, _ :: _, h => by rw [List.length_cons, List.length_cons, EOks.length h.2]
section
variable {X : Cx}
theorem ds_raise {E : XK} {x : Str} {e₀ : Expr} {rest : List Expr} {fr : En → Res (List Ev)} {C : Addr} {bm : List Value} {B newId initId : String} {np cpos pos : Pos} (hx : Raises X E) (hc : X.calm = true) (hg : Gl X x) (O : OwnCls x C bm newId X.mg X.base)
  (FB : ExcBaseFacts B newId initId bm) (ha : DA X (fun _ => E) (e₀ :: rest) fr) (hdb : (x == ("__debug__" : Str)) = false := by decide)
  (he : starEach (e₀ :: rest) X.env = (false, eval e₀ X.env) :: starEach rest X.env := by rfl) (hpl : (backTo cpos (starEach rest X.env)).any (·.1) = false := by rfl) :
  DS X (fun _ => E) (.Raise (some (.Call (.Name x np) (e₀ :: rest) [] cpos)) none pos) (mRaise C fr) := by
 obtain ⟨t, q, m⟩ := ha.out
 refine DS.in ⟨_, ps_raise hx hc hg O FB q hdb he hpl, fun B G0 G W H σ en Dn hh hs hw => m B G0 G W H σ en _ hh hs ?_⟩
 unfold mRaise at hw
 cases ef : fr en with
 | bad => rw [ef] at hw; exact hw
 | exc C => rw [ef] at hw; exact fun G1 H1 s => hw G1 W H1 σ (hh.step s) (hs.step s)
 | ok rs =>
  rw [ef] at hw
  intro G1 H1 vs s e
  dsimp only at hw
  split at hw
  ·rename_i hl
   exact ⟨by rw [e.length]; exact Nat.le_trans hl (by decide), hw G1 W H1 σ (hh.step s) (hs.step s)⟩
  ·exact hw.elim
end
def pureL : List Ev → Option (List D)
 | [] => some []
 | r :: rs => match r with
  | .p d => match pureL rs with
   | some ds => some (d :: ds)
   | none => none
  | _ => none
theorem pure_reps {K : PySem.W.Frag} {W : Addr → Option Nat} {Hs G H : Hp} : ∀ {rs : List Ev} {ds : List D} {vs : List V}, pureL rs = some ds → EOks K W Hs G H vs rs → Reps K G vs ds
 | [], _, [], h, _ => by cases h; exact .nil
 | [], _, _ :: _, _, e => e.elim
 | _ :: _, _, [], _, e => e.elim
 | r :: rs, ds, v :: vs, h, e => by
  unfold pureL at h
  cases r with
  | p d =>
   dsimp only at h
   cases er : pureL rs with
   | none => rw [er] at h; cases h
   | some ds' => rw [er] at h; cases h; exact .cons e.1 (pure_reps er e.2)
  | x C => cases h
  | b d => cases h
  | f d => cases h
def tupR' (rs : List Ev) : Res Ev := match pureL rs with
 | some ds => if ds.length ≤ 1000 then .ok (.p (.tuple ds)) else .bad
 | none => .bad
def lstR' (rs : List Ev) : Res Ev := match pureL rs with
 | some ds => if ds.length ≤ 1000 then .ok (.f (.list ds)) else .bad
 | none => .bad
section
variable {X : Cx} {E : L2.St → XK} {es : List Expr} {fr : En → Res (List Ev)} {pos : Pos}
theorem de_tup {x1} (h : DA X E es fr) : DE X E (.Tuple es x1 pos) (mCallB tupR' fr) := by
 obtain ⟨t, q, m⟩ := h.out
 refine DE.in ⟨_, pe_tup q, fun B G0 G W H σ en Q hh hs hw => m B G0 G W H σ en _ hh hs ?_⟩
 have hw : wpR ((fr en).bind _) _ _ := hw
 rw [wpR_bind] at hw
 refine wpR_mono hw (fun rs hr G1 H1 vs s e => ?_) fun C h => h
 unfold tupR' at hr
 split at hr
 ·rename_i ds el
  have rp := pure_reps el e
  split at hr
  ·rename_i hl
   refine ⟨by rw [rp.length]; exact Nat.le_trans hl (by decide), fun p hp => ?_⟩
   have st := Step.put (o := .tup vs) s.gh hp
   exact hr _ _ _ (s.trans st) (.tup upd_same (rp.mono st.g))
  ·exact False.elim hr
 ·exact False.elim hr
theorem de_lst (h : DA X E es fr) : DE X E (.List es pos) (mCallB lstR' fr) := by
 obtain ⟨t, q, m⟩ := h.out
 refine DE.in ⟨_, pe_lst q, fun B G0 G W H σ en Q hh hs hw => m B G0 G W H σ en _ hh hs ?_⟩
 have hw : wpR ((fr en).bind _) _ _ := hw
 rw [wpR_bind] at hw
 refine wpR_mono hw (fun rs hr G1 H1 vs s e => ?_) fun C h => h
 unfold lstR' at hr
 split at hr
 ·rename_i ds el
  have rp := pure_reps el e
  split at hr
  ·rename_i hl
   refine ⟨by rw [rp.length]; exact Nat.le_trans hl (by decide), fun p hp => ?_⟩
   have st := Step.lay (o := .lst vs) s.gh hp
   exact hr _ _ _ (s.trans st) ⟨p, _, rfl, s.h.free hp, s.gh.free hp, upd_same, .lst rp⟩
  ·exact False.elim hr
 ·exact False.elim hr
end
def mapO (g : D → Option (Option D)) : List D → Option (List D)
 | [] => some []
 | d :: ds => match g d with
  | none => none
  | some o => match mapO g ds with
   | none => none
   | some r => some (match o with
    | some y => y :: r
    | none => r)
def capO (o : Option (Option L)) : Option L := match o with
 | some (some (.p d)) => some (.p d)
 | some (some (.x C)) => some (.x C)
 | _ => none
def capE (js : List Nat) (en : En) : En := js.map fun j => capO en[j]?
def mYes : En → Res Bool := fun _ => .ok true
def compItem (n : Nat) (js : List Nat) (tg : D → En → Option En) (ft : En → Res Bool) (fe : En → Res Ev) (en : En) (d : D) : Option (Option D) := match tg d (List.replicate n none ++ capE js en) with
 | none => none
 | some e => match ft e with
  | .ok true => match fe e with
   | .ok r => match r.c with
    | .p y => some (some y)
    | _ => none
   | _ => none
  | .ok false => some none
  | _ => none
def compR (g : D → Option (Option D)) (ds : List D) : Res Ev := if ds.length ≤ 100000 then match mapO g ds with
  | some r => .ok (.f (.list r))
  | none => .bad
 else .bad
def mComp (n : Nat) (js : List Nat) (fi : En → Res (List D)) (tg : D → En → Option En) (ft : En → Res Bool) (fe : En → Res Ev) : En → Res Ev := fun en => (fi en).bind fun ds => compR (compItem n js tg ft fe en) ds
def DTs (X : Cx) (ifs : List Expr) (f : En → Res Bool) : Prop := PTs X ifs (tT X.K (fun _ => E0) f)
theorem sim0 {G H : Hp} (h : Same G H) : SimH H G G (fun _ => none) H := ⟨h, Same.refl _, Same.refl _, fun _ hb => .inl hb, fun a i e => nomatch e⟩
theorem caps_sim {K : PySem.W.Frag} {W : Addr → Option Nat} {G H : Hp} {σ : L2.St} {en : En} (n : Nat) (js : List Nat) (h : SimS K W G H σ en) : SimS K (fun _ => none) G H (List.replicate n none ++ caps js σ) (List.replicate n none ++ capE js en) := by
 refine ⟨by unfold caps capE; simp, fun i l e => ?_⟩
 by_cases hi : i < n
 ·rw [List.getElem?_append_left (by rw [List.length_replicate]; exact hi), List.getElem?_replicate] at e
  split at e <;> cases e
 ·rw [List.getElem?_append_right (by rw [List.length_replicate]; omega), List.length_replicate] at e ⊢
  unfold capE at e
  unfold caps
  rw [List.getElem?_map] at e ⊢
  cases ej : js[i - n]? with
  | none => rw [ej] at e; cases e
  | some j =>
   rw [ej] at e
   have e' : capO en[j]? = some l := Option.some.inj e
   unfold capO at e'
   split at e'
   ·rename_i d q
    cases e'
    obtain ⟨v, h1, h2⟩ := h.2 j _ q
    exact ⟨v, by show some ((σ[j]?).getD none) = _; rw [h1]; rfl, h2⟩
   ·rename_i d q
    cases e'
    obtain ⟨v, h1, h2⟩ := h.2 j _ q
    exact ⟨v, by show some ((σ[j]?).getD none) = _; rw [h1]; rfl, h2⟩
   ·cases e'
section
variable {X : Cx} {E : L2.St → XK} {pos : Pos}
theorem dts_nil : DTs X [] mYes := fun pins s σ H Q I ⟨B, G0, G, W, en, h1, h2, h3⟩ => pts_nil pins s σ H Q I (h3 G H (Step.refl h1.gh))
theorem dts_one {c : Expr} {f : En → Res Bool} (h : DT X (fun _ => E0) c f) : DTs X [c] f := pts_one h
theorem comp_sim {elt iter tg : Expr} {scope : Scope} {ifs : List Expr} {n : Nat} {js ks : List Nat} {fi : En → Res (List D)} {g : D → En → Option En} {ft : En → Res Bool} {fe : En → Res Ev} {xs ys : List Str} {cl : List (Str × Addr)} (hc : X.calm = true) (hi : DI X E tg iter fi)
  (hcl : ClOk X scope cl) (hcap : CapOk X scope cl ys js) (hcell : ∀ y ∈ scope.names, y.2 ≠ .cell) (hkind : scope.kind = .function) (hnames : ∀ y ∈ scope.names, y.2 = .local → scope.names.lookup y.1 = some .local) (hn : xs.length = n) (hks : ∀ j ∈ ks, j < n)
  (hg : ∀ C s₀ H₀ ex pn, DG (blockCx X scope cl C (xs ++ ys) s₀ H₀ ex pn) tg ks g) (ht : ∀ C s₀ H₀ ex pn, DTs (blockCx X scope cl C (xs ++ ys) s₀ H₀ ex pn) ifs ft) (hb : ∀ C s₀ H₀ ex pn, DE (blockCx X scope cl C (xs ++ ys) s₀ H₀ ex pn) (fun _ => E0) elt fe)
  : ∀ B G0 G W H σ en Q, SimH B G0 G W H → SimS X.K W G H σ en → wpR (mComp n js fi g ft fe en) (PostE X.K W G H Q) (PostX (E σ) G H) → tCompG (tI X.K E fi) (tG X.K ks g) (tT X.K (fun _ => E0) ft) (tE X.K (fun _ => E0) fe) xs.length js σ H Q := by
 subst hn
 refine fun B G0 G W H σ en Q hh hs hw => ⟨B, G0, G, W, en, hh, hs, ?_⟩
 have hw : wpR ((fi en).bind _) _ _ := hw
 rw [wpR_bind] at hw
 refine wpR_mono hw (fun ds hds G1 H1 J s1 hJ D hD => ?_) fun C h => h
 unfold compR at hds
 split at hds
 case isFalse => exact hds.elim
 rename_i hlen
 split at hds
 case h_2 => exact hds.elim
 rename_i r em
 have gD : G1 D = none := s1.gh.free hD
 have keyH : ∀ {G2 H2 : Hp} {y : List V}, Step G1 H1 G2 H2 → G2 D = none → Step G1 H1 G2 (upd H2 D (.lst y)) := fun st hg2 => by
  refine ⟨st.g, fun b o e => ?_, fun b o e => ?_, st.new⟩
  ·rw [upd_ne (ne_of_none e hD)]; exact st.h b o e
  ·rw [upd_ne (ne_of_none e hg2)]; exact st.gh b o e
 refine ⟨ds.length, fun i ys H2 => i ≤ ds.length ∧ ys.length ≤ i ∧ ∃ G2 rs rest, Step G1 H1 G2 H2 ∧ G2 D = none ∧ H2 D = some (.lst ys) ∧ Reps X.K G2 ys rs ∧ mapO (compItem xs.length js g ft fe en) (ds.drop i) = some rest ∧ rs ++ rest = r,
  ⟨Nat.zero_le _, Nat.zero_le _, G1, [], r, Step.lay s1.gh hD, gD, upd_same, .nil, em, rfl⟩, ?_⟩
 rintro i zs H2 ⟨hi, hzl, G2, rs, rest, st, g2, h2, rp, em2, er⟩
 obtain ⟨j1, j2⟩ := hJ G2 H2 st.g st.gh
 by_cases hlt : i < ds.length
 ·refine .inr ⟨hlt, ?_⟩
  obtain ⟨jg, jy⟩ := j1 i ds[i] (List.getElem?_eq_getElem hlt)
  refine ⟨jg, fun v H3 hy => ?_⟩
  obtain ⟨G3, s3, rv⟩ := jy v H3 hy
  rw [List.drop_eq_getElem_cons hlt] at em2
  unfold mapO at em2
  cases ec : compItem xs.length js g ft fe en ds[i] with
  | none => rw [ec] at em2; cases em2
  | some o =>
   rw [ec] at em2
   dsimp only at em2
   cases em3 : mapO (compItem xs.length js g ft fe en) (ds.drop (i + 1)) with
   | none => rw [em3] at em2; cases em2
   | some rest' =>
    rw [em3] at em2
    have em2 := Option.some.inj em2
    unfold compItem at ec
    split at ec
    ·cases ec
    ·rename_i e eg
     have in3 := caps_sim xs.length js (hs.step ((s1.trans st).trans s3))
     refine ⟨G3, fun _ => none, _, ds[i], e, s3.gh, in3, rv, eg, fun σ' hσ hk => ⟨⟨?_, ?_⟩, ?_⟩⟩
     ·rw [hk.1]; unfold caps; simp
     ·refine List.ext_getElem? fun j => ?_
      rw [List.getElem?_drop, hk.2 (xs.length + j) fun z => absurd (hks _ z) (by omega), List.getElem?_append_right (by rw [List.length_replicate]; omega), List.length_replicate]
      congr 1
      omega
     ·refine ⟨_, _, G3, fun _ => none, e, sim0 s3.gh, hσ, ?_⟩
      cases et : ft e with
      | bad => rw [et] at ec; cases ec
      | exc C => rw [et] at ec; cases ec
      | ok k =>
       rw [et] at ec
       intro G5 H5 s5
       cases k with
       | false =>
        cases ec
        rw [if_neg Bool.false_ne_true]
        have s25 := s3.trans s5
        exact ⟨hlt, Nat.le_succ_of_le hzl, G5, rs, rest', st.trans s25, s25.off h2 (fun xs z => nomatch z) g2, s25.h _ _ h2, rp.mono s25.g, em3, by rw [← er, ← em2]⟩
       | true =>
        rw [if_pos rfl]
        refine ⟨_, _, G5, fun _ => none, e, sim0 s5.gh, hσ.step s5, ?_⟩
        dsimp only at ec
        cases ee : fe e with
        | bad => rw [ee] at ec; cases ec
        | exc C => rw [ee] at ec; cases ec
        | ok q =>
         rw [ee] at ec
         intro G6 H6 y s6 ey
         obtain ⟨G7, s7, e7⟩ := EOk.c s6 ey
         dsimp only at ec
         split at ec
         ·rename_i y' eq
          cases ec
          rw [eq] at e7
          have s27 := (s3.trans s5).trans s7
          have g7 := s27.off h2 (fun xs z => nomatch z) g2
          refine ⟨s27.h _ _ h2, Nat.lt_of_le_of_lt (Nat.le_trans hzl (Nat.le_trans hi hlen)) (by decide), hlt, by rw [List.length_append]; exact Nat.succ_le_succ hzl, G7, rs ++ [y'], rest', keyH (st.trans s27) g7, g7, upd_same, (rp.mono s27.g).append (.cons e7 .nil), em3, ?_⟩
          rw [← er, ← em2, List.append_assoc]
          rfl
         ·cases ec
 ·have e : i = ds.length := by omega
  subst e
  rw [List.drop_length] at em2
  cases em2
  rw [List.append_nil] at er
  subst er
  exact .inl ⟨j2, hds G2 H2 _ (s1.trans st) ⟨D, _, rfl, s1.h.free hD, g2, h2, .lst rp⟩⟩
theorem de_comp {elt iter tg : Expr} {scope : Scope} {ifs : List Expr} {n : Nat} {js ks : List Nat} {fi : En → Res (List D)} {g : D → En → Option En} {ft : En → Res Bool} {fe : En → Res Ev} {xs ys : List Str} {cl : List (Str × Addr)} (hc : X.calm = true) (hi : DI X E tg iter fi)
  (hcl : ClOk X scope cl) (hcap : CapOk X scope cl ys js) (hcell : ∀ y ∈ scope.names, y.2 ≠ .cell) (hkind : scope.kind = .function) (hnames : ∀ y ∈ scope.names, y.2 = .local → scope.names.lookup y.1 = some .local) (hn : xs.length = n) (hks : ∀ j ∈ ks, j < n)
  (hg : ∀ C s₀ H₀ ex pn, DG (blockCx X scope cl C (xs ++ ys) s₀ H₀ ex pn) tg ks g) (ht : ∀ C s₀ H₀ ex pn, DTs (blockCx X scope cl C (xs ++ ys) s₀ H₀ ex pn) ifs ft) (hb : ∀ C s₀ H₀ ex pn, DE (blockCx X scope cl C (xs ++ ys) s₀ H₀ ex pn) (fun _ => E0) elt fe)
  (hs : ∀ x, foldedSetIterable iter X.env x = pure x := by intro _; rfl) : DE X E (.ListComp elt [⟨tg, iter, ifs, 0⟩] scope pos) (mComp n js fi g ft fe) :=
 DE.in ⟨_, pe_compG (xs := xs) (g := tG X.K ks g) (tt := tT X.K (fun _ => E0) ft) (te := tE X.K (fun _ => E0) fe) hc hi hcl hcap hcell hkind hnames hg ht hb hs, comp_sim hc hi hcl hcap hcell hkind hnames hn hks hg ht hb⟩
theorem ds_setC {i : Nat} {y : Str} {py spos : Pos} (hN : X.N.Nodup) (hiN : X.N[i]? = some y) (hx : Loc X.env.scope y) {elt iter tg : Expr} {scope : Scope} {ifs : List Expr} {n : Nat} {js ks : List Nat} {fi : En → Res (List D)} {g : D → En → Option En} {ft : En → Res Bool} {fe : En → Res Ev} {xs ys : List Str} {cl : List (Str × Addr)} (hc : X.calm = true) (hi : DI X E tg iter fi)
  (hcl : ClOk X scope cl) (hcap : CapOk X scope cl ys js) (hcell : ∀ y ∈ scope.names, y.2 ≠ .cell) (hkind : scope.kind = .function) (hnames : ∀ y ∈ scope.names, y.2 = .local → scope.names.lookup y.1 = some .local) (hn : xs.length = n) (hks : ∀ j ∈ ks, j < n)
  (hg : ∀ C s₀ H₀ ex pn, DG (blockCx X scope cl C (xs ++ ys) s₀ H₀ ex pn) tg ks g) (ht : ∀ C s₀ H₀ ex pn, DTs (blockCx X scope cl C (xs ++ ys) s₀ H₀ ex pn) ifs ft) (hb : ∀ C s₀ H₀ ex pn, DE (blockCx X scope cl C (xs ++ ys) s₀ H₀ ex pn) (fun _ => E0) elt fe)
  (hsw : swapsWith (.ListComp elt [⟨tg, iter, ifs, 0⟩] scope pos) (some (.Name y py)) spos.line X.env = pure true := by rfl) (hs : ∀ x, foldedSetIterable iter X.env x = pure x := by intro _; rfl)
  (hf : X.fn y = true ∨ X.env.scope.names.lookup y = some .local := by first | exact .inl rfl | exact .inr rfl | assumption) : DS X E (.Assign [.Name y py] (.ListComp elt [⟨tg, iter, ifs, 0⟩] scope pos) spos) (mSet i (mComp n js fi g ft fe)) :=
 DS.in ⟨_, ps_compG (xs := xs) (g := tG X.K ks g) (tt := tT X.K (fun _ => E0) ft) (te := tE X.K (fun _ => E0) fe) hN hiN hx hc hi hcl hcap hcell hkind hnames hg ht hb hsw hs hf, set_core (comp_sim hc hi hcl hcap hcell hkind hnames hn hks hg ht hb)⟩
end
section
variable {X : Cx} {K : PySem.W.Frag}
def rOr (r r' : R2) : R2 := fun x y H Q => r x y H Q ∨ r' x y H Q
theorem OpR.or' {f : Value → Value → Sem Value} {r r' : R2} (h : OpR X f r) (h' : OpR X f r') : OpR X f (rOr r r') := OpR.or h h'
def rCatR : R2 := fun x y H Q => ∃ l b xs zs, x = .ref l ∧ y = .ref b ∧ Rd H l (.lst xs) ∧ Rd H b (.lst zs) ∧ xs.length + zs.length ≤ sizeLine ∧ ∀ p, H p = none → Q (.ref p) (upd H p (.lst (xs ++ zs)))
theorem op_catR : OpR X (binaryOp .Add) rCatR := by
 intro pins s σ H x y v u Q I rx ry h
 obtain ⟨l, b, xs, zs, rfl, rfl, hH, hB, hz, q⟩ := h
 cases rx
 cases ry
 obtain ⟨z, its, n, r, e⟩ := hH.ok I.hok
 obtain ⟨z2, its2, n2, r2, e2⟩ := hB.ok I.hok
 have hl := r.length
 have hl2 := r2.length
 refine PySem.P.add_list e e2 ?_ (by rw [List.size_toArray, List.size_toArray]; omega)
 have ea : its.toArray ++ its2.toArray = (its ++ its2).toArray := by simp
 rw [ea]
 exact ⟨.ref _, _, I.lnew (t' := s.toks) (r.append r2) (by rw [List.length_append]; omega), rfl, q _ I.fresh⟩
def rStrCat : R2 := fun x y H Q => ∃ i j, x = .str i ∧ y = .str j ∧ i.length + j.length ≤ sizeLine ∧ Q (.str (i ++ j)) H
def lstOf : Ev → Option (List D)
 | .p (.list ds) => some ds
 | .b (.list ds) => some ds
 | _ => none
theorem lst_at {W : Addr → Option Nat} {Hs G H : Hp} {v : V} {r : Ev} {ds : List D} (gh : Same G H) (h : EOk K W Hs G H v r) (e : lstOf r = some ds) : ∃ a xs, v = .ref a ∧ Rd H a (.lst xs) ∧ Reps K G xs ds := by
 cases r with
 | p d =>
  cases d with
  | list es =>
   cases e
   cases h with
   | @lst a xs _ h1 h2 => exact ⟨a, xs, rfl, rd_mono gh h1, h2⟩
  | _ => cases e
 | b d =>
  cases d with
  | list es =>
   cases e
   obtain ⟨a, i, o, rfl, h1, h2, h3⟩ := h
   cases h3 with
   | @lst xs _ h4 => exact ⟨a, xs, rfl, .inl h2, h4⟩
  | _ => cases e
 | f d => cases e
 | x C => cases e
def dat : Ev → Option D
 | .p d => some d
 | .b d => some d
 | _ => none
theorem EOk.read {W : Addr → Option Nat} {Hs G H : Hp} {v : V} {r : Ev} {d : D} (gh : Same G H) (h : EOk K W Hs G H v r) (e : dat r = some d) : Rep K H v d := by
 cases r with
 | p d => cases e; exact Rep.mono gh h
 | b d =>
  cases e
  obtain ⟨a, i, o, rfl, h1, h2, h3⟩ := h
  exact (h3.mono gh).rep h2
 | f d => cases e
 | x C => cases e
open Classical in
noncomputable def intE (C : Int → Int → Prop) (g : Int → Int → D) (x y : Ev) : Res Ev := match x, y with
 | .p (.int i), .p (.int j) => if C i j then .ok (.p (g i j)) else .bad
 | _, _ => .bad
def intE0 (g : Int → Int → D) (x y : Ev) : Res Ev := match x, y with
 | .p (.int i), .p (.int j) => .ok (.p (g i j))
 | _, _ => .bad
theorem noX_intE {C : Int → Int → Prop} {g : Int → Int → D} : NoX (intE C g) := by
 intro x y A h
 unfold intE at h
 split at h
 ·split at h <;> cases h
 ·cases h
theorem noX_intE0 {g : Int → Int → D} : NoX (intE0 g) := by
 intro x y A h
 unfold intE0 at h
 split at h <;> cases h
theorem om_int {C : Int → Int → Prop} {g : Int → Int → D} {gv : Int → Int → V} (hg : ∀ G i j, Rep K G (gv i j) (g i j)) : OpM K (rI C gv) (intE C g) := by
 intro W G H v u x y Q gh hx hy hw
 unfold intE at hw
 split at hw
 ·rename_i i j e1 e2
  rw [e1] at hx; rw [e2] at hy
  cases hx; cases hy
  split at hw
  ·rename_i hc
   exact ⟨i, j, rfl, rfl, hc, hw G H _ (Step.refl gh) (hg G i j)⟩
  ·exact hw.elim
 ·exact hw.elim
theorem om_int0 {g : Int → Int → D} {gv : Int → Int → V} (hg : ∀ G i j, Rep K G (gv i j) (g i j)) : OpM K (rI0 gv) (intE0 g) := by
 intro W G H v u x y Q gh hx hy hw
 unfold intE0 at hw
 split at hw
 ·rename_i i j e1 e2
  rw [e1] at hx; rw [e2] at hy
  cases hx; cases hy
  exact ⟨i, j, rfl, rfl, hw G H _ (Step.refl gh) (hg G i j)⟩
 ·exact hw.elim
noncomputable abbrev mulE : Ev → Ev → Res Ev := intE CMulW fun i j => .int (i * j)
noncomputable abbrev fdivE : Ev → Ev → Res Ev := intE CDivW fun i j => .int (i.fdiv j)
noncomputable abbrev modE : Ev → Ev → Res Ev := intE (fun _ j => j ≠ 0) fun i j => .int (i.fmod j)
noncomputable abbrev powE : Ev → Ev → Res Ev := intE CPow fun i j => .int (i ^ j.toNat)
abbrev subE : Ev → Ev → Res Ev := intE0 fun i j => .int (i - j)
abbrev ltE : Ev → Ev → Res Ev := intE0 fun i j => .bool (decide (i < j))
abbrev gtE : Ev → Ev → Res Ev := intE0 fun i j => .bool (decide (j < i))
theorem om_mul : OpM K (rI CMulW fun i j => .int (i * j)) mulE := om_int fun _ _ _ => .int _
theorem om_fdiv : OpM K (rI CDivW fun i j => .int (i.fdiv j)) fdivE := om_int fun _ _ _ => .int _
theorem om_mod : OpM K (rI (fun _ j => j ≠ 0) fun i j => .int (i.fmod j)) modE := om_int fun _ _ _ => .int _
theorem om_pow : OpM K (rI CPow fun i j => .int (i ^ j.toNat)) powE := om_int fun _ _ _ => .int _
theorem om_sub : OpM K (rI0 fun i j => .int (i - j)) subE := om_int0 fun _ _ _ => .int _
def addE (x y : Ev) : Res Ev := match x, y with
 | .p (.int i), .p (.int j) => .ok (.p (.int (i + j)))
 | .p (.str i), .p (.str j) => if i.length + j.length ≤ 100000 then .ok (.p (.str (i ++ j))) else .bad
 | x, y => match lstOf x, lstOf y with
  | some ds, some es => if ds.length + es.length ≤ 100000 then .ok (.f (.list (ds ++ es))) else .bad
  | _, _ => .bad
theorem noX_add : NoX addE := by
 intro x y A h
 unfold addE at h
 split at h
 ·cases h
 ·split at h <;> cases h
 ·split at h
  ·split at h <;> cases h
  ·cases h
abbrev rAddA : R2 := rOr (rI0 fun i j => .int (i + j)) (rOr rStrCat rCatR)
theorem op_addA : OpR X (binaryOp .Add) rAddA := OpR.or' op_add (OpR.or' op_add_str op_catR)
theorem om_add : OpM K rAddA addE := by
 intro W G H v u x y Q gh hx hy hw
 unfold addE at hw
 split at hw
 ·rename_i i j e1 e2
  rw [e1] at hx; rw [e2] at hy
  cases hx; cases hy
  exact .inl ⟨i, j, rfl, rfl, hw G H _ (Step.refl gh) (.int _)⟩
 ·rename_i i j e1 e2
  rw [e1] at hx; rw [e2] at hy
  cases hx; cases hy
  split at hw
  ·rename_i hl
   exact .inr (.inl ⟨i, j, rfl, rfl, Nat.le_trans hl (by decide), hw G H _ (Step.refl gh) (.str _)⟩)
  ·exact hw.elim
 ·split at hw
  ·rename_i ds es e1 e2
   obtain ⟨a, xs, rfl, h1, h2⟩ := lst_at gh hx e1
   obtain ⟨b, ys, rfl, h3, h4⟩ := lst_at gh hy e2
   split at hw
   ·rename_i hl
    refine .inr (.inr ⟨a, b, xs, ys, rfl, rfl, h1, h3, by rw [h2.length, h4.length]; exact Nat.le_trans hl (by decide), fun p hp => ?_⟩)
    exact hw _ _ _ (Step.lay gh hp) ⟨p, _, rfl, hp, gh.free hp, upd_same, .lst (h2.append h4)⟩
   ·exact hw.elim
  ·exact hw.elim
theorem om_cmp {p : Int → Int → Bool} : OpM K (rI0 fun i j => .bl (p i j)) (intE0 fun i j => .bool (p i j)) := om_int0 fun _ _ _ => .bl _
mutual
theorem Rep.reads {P : Program} {w : World} {H : Hp} {h : Heap} (ok : HOk P w H h) : ∀ {v : V} {d : D}, Rep K H v d → d.canLay0 = true → ∀ {u : Value}, RelV v u → ∃ as, Reads h u d as
 | _, _, .non, _, _, e => by cases e; exact ⟨_, Reads.none⟩
 | _, _, .bl b, _, _, e => by cases e; exact ⟨_, Reads.bool b⟩
 | _, _, .int i, _, _, ⟨t, e⟩ => by subst e; exact ⟨_, Reads.int i t⟩
 | _, _, .str i, _, _, ⟨t, e⟩ => by subst e; exact ⟨_, Reads.str i t⟩
 | _, _, .tup hh r, hc, _, e => by
  have e : _ = Value.ref _ := e
  subst e
  obtain ⟨_, its, rv, o, ho, hcl, n, hd⟩ := (show ObjOk P w H h _ _ from ok _ _ hh)
  obtain ⟨as, q⟩ := Reps.reads ok r (by simpa [PyData.canLay0] using hc) rv
  exact ⟨as, reads_tuple_at ho hcl hd (by simpa using q)⟩
 | _, _, .lst hh r, hc, _, e => by
  have e : _ = Value.ref _ := e
  subst e
  obtain ⟨_, its, n, rv, ho⟩ := hh.ok ok
  obtain ⟨as, q⟩ := Reps.reads ok r (by simpa [PyData.canLay0] using hc) rv
  exact ⟨_, reads_list_at ho rfl rfl (by simpa using q)⟩
 | _, _, .dT _ _, hc, _, _ => by simp [PyData.canLay0] at hc
 | _, _, .dK _ _, hc, _, _ => by simp [PyData.canLay0] at hc
theorem Reps.reads {P : Program} {w : World} {H : Hp} {h : Heap} (ok : HOk P w H h) : ∀ {vs : List V} {ds : List D}, Reps K H vs ds → PyData.canLayAll0 ds = true → ∀ {us : List Value}, Vals vs us → ∃ as, ReadsAll h us ds as
 | _, _, .nil, _, _, .nil => ⟨_, ReadsAll.nil⟩
 | _, _, .cons hd r, hc, _, .cons rv rt => by
  simp only [PyData.canLayAll0, Bool.and_eq_true] at hc
  obtain ⟨as, q⟩ := Rep.reads ok hd hc.1 rv
  obtain ⟨bs, p⟩ := Reps.reads ok r hc.2 rt
  exact ⟨_, ReadsAll.cons q p⟩
end
def rEqP (K : PySem.W.Frag) (ng : Bool) : R2 := fun x y H Q => ∃ d e, Rep K H x d ∧ Rep K H y e ∧ SeqAt.shaped d = true ∧ SeqAt.shaped e = true ∧ Q (.bl (if ng then !PyData.eqv d e else PyData.eqv d e)) H
theorem op_eqP {K : PySem.W.Frag} (hu : X.A.units + 64 < cLine) : OpR X (compareOp .Eq) (rEqP K false) := by
 intro pins s σ H x y v u Q I rx ry h
 obtain ⟨d, e, h1, h2, o1, o2, q⟩ := h
 obtain ⟨as, r1⟩ := h1.reads I.hok (Bool.and_eq_true_iff.mp o1).1 rx
 obtain ⟨bs, r2⟩ := h2.reads I.hok (Bool.and_eq_true_iff.mp o2).1 ry
 exact eq_dataH r1 r2 o1 o2 hu ⟨.bl _, H, I, rfl, q⟩
theorem op_neP {K : PySem.W.Frag} (hu : X.A.units + 64 < cLine) : OpR X (compareOp .NotEq) (rEqP K true) := by
 intro pins s σ H x y v u Q I rx ry h
 obtain ⟨d, e, h1, h2, o1, o2, q⟩ := h
 obtain ⟨as, r1⟩ := h1.reads I.hok (Bool.and_eq_true_iff.mp o1).1 rx
 obtain ⟨bs, r2⟩ := h2.reads I.hok (Bool.and_eq_true_iff.mp o2).1 ry
 exact ne_dataH r1 r2 o1 o2 hu ⟨.bl _, H, I, rfl, q⟩
def eqE (ng : Bool) (x y : Ev) : Res Ev := match dat x, dat y with
 | some d, some e => if SeqAt.shaped d = true ∧ SeqAt.shaped e = true then .ok (.p (.bool (if ng then !PyData.eqv d e else PyData.eqv d e))) else .bad
 | _, _ => .bad
theorem noX_eq {ng : Bool} : NoX (eqE ng) := by
 intro x y A h
 unfold eqE at h
 split at h
 ·split at h <;> cases h
 ·cases h
theorem om_eq {ng : Bool} : OpM K (rEqP K ng) (eqE ng) := by
 intro W G H v u x y Q gh hx hy hw
 unfold eqE at hw
 split at hw
 ·rename_i d e e1 e2
  split at hw
  ·rename_i hs
   exact ⟨d, e, hx.read gh e1, hy.read gh e2, hs.1, hs.2, hw G H _ (Step.refl gh) (.bl _)⟩
  ·exact hw.elim
 ·exact hw.elim
def mUn (op : Ev → Res Ev) (fa : En → Res Ev) : En → Res Ev := fun en => (fa en).bind fun x => op x.c
variable {E : L2.St → XK} {a b : Expr} {fa fb : En → Res Ev} {pos : Pos}
def negE (x : Ev) : Res Ev := match x with
 | .p (.int i) => .ok (.p (.int (-i)))
 | _ => .bad
theorem de_neg (ha : DE X E a fa) : DE X E (.UnaryOp .USub a pos) (mUn negE fa) := by
 obtain ⟨t, p, m⟩ := ha.out
 refine DE.in ⟨_, pe_un un_neg p, fun B G0 G W H σ en Q hh hs hw => m B G0 G W H σ en _ hh hs (DE.go hw fun x G1 H1 v s1 e1 h1 => ?_)⟩
 unfold negE at h1
 split at h1
 ·rename_i i e
  rw [e] at e1
  cases e1
  exact ⟨i, rfl, h1 G1 H1 _ (Step.refl s1.gh) (.int _)⟩
 ·exact h1.elim
def seqOf : Ev → Option (List D)
 | .p (.list ds) => some ds
 | .b (.list ds) => some ds
 | .p (.tuple ds) => some ds
 | _ => none
def ixE (x y : Ev) : Res Ev := match y with
 | .p (.int i) => match seqOf x with
  | some ds => match atI ds i with
   | some d => .ok (.p d)
   | none => .bad
  | none => .bad
 | _ => .bad
theorem noX_ix : NoX ixE := by
 intro x y A h
 unfold ixE at h
 split at h
 ·split at h
  ·split at h <;> cases h
  ·cases h
 ·cases h
theorem reps_at {G : Hp} {xs : List V} {ds : List D} {i : Int} {d : D} (r : Reps K G xs ds) (h : atI ds i = some d) : ∃ x, atI xs i = some x ∧ Rep K G x d := by
 unfold atI at h ⊢
 rw [r.length]
 cases e : ixN ds.length i with
 | none => rw [e] at h; cases h
 | some j =>
  rw [e] at h
  exact r.get' h
def rIxA (K : PySem.W.Frag) : R2 := fun x y H Q => rIxL K x y H Q ∨ rIxT K x y H Q
theorem ix_A : IxR X (rIxA X.K) := ix_list.or ix_tup
theorem om_ix : OpM K (rIxA K) ixE := by
 intro W G H v u x y Q gh hx hy hw
 unfold ixE at hw
 split at hw
 ·rename_i i ey
  rw [ey] at hy
  cases hy
  split at hw
  ·rename_i ds ed
   split at hw
   ·rename_i d ea
    cases ex : x.c with
    | p dd =>
     rw [ex] at ed hx
     cases dd with
     | list es =>
      cases ed
      cases hx with
      | @lst a xs _ h1 h2 =>
       obtain ⟨z, h3, h4⟩ := reps_at h2 ea
       exact .inl ⟨a, xs, i, z, rfl, rfl, .inl (rd_mono gh h1), h3, hw G H _ (Step.refl gh) h4⟩
     | tuple es =>
      cases ed
      cases hx with
      | @tup a xs _ h1 h2 =>
       obtain ⟨z, h3, h4⟩ := reps_at h2 ea
       exact .inr ⟨a, xs, i, z, rfl, rfl, SqT.of (gh _ _ h1), h3, hw G H _ (Step.refl gh) h4⟩
     | _ => cases ed
    | b dd =>
     rw [ex] at ed hx
     cases dd with
     | list es =>
      cases ed
      obtain ⟨a, k, o, rfl, h1, h2, h3⟩ := hx
      cases h3 with
      | @lst xs _ h4 =>
       obtain ⟨z, h5, h6⟩ := reps_at h4 ea
       exact .inl ⟨a, xs, i, z, rfl, rfl, .inl (.inl h2), h5, hw G H _ (Step.refl gh) h6⟩
     | _ => cases ed
    | f dd => rw [ex] at ed; cases ed
    | x C => rw [ex] at ed; cases ed
   ·exact hw.elim
  ·exact hw.elim
 ·exact hw.elim
theorem de_ix (ha : DE X E a fa) (hb : DE X E b fb) (hs : PlainIx b) : DE X E (.Subscript a b pos) (mBin ixE fa fb) := by
 obtain ⟨ta, pa, ma⟩ := ha.out
 obtain ⟨tb, pb, mb⟩ := hb.out
 exact DE.in ⟨_, pe_ix ix_A pa pb hs, op_core ma mb om_ix noX_ix⟩
def lenE (rs : List Ev) : Res Ev := match rs with
 | [x] => match seqOf x with
  | some ds => .ok (.p (.int ds.length))
  | none => .bad
 | _ => .bad
theorem noX_len : NoXs lenE := by
 intro rs C h
 unfold lenE at h
 split at h
 ·split at h <;> cases h
 ·cases h
theorem cm_len : CallM K (fun xs H Q => ∃ p ys, xs = [.ref p] ∧ (SqL K H p ys ∨ SqT K H p ys) ∧ Q (.int ys.length) H) lenE := by
 intro W Hs G H vs rs Q gh he hw
 unfold lenE at hw
 split at hw
 ·rename_i x
  match vs, he with
  | [v], ⟨h1, _⟩ =>
   split at hw
   ·rename_i ds ed
    cases x with
    | p dd =>
     cases dd with
     | list es =>
      cases ed
      cases h1 with
      | @lst a xs _ k1 k2 => exact ⟨a, xs, rfl, .inl (.inl (rd_mono gh k1)), by rw [k2.length]; exact hw G H _ (Step.refl gh) (.int _)⟩
     | tuple es =>
      cases ed
      cases h1 with
      | @tup a xs _ k1 k2 => exact ⟨a, xs, rfl, .inr (SqT.of (gh _ _ k1)), by rw [k2.length]; exact hw G H _ (Step.refl gh) (.int _)⟩
     | _ => cases ed
    | b dd =>
     cases dd with
     | list es =>
      cases ed
      obtain ⟨a, k, o, rfl, k1, k2, k3⟩ := h1
      cases k3 with
      | @lst xs _ k4 => exact ⟨a, xs, rfl, .inl (.inl (.inl k2)), by rw [k4.length]; exact hw G H _ (Step.refl gh) (.int _)⟩
     | _ => cases ed
    | f dd => cases ed
    | x C => cases ed
   ·exact hw.elim
 ·exact hw.elim
def absE (rs : List Ev) : Res Ev := match rs with
 | [.p (.int i)] => .ok (.p (.int (if i < 0 then -i else i)))
 | _ => .bad
theorem noX_abs : NoXs absE := by
 intro rs C h
 unfold absE at h
 split at h <;> cases h
theorem cm_abs : CallM K (fun xs H Q => ∃ i, xs = [.int i] ∧ Q (.int (if i < 0 then -i else i)) H) absE := by
 intro W Hs G H vs rs Q gh he hw
 unfold absE at hw
 split at hw
 ·rename_i i
  match vs, he with
  | [v], ⟨h1, _⟩ => cases h1; exact ⟨i, rfl, hw G H _ (Step.refl gh) (.int _)⟩
 ·exact hw.elim
def listE (rs : List Ev) : Res Ev := match rs with
 | [x] => match seqOf x with
  | some ds => .ok (.f (.list ds))
  | none => .bad
 | _ => .bad
theorem noX_list : NoXs listE := by
 intro rs C h
 unfold listE at h
 split at h
 ·split at h <;> cases h
 ·cases h
theorem cm_list : CallM K (fun xs H Q => ∃ p ys, xs = [.ref p] ∧ (SqL K H p ys ∨ SqT K H p ys) ∧ ∀ l, H l = none → Q (.ref l) (upd H l (.lst ys))) listE := by
 intro W Hs G H vs rs Q gh he hw
 unfold listE at hw
 split at hw
 ·rename_i x
  match vs, he with
  | [v], ⟨h1, _⟩ =>
   split at hw
   ·rename_i ds ed
    have fin : ∀ {xs : List V}, Reps K G xs ds → ∀ l, H l = none → Q (.ref l) (upd H l (.lst xs)) := fun r l hl =>
     hw _ _ _ (Step.lay gh hl) ⟨l, _, rfl, hl, gh.free hl, upd_same, .lst r⟩
    cases x with
    | p dd =>
     cases dd with
     | list es =>
      cases ed
      cases h1 with
      | @lst a xs _ k1 k2 => exact ⟨a, xs, rfl, .inl (.inl (rd_mono gh k1)), fin k2⟩
     | tuple es =>
      cases ed
      cases h1 with
      | @tup a xs _ k1 k2 => exact ⟨a, xs, rfl, .inr (SqT.of (gh _ _ k1)), fin k2⟩
     | _ => cases ed
    | b dd =>
     cases dd with
     | list es =>
      cases ed
      obtain ⟨a, k, o, rfl, k1, k2, k3⟩ := h1
      cases k3 with
      | @lst xs _ k4 => exact ⟨a, xs, rfl, .inl (.inl (.inl k2)), fin k4⟩
     | _ => cases ed
    | f dd => cases ed
    | x C => cases ed
   ·exact hw.elim
 ·exact hw.elim
def tyD : D → String
 | .none => "NoneType"
 | .bool _ => "bool"
 | .int _ => "int"
 | .str _ => "str"
 | .list _ => "list"
 | .tuple _ => "tuple"
 | .dict _ => "dict"
def isiE (K : PySem.W.Frag) (c : Value) (x : Ev) : Res Ev := match dat x with
 | some d => match PySem.W.kitOne K (.type (tyD d)) c with
  | some b => .ok (.p (.bool b))
  | none => .bad
 | none => .bad
theorem rep_ty {H : Hp} {v : V} {d : D} (h : Rep K H v d) : TyOf K H v (.type (tyD d)) := by
 cases h with
 | non => exact .non
 | bl b => exact .bl b
 | int i => exact .int i
 | str i => exact .str i
 | tup h _ => exact .tup h
 | lst h _ =>
  rcases h with h | ⟨o, h⟩
  ·exact .lst h
  ·exact .frz h
 | dT h _ => exact .dT h
 | dK h _ => exact .dK h
theorem de_isi {e c : Expr} {v : V} {cv : Value} {p : Pos} (hg : Gl X "isinstance") (hm : X.mg "isinstance" = none) (hv : (∃ n, v = .ty n) ∨ ∃ a, v = .ref a) (hr : RelV v cv) (he : DE X E e fa) (hc : PE X c (tC v))
  (h1 : starEach [e, c] X.env = (false, eval e X.env) :: starEach [c] X.env := by rfl) (h2 : (backTo pos (starEach [c] X.env)).any (·.1) = false := by rfl) (h3 : starEach [c] X.env = (false, eval c X.env) :: starEach [] X.env := by rfl) :
  DE X E (.Call (.Name "isinstance" p) [e, c] [] pos) (mUn (isiE X.K cv) fa) := by
 obtain ⟨t, q, m⟩ := he.out
 refine DE.in ⟨_, pe_isi hg hm q hc h1 h2 h3, fun B G0 G W H σ en Q hh hs hw => m B G0 G W H σ en _ hh hs (DE.go hw fun x G1 H1 u s1 e1 k1 => ?_)⟩
 unfold isiE at k1
 split at k1
 ·rename_i d ed
  split at k1
  ·rename_i b eb
   exact ⟨u, v, .type (tyD d), cv, b, rfl, hv, .plain (rep_ty (EOk.read s1.gh e1 ed)), hr, eb, k1 G1 H1 _ (Step.refl s1.gh) (.bl _)⟩
  ·exact k1.elim
 ·exact k1.elim
end
section
variable {P : Program} {w : World} {K : PySem.W.Frag} {mg : Str → Option Value} {base : Heap}
structure Def (K : PySem.W.Frag) (mg : Str → Option Value) (x : Str) (ps : List Str) (st : Stmt) : Prop where
 ex : ∃ f fd, Fun K x x st f fd ∧ Binds K fd ps [] ∧ PySem.W.keepIn K (.ref f) = true ∧ mg x = some (.ref f)
structure Cal (P : Program) (w : World) (K : PySem.W.Frag) (mg : Str → Option Value) (base : Heap) (k : Nat) (x : Str) (n : Nat) (m : List L → Res L) : Prop where
 ex : ∃ f fd ps, FnOk P w K mg base (CXr P w) k f fd ps (spM K n m) ∧ Binds K fd ps [] ∧ PySem.W.keepIn K (.ref f) = true ∧ mg x = some (.ref f)
theorem calM {x : Str} {st : Stmt} {N ps : List Str} {k n : Nat} {m : List L → Res L} (Df : Def K mg x ps st) (S : FnScope N ps (defScope st)) (hn : n = ps.length)
  (hbody : ∀ (f : Addr) (cdv : Value) (A : Around) (outer : List Env) (s : Shared) (H : Hp) (E : XK), Room k (A.deeper (envOfC x (defScope st) s.heap.objs.size f cdv)) →
   ∃ fm, DSs (cxOf (CXr P w) P w K mg base N x (defScope st) f cdv A outer s H E) (fun _ => E) (defBody st) fm ∧ ∀ ls, m ls = .bad ∨ runF N.length fm ls = m ls) : Cal P w K mg base (k + 1) x n m := by
 obtain ⟨f, fd, F, b, kp, h⟩ := Df.ex
 exact ⟨f, fd, ps, fnM F S hn fun cdv A outer s H E hr => hbody f cdv A outer s H E hr, b, kp, h⟩
end
section
variable {X : Cx} {E : L2.St → XK} {k j : Nat} {x : Str} {p pos : Pos} {e : Expr} {es : List Expr} {fr : En → Res (List Ev)} {n : Nat} {m : List L → Res L}
theorem de_callC (c : Cal X.prog X.w X.K X.mg X.base j x n m) (hr : Room k X.A) (hx : PassesS (CXr X.prog X.w) X E) (ha : DA X E (e :: es) fr) (hg : Gl X x := by rfl) (hjk : j ≤ k := by decide) (hdb : (x == ("__debug__" : Str)) = false := by decide)
  (he : starEach (e :: es) X.env = (false, eval e X.env) :: starEach es X.env := by rfl) (hpl : (backTo pos (starEach es X.env)).any (·.1) = false := by rfl) :
  DE X E (.Call (.Name x p) (e :: es) [] pos) (mCall n m fr) := by
 obtain ⟨f, fd, ps, F, b, kp, h⟩ := c.ex
 exact de_call (F.mono hjk) hr hg h kp b hx ha hdb he hpl
theorem dv (i : Nat) (hN : X.N[i]? = some x := by rfl) (hv : Vis X.env.scope x := by first | exact Or.inl rfl | exact Or.inr (Or.inl rfl) | exact Or.inr (Or.inr rfl)) (hd : (x == ("__debug__" : Str)) = false := by decide) (hcd : (x == ("__classdict__" : Str)) = false := by decide) :
  DE X E (.Name x pos) (mVar i) := de_var hN hv hd hcd
theorem u64 {A : Around} (hr : Room k A) : A.units + 64 < cLine := by have := hr.un; omega
theorem u1 {A : Around} (hr : Room k A) : A.units + 1 < cLine := by have := hr.un; omega
theorem cap_nil {scope : Scope} {cl : List (Str × Addr)} : CapOk X scope cl [] [] := ⟨rfl, fun i y j h _ => by simp at h⟩
theorem cap_cons {scope : Scope} {cl : List (Str × Addr)} {y : Str} {ys : List Str} {j : Nat} {js : List Nat} (h : X.N[j]? = some y ∧ (X.env.kindOf y = some .cell ∨ X.env.kindOf y = some .free) ∧ ((relabel scope X.env).names.lookup y = some .cell ∨ (relabel scope X.env).names.lookup y = some .free) ∧ (X.env.cells.lookup y).isSome = true ∧ cl.lookup y = X.env.cells.lookup y)
  (t : CapOk X scope cl ys js) : CapOk X scope cl (y :: ys) (j :: js) :=
 ⟨by rw [List.length_cons, List.length_cons, t.len], fun i z q e1 e2 => by
  cases i with
  | zero => simp at e1 e2; subst e1 e2; exact h
  | succ i => exact t.at_ i z q (by simpa using e1) (by simpa using e2)⟩
theorem cl_ok {scope : Scope} {cl : List (Str × Addr)} {ys : List Str} {js : List Nat} (clos : closureFor scope X.env = pure cl) (sub : ∀ q ∈ cl, X.env.cells.lookup q.1 = some q.2) (cap : CapOk X scope cl ys js) (hcell : ∀ y ∈ scope.names, y.2 ≠ .cell) (hfree : ∀ q ∈ scope.names, q.2 = .free → q.1 ∈ ys) : ClOk X scope cl := by
 refine ⟨clos, fun y c h => sub _ (PySem.mem_of_lookup h), fun y hy => ?_⟩
 have hm : y ∈ ys := by
  rcases hy with hy | hy
  ·have m := PySem.mem_of_lookup hy
   obtain ⟨⟨n0, k0⟩, m0, e0⟩ := List.mem_map.mp m
   dsimp only at e0
   split at e0
   ·rename_i z
    injection e0 with e1 e2
    subst e1
    have : k0 = .free := by
     cases k0 <;> simp at z ⊢
    exact hfree _ m0 this
   ·injection e0 with e1 e2
    exact absurd e2 (hcell _ m0)
  ·have m := PySem.mem_of_lookup hy
   obtain ⟨⟨n0, k0⟩, m0, e0⟩ := List.mem_map.mp m
   dsimp only at e0
   split at e0
   ·injection e0 with e1 e2
    cases e2
   ·injection e0 with e1 e2
    subst e1
    exact hfree _ m0 e2
 obtain ⟨i, hi, e⟩ := List.mem_iff_getElem.mp hm
 have hj : i < js.length := by rw [← cap.len]; exact hi
 obtain ⟨_, _, _, h4, h5⟩ := cap.at_ i y js[i] (by rw [List.getElem?_eq_getElem hi, e]) (List.getElem?_eq_getElem hj)
 rw [h5]
 exact Option.isSome_iff_exists.mp h4
theorem write_ok {K : PySem.W.Frag} {B G0 G H : Hp} {W : Addr → Option Nat} {σ : L2.St} {en : En} {i : Nat} {a : Addr} {o' : HO} {d' : D} (hh : SimH B G0 G W H) (hs : SimS K W G H σ en) (hW : W a = some i) (hv : σ[i]? = some (some (.ref a))) (hc : Cont K G o' d') :
  SimH B G0 G W (upd H a o') ∧ SimS K W G (upd H a o') σ (en.set i (some (.o d'))) := by
 obtain ⟨g1, g2, g3⟩ := hh.wf a i hW
 refine ⟨⟨fun b o e => ?_, fun b o e => ?_, hh.g0, hh.gb, fun b j e => ?_⟩, by rw [List.length_set]; exact hs.1, fun j l e => ?_⟩
 ·rw [upd_ne (ne_of_none e g1)]; exact hh.gh b o e
 ·rw [upd_ne (ne_of_none e g2)]; exact hh.bh b o e
 ·obtain ⟨k1, k2, o, k3, k4⟩ := hh.wf b j e
  refine ⟨k1, k2, ?_⟩
  by_cases z : b = a
  ·rw [z, upd_same]; exact ⟨_, rfl, hc.mut⟩
  ·rw [upd_ne z]; exact ⟨o, k3, k4⟩
 ·rw [List.getElem?_set] at e
  by_cases hj : i = j
  ·subst hj
   rw [if_pos rfl] at e
   split at e
   ·cases e
    exact ⟨_, hv, a, o', rfl, hW, upd_same, hc⟩
   ·cases e
  ·rw [if_neg hj] at e
   obtain ⟨v, e1, e2⟩ := hs.2 j l e
   refine ⟨v, e1, ?_⟩
   cases l with
   | p d => exact e2
   | x C => exact e2
   | h a => exact e2
   | o d =>
    obtain ⟨b, ob, h1, h2, h3, h4⟩ := e2
    refine ⟨b, ob, h1, h2, ?_, h4⟩
    rw [upd_ne (fun z => by rw [z, hW] at h2; exact hj (Option.some.inj h2))]
    exact h3
def mAppend (i : Nat) (fe : En → Res Ev) : MS := fun en => match en[i]? with
 | some (some (.o (.list ds))) => match fe en with
  | .ok r => match r.c with
   | .p d => if ds.length ≤ 100000 then some (.nx (en.set i (some (.o (.list (ds ++ [d])))))) else none
   | _ => none
  | .exc C => some (.ex C en)
  | .bad => none
 | _ => none
theorem ds_append {i : Nat} {fe : En → Res Ev} {st : Stmt} (he : DE X E e fe) (hp : ∀ t, PE X e t → PS X st (tDrop (tBM X.K "list" rAppend (tVar i) (tCons t tNil)))) : DS X E st (mAppend i fe) := by
 obtain ⟨t, q, mm⟩ := he.out
 refine DS.in ⟨_, hp t q, fun B G0 G W H σ en Dn hh hs hw => ?_⟩
 unfold mAppend at hw
 split at hw
 ·rename_i ds ei
  obtain ⟨v, e1, a, o, rfl, e2, e3, e4⟩ := hs.2 i _ ei
  cases e4 with
  | @lst xs _ rp =>
  refine ⟨_, e1, .inl ⟨rfl, _, SqL.of e3⟩, mm B G0 G W H σ en _ hh hs ?_⟩
  cases ef : fe en with
  | bad => rw [ef] at hw; exact hw
  | exc C => rw [ef] at hw; exact fun G1 H1 s => hw G1 W H1 σ (hh.step s) (hs.step s)
  | ok r =>
   rw [ef] at hw
   intro G1 H1 y s ey
   obtain ⟨G2, s2, ey2⟩ := ey.c s
   dsimp only at hw
   cases er : r.c with
   | p d =>
    rw [er] at hw ey2
    dsimp only at hw
    split at hw
    ·rename_i hl
     have hx := s2.h _ _ e3
     refine ⟨a, xs, y, rfl, rfl, hx, Nat.lt_of_le_of_lt (by rw [rp.length]; exact hl) (by decide), ?_⟩
     obtain ⟨w1, w2⟩ := write_ok (o' := .lst (xs ++ [y])) (d' := .list (ds ++ [d])) (hh.step s2) (hs.step s2) e2 e1 (.lst ((rp.mono s2.g).append (.cons ey2 .nil)))
     exact hw _ _ _ _ w1 w2
    ·exact hw.elim
   | f d => rw [er] at hw; exact hw.elim
   | b d => rw [er] at hw; exact hw.elim
   | x C => rw [er] at hw; exact hw.elim
 ·exact hw.elim
end
section
variable {X : Cx} {K : PySem.W.Frag} {E : L2.St → XK} {a b : Expr} {fa fb : En → Res Ev} {pos : Pos}
def flatD : D → Bool
 | .none => true
 | .bool _ => true
 | .int _ => true
 | .str _ => true
 | _ => false
theorem flat_V {G : Hp} {v : V} {d : D} (h : Rep K G v d) (f : flatD d = true) : flatV v = true := by
 cases h <;> first | rfl | exact absurd f Bool.false_ne_true
theorem eqV_eqv {G : Hp} {v u : V} {d e : D} (h : Rep K G v d) (h2 : Rep K G u e) (f : flatD d = true) (f2 : flatD e = true) : eqV v u = PyData.eqv d e := by
 cases h <;> cases h2 <;> first | rfl | exact absurd f Bool.false_ne_true | exact absurd f2 Bool.false_ne_true | simp only [eqV, PyData.eqv]
def inE (ng : Bool) (x y : Ev) : Res Ev := match x with
 | .p d => match seqOf y with
  | some ds => if flatD d = true ∧ ds.all flatD = true then .ok (.p (.bool (if ng then !ds.any (fun e => PyData.eqv e d) else ds.any fun e => PyData.eqv e d))) else .bad
  | none => .bad
 | _ => .bad
theorem noX_in {ng : Bool} : NoX (inE ng) := by
 intro x y A h
 unfold inE at h
 split at h
 ·split at h
  ·split at h <;> cases h
  ·cases h
 ·cases h
theorem in_flat {G : Hp} {v : V} {d : D} (h : Rep K G v d) (f : flatD d = true) : ∀ {xs : List V} {ds : List D}, Reps K G xs ds → ds.all flatD = true → xs.all flatV = true ∧ inV v xs = ds.any (fun e => PyData.eqv e d)
 | _, _, .nil, _ => ⟨rfl, rfl⟩
 | _, _, .cons r t, hf => by
  rw [List.all_cons, Bool.and_eq_true] at hf
  obtain ⟨i1, i2⟩ := in_flat h f t hf.2
  unfold inV at i2 ⊢
  rw [List.all_cons, List.any_cons, List.any_cons, flat_V r hf.1, i1, i2, eqV_eqv r h hf.1 f]
  exact ⟨rfl, rfl⟩
theorem op_ninE {K : PySem.W.Frag} (h : X.K = K) : OpR X (compareOp .NotIn) (rIn K true) := h ▸ op_notIn_seq
theorem om_in {ng : Bool} : OpM K (rIn K ng) (inE ng) := by
 intro W G H v u x y Q gh hx hy hw
 unfold inE at hw
 split at hw
 ·rename_i d ex
  rw [ex] at hx
  split at hw
  ·rename_i ds ed
   split at hw
   ·rename_i hf
    have hx : Rep K G v d := hx
    have fin : ∀ {xs : List V}, Reps K G xs ds → xs.all flatV = true ∧ Q (.bl (if ng then !inV v xs else inV v xs)) H := fun r => by
     obtain ⟨i1, i2⟩ := in_flat hx hf.1 r hf.2
     rw [i2]
     exact ⟨i1, hw G H _ (Step.refl gh) (.bl _)⟩
    cases ey : y.c with
    | p dd =>
     rw [ey] at ed hy
     cases dd with
     | list es =>
      cases ed
      cases hy with
      | @lst a xs _ h1 h2 => exact ⟨a, xs, rfl, .inl (.inl (rd_mono gh h1)), flat_V hx hf.1, fin h2⟩
     | tuple es =>
      cases ed
      cases hy with
      | @tup a xs _ h1 h2 => exact ⟨a, xs, rfl, .inr (SqT.of (gh _ _ h1)), flat_V hx hf.1, fin h2⟩
     | _ => cases ed
    | b dd =>
     rw [ey] at ed hy
     cases dd with
     | list es =>
      cases ed
      obtain ⟨a, k, o, rfl, h1, h2, h3⟩ := hy
      cases h3 with
      | @lst xs _ h4 => exact ⟨a, xs, rfl, .inl (.inl (.inl h2)), flat_V hx hf.1, fin h4⟩
     | _ => cases ed
    | f dd => rw [ey] at ed; cases ed
    | x C => rw [ey] at ed; cases ed
   ·exact hw.elim
  ·exact hw.elim
 ·exact hw.elim
end
end M

namespace SRT
open PySem PySem.W PyProof.Rows
structure Ord (lt : Nat → Nat → Bool) : Prop where
 as : ∀ i j, lt i j = true → lt j i = false
 tr : ∀ i j k, lt j i = false → lt k j = false → lt k i = false
section
variable {lt : Nat → Nat → Bool} {n : Nat} {cmp : Nat → Nat → (Bool → Shared → Prop) → Shared → Prop} {s : Shared}
def le (lt : Nat → Nat → Bool) (a b : Nat) : Prop := lt b a = false
theorem Ord.rf (o : Ord lt) (i : Nat) : le lt i i := by
 cases e : lt i i with
 | false => exact e
 | true => have := o.as i i e; rw [e] at this; cases this
theorem Ord.tot (o : Ord lt) {i j : Nat} (h : lt i j = true) : le lt i j := o.as i j h
def Pt (p : Array Nat) (i : Nat) : Nat := p.getD i 0
def Sd (lt : Nat → Nat → Bool) (p : Array Nat) (m : Nat) : Prop := ∀ i j, i ≤ j → j < m → le lt (Pt p i) (Pt p j)
def NI (lt : Nat → Nat → Bool) (p : Array Nat) (m : Nat) : Prop := ∀ i j, i ≤ j → j < m → le lt (Pt p j) (Pt p i)
def Pm (n : Nat) (p : Array Nat) : Prop := p.Perm (List.range n).toArray
theorem Pm.size {p : Array Nat} (h : Pm n p) : p.size = n := by
 have := h.size_eq
 simpa using this
theorem Pm.bd {p : Array Nat} (h : Pm n p) (hn : 0 < n) (i : Nat) : Pt p i < n := by
 unfold Pt
 by_cases hi : i < p.size
 ·have e : p.getD i 0 = p[i] := by simp [Array.getD, hi]
  rw [e]
  have : p[i] ∈ (List.range n).toArray := h.mem_iff.mp (Array.getElem_mem hi)
  simpa using this
 ·have e : p.getD i 0 = 0 := by simp [Array.getD, hi]
  rw [e]; exact hn
theorem Pt_of {p q : Array Nat} {i j : Nat} (h : p[i]? = q[j]?) : Pt p i = Pt q j := by
 unfold Pt
 rw [Array.getD_eq_getD_getElem?, Array.getD_eq_getD_getElem?, h]
theorem rev_pm {p : Array Nat} (h : Pm n p) (i j : Nat) : Pm n (kas_rev p i j) := (mirror_perm _ _ _ _).trans h
theorem rev_pt {p : Array Nat} {i j : Nat} (hj : j ≤ p.size) (k : Nat) : Pt (kas_rev p i j) k = if i ≤ k ∧ k < j then Pt p (i + j - 1 - k) else Pt p k := by
 have e := getElem?_mirror_all (xs := p) (i := i) hj k
 split
 ·rename_i h
  rw [if_pos h] at e
  exact Pt_of e
 ·rename_i h
  rw [if_neg h] at e
  exact Pt_of e
variable (hc : ∀ i j C, i < n → j < n → C (lt i j) s → cmp i j C s) (hn : 0 < n) (o : Ord lt)
include hc hn
theorem asc_wp {Q : Nat → Shared → Prop} {p : Array Nat} (hp : Pm n p) : ∀ (f a : Nat), (∀ m, a ≤ m → m ≤ a + f → (∀ k, a ≤ k → k < m → le lt (Pt p (k - 1)) (Pt p k)) → (m < a + f → lt (Pt p m) (Pt p (m - 1)) = true) → Q m s) →
  (kas_asc p f a).kasWp cmp Q s
 | 0, a, h => h a (Nat.le_refl _) (Nat.le_refl _) (fun k h1 h2 => absurd h2 (by omega)) (fun h => absurd h (by omega))
 | f + 1, a, h => by
  refine hc _ _ _ (hp.bd hn _) (hp.bd hn _) ?_
  show KasT.kasWp cmp (if lt (Pt p a) (Pt p (a - 1)) = true then .ret a else kas_asc p f (a + 1)) Q s
  cases e : lt (Pt p a) (Pt p (a - 1)) with
  | true =>
   rw [if_pos rfl]
   exact h a (Nat.le_refl _) (by omega) (fun k h1 h2 => absurd h2 (by omega)) fun _ => e
  | false =>
   rw [if_neg Bool.false_ne_true]
   refine asc_wp hp f (a + 1) fun m h1 h2 h3 h4 => h m (by omega) (by omega) (fun k k1 k2 => ?_) fun z => h4 (by omega)
   by_cases ek : k = a
   ·subst ek; exact e
   ·exact h3 k (by omega) k2
include o
omit hc hn in
theorem sd_up {p : Array Nat} {a m : Nat} (h1 : 1 ≤ a) (hs : Sd lt p a) (hk : ∀ k, a ≤ k → k < m → le lt (Pt p (k - 1)) (Pt p k)) : Sd lt p m := by
 intro i j hij hj
 induction j with
 | zero =>
  have : i = 0 := by omega
  subst this
  exact o.rf _
 | succ j ih =>
  by_cases e : i = j + 1
  ·subst e; exact o.rf _
  ·have ih := ih (by omega) (by omega)
   by_cases hja : j + 1 < a
   ·exact hs i (j + 1) hij hja
   ·have := hk (j + 1) (by omega) hj
    exact o.tr _ _ _ ih this
omit hc hn in
theorem ni_rev {p : Array Nat} {m : Nat} (hm : m ≤ p.size) (h : NI lt p m) : Sd lt (kas_rev p 0 m) m := by
 intro i j hij hj
 rw [rev_pt hm, rev_pt hm, if_pos ⟨Nat.zero_le _, by omega⟩, if_pos ⟨Nat.zero_le _, hj⟩]
 exact h _ _ (by omega) (by omega)
theorem tail_wp {Q : Nat × Array Nat → Shared → Prop} {p : Array Nat} {a r : Nat} (hp : Pm n p) (h1 : 1 ≤ a) (ha : a ≤ r) (hr : r ≤ n) (hni : NI lt p a) (h : ∀ m q, 1 ≤ m → m ≤ r → Pm n q → Sd lt q m → Q (m, q) s) : (kas_tail3 a r p).kasWp cmp Q s := by
 unfold kas_tail3
 rw [KasT.kasWp_bind]
 have hz : a ≤ p.size := by rw [hp.size]; omega
 refine asc_wp hc hn (rev_pm hp 0 a) _ _ fun m h2 h3 h4 _ => ?_
 exact h m _ (by omega) (by omega) (rev_pm hp 0 a) (sd_up o h1 (ni_rev o hz hni) h4)
omit hc hn in
theorem rev_eq {p : Array Nat} {i j : Nat} (hj : j ≤ p.size) (he : ∀ a b, i ≤ a → a < j → i ≤ b → b < j → le lt (Pt p a) (Pt p b)) (k : Nat) : le lt (Pt (kas_rev p i j) k) (Pt p k) ∧ le lt (Pt p k) (Pt (kas_rev p i j) k) := by
 rw [rev_pt hj]
 split
 ·rename_i h
  exact ⟨he _ _ (by omega) (by omega) h.1 h.2, he _ _ h.1 h.2 (by omega) (by omega)⟩
 ·exact ⟨o.rf _, o.rf _⟩
omit hc hn in
theorem ni_rev_eq {p : Array Nat} {i j m : Nat} (hj : j ≤ p.size) (he : ∀ a b, i ≤ a → a < j → i ≤ b → b < j → le lt (Pt p a) (Pt p b)) (h : NI lt p m) : NI lt (kas_rev p i j) m := fun a b hab hb =>
 o.tr _ _ _ (rev_eq o hj he b).1 (o.tr _ _ _ (h a b hab hb) (rev_eq o hj he a).2)
theorem desc_wp {Q : Array Nat × Nat × Nat → Shared → Prop} {r : Nat} (hr : r ≤ n) : ∀ (f : Nat) (p : Array Nat) (a q : Nat), Pm n p → a + f ≤ r → q + 1 ≤ a → NI lt p a → (∀ x y, a - (q + 1) ≤ x → x < a → a - (q + 1) ≤ y → y < a → le lt (Pt p x) (Pt p y)) →
  (∀ p' a' q', Pm n p' → a ≤ a' → a' ≤ r → q' + 1 ≤ a' → NI lt p' a' → (∀ x y, a' - (q' + 1) ≤ x → x < a' → a' - (q' + 1) ≤ y → y < a' → le lt (Pt p' x) (Pt p' y)) → Q (p', a', q') s) → (kas_desc f p a q).kasWp cmp Q s
 | 0, p, a, q, hp, hf, hq, hni, he, h => h p a q hp (Nat.le_refl _) (by omega) hq hni he
 | f + 1, p, a, q, hp, hf, hq, hni, he, h => by
  have hz : a ≤ p.size := by rw [hp.size]; omega
  refine hc _ _ _ (hp.bd hn _) (hp.bd hn _) ?_
  show KasT.kasWp cmp (if lt (Pt p a) (Pt p (a - 1)) = true then (if q > 0 then kas_desc f (kas_rev p (a - (q + 1)) a) (a + 1) 0 else kas_desc f p (a + 1) 0)
   else .ask (Pt p (a - 1)) (Pt p a) fun d => if d = true then .ret (p, a, q) else kas_desc f p (a + 1) (q + 1)) Q s
  have grow : ∀ {p' : Array Nat}, NI lt p' a → le lt (Pt p' a) (Pt p' (a - 1)) → NI lt p' (a + 1) := fun {p'} h1 h2 i j hij hj => by
   by_cases e : j = a
   ·subst e
    by_cases e2 : i = j
    ·subst e2; exact o.rf _
    ·exact o.tr _ _ _ h2 (h1 i (j - 1) (by omega) (by omega))
   ·exact h1 i j hij (by omega)
  cases e : lt (Pt p a) (Pt p (a - 1)) with
  | true =>
   rw [if_pos rfl]
   by_cases hq0 : q > 0
   ·rw [if_pos hq0]
    have n1 := ni_rev_eq o hz he hni
    have e1 : Pt (kas_rev p (a - (q + 1)) a) a = Pt p a := by rw [rev_pt hz, if_neg (by omega)]
    have le1 : le lt (Pt (kas_rev p (a - (q + 1)) a) a) (Pt (kas_rev p (a - (q + 1)) a) (a - 1)) := by
     rw [e1]
     exact o.tr _ _ _ (o.tot e) (rev_eq o hz he (a - 1)).2
    refine desc_wp hr f _ (a + 1) 0 (rev_pm hp _ _) (by omega) (by omega) (grow n1 le1) (fun x y h1 h2 h3 h4 => ?_) fun p' a' q' k1 k2 k3 k4 k5 k6 => h p' a' q' k1 (by omega) k3 k4 k5 k6
    have : x = y := by omega
    subst this; exact o.rf _
   ·rw [if_neg hq0]
    refine desc_wp hr f _ (a + 1) 0 hp (by omega) (by omega) (grow hni (o.tot e)) (fun x y h1 h2 h3 h4 => ?_) fun p' a' q' k1 k2 k3 k4 k5 k6 => h p' a' q' k1 (by omega) k3 k4 k5 k6
    have : x = y := by omega
    subst this; exact o.rf _
  | false =>
   rw [if_neg Bool.false_ne_true]
   refine hc _ _ _ (hp.bd hn _) (hp.bd hn _) ?_
   show KasT.kasWp cmp (if lt (Pt p (a - 1)) (Pt p a) = true then .ret (p, a, q) else kas_desc f p (a + 1) (q + 1)) Q s
   cases e2 : lt (Pt p (a - 1)) (Pt p a) with
   | true =>
    rw [if_pos rfl]
    exact h p a q hp (Nat.le_refl _) (by omega) hq hni he
   | false =>
    rw [if_neg Bool.false_ne_true]
    have eq1 : le lt (Pt p (a - 1)) (Pt p a) := e
    have eq2 : le lt (Pt p a) (Pt p (a - 1)) := e2
    refine desc_wp hr f p (a + 1) (q + 1) hp (by omega) (by omega) (grow hni eq2) (fun x y h1 h2 h3 h4 => ?_) fun p' a' q' k1 k2 k3 k4 k5 k6 => h p' a' q' k1 (by omega) k3 k4 k5 k6
    by_cases hx : x = a
    ·subst hx
     by_cases hy : y = x
     ·subst hy; exact o.rf _
     ·exact o.tr _ _ _ eq2 (he _ _ (by omega) (by omega) (by omega) (by omega))
    ·by_cases hy : y = a
     ·subst hy
      exact o.tr _ _ _ (he _ (y - 1) (by omega) (by omega) (by omega) (by omega)) eq1
     ·exact he _ _ (by omega) (by omega) (by omega) (by omega)
theorem descPart_wp {Q : Nat × Array Nat → Shared → Prop} {p : Array Nat} {a r : Nat} (hp : Pm n p) (h1 : 1 ≤ a) (ha : a + 1 ≤ r) (hr : r ≤ n) (hni : NI lt p (a + 1)) (h : ∀ m q, 1 ≤ m → m ≤ r → Pm n q → Sd lt q m → Q (m, q) s) : (kas_descPart a r p).kasWp cmp Q s := by
 unfold kas_descPart
 rw [KasT.kasWp_bind]
 refine desc_wp hc hn o hr _ p (a + 1) 0 hp (by omega) (by omega) hni (fun x y h1 h2 h3 h4 => ?_) fun p' a' q' k1 k2 k3 k4 k5 k6 => ?_
 ·have : x = y := by omega
  subst this; exact o.rf _
 ·have hz : a' ≤ p'.size := by rw [k1.size]; omega
  show KasT.kasWp cmp (if q' > 0 then kas_tail3 a' r (kas_rev p' (a' - (q' + 1)) a') else kas_tail3 a' r p') Q s
  by_cases hq : q' > 0
  ·rw [if_pos hq]
   exact tail_wp hc hn o (rev_pm k1 _ _) (by omega) k3 hr (ni_rev_eq o hz k6 k5) h
  ·rw [if_neg hq]
   exact tail_wp hc hn o k1 (by omega) k3 hr k5 h
theorem count_wp {Q : Nat × Array Nat → Shared → Prop} {p : Array Nat} {r : Nat} (hp : Pm n p) (h1 : 1 ≤ r) (hr : r ≤ n) (h : ∀ m q, 1 ≤ m → m ≤ r → Pm n q → Sd lt q m → Q (m, q) s) : (kas_count r p).kasWp cmp Q s := by
 unfold kas_count
 rw [KasT.kasWp_bind]
 have s1 : Sd lt p 1 := fun i j hij hj => by
  have : i = j := by omega
  subst this; exact o.rf _
 refine asc_wp hc hn hp _ _ fun m h2 h3 h4 h5 => ?_
 have sm := sd_up o (Nat.le_refl 1) s1 h4
 show KasT.kasWp cmp (if (m == r) = true then .ret (m, p) else if m > 1 then .ask (Pt p 0) (Pt p (m - 1)) fun c => if c = true then .ret (m, p) else kas_descPart m r (kas_rev p 0 m) else kas_descPart m r p) Q s
 by_cases em : m = r
 ·rw [if_pos (by simp [em])]
  exact h m p h2 (by omega) hp sm
 ·rw [if_neg (by simp [em])]
  have hlt := h5 (by omega)
  have hz : m ≤ p.size := by rw [hp.size]; omega
  by_cases hm : m > 1
  ·rw [if_pos hm]
   refine hc _ _ _ (hp.bd hn _) (hp.bd hn _) ?_
   show KasT.kasWp cmp (if lt (Pt p 0) (Pt p (m - 1)) = true then .ret (m, p) else kas_descPart m r (kas_rev p 0 m)) Q s
   cases e : lt (Pt p 0) (Pt p (m - 1)) with
   | true => rw [if_pos rfl]; exact h m p h2 (by omega) hp sm
   | false =>
    rw [if_neg Bool.false_ne_true]
    have e : le lt (Pt p (m - 1)) (Pt p 0) := e
    have he : ∀ a b, 0 ≤ a → a < m → 0 ≤ b → b < m → le lt (Pt p a) (Pt p b) := fun a b _ ha _ hb =>
     o.tr _ _ _ (sm a (m - 1) (by omega) (by omega)) (o.tr _ _ _ e (sm 0 b (by omega) hb))
    have nm : NI lt p m := fun i j hij hj => he j i (by omega) hj (by omega) (by omega)
    have n2 := ni_rev_eq o hz he nm
    have em1 : Pt (kas_rev p 0 m) m = Pt p m := by rw [rev_pt hz, if_neg (by omega)]
    refine descPart_wp hc hn o (rev_pm hp 0 m) (by omega) (by omega) hr (fun i j hij hj => ?_) h
    by_cases ej : j = m
    ·subst ej
     by_cases ei : i = j
     ·subst ei; exact o.rf _
     ·rw [em1]
      refine o.tr _ _ _ (o.tot hlt) (o.tr _ _ _ (rev_eq o hz he (j - 1)).2 ?_)
      exact n2 i (j - 1) (by omega) (by omega)
    ·exact n2 i j hij (by omega)
  ·rw [if_neg hm]
   have e1 : m = 1 := by omega
   subst e1
   refine descPart_wp hc hn o hp (Nat.le_refl 1) (by omega) hr (fun i j hij hj => ?_) h
   by_cases ei : i = j
   ·subst ei; exact o.rf _
   ·have : i = 0 ∧ j = 1 := by omega
    obtain ⟨rfl, rfl⟩ := this
    exact o.tot hlt
theorem place_wp {Q : Nat → Shared → Prop} {p : Array Nat} {k : Nat} (hp : Pm n p) (hs : Sd lt p k) : ∀ (f l r : Nat), l ≤ r → r ≤ k → r - l ≤ f → (∀ i, i < l → le lt (Pt p i) (Pt p k)) → (∀ i, r ≤ i → i < k → lt (Pt p k) (Pt p i) = true) →
  (∀ m, m ≤ k → (∀ i, i < m → le lt (Pt p i) (Pt p k)) → (∀ i, m ≤ i → i < k → lt (Pt p k) (Pt p i) = true) → Q m s) → (kas_place p k f l r).kasWp cmp Q s
 | 0, l, r, h1, h2, h3, h4, h5, h => by
  have : l = r := by omega
  subst this
  exact h l h2 h4 h5
 | f + 1, l, r, h1, h2, h3, h4, h5, h => by
  unfold kas_place
  by_cases e : l ≥ r
  ·rw [if_pos e]
   have : l = r := by omega
   subst this
   exact h l h2 h4 h5
  ·rw [if_neg e]
   refine hc _ _ _ (hp.bd hn _) (hp.bd hn _) ?_
   show KasT.kasWp cmp (if lt (Pt p k) (Pt p ((l + r) / 2)) = true then kas_place p k f l ((l + r) / 2) else kas_place p k f ((l + r) / 2 + 1) r) Q s
   cases ec : lt (Pt p k) (Pt p ((l + r) / 2)) with
   | true =>
    rw [if_pos rfl]
    refine place_wp hp hs f l ((l + r) / 2) (by omega) (by omega) (by omega) h4 (fun i i1 i2 => ?_) h
    cases ei : lt (Pt p k) (Pt p i) with
    | true => rfl
    | false =>
     have := o.tr _ _ _ (hs ((l + r) / 2) i i1 i2) ei
     rw [ec] at this; cases this
   | false =>
    rw [if_neg Bool.false_ne_true]
    refine place_wp hp hs f ((l + r) / 2 + 1) r (by omega) h2 (by omega) (fun i i1 => ?_) h5 h
    exact o.tr _ _ _ (hs i ((l + r) / 2) (by omega) (by omega)) ec
omit hc hn in
theorem bub_pt {p : Array Nat} {k l : Nat} (hk : k < p.size) (hl : l ≤ k) (i : Nat) : Pt (bubble p k (k - l)) i = if i = l then Pt p k else if l < i ∧ i ≤ k then Pt p (i - 1) else Pt p i := by
 have e := getElem?_bubble hk (k - l) (by omega) i
 have e1 : k - (k - l) = l := by omega
 rw [e1] at e
 repeat' split
 ·rename_i h; rw [if_pos h] at e; exact Pt_of e
 ·rename_i h h2; rw [if_neg h, if_pos h2] at e; exact Pt_of e
 ·rename_i h h2; rw [if_neg h, if_neg h2] at e; exact Pt_of e
theorem bin_wp {Q : Array Nat → Shared → Prop} : ∀ (f : Nat) (p : Array Nat) (k : Nat), Pm n p → k + f ≤ n → Sd lt p k → (∀ q, Pm n q → Sd lt q (k + f) → Q q s) → (kas_bin f p k).kasWp cmp Q s
 | 0, p, k, hp, _, hs, h => h p hp hs
 | f + 1, p, k, hp, hk, hs, h => by
  unfold kas_bin
  rw [KasT.kasWp_bind]
  have hz : k < p.size := by rw [hp.size]; omega
  refine place_wp hc hn o hp hs k 0 k (Nat.zero_le _) (Nat.le_refl _) (by omega) (fun i h => absurd h (by omega)) (fun i h1 h2 => absurd h2 (by omega)) fun l hl h1 h2 => ?_
  refine bin_wp f _ (k + 1) ((bubble_perm _ _ _).trans hp) (by omega) (fun i j hij hj => ?_) fun q q1 q2 => h q q1 (by rw [show k + (f + 1) = k + 1 + f by omega]; exact q2)
  rw [bub_pt o hz hl, bub_pt o hz hl]
  by_cases ei : i = l
  ·rw [if_pos ei]
   by_cases ej : j = l
   ·rw [if_pos ej]; exact o.rf _
   ·rw [if_neg ej, if_pos ⟨by omega, by omega⟩]
    exact o.tot (h2 (j - 1) (by omega) (by omega))
  ·rw [if_neg ei]
   by_cases ej : j = l
   ·rw [if_pos ej, if_neg (by omega)]
    exact h1 i (by omega)
   ·rw [if_neg ej]
    by_cases hi : l < i ∧ i ≤ k
    ·rw [if_pos hi, if_pos ⟨by omega, by omega⟩]
     exact hs _ _ (by omega) (by omega)
    ·rw [if_neg hi]
     by_cases hj2 : l < j ∧ j ≤ k
     ·rw [if_pos hj2]
      exact hs _ _ (by omega) (by omega)
     ·rw [if_neg hj2]
      exact hs _ _ (by omega) (by omega)
theorem sort_wp {Q : Array Nat → Shared → Prop} (h : ∀ q, Pm n q → Sd lt q n → Q q s) : (kas_sort n).kasWp cmp Q s := by
 unfold kas_sort
 rw [KasT.kasWp_bind]
 refine count_wp hc hn o (Array.Perm.refl _) hn (Nat.le_refl n) fun m q h1 h2 h3 h4 => ?_
 show KasT.kasWp cmp (if m < n then kas_bin (n - max m 1) q (max m 1) else .ret q) Q s
 have em : max m 1 = m := by omega
 by_cases e : m < n
 ·rw [if_pos e, em]
  refine bin_wp hc hn o _ _ _ h3 (by omega) h4 fun q' k1 k2 => h q' k1 (by rw [show m + (n - m) = n by omega] at k2; exact k2)
 ·rw [if_neg e]
  have : m = n := by omega
  subst this
  exact h q h3 h4
end
end SRT

namespace SRT
open PySem PySem.W PyProof.Rows L2
def TupI (h : Heap) (v : Value) (ns : List Int) : Prop := ∃ t o xs c, v = .ref t ∧ h.get? t = some o ∧ o.cls = .type "tuple" ∧ o.data = .seq xs c ∧ IntsAre xs.toList ns
theorem TupI.at {h h' : Heap} {v : Value} {ns : List Int} (x : TupI h v ns) (k : ∀ t o, v = .ref t → h.get? t = some o → h'.get? t = some o) : TupI h' v ns :=
 let ⟨t, o, xs, c, e, ho, r⟩ := x; ⟨t, o, xs, c, e, k t o e ho, r⟩
theorem ints_len : ∀ {vs : List Value} {ns : List Int}, IntsAre vs ns → vs.length = ns.length
 | _, _, .nil => rfl
 | _, _, .cons _ _ r => by rw [List.length_cons, List.length_cons, ints_len r]
theorem lex_as : ∀ a b : List Int, HT.lexLt a b = true → HT.lexLt b a = false
 | [], [], h => by cases h
 | [], _ :: _, _ => rfl
 | _ :: _, [], h => by cases h
 | x :: a, y :: b, h => by
  rw [HT.lexLt_cons] at h ⊢
  by_cases e : x = y
  ·rw [if_pos e] at h; rw [if_pos e.symm]; exact lex_as a b h
  ·rw [if_neg e] at h; rw [if_neg (Ne.symm e)]
   have := of_decide_eq_true h
   exact decide_eq_false (by omega)
theorem lex_tr : ∀ a b c : List Int, HT.lexLt b a = false → HT.lexLt c b = false → HT.lexLt c a = false
 | [], _, [], _, _ => rfl
 | [], b, _ :: _, _, _ => rfl
 | _ :: _, [], _, h, _ => by cases h
 | x :: a, y :: b, [], _, h => by cases h
 | x :: a, y :: b, z :: c, h1, h2 => by
  rw [HT.lexLt_cons] at h1 h2 ⊢
  by_cases e1 : y = x
  ·subst e1
   rw [if_pos rfl] at h1
   by_cases e2 : z = y
   ·subst e2
    rw [if_pos rfl] at h2 ⊢
    exact lex_tr a b c h1 h2
   ·rw [if_neg e2] at h2 ⊢
    exact h2
  ·rw [if_neg e1] at h1
   have q1 := of_decide_eq_false h1
   by_cases e2 : z = y
   ·subst e2
    rw [if_neg e1]
    exact h1
   ·rw [if_neg e2] at h2
    have q2 := of_decide_eq_false h2
    have e3 : z ≠ x := by omega
    rw [if_neg e3]
    exact decide_eq_false (by omega)
theorem lex_eq : ∀ a b : List Int, HT.lexLt a b = false → HT.lexLt b a = false → a = b
 | [], [], _, _ => rfl
 | [], _ :: _, h, _ => by cases h
 | _ :: _, [], _, h => by cases h
 | x :: a, y :: b, h1, h2 => by
  rw [HT.lexLt_cons] at h1 h2
  by_cases e : x = y
  ·subst e
   rw [if_pos rfl] at h1 h2
   rw [lex_eq a b h1 h2]
  ·rw [if_neg e] at h1; rw [if_neg (Ne.symm e)] at h2
   have q1 := of_decide_eq_false h1
   have q2 := of_decide_eq_false h2
   omega
theorem lex_ord (ks : List (List Int)) : Ord fun i j => HT.lexLt (ks.getD i []) (ks.getD j []) := ⟨fun _ _ => lex_as _ _, fun _ _ _ => lex_tr _ _ _⟩
section
variable {prog : Program} {w : World} {A : Around} {E : Value → Shared → Prop} {s : Shared}
theorem katlex {b fin : Bool} {Q : Bool → Shared → Prop} : ∀ {us ws : List Value} {ns ms : List Int} (i : Nat), IntsAre us ns → IntsAre ws ms → (fin = decide (ns.length < ms.length)) → Q (HT.lexLt ns ms) s → KatLex prog w A b fin Q (us.zip ws) i s
 | _, _, [], [], i, .nil, .nil, hf, q => by
  rw [hf]; exact q
 | _, _, [], m :: ms, i, .nil, .cons _ _ _, hf, q => by
  rw [hf]
  show Q (decide (0 < ms.length + 1)) s
  rw [decide_eq_true (Nat.succ_pos _)]
  exact q
 | _, _, n :: ns, [], i, .cons _ _ _, .nil, hf, q => by
  rw [hf]
  show Q (decide (ns.length + 1 < 0)) s
  rw [decide_eq_false (Nat.not_lt_zero _)]
  exact q
 | _, _, n :: ns, m :: ms, i, .cons _ t hi, .cons _ u hj, hf, q => by
  rw [HT.lexLt_cons] at q
  refine kat_cons (wpAny_eqBool_int ?_)
  by_cases e : n = m
  ·rw [if_pos e] at q
   rw [show (n == m) = true by simp [e]]
   exact kat_yes (katlex (i + 1) hi hj (by rw [hf]; simp) q)
  ·rw [if_neg e] at q
   rw [show (n == m) = false by simp [e]]
   refine kat_no ?_
   cases eb : (b && i == 0) with
   | true => exact oneLt_int q
   | false => exact kat_one _ _ (lt_int q)
theorem keyLt_at {x y : Value} {ns ms : List Int} {Q : Bool → Shared → Prop} (b : Bool) (hx : TupI s.heap x ns) (hy : TupI s.heap y ms) (q : Q (HT.lexLt ns ms) s) : wpAny (model prog w) A (keyLt' (tuples' b) x y) Q E s := by
 obtain ⟨t, o, xs, c, rfl, ho, hc, hd, hi⟩ := hx
 obtain ⟨t2, o2, xs2, c2, rfl, ho2, hc2, hd2, hi2⟩ := hy
 refine kat_lt ho hd ho2 hd2 (katlex 0 hi hi2 ?_ q)
 have e1 := ints_len hi
 have e2 := ints_len hi2
 rw [Array.length_toList] at e1 e2
 rw [e1, e2]
def TupsI (h : Heap) (vs : List Value) (ks : List (List Int)) : Prop := vs.length = ks.length ∧ ∀ (i : Nat) (v : Value) (k : List Int), vs[i]? = some v → ks[i]? = some k → TupI h v k ∧ k ≠ []
theorem TupsI.cons {h : Heap} {v : Value} {vs : List Value} {ks : List (List Int)} (x : TupsI h (v :: vs) ks) : ∃ k r, ks = k :: r ∧ TupI h v k ∧ k ≠ [] ∧ TupsI h vs r := by
 obtain ⟨hl, ha⟩ := x
 cases ks with
 | nil => simp at hl
 | cons k r =>
  obtain ⟨h1, h2⟩ := ha 0 v k rfl rfl
  exact ⟨k, r, rfl, h1, h2, by simpa using hl, fun i v k e1 e2 => ha (i + 1) v k (by simpa using e1) (by simpa using e2)⟩
theorem kats {h : Heap} : ∀ {vs : List Value} {ks : List (List Int)}, TupsI h vs ks → ∃ fs, KatTups h vs fs ∧ fs.length = vs.length ∧ ∀ f ∈ fs, ∃ i t, f = Value.int i t
 | [], _, _ => ⟨[], KatTups.nil, rfl, fun _ z => nomatch z⟩
 | v :: vs, ks, x => by
  obtain ⟨k, r, rfl, ⟨t, o, xs, c, rfl, ho, hc, hd, hi⟩, hk, hr⟩ := x.cons
  obtain ⟨fs, h1, h2, h3⟩ := kats hr
  cases k with
  | nil => exact absurd rfl hk
  | cons n k =>
   cases hx : xs.toList with
   | nil => rw [hx] at hi; cases hi
   | cons y ys =>
    rw [hx] at hi
    cases hi with
    | cons _ tt _ =>
     refine ⟨.int n tt :: fs, KatTups.cons ho hc hd ?_ h1, by simp [h2], fun f hf => ?_⟩
     ·have : xs.toList[0]? = some (Value.int n tt) := by rw [hx]; rfl
      simpa using this
     ·rcases List.mem_cons.mp hf with rfl | hf
      ·exact ⟨n, tt, rfl⟩
      ·exact h3 f hf
theorem range_getD (vs : List Value) : ((List.range vs.length).map fun i => vs.getD i Value.none) = vs := by
 refine List.ext_getElem? fun i => ?_
 rw [List.getElem?_map]
 by_cases hi : i < vs.length
 ·rw [List.getElem?_range hi]
  simp [hi]
 ·rw [List.getElem?_eq_none (by rw [List.length_range]; omega), List.getElem?_eq_none (by omega)]
  rfl
theorem list_sort_tup {a : Addr} {vs : List Value} {n : Nat} {ks : List (List Int)} {P : PySem.Fin → Shared → Prop} (ho : s.heap.get? a = some (seqObj "list" vs.toArray n)) (ht : TupsI s.heap vs ks) (hna : ∀ v ∈ vs, v ≠ .ref a) (h64 : vs.length < 64)
  (h : ∀ q : Array Nat, Pm vs.length q → Sd (fun i j => HT.lexLt (ks.getD i []) (ks.getD j [])) q vs.length → P (.done (.ret .none)) { s with heap := sortedHeap s.heap a vs (q.toList.map fun i => vs.getD i Value.none).toArray }) :
  wpAny (model prog w) A (Builtin.«list.sort» ⟨[.ref a], []⟩) P E s := by
 rw [list_sort_plain]
 have ha : a < s.heap.objs.size := Heap.lt_size ho
 refine wpAny_bind (listItems_at ho rfl ?_)
 refine wpAny_bind (listUpdate_at ho rfl ?_ (by rw [List.size_toArray, sizeLine_eq]; omega) (Nat.zero_le _))
 obtain ⟨e1, ho1⟩ : ∃ e1, (s.heap.update a (Obj.mapSeq fun _ => (#[] : Array Value))).get? a = some (seqObj "list" #[] e1) := ⟨_, get?_update_seq ho (fun _ => #[])⟩
 refine wpAny_bind (seqEpoch_at ho1 rfl ?_)
 refine wpAny_bind (wpAny_newTuple ?_ (by show vs.length ≤ _; rw [sizeLine_eq]; omega))
 refine wpAny_bind (wpAny_newList ?_ (Nat.zero_le _))
 refine wpAny_holding ?_
 have keep : ∀ b o, b ≠ a → s.heap.get? b = some o → (((s.heap.update a (Obj.mapSeq fun _ => (#[] : Array Value))).push (seqObj "tuple" vs.toArray 0)).push (seqObj "list" #[] 0)).get? b = some o := fun b o hb e => by
  refine Heap.get?_push_of_some _ (Heap.get?_push_of_some _ ?_)
  rw [Heap.get?_update_ne _ _ _ _ hb]
  exact e
 have ho6 : (((s.heap.update a (Obj.mapSeq fun _ => (#[] : Array Value))).push (seqObj "tuple" vs.toArray 0)).push (seqObj "list" #[] 0)).get? a = some (seqObj "list" #[] e1) := Heap.get?_push_of_some _ (Heap.get?_push_of_some _ ho1)
 show wpAny (model prog w) A _ P E { s with heap := ((s.heap.update a (Obj.mapSeq fun _ => (#[] : Array Value))).push (seqObj "tuple" vs.toArray 0)).push (seqObj "list" #[] 0) }
 dsimp only
 by_cases h2 : vs.toArray.size < 2
 ·rw [if_pos h2, if_pos h2]
  refine wpAny_bind (wpAny_pure ?_)
  rw [StateT.run_pure]
  refine wpAny_bind (wpAny_pure ?_)
  dsimp only
  have e0 : (arrOf (SortSt.mk' general' (vs.toArray.zip vs.toArray) #[] 7 none)).map (·.2) = ((List.range vs.length).toArray.toList.map fun i => vs.getD i Value.none).toArray := by
   show (vs.toArray.zip vs.toArray).map (·.2) = _
   rw [List.toList_toArray, range_getD]
   apply Array.toList_inj.mp
   simp [List.map_snd_zip]
  rw [e0]
  refine wpAny_bind (seqEpoch_at ho6 rfl ?_)
  refine wpAny_bind (listUpdate_at ho6 rfl ?_ (Nat.zero_le _) (by rw [List.toList_toArray, range_getD, List.size_toArray, sizeLine_eq]; omega))
  simp only [bne_self_eq_false, Bool.false_eq_true, if_false]
  refine wpAny_pure (h (List.range vs.length).toArray (Array.Perm.refl _) fun i j hij hj => ?_)
  have : i = j := by rw [List.size_toArray] at h2; omega
  subst this
  exact (lex_ord ks).rf _
 ·rw [if_neg h2, if_neg h2]
  have h2' : 2 ≤ vs.length := by rw [List.size_toArray] at h2; omega
  have ht6 : TupsI (((s.heap.update a (Obj.mapSeq fun _ => (#[] : Array Value))).push (seqObj "tuple" vs.toArray 0)).push (seqObj "list" #[] 0)) vs ks := ⟨ht.1, fun i v k q1 q2 => by
   obtain ⟨z1, z2⟩ := ht.2 i v k q1 q2
   exact ⟨z1.at fun t o ev et => keep t o (fun z => hna v (List.mem_of_getElem? q1) (by rw [ev, z])) et, z2⟩⟩
  obtain ⟨fs, f1, f2, f3⟩ := kats ht6
  refine wpAny_bind (kat_kind (T := .type "int") f1 (by rw [f2]; omega) (fun v hv => ?_) rfl ?_)
  ·obtain ⟨i, t, rfl⟩ := f3 v hv
   exact .now
  refine wpAny_bind (wpAny_mono (kat_run (κ := tuples' (Value.type "int" != Value.type "tuple")) (ks := vs) (Q := fun st' s' => ∃ p : Array Nat, s' = { s with heap := ((s.heap.update a (Obj.mapSeq fun _ => (#[] : Array Value))).push (seqObj "tuple" vs.toArray 0)).push (seqObj "list" #[] 0) } ∧ p.size = vs.length ∧ arrOf st' = p.map (kas_item (vs.toArray.zip vs.toArray)) ∧ failedOf st' = none ∧ Pm vs.length p ∧ Sd (fun i j => HT.lexLt (ks.getD i []) (ks.getD j [])) p vs.length)
   (G := fun p s' => s' = { s with heap := ((s.heap.update a (Obj.mapSeq fun _ => (#[] : Array Value))).push (seqObj "tuple" vs.toArray 0)).push (seqObj "list" #[] 0) } ∧ Pm vs.length p ∧ Sd (fun i j => HT.lexLt (ks.getD i []) (ks.getD j [])) p vs.length)
   rfl h2' h64 (fun p st' s' a1 a2 a3 a4 => ⟨p, a4.1, a1, a2, a3, a4.2⟩) (sort_wp (n := vs.length) (lt := fun i j => HT.lexLt (ks.getD i []) (ks.getD j [])) (fun i j C hi hj hC => ?_) (by omega) (lex_ord ks) fun q q1 q2 => ⟨rfl, q1, q2⟩)) ?_ fun _ _ e => e)
  ·unfold kas_ask
   have hi' : vs[i]? = some vs[i] := List.getElem?_eq_getElem hi
   have hj' : vs[j]? = some vs[j] := List.getElem?_eq_getElem hj
   have ki : i < ks.length := by rw [← ht.1]; exact hi
   have kj : j < ks.length := by rw [← ht.1]; exact hj
   have di : vs.getD i Value.none = vs[i] := by simp [hi]
   have dj : vs.getD j Value.none = vs[j] := by simp [hj]
   have ei : ks.getD i [] = ks[i] := by simp [ki]
   have ej : ks.getD j [] = ks[j] := by simp [kj]
   rw [di, dj]
   rw [ei, ej] at hC
   exact keyLt_at _ (ht6.2 i _ _ hi' (List.getElem?_eq_getElem ki)).1 (ht6.2 j _ _ hj' (List.getElem?_eq_getElem kj)).1 hC
  ·rintro ⟨⟨⟩, st'⟩ s' ⟨p, rfl, hp, har, hf, hpm, hsd⟩
   dsimp only
   have hout := kat_snds (ks := vs) (vs := vs) rfl har
   have hsz : (List.toArray (p.toList.map fun i => vs.getD i Value.none)).size = vs.length := by rw [List.size_toArray, List.length_map, Array.length_toList, hp]
   rw [hout]
   refine wpAny_bind (seqEpoch_at ho6 rfl ?_)
   refine wpAny_bind (listUpdate_at ho6 rfl ?_ (Nat.zero_le _) (Nat.le_trans (Nat.le_of_eq hsz) (by rw [sizeLine_eq]; omega)))
   rw [hf]
   simp only [bne_self_eq_false, Bool.false_eq_true, if_false]
   exact wpAny_pure (h p hpm hsd)
theorem sorted_keep {h : Heap} {a : Addr} {vs : List Value} {out : Array Value} {b : Addr} {o : Obj} (hb : b ≠ a) (e : h.get? b = some o) : (sortedHeap h a vs out).get? b = some o := by
 unfold sortedHeap
 rw [Heap.get?_update_ne _ _ _ _ hb]
 refine Heap.get?_push_of_some _ (Heap.get?_push_of_some _ ?_)
 rw [Heap.get?_update_ne _ _ _ _ hb]
 exact e
theorem sorted_here {h : Heap} {a : Addr} {vs : List Value} {n : Nat} {out : Array Value} (e : h.get? a = some (seqObj "list" vs.toArray n)) : ∃ c, (sortedHeap h a vs out).get? a = some (seqObj "list" out c) := by
 obtain ⟨e1, ho1⟩ : ∃ e1, (h.update a (Obj.mapSeq fun _ => (#[] : Array Value))).get? a = some (seqObj "list" #[] e1) := ⟨_, get?_update_seq e (fun _ => #[])⟩
 exact ⟨_, get?_update_seq (Heap.get?_push_of_some _ (Heap.get?_push_of_some _ ho1)) fun _ => out⟩
theorem sorted_tup {r : Addr} {Q : Value → Shared → Prop} {Ok : List Value → Prop} (hcol : ∀ R : List Value → Shared → Prop, (∀ h' tk vs, (∀ b o, s.heap.get? b = some o → h'.get? b = some o) → Ok vs → R vs { s with heap := h', toks := tk }) → wpAny (model prog w) A.in1 (collect (.ref r)) R E s)
  (ks : List (List Int)) (hok : ∀ vs, Ok vs → TupsI s.heap vs ks ∧ vs.length < 64)
  (h : ∀ (h' hf : Heap) (tk c : Nat) (vs : List Value) (q : Array Nat), (∀ b o, s.heap.get? b = some o → h'.get? b = some o) → (∀ b o, h'.get? b = some o → hf.get? b = some o) → Ok vs → Pm vs.length q → Sd (fun i j => HT.lexLt (ks.getD i []) (ks.getD j [])) q vs.length →
   hf.get? h'.objs.size = some (seqObj "list" (q.toList.map fun i => vs.getD i Value.none).toArray c) → Q (.ref h'.objs.size) { s with heap := hf, toks := tk }) :
  wpAny (model prog w) A (call (.builtin "sorted") [.ref r]) Q E s := by
 refine Calls.call_function_entry kind_sorted plain_sorted entry_sorted (args_sorted1 _) ?_
 unfold Builtin.«sorted»
 refine wpAny_bind (m := checkCount "sorted" 1 1 _) (wpAny_pure ?_)
 refine wpAny_bind (hcol _ fun h' tk vs keep ov => ?_)
 obtain ⟨ht, h64⟩ := hok vs ov
 refine wpAny_bind (wpAny_newList ?_ (by rw [sizeLine_eq]; omega))
 have hoL : (h'.push (seqObj "list" vs.toArray 0)).get? h'.objs.size = some (seqObj "list" vs.toArray 0) := Heap.get?_push_size _ rfl
 have keep2 : ∀ b o, s.heap.get? b = some o → (h'.push (seqObj "list" vs.toArray 0)).get? b = some o := fun b o e => Heap.get?_push_of_some _ (keep b o e)
 have lt : ∀ b o, s.heap.get? b = some o → b ≠ h'.objs.size := fun b o e => Nat.ne_of_lt (Heap.lt_size (keep b o e))
 have tat : ∀ v ∈ vs, ∃ t o, v = .ref t ∧ s.heap.get? t = some o := fun v hv => by
  obtain ⟨i, hi, e⟩ := List.mem_iff_getElem.mp hv
  have ki : i < ks.length := by rw [← ht.1]; exact hi
  obtain ⟨⟨t, o, _, _, e1, e2, _⟩, _⟩ := ht.2 i v ks[i] (by rw [List.getElem?_eq_getElem hi, e]) (List.getElem?_eq_getElem ki)
  exact ⟨t, o, e1, e2⟩
 have ht2 : TupsI (h'.push (seqObj "list" vs.toArray 0)) vs ks := ⟨ht.1, fun i v k q1 q2 => let ⟨z1, z2⟩ := ht.2 i v k q1 q2; ⟨z1.at fun t o _ et => keep2 t o et, z2⟩⟩
 refine wpAny_bind (wpAny_holding (wpAny_call_entry slot_list_sort ⟨_, hoL, rfl⟩ entry_list_sort (list_sort_tup (s := { s with heap := h'.push (seqObj "list" vs.toArray 0), toks := tk }) hoL ht2 (fun v hv z => ?_) h64 fun q a1 a2 => ⟨_, rfl, ?_⟩) (args_list_sort _)))
 ·obtain ⟨t, o, e1, e2⟩ := tat v hv
  rw [e1] at z
  injection z with z
  exact lt t o e2 z
 ·obtain ⟨c, hc⟩ := sorted_here (out := (q.toList.map fun i => vs.getD i Value.none).toArray) hoL
  exact wpAny_pure ⟨_, rfl, h h' _ tk c vs q keep (fun b o e => sorted_keep (Nat.ne_of_lt (Heap.lt_size e)) (Heap.get?_push_of_some _ e)) ov a1 a2 hc⟩
def RefI (H : Hp) (ts : List V) (ks : List (List Int)) : Prop := ts.length = ks.length ∧ ∀ (i : Nat) (t : V) (k : List Int), ts[i]? = some t → ks[i]? = some k → (∃ b, t = .ref b ∧ H b = some (.tup (k.map V.int))) ∧ k ≠ []
end
theorem refI_tups {P : Program} {w : World} {H : Hp} {h : Heap} {ts : List V} {ks : List (List Int)} {vs : List Value} (ok : HOk P w H h) (r : RefI H ts ks) (v : Vals ts vs) : TupsI h vs ks := by
 have hl := v.length
 refine ⟨by rw [← hl]; exact r.1, fun i u k e1 e2 => ?_⟩
 have hi : i < ts.length := by
  have := (List.getElem?_eq_some_iff.mp e1).1
  omega
 obtain ⟨⟨b, eb, hb⟩, hk⟩ := r.2 i ts[i] k (List.getElem?_eq_getElem hi) e2
 obtain ⟨u', e3, ru⟩ := v.get (i := i) (x := ts[i]) (List.getElem?_eq_getElem hi)
 rw [e1] at e3
 cases e3
 rw [eb] at ru
 cases (show u = Value.ref b from ru)
 obtain ⟨_, its, rv, o, ho, hc, n, hd⟩ := (show ObjOk P w H h b (.tup (k.map V.int)) from ok b _ hb)
 exact ⟨⟨b, o, _, n, rfl, ho, hc, hd, by rw [List.toList_toArray]; exact intsAre_of rv⟩, hk⟩
def lexOf (ks : List (List Int)) : Nat → Nat → Bool := fun i j => HT.lexLt (ks.getD i []) (ks.getD j [])
theorem vals_pick {ts : List V} {vs : List Value} (v : Vals ts vs) : ∀ (l : List Nat), (∀ i ∈ l, i < ts.length) → Vals (l.map fun i => ts.getD i .non) (l.map fun i => vs.getD i Value.none)
 | [], _ => .nil
 | i :: l, h => by
  have hi := h i (.head _)
  obtain ⟨u, e, r⟩ := v.get (i := i) (x := ts[i]) (List.getElem?_eq_getElem hi)
  have e1 : ts.getD i .non = ts[i] := by simp [hi]
  have e2 : vs.getD i Value.none = u := by simp [e]
  refine .cons ?_ (vals_pick v l fun j hj => h j (.tail _ hj))
  show RelV (ts.getD i .non) (vs.getD i Value.none)
  rw [e1, e2]; exact r
section
variable {X : Cx}
theorem sort_inv {pins : List (Addr × Obj)} {σ : L2.St} {H : Hp} {s : Shared} {Q : VK} {ts : List V} {vs : List Value} {h' hf : Heap} {tk c : Nat} {q : Array Nat} (I : Inv X pins σ H s) (v : Vals ts vs) (h64 : vs.length < 64) (k1 : ∀ b o, s.heap.get? b = some o → h'.get? b = some o) (k2 : ∀ b o, h'.get? b = some o → hf.get? b = some o) (hp : Pm vs.length q)
  (hc : hf.get? h'.objs.size = some (seqObj "list" (q.toList.map fun i => vs.getD i Value.none).toArray c)) (hq : ∀ D, H D = none → Q (.ref D) (upd H D (.lst (q.toList.map fun i => ts.getD i .non)))) : EP X pins σ Q (.ref h'.objs.size) { s with heap := hf, toks := tk } := by
 have I1 : Inv X pins σ H { s with heap := h', toks := tk } := I.kept (t' := tk) k1
 have hb : ∀ i ∈ q.toList, i < ts.length := fun i hi => by
  have : i ∈ (List.range vs.length).toArray := hp.mem_iff.mp (Array.mem_toList_iff.mp hi)
  rw [v.length]
  simpa using this
 have hl : q.toList.length = vs.length := by rw [Array.length_toList]; exact hp.size
 refine ⟨.ref h'.objs.size, _, I1.laid (a := h'.objs.size) (o := .lst (q.toList.map fun i => ts.getD i .non)) (t' := tk) k2 (Nat.le_refl _) ⟨?_, _, c, vals_pick v _ hb, hc⟩, rfl, hq _ (I1.hok.fresh (Nat.le_refl _))⟩
 rw [List.length_map, hl, sizeLine_eq]
 omega
def rSortL : List V → Hp → VK → Prop := fun xs H Q => ∃ a ts ks, xs = [.ref a] ∧ Rd H a (.lst ts) ∧ RefI H ts ks ∧ ts.length < 64 ∧ ∀ D q, H D = none → Pm ts.length q → Sd (lexOf ks) q ts.length → Q (.ref D) (upd H D (.lst (q.toList.map fun i => ts.getD i .non)))
theorem call_sortL (hcm : X.calm = true) : CallR X (.builtin "sorted") rSortL := by
 intro pins s σ H xs us Q I r h
 obtain ⟨a, ts, ks, rfl, ha, hr, h64, q⟩ := h
 obtain ⟨u, rfl, ru⟩ := vals1 r
 cases (show u = Value.ref a from ru)
 obtain ⟨_, its, n, rv, ho⟩ := ha.ok I.hok
 have hlen := rv.length
 have tup := refI_tups I.hok hr rv
 refine sorted_tup (Ok := fun vs => vs = its) (fun R hR => ?_) ks (fun vs e => ⟨e ▸ tup, by rw [e]; omega⟩) fun h' hf tk c vs q' k1 k2 e p1 p2 hc => ?_
 ·refine collect_list (⟨_, ho, rfl, n, rfl⟩ : s.heap.IsList a its.toArray) (hR _ _ _ (fun b o e => ?_) rfl) (by rw [sizeLine_eq]; omega)
  rw [Heap.get?_update_ne _ _ _ _ (Nat.ne_of_lt (Heap.lt_size e))]
  exact Heap.get?_push_of_some _ e
 ·subst e
  exact sort_inv I rv (by omega) k1 k2 p1 hc fun D hD => q D q' hD (hlen ▸ p1) (hlen ▸ p2)
end
end SRT

namespace M
open PySem PySem.Spec PyProof.Rows L2 SRT
def tupD (k : List Int) : D := .tuple (k.map .int)
def intsK : List D → Option (List Int)
 | [] => some []
 | .int i :: ds => match intsK ds with
  | some r => some (i :: r)
  | none => none
 | _ => none
def intsD : D → Option (List Int)
 | .tuple ds => intsK ds
 | _ => none
def keysD : List D → Option (List (List Int))
 | [] => some []
 | d :: ds => match intsD d with
  | none => none
  | some k => match keysD ds with
   | none => none
   | some ks => some (k :: ks)
theorem intsK_eq : ∀ {ds : List D} {k : List Int}, intsK ds = some k → ds = k.map .int
 | [], _, h => by cases h; rfl
 | d :: ds, k, h => by
  cases d with
  | int i =>
   unfold intsK at h
   cases e : intsK ds with
   | none => rw [e] at h; cases h
   | some r => rw [e] at h; cases h; rw [intsK_eq e]; rfl
  | _ => cases h
theorem intsK_map : ∀ k : List Int, intsK (k.map .int) = some k
 | [] => rfl
 | i :: k => by
  show (match intsK (k.map .int) with | some r => some (i :: r) | none => none) = _
  rw [intsK_map k]
theorem intsD_tup (k : List Int) : intsD (tupD k) = some k := intsK_map k
theorem intsD_eq {d : D} {k : List Int} (h : intsD d = some k) : d = tupD k := by
 cases d with
 | tuple ds => unfold tupD; rw [← intsK_eq h]
 | _ => cases h
theorem keysD_eq : ∀ {ds : List D} {ks : List (List Int)}, keysD ds = some ks → ds = ks.map tupD
 | [], _, h => by cases h; rfl
 | d :: ds, ks, h => by
  unfold keysD at h
  cases e : intsD d with
  | none => rw [e] at h; cases h
  | some k =>
   rw [e] at h
   cases e2 : keysD ds with
   | none => rw [e2] at h; cases h
   | some ks' => rw [e2] at h; cases h; rw [intsD_eq e, keysD_eq e2]; rfl
theorem keysD_map : ∀ ks : List (List Int), keysD (ks.map tupD) = some ks
 | [] => rfl
 | k :: ks => by
  show (match intsD (tupD k) with | none => none | some k => match keysD (ks.map tupD) with | none => none | some ks => some (k :: ks)) = _
  rw [intsD_tup, keysD_map ks]
def insK (k : List Int) : List (List Int) → List (List Int)
 | [] => [k]
 | x :: r => if HT.lexLt k x = true then k :: x :: r else x :: insK k r
def sortK : List (List Int) → List (List Int)
 | [] => []
 | k :: ks => insK k (sortK ks)
def leK (a b : List Int) : Prop := HT.lexLt b a = false
theorem insK_perm (k : List Int) : ∀ l, (insK k l).Perm (k :: l)
 | [] => .refl _
 | x :: r => by
  unfold insK
  split
  ·exact .refl _
  ·exact ((insK_perm k r).cons x).trans (List.Perm.swap k x r)
theorem sortK_perm : ∀ l, (sortK l).Perm l
 | [] => .refl _
 | k :: ks => (insK_perm k _).trans ((sortK_perm ks).cons k)
theorem insK_mem {k y : List Int} {l : List (List Int)} (h : y ∈ insK k l) : y = k ∨ y ∈ l := by
 have := (insK_perm k l).mem_iff.mp h
 exact List.mem_cons.mp this
theorem insK_sorted (k : List Int) : ∀ l, l.Pairwise leK → (insK k l).Pairwise leK
 | [], _ => List.pairwise_singleton _ _
 | x :: r, h => by
  unfold insK
  obtain ⟨h1, h2⟩ := List.pairwise_cons.mp h
  split
  ·rename_i e
   have e1 := lex_as _ _ e
   exact List.pairwise_cons.mpr ⟨fun y hy => by
    rcases List.mem_cons.mp hy with rfl | hy
    ·exact e1
    ·exact lex_tr _ _ _ e1 (h1 y hy), h⟩
  ·rename_i e
   refine List.pairwise_cons.mpr ⟨fun y hy => ?_, insK_sorted k r h2⟩
   rcases insK_mem hy with rfl | hy
   ·exact Bool.eq_false_iff.mpr e
   ·exact h1 y hy
theorem sortK_sorted : ∀ l, (sortK l).Pairwise leK
 | [] => .nil
 | k :: ks => insK_sorted k _ (sortK_sorted ks)
theorem sorted_uniq : ∀ {a b : List (List Int)}, a.Perm b → a.Pairwise leK → b.Pairwise leK → a = b
 | [], b, p, _, _ => (List.Perm.nil_eq p)
 | x :: a, [], p, _, _ => absurd p.length_eq (by simp)
 | x :: a, y :: b, p, ha, hb => by
  obtain ⟨a1, a2⟩ := List.pairwise_cons.mp ha
  obtain ⟨b1, b2⟩ := List.pairwise_cons.mp hb
  have hx : x ∈ y :: b := p.mem_iff.mp (.head _)
  have hy : y ∈ x :: a := p.mem_iff.mpr (.head _)
  have e : x = y := by
   rcases List.mem_cons.mp hx with e | hx
   ·exact e
   ·rcases List.mem_cons.mp hy with e | hy
    ·exact e.symm
    ·exact lex_eq _ _ (b1 x hx) (a1 y hy)
  subst e
  rw [sorted_uniq (List.Perm.cons_inv p) a2 b2]
theorem picked {ks : List (List Int)} {q : Array Nat} {n : Nat} (hn : n = ks.length) (hp : Pm n q) (hs : Sd (lexOf ks) q n) : (q.toList.map fun i => ks.getD i []) = sortK ks := by
 subst hn
 have e0 : ((List.range ks.length).map fun i => ks.getD i []) = ks := by
  refine List.ext_getElem? fun i => ?_
  rw [List.getElem?_map]
  by_cases hi : i < ks.length
  ·rw [List.getElem?_range hi]; simp [hi]
  ·rw [List.getElem?_eq_none (by rw [List.length_range]; omega), List.getElem?_eq_none (by omega)]; rfl
 have p1 : q.toList.Perm (List.range ks.length) := by
  have := hp.toList
  simpa using this
 have p2 : (q.toList.map fun i => ks.getD i []).Perm ks := by
  have := p1.map (fun i => ks.getD i [])
  rwa [e0] at this
 refine sorted_uniq (p2.trans (sortK_perm ks).symm) ?_ (sortK_sorted ks)
 rw [List.pairwise_iff_getElem]
 intro i j hi hj hij
 rw [List.length_map] at hi hj
 rw [List.getElem_map, List.getElem_map]
 have sz : q.toList.length = ks.length := by rw [Array.length_toList]; exact hp.size
 have := hs i j (Nat.le_of_lt hij) (by omega)
 unfold SRT.le lexOf Pt at this
 have e1 : q.getD i 0 = q.toList[i] := by
  have : i < q.size := by rw [← Array.length_toList]; exact hi
  simp [Array.getD, this]
 have e2 : q.getD j 0 = q.toList[j] := by
  have : j < q.size := by rw [← Array.length_toList]; exact hj
  simp [Array.getD, this]
 rw [e1, e2] at this
 exact this
section
variable {X : Cx} {K : PySem.W.Frag}
theorem rep_tupD {G : Hp} {v : V} {k : List Int} (h : Rep K G v (tupD k)) : ∃ b, v = .ref b ∧ G b = some (.tup (k.map V.int)) := by
 cases h with
 | @tup b xs _ h1 h2 =>
  refine ⟨b, rfl, ?_⟩
  have : xs = k.map V.int := by
   clear h1
   induction k generalizing xs with
   | nil => cases h2; rfl
   | cons i k ih =>
    cases h2 with
    | cons r t => cases r; rw [ih t]; rfl
  rw [← this]; exact h1
theorem reps_refI {G H : Hp} (gh : Same G H) : ∀ {ts : List V} {ks : List (List Int)}, Reps K G ts (ks.map tupD) → (∀ k ∈ ks, k ≠ []) → RefI H ts ks := by
 intro ts ks r hne
 refine ⟨by rw [r.length, List.length_map], fun i t k e1 e2 => ?_⟩
 obtain ⟨d, e3, rd⟩ := r.get e1
 rw [List.getElem?_map, e2] at e3
 cases e3
 obtain ⟨b, rfl, hb⟩ := rep_tupD rd
 exact ⟨⟨b, rfl, gh _ _ hb⟩, hne k (List.mem_of_getElem? e2)⟩
theorem pick_reps {G : Hp} {ts : List V} {ks : List (List Int)} (h : ∀ (i : Nat), i < ks.length → Rep K G (ts.getD i .non) (tupD (ks.getD i []))) : ∀ l : List Nat, (∀ i ∈ l, i < ks.length) → Reps K G (l.map fun i => ts.getD i .non) ((l.map fun i => ks.getD i []).map tupD)
 | [], _ => .nil
 | i :: l, hl => .cons (h i (hl i (.head _))) (pick_reps h l fun j hj => hl j (.tail _ hj))
theorem pm_lt {n : Nat} {q : Array Nat} (hp : Pm n q) : ∀ i ∈ q.toList, i < n := fun i hi => by
 have : i ∈ (List.range n).toArray := hp.mem_iff.mp (Array.mem_toList_iff.mp hi)
 simpa using this
def sortedE (rs : List Ev) : Res Ev := match rs with
 | [x] => match lstOf x with
  | some ds => match keysD ds with
   | some ks => if (ks.all fun k => !k.isEmpty) = true ∧ ks.length < 64 then .ok (.f (.list ((sortK ks).map tupD))) else .bad
   | none => .bad
  | none => .bad
 | _ => .bad
theorem noX_sorted : NoXs sortedE := by
 intro rs C h
 unfold sortedE at h
 split at h
 ·split at h
  ·split at h
   ·split at h <;> cases h
   ·cases h
  ·cases h
 ·cases h
theorem ne_of_all {ks : List (List Int)} (h : (ks.all fun k => !k.isEmpty) = true) : ∀ k ∈ ks, k ≠ [] := fun k hk z => by
 have := List.all_eq_true.mp h k hk
 rw [z] at this
 cases this
theorem cm_sorted : CallM K rSortL sortedE := by
 intro W Hs G H vs rs Q gh he hw
 unfold sortedE at hw
 split at hw
 ·rename_i x
  match vs, he with
  | [v], ⟨h1, _⟩ =>
   split at hw
   ·rename_i ds ed
    obtain ⟨a, xs, rfl, k1, k2⟩ := lst_at gh h1 ed
    split at hw
    ·rename_i ks ek
     split at hw
     ·rename_i hz
      have := keysD_eq ek
      subst this
      have hne := ne_of_all hz.1
      have rI := reps_refI gh k2 hne
      have hl : xs.length = ks.length := rI.1
      refine ⟨a, xs, ks, rfl, k1, rI, by omega, fun D q hD hp hs => ?_⟩
      have ep := picked hl hp hs
      refine hw _ _ _ (Step.lay gh hD) ⟨D, _, rfl, ?_, gh.free hD, upd_same, .lst ?_⟩
      ·exact hD
      ·rw [← ep]
       refine pick_reps (fun i hi => ?_) _ fun i hi => by rw [← hl]; exact pm_lt hp i hi
       have hi' : i < xs.length := by omega
       obtain ⟨d, e3, rd⟩ := k2.get (List.getElem?_eq_getElem hi')
       rw [List.getElem?_map, List.getElem?_eq_getElem hi] at e3
       cases e3
       have e1 : xs.getD i .non = xs[i] := by simp [hi']
       have e2 : ks.getD i [] = ks[i] := by simp [hi]
       rw [e1, e2]; exact rd
     ·exact hw.elim
    ·exact hw.elim
   ·exact hw.elim
 ·exact hw.elim
def wt (G H : Hp) : Hp := fun b => match G b with
 | some o => some o
 | none => match H b with
  | some (.tup xs) => some (.tup xs)
  | _ => none
end
end M

namespace L2
open PySem PySem.Spec PyProof.Rows
def Ite (K : PySem.W.Frag) (a : Addr) : It :=
 ⟨fun i H => ∃ xs x, SqL K H a xs ∧ xs[i]? = some x, fun i H v H' => ∃ p x, H p = none ∧ v = .ref p ∧ (∀ xs, SqL K H a xs → xs[i]? = some x) ∧ H' = upd H p (.tup [.int i, x]), fun i H => ∃ xs, SqL K H a xs ∧ xs.length ≤ i⟩
theorem turn_enum {P : Program} {w : World} {K : PySem.W.Frag} {elts : List Expr} {x1} {tp : Pos} (a e it : Addr) (hne : e ≠ it) : Turn P w K (.Tuple elts x1 tp) (Ite K a) [e, it] e (fun i h => (∃ old, IsEnum h e it ((i : Nat) : Int) old) ∧ h.IsListIter it a i) where
 mem := by simp
 obj := fun i h st b hb => by
  rcases List.mem_cons.mp hb with rfl | hb
  ·obtain ⟨⟨old, q⟩, _⟩ := st
   exact ⟨_, q, fun v z => nomatch z⟩
  ·have : b = it := by simpa using hb
   subst this
   obtain ⟨_, o, q, c, d⟩ := st
   exact ⟨o, q, fun v z => by rw [d] at z; cases z⟩
 keep := fun i h h' st k => ⟨let ⟨old, q⟩ := st.1; ⟨old, k e (by simp) _ q⟩, st.2.at fun o q => k it (by simp) o q⟩
 item := by
  intro X hP hw hK hc i pins s σ H E I hf st hg
  subst hP hw hK
  obtain ⟨⟨old, he⟩, hit⟩ := st
  obtain ⟨xs, x, hq, hx⟩ := hg
  obtain ⟨its, rv, p, hz⟩ := I.list hq
  obtain ⟨u, hu, ru⟩ := rv.get hx
  obtain ⟨f0, f1, f2, f3, f4, f5⟩ := hf e (by simp)
  obtain ⟨g0, g1, g2, g3, g4, g5⟩ := hf it (by simp)
  refine wpAny_pyNext_enum_item he hit p.isList (x := u) (by simpa using hu) hne fun h₁ heo hit₁ ht₁ hz₁ hk₁ => ?_
  refine ⟨_, rfl, wpAny_letOwnedTupleGo_enum heo fun h₂ he₂ hs₂ => ?_⟩
  have hs₂ : Heap.SameBut e h₁ h₂ := hs₂
  have hn : H s.heap.objs.size = none := I.fresh
  have nn : ∀ b o, H b = some o → b ≠ s.heap.objs.size := fun b o q => ne_of_none q hn
  have eE : e < s.heap.objs.size := Heap.lt_size he
  have keep : ∀ b o, b ∉ [e, it] → s.heap.get? b = some o → h₂.get? b = some o := fun b o hb q => by
   have b1 : b ≠ e := fun z => hb (by simp [z])
   have b2 : b ≠ it := fun z => hb (by simp [z])
   exact (hs₂.2 b b1).trans (hk₁ b o b1 b2 q)
  have trk : ∀ b o, H b = some o → b ∉ [e, it] := fun b o q hb => by
   rcases List.mem_cons.mp hb with z | hb
   ·rw [z, f0] at q; cases q
   ·rw [List.mem_singleton.mp hb, g0] at q; cases q
  refine ⟨.ref s.heap.objs.size, upd H s.heap.objs.size (.tup [.int i, x]), ?_, rfl, ⟨_, x, hn, rfl, fun ys hy => by rw [I.list_inj hy hq]; exact hx, rfl⟩, ⟨⟨u, ?_⟩, ?_⟩, fun b hb => ?_⟩
  ·refine Inv.step (X := X) (pins := pins) (σ := σ) (H := H) (s := s) (H' := upd H s.heap.objs.size (.tup [.int i, x])) (h' := h₂) (g' := s.gens) (d' := s.drawn) (t' := s.toks + 1) (ch := [e, it]) I (fun b hb => ?_) (fun b o _ _ hb q _ => keep b o hb q) (fun b o _ _ hb q _ => ⟨o.slots, keep b o hb q⟩) (fun b o _ q n => ?_) (fun b o hb q => ⟨o, keep b o hb q⟩)
    (fun b ys q => ?_) (fun b o v q => ?_) (fun b ps q => ⟨#[], ?_⟩) (fun m hm => ?_) (fun b v q => ?_) I.bare
   ·rcases List.mem_cons.mp hb with z | hb
    ·subst z; exact ⟨f3, f1, f4, f5⟩
    ·have z := List.mem_singleton.mp hb
     subst z; exact ⟨g3, g1, g4, g5⟩
   ·rw [upd_ne (Nat.ne_of_lt (Heap.lt_size q))]; exact n
   ·rw [upd_ne (nn b _ q)]; exact q
   ·rw [upd_ne (nn b _ q)]; exact q
   ·rw [upd_ne (nn b _ q), q]; simp
   ·obtain ⟨o, es, ep, ho, r⟩ := hm
    exact ⟨o, es, ep, keep _ o (fun z => by
     rcases List.mem_cons.mp z with y | y
     ·exact f1 y.symm
     ·exact g1 (List.mem_singleton.mp y).symm) ho, r⟩
   ·by_cases hb : b = s.heap.objs.size
    ·subst hb
     rw [upd_same] at q
     cases q
     refine ⟨by show 2 ≤ sizeLine; decide, [.int i s.toks, u], .cons ⟨_, rfl⟩ (.cons ru .nil), _, (hs₂.2 _ (Nat.ne_of_gt eE)).trans ht₁, rfl, _, rfl⟩
    ·rw [upd_ne hb] at q
     refine (I.hok b v q).stay (fun c w' hc q' => keep c w' ?_ q') (fun c q' => ?_) fun c ys q' => ?_
     ·rcases hc with z | z
      ·rw [z]; exact trk b v q
      ·exact trk c _ z
     ·rw [upd_ne (nn c _ q')]; exact q'
     ·rw [upd_ne (nn c _ q')]; exact q'
  ·have : (((i + 1 : Nat)) : Int) = (i : Int) + 1 := by push_cast; rfl
   rw [this]; exact he₂
  ·exact hit₁.at fun o q => (hs₂.2 it (Ne.symm hne)).trans q
  ·have hb' := (hf b hb).1
   have : b ≠ s.heap.objs.size := by
    rcases List.mem_cons.mp hb with z | z
    ·rw [z]; exact Nat.ne_of_lt eE
    ·rw [List.mem_singleton.mp z]
     obtain ⟨o, q, _⟩ := id hit
     exact Nat.ne_of_lt (Heap.lt_size q)
   rw [upd_ne this]; exact hb'
 done := by
  intro X hP hw hK hc i pins s σ H E I hf st hg
  subst hP hw hK
  obtain ⟨⟨old, he⟩, hit⟩ := st
  obtain ⟨xs, hq, hx⟩ := hg
  obtain ⟨its, rv, p, hz⟩ := I.list hq
  obtain ⟨g0, g1, g2, g3, g4, g5⟩ := hf it (by simp)
  have hl := rv.length
  exact wpAny_pyNext_enum_end (I.ok.hd hc) he hit p.isList (by simp; omega) fun h' eb => ⟨rfl, I.turned (t' := s.toks) (fun b o hb q => eb b o hb q) g0 g1 g3 g4 g5⟩
 self := fun _ _ _ _ _ st h => let ⟨_, q⟩ := st.1; wpAny_pyIter_enum q h
section
variable {X : Cx}
def iEnum (K : PySem.W.Frag) (ta : TA) : TI := fun σ H R => ta σ H fun vs H1 => ∃ a xs, vs = [.ref a] ∧ Rd H1 a (.lst xs) ∧ R (Ite K a) H1
theorem boot_enum : bootBuiltins "enumerate" = some (.type "enumerate") := by decide +kernel
theorem pi_enum {a : Expr} {ta : TA} {p pos tp : Pos} {elts : List Expr} {x1} (hg : Gl X "enumerate") (hm : X.mg "enumerate" = none) (ha : PA X [a] ta) (hs : starEach [a] X.env = [(false, eval a X.env)] := by rfl) : PI X (.Tuple elts x1 tp) (.Call (.Name "enumerate" p) [a] [] pos) (iEnum X.K ta) := by
 intro pins s σ H R I h
 refine Call_ (ld_blt I hg hm boot_enum (PyProof.Rows.callWith_type1 (thn (ha pos pins s σ H _ I h) fun us s1 ⟨vs, H1, I1, r1, q1⟩ => ?_) hs rfl))
 obtain ⟨a, xs, rfl, hr, q⟩ := q1
 obtain ⟨u, rfl, ru⟩ := vals1 r1
 cases (show u = Value.ref a from ru)
 obtain ⟨_, its, n, rv, ho⟩ := hr.ok I1.hok
 refine call_enumerate_1 ho fun h' he hit hz hk => ?_
 refine wpAny_pyIter_enum (s := { s1 with heap := h' }) he ?_
 refine ⟨s1.heap.objs.size + 1, [s1.heap.objs.size + 1, s1.heap.objs.size], _, _, H1, rfl, I1.kept (t' := s1.toks) hk, turn_enum a _ _ (Nat.ne_of_gt (Nat.lt_succ_self _)), ⟨⟨_, he⟩, hit⟩, fun b hb => ?_, q⟩
 have hle : s1.heap.objs.size ≤ b := by
  rcases List.mem_cons.mp hb with z | z
  ·rw [z]; exact Nat.le_succ _
  ·rw [List.mem_singleton.mp z]; exact Nat.le_refl _
 exact I1.fpOk hle (I1.hok.fresh hle)
end
end L2
namespace M
open PySem PySem.Spec PyProof.Rows L2
def enumL (k : Nat) : List D → List D
 | [] => []
 | d :: ds => .tuple [.int (k : Int), d] :: enumL (k + 1) ds
theorem enumL_len : ∀ (ds : List D) (k : Nat), (enumL k ds).length = ds.length
 | [], _ => rfl
 | _ :: ds, k => by unfold enumL; rw [List.length_cons, List.length_cons, enumL_len ds]
theorem enumL_get : ∀ (ds : List D) (k i : Nat), (enumL k ds)[i]? = (ds[i]?).map fun d => .tuple [.int ((k + i : Nat) : Int), d]
 | [], _, _ => by simp [enumL]
 | d :: ds, k, 0 => by simp [enumL]
 | d :: ds, k, i + 1 => by
  unfold enumL
  rw [List.getElem?_cons_succ, List.getElem?_cons_succ, enumL_get ds (k + 1) i]
  have : k + 1 + i = k + (i + 1) := by omega
  rw [this]
def enumR (rs : List Ev) : Res (List D) := match rs with
 | [.p (.list ds)] => .ok (enumL 0 ds)
 | _ => .bad
theorem di_enum {X : Cx} {E : L2.St → XK} {a : Expr} {fr : En → Res (List Ev)} {p pos tp : Pos} {elts : List Expr} {x1} (hg : Gl X "enumerate") (hm : X.mg "enumerate" = none) (ha : DA X E [a] fr) (hs : starEach [a] X.env = [(false, eval a X.env)] := by rfl) :
  DI X E (.Tuple elts x1 tp) (.Call (.Name "enumerate" p) [a] [] pos) (mItA enumR fr) := by
 obtain ⟨t, q, m⟩ := ha.out
 refine DI.in ⟨_, pi_enum hg hm q hs, fun B G0 G W H σ en R hh hs hw => m B G0 G W H σ en _ hh hs ?_⟩
 have hw : wpR ((fr en).bind _) _ _ := hw
 rw [wpR_bind] at hw
 refine wpR_mono hw (fun rs hr G1 H1 vs s e => ?_) fun C h => h
 unfold enumR at hr
 split at hr
 ·rename_i ds
  match vs, e with
  | [v], ⟨e1, _⟩ =>
   cases e1 with
   | @lst a xs _ h1 h2 =>
    refine ⟨a, xs, rfl, rd_mono s.gh h1, hr G1 H1 _ s fun G3 H3 k1 k2 => ⟨fun i d ed => ?_, ?_⟩⟩
    ·rw [enumL_get, Option.map_eq_some_iff] at ed
     obtain ⟨d', ed, rfl⟩ := ed
     obtain ⟨x, ex, rx⟩ := h2.get' ed
     have sq : SqL X.K H3 a xs := .inl (rd_mono (k1.trans k2) h1)
     refine ⟨⟨xs, x, sq, ex⟩, fun v H' hy => ?_⟩
     obtain ⟨p, x', hp, rfl, hy, rfl⟩ := hy
     have := hy xs sq
     rw [ex] at this
     cases this
     have st := Step.put (o := .tup [.int i, x]) k2 hp
     refine ⟨_, st, .tup upd_same (.cons ?_ (.cons (rx.mono (k1.trans st.g)) .nil))⟩
     have : ((0 + i : Nat) : Int) = (i : Int) := by simp
     rw [this]
     exact .int _
    ·refine ⟨xs, .inl (rd_mono (k1.trans k2) h1), ?_⟩
     rw [enumL_len, h2.length]
     exact Nat.le_refl _
 ·exact hr.elim
section
variable {X : Cx} {E : L2.St → XK}
theorem Reps.rev {K : PySem.W.Frag} {G : Hp} : ∀ {xs : List V} {ds : List D}, Reps K G xs ds → Reps K G xs.reverse ds.reverse
 | _, _, .nil => .nil
 | _, _, .cons h r => by
  rw [List.reverse_cons, List.reverse_cons]
  exact (Reps.rev r).append (.cons h .nil)
def cutD (ds : List D) (lo hi : Option Int) : List D := (ds.drop (HT.sIx ds.length 0 lo)).take (HT.sIx ds.length ds.length hi - HT.sIx ds.length 0 lo)
theorem Reps.cut {K : PySem.W.Frag} {G : Hp} {xs : List V} {ds : List D} (r : Reps K G xs ds) (lo hi : Option Int) : Reps K G (cutV xs lo hi) (cutD ds lo hi) := by
 unfold cutV cutD
 rw [r.length]
 exact (r.drop _).take _
def mPt (fe : En → Res Ev) : En → Res (Option Int) := fun en => (fe en).bind fun x => match x.c with
 | .p (.int i) => .ok (some i)
 | _ => .bad
def tP (K : PySem.W.Frag) (E : L2.St → XK) (f : En → Res (Option Int)) : TO := fun σ H R => ∃ B G0 G W en, SimH B G0 G W H ∧ SimS K W G H σ en ∧ wpR (f en) (fun k => ∀ G' H', Step G H G' H' → R k H') (PostX (E σ) G H)
def DP (X : Cx) (E : L2.St → XK) (o : Option Expr) (f : En → Res (Option Int)) : Prop := PO X o (tP X.K E f)
theorem dp_some {e : Expr} {fe : En → Res Ev} (he : DE X E e fe) : DP X E (some e) (mPt fe) := fun pins s σ H R I ⟨B, G0, G, W, en, hh, hs, hw⟩ => by
 obtain ⟨t, p, m⟩ := he.out
 refine po_some p pins s σ H R I (m B G0 G W H σ en _ hh hs ?_)
 unfold mPt at hw
 rw [wpR_bind] at hw
 refine wpR_mono hw (fun x hx G1 H1 v s1 e1 => ?_) fun C h => h
 obtain ⟨G2, s2, e2⟩ := e1.c s1
 cases ex : x.c with
 | p d =>
  rw [ex] at hx e2
  cases d with
  | int i => cases e2; exact ⟨i, rfl, hx G2 H1 s2⟩
  | _ => exact hx.elim
 | f d => rw [ex] at hx; exact hx.elim
 | b d => rw [ex] at hx; exact hx.elim
 | x C => rw [ex] at hx; exact hx.elim
def mSl (fe : En → Res Ev) (fl fh : En → Res (Option Int)) : En → Res Ev := fun en => (fe en).bind fun x => (fl en).bind fun l => (fh en).bind fun u => match lstOf x.c with
 | some ds => .ok (.f (.list (cutD ds l u)))
 | none => .bad
theorem de_sl {e : Expr} {lo hi : Option Expr} {fe : En → Res Ev} {fl fh : En → Res (Option Int)} {p2 pos : Pos} (he : DE X E e fe) (hl : DP X E lo fl) (hu : DP X E hi fh) : DE X E (.Subscript e (.Slice lo hi none p2) pos) (mSl fe fl fh) := by
 obtain ⟨t, p, m⟩ := he.out
 refine DE.in ⟨_, pe_slice sl_list p hl hu, fun B G0 G W H σ en Q hh hs hw => ?_⟩
 unfold mSl at hw
 refine m B G0 G W H σ en _ hh hs (DE.go hw fun x G1 H1 v s1 e1 h1 => ?_)
 refine ⟨B, G0, G1, W, en, hh.step s1, hs.step s1, ?_⟩
 rw [wpR_bind] at h1
 refine wpR_mono h1 (fun l hx G2 H2 s2 => ?_) fun C h => h
 refine ⟨B, G0, G2, W, en, (hh.step s1).step s2, (hs.step s1).step s2, ?_⟩
 have hx' := wpR_mono hx (fun r h => h.step s2) (fun C h => h.step s2)
 rw [wpR_bind] at hx'
 refine wpR_mono hx' (fun u hy G3 H3 s3 => ?_) fun C h => h
 cases ex : lstOf x.c with
 | none => rw [ex] at hy; exact hy.elim
 | some ds =>
  rw [ex] at hy
  obtain ⟨a, xs, rfl, rd, rp⟩ := lst_at (Hs := H) s3.gh (e1.step (s2.trans s3)) ex
  exact ⟨a, xs, rfl, .inl rd, fun p hp => hy _ _ _ (s3.trans (Step.lay s3.gh hp)) ⟨p, _, rfl, s3.h.free hp, s3.gh.free hp, upd_same, .lst (rp.cut l u)⟩⟩
end
section
variable {K : PySem.W.Frag}
end
end M

namespace L2
open PySem PySem.Spec PyProof.Rows
def Itz (K : PySem.W.Frag) (a b : Addr) : It :=
 ⟨fun i H => ∃ xs ys x y, SqL K H a xs ∧ xs[i]? = some x ∧ SqL K H b ys ∧ ys[i]? = some y,
   fun i H v H' => ∃ p x y, H p = none ∧ v = .ref p ∧ (∀ xs, SqL K H a xs → xs[i]? = some x) ∧ (∀ ys, SqL K H b ys → ys[i]? = some y) ∧ H' = upd H p (.tup [x, y]),
   fun i H => ∃ xs ys, SqL K H a xs ∧ SqL K H b ys ∧ (xs.length ≤ i ∨ ys.length ≤ i)⟩
theorem turn_zip {P : Program} {w : World} {K : PySem.W.Frag} {elts : List Expr} {x1} {tp : Pos} {l1 l2 z TI TO i1 i2 : Addr} (D : ZipApart z TI TO i1 i2 l1 l2) : Turn P w K (.Tuple elts x1 tp) (Itz K l1 l2) [z, TI, TO, i1, i2] z
  (fun i h => IsZip h z TI TO Value.none ∧ IsPair h TI (.ref i1) (.ref i2) ∧ (∃ a b, IsPair h TO a b) ∧ h.IsListIter i1 l1 i ∧ h.IsListIter i2 l2 i) where
 mem := by simp
 obj := fun i h st b hb => by
  obtain ⟨s1, s2, ⟨_, _, s3⟩, ⟨o4, q4, _, d4⟩, ⟨o5, q5, _, d5⟩⟩ := st
  simp only [List.mem_cons, List.not_mem_nil, or_false] at hb
  rcases hb with rfl | rfl | rfl | rfl | rfl
  ·exact ⟨_, s1, fun v z => nomatch z⟩
  ·exact ⟨_, s2, fun v z => nomatch z⟩
  ·exact ⟨_, s3, fun v z => nomatch z⟩
  ·exact ⟨o4, q4, fun v z => by rw [d4] at z; cases z⟩
  ·exact ⟨o5, q5, fun v z => by rw [d5] at z; cases z⟩
 keep := fun i h h' st k => by
  obtain ⟨s1, s2, ⟨a, b, s3⟩, s4, s5⟩ := st
  exact ⟨k _ (by simp) _ s1, k _ (by simp) _ s2, ⟨a, b, k _ (by simp) _ s3⟩, s4.at fun o q => k _ (by simp) o q, s5.at fun o q => k _ (by simp) o q⟩
 item := by
  intro X hP hw hK hc i pins s σ H E I hf st hg
  subst hP hw hK
  obtain ⟨s1, s2, ⟨a0, b0, s3⟩, s4, s5⟩ := st
  obtain ⟨xs, ys, x, y, hq, hx, hq2, hy⟩ := hg
  obtain ⟨its, rv, p, hz⟩ := I.list hq
  obtain ⟨its2, rv2, p2, hz2⟩ := I.list hq2
  obtain ⟨u, hu, ru⟩ := rv.get hx
  obtain ⟨u2, hu2, ru2⟩ := rv2.get hy
  have hfz := hf z (by simp)
  have hfT := hf TO (by simp)
  have hf1 := hf i1 (by simp)
  have hf2 := hf i2 (by simp)
  refine wpAny_pyNext_zip_item D s1 s2 s3 s4 s5 p.isList p2.isList (x := u) (y := u2) (by simpa using hu) (by simpa using hu2) fun h₁ z1 to1 it1 it2 tt1 hz₁ hk₁ => ?_
  refine ⟨_, rfl, wpAny_letOwnedTupleGo_zip z1 fun h₂ z2 hs₂ => ?_⟩
  have hs₂ : Heap.SameBut z h₁ h₂ := hs₂
  have hn : H s.heap.objs.size = none := I.fresh
  have nn : ∀ b o, H b = some o → b ≠ s.heap.objs.size := fun b o q => ne_of_none q hn
  have eE : z < s.heap.objs.size := Heap.lt_size s1
  have keep : ∀ b o, b ∉ [z, TO, i1, i2] → s.heap.get? b = some o → h₂.get? b = some o := fun b o hb q => by
   simp only [List.mem_cons, List.not_mem_nil, or_false, not_or] at hb
   exact (hs₂.2 b hb.1).trans (hk₁ b o hb.1 hb.2.1 hb.2.2.1 hb.2.2.2 q)
  have trk : ∀ b o, H b = some o → b ∉ [z, TO, i1, i2] := fun b o q hb => by
   have hm : b ∈ [z, TI, TO, i1, i2] := by
    simp only [List.mem_cons, List.not_mem_nil, or_false] at hb ⊢
    rcases hb with h | h | h | h <;> simp [h]
   rw [(hf b hm).1] at q; cases q
  refine ⟨.ref s.heap.objs.size, upd H s.heap.objs.size (.tup [x, y]), ?_, rfl, ⟨_, x, y, hn, rfl, fun zs hz' => by rw [I.list_inj hz' hq]; exact hx, fun zs hz' => by rw [I.list_inj hz' hq2]; exact hy, rfl⟩, ⟨z2, keep _ _ ?_ s2, ⟨_, _, (hs₂.2 _ D.TOz).trans to1⟩, it1.at fun o q => (hs₂.2 _ D.i1z).trans q, it2.at fun o q => (hs₂.2 _ D.i2z).trans q⟩, fun b hb => ?_⟩
  ·refine Inv.step (X := X) (pins := pins) (σ := σ) (H := H) (s := s) (H' := upd H s.heap.objs.size (.tup [x, y])) (h' := h₂) (g' := s.gens) (d' := s.drawn) (t' := s.toks) (ch := [z, TO, i1, i2]) I (fun b hb => ?_) (fun b o _ _ hb q _ => keep b o hb q) (fun b o _ _ hb q _ => ⟨o.slots, keep b o hb q⟩) (fun b o _ q n => ?_) (fun b o hb q => ⟨o, keep b o hb q⟩)
    (fun b ys q => ?_) (fun b o v q => ?_) (fun b ps q => ⟨#[], ?_⟩) (fun m hm => ?_) (fun b v q => ?_) I.bare
   ·have hm : b ∈ [z, TI, TO, i1, i2] := by
     simp only [List.mem_cons, List.not_mem_nil, or_false] at hb ⊢
     rcases hb with h | h | h | h <;> simp [h]
    obtain ⟨f0, f1, f2, f3, f4, f5⟩ := hf b hm
    exact ⟨f3, f1, f4, f5⟩
   ·rw [upd_ne (Nat.ne_of_lt (Heap.lt_size q))]; exact n
   ·rw [upd_ne (nn b _ q)]; exact q
   ·rw [upd_ne (nn b _ q)]; exact q
   ·rw [upd_ne (nn b _ q), q]; simp
   ·obtain ⟨o, es, ep, ho, r⟩ := hm
    refine ⟨o, es, ep, keep _ o (fun zz => ?_) ho, r⟩
    simp only [List.mem_cons, List.not_mem_nil, or_false] at zz
    rcases zz with h | h | h | h
    ·exact hfz.2.1 h.symm
    ·exact hfT.2.1 h.symm
    ·exact hf1.2.1 h.symm
    ·exact hf2.2.1 h.symm
   ·by_cases hb : b = s.heap.objs.size
    ·subst hb
     rw [upd_same] at q
     cases q
     refine ⟨by show 2 ≤ sizeLine; decide, [u, u2], .cons ru (.cons ru2 .nil), _, (hs₂.2 _ (Nat.ne_of_gt eE)).trans tt1, rfl, _, rfl⟩
    ·rw [upd_ne hb] at q
     refine (I.hok b v q).stay (fun c w' hc q' => keep c w' ?_ q') (fun c q' => ?_) fun c ys q' => ?_
     ·rcases hc with zz | zz
      ·rw [zz]; exact trk b v q
      ·exact trk c _ zz
     ·rw [upd_ne (nn c _ q')]; exact q'
     ·rw [upd_ne (nn c _ q')]; exact q'
  ·simp only [List.mem_cons, List.not_mem_nil, or_false, not_or]
   exact ⟨D.TIz, D.TITO, D.TIi1, D.TIi2⟩
  ·have hb' := (hf b hb).1
   have : b ≠ s.heap.objs.size := by
    simp only [List.mem_cons, List.not_mem_nil, or_false] at hb
    obtain ⟨o4, q4, _⟩ := id s4
    obtain ⟨o5, q5, _⟩ := id s5
    rcases hb with h | h | h | h | h <;> rw [h]
    ·exact Nat.ne_of_lt eE
    ·exact Nat.ne_of_lt (Heap.lt_size s2)
    ·exact Nat.ne_of_lt (Heap.lt_size s3)
    ·exact Nat.ne_of_lt (Heap.lt_size q4)
    ·exact Nat.ne_of_lt (Heap.lt_size q5)
   rw [upd_ne this]; exact hb'
 done := by
  intro X hP hw hK hc i pins s σ H E I hf st hg
  subst hP hw hK
  obtain ⟨s1, s2, ⟨a0, b0, s3⟩, s4, s5⟩ := st
  obtain ⟨xs, ys, hq, hq2, hx⟩ := hg
  obtain ⟨its, rv, p, hz⟩ := I.list hq
  obtain ⟨its2, rv2, p2, hz2⟩ := I.list hq2
  have hl := rv.length
  have hl2 := rv2.length
  refine wpAny_pyNext_zip_end (I.ok.hd hc) D s1 s2 s3 s4 s5 p.isList p2.isList (hx.imp (fun h => by simp; omega) fun h => by simp; omega) fun h' hk => ⟨rfl, ?_⟩
  have keep : ∀ b o, b ∉ [z, TO, i1, i2] → s.heap.get? b = some o → h'.get? b = some o := fun b o hb q => by
   simp only [List.mem_cons, List.not_mem_nil, or_false, not_or] at hb
   exact hk b o hb.1 hb.2.1 hb.2.2.1 hb.2.2.2 q
  have hin : ∀ b, b ∈ [z, TO, i1, i2] → b ∈ [z, TI, TO, i1, i2] := fun b hb => by
   simp only [List.mem_cons, List.not_mem_nil, or_false] at hb ⊢
   rcases hb with h | h | h | h <;> simp [h]
  have trk : ∀ b o, H b = some o → b ∉ [z, TO, i1, i2] := fun b o q hb => by rw [(hf b (hin b hb)).1] at q; cases q
  refine Inv.step (X := X) (pins := pins) (σ := σ) (H := H) (s := s) (H' := H) (h' := h') (g' := s.gens) (d' := s.drawn) (t' := s.toks) (ch := [z, TO, i1, i2]) I (fun b hb => ?_) (fun b o _ _ hb q _ => keep b o hb q) (fun b o _ _ hb q _ => ⟨o.slots, keep b o hb q⟩) (fun b o _ q n => n) (fun b o hb q => ⟨o, keep b o hb q⟩)
   (fun _ _ q => q) (fun _ _ _ q => q) (fun b ps q => ⟨#[], by rw [q]; simp⟩) (fun m hm => ?_) (fun b v q => ?_) I.bare
  ·obtain ⟨f0, f1, f2, f3, f4, f5⟩ := hf b (hin b hb)
   exact ⟨f3, f1, f4, f5⟩
  ·obtain ⟨o, es, ep, ho, r⟩ := hm
   exact ⟨o, es, ep, keep _ o (fun zz => (hf _ (hin _ zz)).2.1 rfl) ho, r⟩
  ·refine (I.hok b v q).stay (fun c w' hc q' => keep c w' ?_ q') (fun _ q' => q') fun _ _ q' => q'
   rcases hc with zz | zz
   ·rw [zz]; exact trk b v q
   ·exact trk c _ zz
 self := fun _ _ _ _ _ st h => wpAny_pyIter_zip st.1 h
section
variable {X : Cx}
def iZip (K : PySem.W.Frag) (ta : TA) : TI := fun σ H R => ta σ H fun vs H1 => ∃ a b xs ys, vs = [.ref a, .ref b] ∧ Rd H1 a (.lst xs) ∧ Rd H1 b (.lst ys) ∧ R (Itz K a b) H1
theorem bT_zip0 : bootBuiltins "zip" = some (.type "zip") := by decide +kernel
theorem pi_zip {a b : Expr} {ta : TA} {p pos tp : Pos} {elts : List Expr} {x1} (hg : Gl X "zip") (hm : X.mg "zip" = none) (ha : PA X [a, b] ta) (hs : starEach [a, b] X.env = [(false, eval a X.env), (false, eval b X.env)] := by rfl) (hs2 : starEach [b] X.env = [(false, eval b X.env)] := by rfl) : PI X (.Tuple elts x1 tp) (.Call (.Name "zip" p) [a, b] [] pos) (iZip X.K ta) := by
 intro pins s σ H R I h
 refine Call_ (ld_blt I hg hm bT_zip0 (PyProof.Rows.callWith_type1 (thn (ha pos pins s σ H _ I h) fun us s1 ⟨vs, H1, I1, r1, q1⟩ => ?_) (by rw [hs, hs2]) (by rw [hs2]; rfl)))
 obtain ⟨a, b, xs, ys, rfl, hr, hr2, q⟩ := q1
 obtain ⟨u, u2, rfl, ru, ru2⟩ := vals2 r1
 cases (show u = Value.ref a from ru)
 cases (show u2 = Value.ref b from ru2)
 obtain ⟨_, its, n, rv, ho⟩ := hr.ok I1.hok
 obtain ⟨_, its2, n2, rv2, ho2⟩ := hr2.ok I1.hok
 refine call_zip_2 ⟨_, ho, rfl, _, rfl⟩ ⟨_, ho2, rfl, _, rfl⟩ fun h' he hp1 hp2 hit hit2 hz hk => ?_
 refine wpAny_pyIter_zip (s := { s1 with heap := h' }) he ?_
 refine ⟨s1.heap.objs.size + 4, [s1.heap.objs.size + 4, s1.heap.objs.size + 2, s1.heap.objs.size + 3, s1.heap.objs.size, s1.heap.objs.size + 1], _, _, H1, rfl, I1.kept (t' := s1.toks) hk, turn_zip (zipApart_new (Heap.lt_size ho) (Heap.lt_size ho2)), ⟨he, hp1, ⟨_, _, hp2⟩, hit, hit2⟩, fun b hb => ?_, q⟩
 have hle : s1.heap.objs.size ≤ b := by
  simp only [List.mem_cons, List.not_mem_nil, or_false] at hb
  rcases hb with h | h | h | h | h <;> rw [h]
  ·exact Nat.le_add_right _ _
  ·exact Nat.le_add_right _ _
  ·exact Nat.le_add_right _ _
  ·exact Nat.le_refl _
  ·exact Nat.le_add_right _ _
 exact I1.fpOk hle (I1.hok.fresh hle)
end
end L2
namespace M
open PySem PySem.Spec PyProof.Rows L2
def zipL : List D → List D → List D
 | x :: xs, y :: ys => .tuple [x, y] :: zipL xs ys
 | _, _ => []
theorem zipL_get : ∀ (xs ys : List D) (i : Nat), (zipL xs ys)[i]? = match xs[i]?, ys[i]? with
  | some x, some y => some (.tuple [x, y])
  | _, _ => none
 | [], _, i => by simp [zipL]
 | _ :: _, [], i => by cases i <;> simp [zipL]
 | x :: xs, y :: ys, 0 => by simp [zipL]
 | x :: xs, y :: ys, i + 1 => by
  unfold zipL
  rw [List.getElem?_cons_succ, List.getElem?_cons_succ, List.getElem?_cons_succ, zipL_get xs ys i]
theorem zipL_len : ∀ (xs ys : List D), xs.length ≤ (zipL xs ys).length ∨ ys.length ≤ (zipL xs ys).length
 | [], _ => .inl (Nat.zero_le _)
 | _ :: _, [] => .inr (Nat.zero_le _)
 | x :: xs, y :: ys => by
  unfold zipL
  rcases zipL_len xs ys with h | h
  ·exact .inl (Nat.succ_le_succ h)
  ·exact .inr (Nat.succ_le_succ h)
def zipR (rs : List Ev) : Res (List D) := match rs with
 | [.p (.list xs), .p (.list ys)] => .ok (zipL xs ys)
 | _ => .bad
theorem di_zip {X : Cx} {E : L2.St → XK} {a b : Expr} {fr : En → Res (List Ev)} {p pos tp : Pos} {elts : List Expr} {x1} (hg : Gl X "zip") (hm : X.mg "zip" = none) (ha : DA X E [a, b] fr) (hs : starEach [a, b] X.env = [(false, eval a X.env), (false, eval b X.env)] := by rfl) (hs2 : starEach [b] X.env = [(false, eval b X.env)] := by rfl) :
  DI X E (.Tuple elts x1 tp) (.Call (.Name "zip" p) [a, b] [] pos) (mItA zipR fr) := by
 obtain ⟨t, q, m⟩ := ha.out
 refine DI.in ⟨_, pi_zip hg hm q hs hs2, fun B G0 G W H σ en R hh hs hw => m B G0 G W H σ en _ hh hs ?_⟩
 have hw : wpR ((fr en).bind _) _ _ := hw
 rw [wpR_bind] at hw
 refine wpR_mono hw (fun rs hr G1 H1 vs s e => ?_) fun C h => h
 unfold zipR at hr
 split at hr
 ·rename_i ds es
  match vs, e with
  | [v, v2], ⟨e1, e2, _⟩ =>
   cases e1 with
   | @lst a xs _ h1 h2 =>
    cases e2 with
    | @lst b ys _ g1 g2 =>
     refine ⟨a, b, xs, ys, rfl, rd_mono s.gh h1, rd_mono s.gh g1, hr G1 H1 _ s fun G3 H3 k1 k2 => ⟨fun i d ed => ?_, ?_⟩⟩
     ·rw [zipL_get] at ed
      cases ex0 : ds[i]? with
      | none => rw [ex0] at ed; cases ed
      | some d1 =>
       cases ey0 : es[i]? with
       | none => rw [ex0, ey0] at ed; cases ed
       | some d2 =>
        rw [ex0, ey0] at ed
        cases ed
        obtain ⟨x, ex, rx⟩ := h2.get' ex0
        obtain ⟨y, ey, ry⟩ := g2.get' ey0
        have sq : SqL X.K H3 a xs := .inl (rd_mono (k1.trans k2) h1)
        have sq2 : SqL X.K H3 b ys := .inl (rd_mono (k1.trans k2) g1)
        refine ⟨⟨xs, ys, x, y, sq, ex, sq2, ey⟩, fun v H' hy => ?_⟩
        obtain ⟨p, x', y', hp, rfl, hx', hy', rfl⟩ := hy
        have e1 := hx' xs sq
        have e2 := hy' ys sq2
        rw [ex] at e1
        rw [ey] at e2
        cases e1
        cases e2
        have st := Step.put (o := .tup [x, y]) k2 hp
        exact ⟨_, st, .tup upd_same (.cons (rx.mono (k1.trans st.g)) (.cons (ry.mono (k1.trans st.g)) .nil))⟩
     ·refine ⟨xs, ys, .inl (rd_mono (k1.trans k2) h1), .inl (rd_mono (k1.trans k2) g1), ?_⟩
      rw [h2.length, g2.length]
      exact zipL_len ds es
 ·exact hr.elim
end M

namespace L2
open PySem PySem.Spec PyProof.Rows
section
variable {X : Cx}
end
end L2
namespace M
open PySem PySem.Spec PyProof.Rows L2
variable {K : PySem.W.Frag}
end M

namespace M
open PySem PySem.Spec PyProof.Rows L2
section
variable {X : Cx} {E : L2.St → XK} {e : Expr}
def mExtend (i : Nat) (fe : En → Res Ev) : MS := fun en => match en[i]? with
 | some (some (.o (.list ds))) => match fe en with
  | .ok (.f (.list es)) => if ds.length + es.length ≤ 100000 then some (.nx (en.set i (some (.o (.list (ds ++ es)))))) else none
  | .exc C => some (.ex C en)
  | _ => none
 | _ => none
theorem ds_extend {i : Nat} {fe : En → Res Ev} {st : Stmt} (he : DE X E e fe) (hp : ∀ t, PE X e t → PS X st (tDrop (tBM X.K "list" rExtend (tVar i) (tCons t tNil)))) : DS X E st (mExtend i fe) := by
 obtain ⟨t, q, mm⟩ := he.out
 refine DS.in ⟨_, hp t q, fun B G0 G W H σ en Dn hh hs hw => ?_⟩
 unfold mExtend at hw
 split at hw
 ·rename_i ds ei
  obtain ⟨v, e1, a, o, rfl, e2, e3, e4⟩ := hs.2 i _ ei
  cases e4 with
  | @lst xs _ rp =>
  refine ⟨_, e1, .inl ⟨rfl, _, SqL.of e3⟩, mm B G0 G W H σ en _ hh hs ?_⟩
  cases ef : fe en with
  | bad => rw [ef] at hw; exact hw
  | exc C => rw [ef] at hw; exact fun G1 H1 s => hw G1 W H1 σ (hh.step s) (hs.step s)
  | ok r =>
   rw [ef] at hw
   cases r with
   | p d => exact hw.elim
   | b d => exact hw.elim
   | x C => exact hw.elim
   | f d =>
    cases d with
    | list es =>
     dsimp only at hw
     split at hw
     ·rename_i hl
      rintro G1 H1 y s ⟨b, ob, rfl, k1, k2, k3, k4⟩
      cases k4 with
      | @lst zs _ rz =>
      have hx := s.h _ _ e3
      refine ⟨a, b, xs, zs, rfl, rfl, hx, k3, Nat.le_trans (by rw [rp.length, rz.length]; exact hl) (by decide), ?_⟩
      obtain ⟨w1, w2⟩ := write_ok (o' := .lst (xs ++ zs)) (d' := .list (ds ++ es)) (hh.step s) (hs.step s) e2 e1 (.lst ((rp.mono s.g).append rz))
      exact hw _ _ _ _ w1 w2
     ·exact hw.elim
    | _ => exact hw.elim
 ·exact hw.elim
end
section
variable {X : Cx} {K : PySem.W.Frag}
def rInP (K : PySem.W.Frag) (ng : Bool) : R2 := fun x y H Q => ∃ d ds, Rep K H x d ∧ Rep K H y (.list ds) ∧ SeqAt.shaped d = true ∧ SeqAt.shaped (.list ds) = true ∧ (∀ z ∈ ds, SeqAt.noMix z d = true) ∧ Q (.bl (if ng then !decide (countIn d ds ≠ 0) else decide (countIn d ds ≠ 0))) H
theorem op_ninP {K : PySem.W.Frag} (hu : X.A.units + 65 < cLine) : OpR X (compareOp .NotIn) (rInP K true) := by
 intro pins s σ H x y v u Q I rx ry h
 obtain ⟨d, ds, h1, h2, o1, o2, hm, q⟩ := h
 obtain ⟨as, r1⟩ := h1.reads I.hok (Bool.and_eq_true_iff.mp o1).1 rx
 obtain ⟨bs, r2⟩ := h2.reads I.hok (Bool.and_eq_true_iff.mp o2).1 ry
 exact notIn_list_dataH r2 r1 o2 o1 hu hm ⟨.bl _, H, I, rfl, q⟩
open Classical in
noncomputable def inPE (ng : Bool) (x y : Ev) : Res Ev := match dat x, dat y with
 | some d, some (.list ds) => if SeqAt.shaped d = true ∧ SeqAt.shaped (.list ds) = true ∧ ∀ z ∈ ds, SeqAt.noMix z d = true then .ok (.p (.bool (if ng then !decide (countIn d ds ≠ 0) else decide (countIn d ds ≠ 0)))) else .bad
 | _, _ => .bad
theorem noX_inP {ng : Bool} : NoX (inPE ng) := by
 intro x y A h
 unfold inPE at h
 split at h
 ·split at h <;> cases h
 ·cases h
theorem om_inP {ng : Bool} : OpM K (rInP K ng) (inPE ng) := by
 intro W G H v u x y Q gh hx hy hw
 unfold inPE at hw
 split at hw
 ·rename_i d ds e1 e2
  split at hw
  ·rename_i hs
   exact ⟨d, ds, hx.read gh e1, hy.read gh e2, hs.1, hs.2.1, hs.2.2, hw G H _ (Step.refl gh) (.bl _)⟩
  ·exact hw.elim
 ·exact hw.elim
end
theorem u65 {k : Nat} {A : Around} (hr : Room k A) : A.units + 65 < cLine := by have := hr.un; omega
end M

namespace L2
open PySem PySem.Spec PyProof.Rows
theorem nolen_lri : typeLookup (Value.type "list_reverseiterator") (Str.ofString "__len__") = pure none := by rfl
theorem hint_lri : typeLookup (Value.type "list_reverseiterator") (Str.ofString "__length_hint__") = pure (some (Value.builtin "list_reverseiterator.__length_hint__")) := by rfl
theorem sub_lri : isSubtype (Value.type "list_reverseiterator") (Value.type "list_reverseiterator") = pure true := by rfl
theorem walks_rev {prog : Program} {w : World} {A : Around} (hh : A.handled = none) {I l : Addr} (hne : l ≠ I) (items : Array Value) :
  WalksS prog w A I [I, l] [I] Eq items.size (fun i v => items[items.size - 1 - i]? = some v) (fun i s => s.heap.IsRevIter I l ((items.size : Int) - 1 - i) ∧ s.heap.IsList l items) where
 sub := fun b hb => by rw [List.mem_singleton.mp hb]; exact .head _
 grefl := fun _ => rfl
 gtrans := fun _ _ _ h1 h2 => h1.trans h2
 frame := fun i s h' tk st _ k => by
  obtain ⟨⟨o, h1, h2, h3⟩, ⟨p, h4, h5⟩⟩ := st
  exact ⟨⟨o, k I (.head _) o h1, h2, h3⟩, ⟨p, k l (.tail _ (.head _)) p h4, h5⟩⟩
 item := fun i s Q E hi st k => by
  obtain ⟨st1, st2⟩ := st
  have e : ((items.size : Int) - 1 - i) = ((items.size - 1 - i : Nat) : Int) := by omega
  rw [e] at st1
  have hx : items.size - 1 - i < items.size := by omega
  refine wpAny_pyNext_rev_item st1 st2 (x := items[items.size - 1 - i]) (by simp [hx]) fun h' g1 g2 => ?_
  refine k _ _ (by simp [hx]) ⟨?_, ?_⟩ ⟨fun b o hb q => ?_, rfl, rfl, rfl, Nat.le_refl _⟩
  ·have e2 : ((items.size - 1 - i : Nat) : Int) - 1 = (items.size : Int) - 1 - ((i + 1 : Nat) : Int) := by omega
   rw [← e2]
   exact g1
  ·obtain ⟨p, h4, h5⟩ := st2
   exact ⟨p, (g2.2 l hne).trans h4, h5⟩
  ·exact (g2.2 b (fun z => hb (by rw [z]; exact .head _))).trans q
 done := fun s Q E st k => by
  obtain ⟨st1, st2⟩ := st
  have e : ((items.size : Int) - 1 - (items.size : Nat)) = -1 := by omega
  rw [e] at st1
  exact wpAny_pyNext_rev_end hh st1 fun h' g => k _ ⟨fun b o hb q => g b o (fun z => hb (by rw [z]; exact .head _)) q, rfl, rfl, rfl, Nat.le_refl _⟩
 self := fun i s Q E st h => wpAny_pyIter_revIter st.1 h
theorem hint_rev {prog : Program} {w : World} {A : Around} {E : Value → Shared → Prop} {s : Shared} {I : Addr} {Q : Bool → Shared → Prop} (t : s.TypeIs (.ref I) "list_reverseiterator") (q : Q false s) : wpAny (model prog w) A (Builtin.List.listLengthHint (.ref I)) Q E s := by
 unfold Builtin.List.listLengthHint
 refine wpAny_bind (wpAny_specialOf t nolen_lri ?_)
 refine wpAny_bind (wpAny_specialOf t hint_lri ?_)
 refine wpAny_bind (wpAny_isInstance t sub_lri ?_)
 exact wpAny_pure q
theorem extend_rev {prog : Program} {w : World} {A : Around} (hh : A.in1.handled = none) {s : Shared} {R : Result → Shared → Prop} {I l : Addr} {items : Array Value} (hne : l ≠ I) (hI : s.heap.IsRevIter I l ((items.size : Int) - 1)) (hl : s.heap.IsList l items) (S : Addr) (hS1 : S ≠ I) (hS2 : S ≠ l) (res : Value) (c₀ : Nat)
  (hS : s.heap.get? S = some { cls := Value.type "list", data := Data.seq #[] c₀ }) (hz : items.size ≤ sizeLine)
  (k : ∀ (s' : Shared) (acc' : Array Value) (c' : Nat), Moved [S, I] Eq s s' → s'.heap.get? S = some { cls := Value.type "list", data := Data.seq acc' c' } → ItemsOf (fun i v => items[items.size - 1 - i]? = some v) acc' items.size → R (.ok (.ret res)) s') :
  wpAny (model prog w) A.in1 (Builtin.List.listExtendWith (.ref S) (.ref I) res) (fun fin s' => match fin with
   | Fin.done f => R (.ok f) s'
   | Fin.again c' => c'.quiet = true ∧ codeAny (model prog w) A c' R s') (fun e s' => R (.error e) s') s := by
 have t : s.TypeIs (.ref I) "list_reverseiterator" := by
  obtain ⟨o, h1, h2, _⟩ := hI
  exact ⟨o, h1, h2⟩
 unfold Builtin.List.listExtendWith
 refine wpAny_bind (wpAny_typeOf t ?_)
 have e : (Builtin.List.listSameRef (.ref S) (.ref I) || Value.type "list_reverseiterator" == Value.type "list" || Value.type "list_reverseiterator" == Value.type "tuple") = false := by
  have : (S == I) = false := beq_false_of_ne hS1
  show ((S == I) || _ || _) = false
  rw [this]
  decide
 rw [e, if_neg (by decide)]
 refine wpAny_bind (wpAny_pyIter_revIter hI ?_)
 refine wpAny_bind (wpAny_holding (hint_rev t ?_))
 refine wpAny_pure ?_
 refine ⟨plainId_quiet F.plain_extend_loop _, ?_⟩
 exact codeAny_extend_loopS (walks_rev hh hne items) hz S (by simp [hS1, hS2]) res items.size 0 s #[] c₀ rfl (Nat.zero_le _) ⟨by simpa using hI, hl⟩ hS ⟨rfl, fun j v h => by simp at h⟩ k
theorem call_list_rev {prog : Program} {w : World} {A : Around} {E : Value → Shared → Prop} (hh : A.in1.in1.handled = none) {s : Shared} {Q : Value → Shared → Prop} {I l : Addr} {items : Array Value} (hne : l ≠ I) (hI : s.heap.IsRevIter I l ((items.size : Int) - 1)) (hl : s.heap.IsList l items) (hz : items.size ≤ sizeLine)
  (k : ∀ (s' : Shared) (acc' : Array Value) (c' : Nat), (∀ b o, b ≠ I → s.heap.get? b = some o → s'.heap.get? b = some o) → s'.gens = s.gens → s'.drawn = s.drawn → s'.os = s.os → s'.heap.get? s.heap.objs.size = some { cls := Value.type "list", data := Data.seq acc' c' } → ItemsOf (fun i v => items[items.size - 1 - i]? = some v) acc' items.size → Q (.ref s.heap.objs.size) s') :
  wpAny (model prog w) A (call (.type "list") [.ref I]) Q E s := by
 obtain ⟨oI, hI1, hI2, hI3⟩ := id hI
 obtain ⟨ol, hl1, hl2⟩ := id hl
 have lI : I < s.heap.objs.size := Heap.lt_size hI1
 have ll : l < s.heap.objs.size := Heap.lt_size hl1
 refine callType_codes F.called_list (F.typeCall_list_1 _) F.entry_list_init (code_list_new _ ?_) ?_ (Q₁ := fun obj s₁ => obj = .ref s.heap.objs.size ∧ s₁ = { s with heap := s.heap.push { cls := Value.type "list", data := Data.seq #[] } })
 ·exact ⟨rfl, rfl⟩
 ·rintro obj s₁ ⟨rfl, rfl⟩
  have hS : (s.heap.push { cls := Value.type "list", data := Data.seq #[] }).get? s.heap.objs.size = some { cls := Value.type "list", data := Data.seq #[] } := Heap.get?_push_size s.heap rfl
  refine ⟨⟨_, hS, rfl⟩, F.args_list_init_2 _ _, ?_⟩
  have hI' : (s.heap.push { cls := Value.type "list", data := Data.seq #[] }).get? I = some oI := Heap.get?_push_of_some _ hI1
  have hl' : (s.heap.push { cls := Value.type "list", data := Data.seq #[] }).get? l = some ol := Heap.get?_push_of_some _ hl1
  have u1 : ((s.heap.push { cls := Value.type "list", data := Data.seq #[] }).update s.heap.objs.size (Obj.mapSeq fun _ => #[])).get? s.heap.objs.size = some { cls := Value.type "list", data := Data.seq #[] } := (Heap.get?_update_self _ hS rfl).trans rfl
  have u2 : ∀ b o, b ≠ s.heap.objs.size → (s.heap.push { cls := Value.type "list", data := Data.seq #[] }).get? b = some o → ((s.heap.push { cls := Value.type "list", data := Data.seq #[] }).update s.heap.objs.size (Obj.mapSeq fun _ => #[])).get? b = some o := fun b o hb q => (Heap.get?_update_other _ _ (Ne.symm hb)).trans q
  refine wpAny_bind ?_
  unfold Builtin.List.listItems
  refine wpAny_bind (wpAny_seqItems hS rfl (wpAny_pure ?_))
  refine wpAny_bind (wpAny_updateSeq hS rfl ?_ (by decide) (by decide))
  refine wpAny_bind (wpAny_letGo ?_)
  refine extend_rev (A := A.in1) hh hne ⟨oI, u2 I oI (Nat.ne_of_lt lI) hI', hI2, hI3⟩ ⟨ol, u2 l ol (Nat.ne_of_lt ll) hl', hl2⟩ s.heap.objs.size (Nat.ne_of_gt lI) (Nat.ne_of_gt ll) .none 0 u1 hz fun s' acc' c' mv g it => ?_
  exact ⟨rfl, k s' acc' c' (fun b o hb q => mv.heap b o (by
   have : b ≠ s.heap.objs.size := Nat.ne_of_lt (Heap.lt_size q)
   simp [hb, this]) (u2 b o (Nat.ne_of_lt (Heap.lt_size q)) (Heap.get?_push_of_some _ q))) mv.gens.symm mv.drawn mv.os g it⟩
section
variable {X : Cx}
theorem bT_rev0 : bootBuiltins "reversed" = some (.type "reversed") := by decide +kernel
theorem bT_list0 : bootBuiltins "list" = some (.type "list") := by decide +kernel
def tLR (K : PySem.W.Frag) (te : TE) : TE := fun σ H Q => te σ H fun x H1 => ∃ a xs, x = .ref a ∧ SqL K H1 a xs ∧ ∀ l, H1 l = none → Q (.ref l) (upd H1 l (.lst xs.reverse))
theorem vals_rev {xs : List V} {its : List Value} (r : Vals xs its) {acc : Array Value} (h : ItemsOf (fun i v => its.toArray[its.toArray.size - 1 - i]? = some v) acc its.toArray.size) : acc.toList = its.reverse := by
 obtain ⟨h1, h2⟩ := h
 have h1 : acc.size = its.length := h1.trans (List.size_toArray ..)
 apply List.ext_getElem?
 intro i
 rw [Array.getElem?_toList]
 by_cases hi : i < its.length
 ·have hx : i < acc.size := by omega
  have this := h2 i acc[i] (by simp [hx])
  have this : its.toArray[its.toArray.size - 1 - i]? = some acc[i] := this
  rw [Array.getElem?_eq_getElem hx, List.getElem?_reverse hi]
  rw [List.size_toArray, List.getElem?_toArray] at this
  exact this.symm
 ·rw [Array.getElem?_eq_none (by omega), List.getElem?_eq_none (by rw [List.length_reverse]; omega)]
theorem vals_reverse : ∀ {xs : List V} {us : List Value}, Vals xs us → Vals xs.reverse us.reverse
 | _, _, .nil => .nil
 | _, _, .cons r t => by
  rw [List.reverse_cons, List.reverse_cons]
  exact (vals_reverse t).append (.cons r .nil)
theorem pe_listrev {e : Expr} {te : TE} {p1 p2 pos1 pos2 : Pos} (hc : X.calm = true) (hg1 : Gl X "list") (hm1 : X.mg "list" = none) (hg2 : Gl X "reversed") (hm2 : X.mg "reversed" = none) (he : PE X e te)
  (hs1 : starEach [.Call (.Name "reversed" p2) [e] [] pos2] X.env = (false, eval (.Call (.Name "reversed" p2) [e] [] pos2) X.env) :: starEach [] X.env := by rfl) (hs2 : starEach [e] X.env = (false, eval e X.env) :: starEach [] X.env := by rfl) :
  PE X (.Call (.Name "list" p1) [.Call (.Name "reversed" p2) [e] [] pos2] [] pos1) (tLR X.K te) := by
 intro pins s σ H Q I h
 refine wpAny_Call_Name_kw (ld_blt I hg1 hm1 bT_list0 (PyProof.Rows.callWith_type1 ?_ hs1 rfl))
 rw [hs1]
 show wpAny _ _ (spliced ((false, eval _ X.env) :: backTo pos1 (starEach [] X.env))) _ _ s
 refine Calls.spliced_cons (wpAny_Call_Name_kw (ld_blt I hg2 hm2 bT_rev0 (PyProof.Rows.callWith_type1 ?_ hs2 rfl)))
 rw [hs2]
 show wpAny _ _ (spliced ((false, eval _ X.env) :: backTo pos2 (starEach [] X.env))) _ _ s
 refine Calls.spliced_cons (thn (he pins s σ H _ I h) fun u s1 ⟨x, H1, I1, r1, a, xs, ex, hq, q⟩ => Calls.spliced_nil ?_)
 subst ex
 cases (show u = Value.ref a from r1)
 obtain ⟨its, rv, pl, hz⟩ := I1.list hq
 refine call_reversed_list pl.isList (Calls.spliced_nil ?_)
 have hlen := rv.length
 have kp : ∀ b o, s1.heap.get? b = some o → (s1.heap.push (revObj a ((its.toArray.size : Int) - 1))).get? b = some o := fun b o q => Heap.get?_push_of_some _ q
 have I2 : Inv X pins σ H1 { s1 with heap := s1.heap.push (revObj a ((its.toArray.size : Int) - 1)) } := I1.kept (t' := s1.toks) kp
 have hR : (s1.heap.push (revObj a ((its.toArray.size : Int) - 1))).get? s1.heap.objs.size = some (revObj a ((its.toArray.size : Int) - 1)) := Heap.get?_push_size _ rfl
 have hp := I1.fpOk (Nat.le_refl _) (I1.hok.fresh (Nat.le_refl s1.heap.objs.size))
 obtain ⟨o, n, ho, hoc, hod, hos⟩ := pl
 have lt : a < s1.heap.objs.size := Heap.lt_size ho
 refine call_list_rev (s := { s1 with heap := s1.heap.push (revObj a ((its.toArray.size : Int) - 1)) }) (I := s1.heap.objs.size) (l := a) (items := its.toArray) (I.ok.hd hc) (Nat.ne_of_lt lt) ⟨_, hR, rfl, rfl⟩ ⟨o, kp a o ho, hoc, n, hos⟩ (by rw [List.size_toArray]; omega) fun s' acc c' k1 k2 k3 k4 k5 k6 => ?_
 have ev := vals_rev rv k6
 have hsz : (s1.heap.push (revObj a ((its.toArray.size : Int) - 1))).objs.size = s1.heap.objs.size + 1 := by simp [Heap.push]
 have hH : H1 (s1.heap.objs.size + 1) = none := I2.hok.fresh (a := s1.heap.objs.size + 1) (by show (s1.heap.push _).objs.size ≤ _; rw [hsz]; exact Nat.le_refl _)
 rw [show ({ s1 with heap := s1.heap.push (revObj a ((its.toArray.size : Int) - 1)) } : Shared).heap.objs.size = s1.heap.objs.size + 1 from hsz] at k5 ⊢
 obtain ⟨f0, f1, f2, f3, f4, f5⟩ := hp
 have keep : ∀ b o, b ∉ [s1.heap.objs.size] → (s1.heap.push (revObj a ((its.toArray.size : Int) - 1))).get? b = some o → s'.heap.get? b = some o := fun b o hb q => k1 b o (fun z => hb (by rw [z]; exact .head _)) q
 have trk : ∀ b o, H1 b = some o → b ∉ [s1.heap.objs.size] := fun b o q hb => by rw [List.mem_singleton.mp hb, f0] at q; cases q
 have nn : ∀ b o, H1 b = some o → b ≠ s1.heap.objs.size + 1 := fun b o q z => by rw [z, hH] at q; cases q
 refine ⟨.ref (s1.heap.objs.size + 1), upd H1 (s1.heap.objs.size + 1) (.lst xs.reverse), ?_, rfl, q _ hH⟩
 have st := Inv.step (X := X) (pins := pins) (σ := σ) (H := H1) (s := { s1 with heap := s1.heap.push (revObj a ((its.toArray.size : Int) - 1)) }) (H' := upd H1 (s1.heap.objs.size + 1) (.lst xs.reverse)) (h' := s'.heap) (g' := s1.gens) (d' := s1.drawn) (t' := s'.toks) (ch := [s1.heap.objs.size]) I2 (fun b hb => by rw [List.mem_singleton.mp hb]; exact ⟨f3, f1, f4, f5⟩) (fun b o _ _ hb q _ => keep b o hb q) (fun b o _ _ hb q _ => ⟨o.slots, keep b o hb q⟩)
  (fun b o _ q n => by rw [upd_ne (fun z => by have := Heap.lt_size q; rw [z] at this; exact absurd (show s1.heap.objs.size + 1 < s1.heap.objs.size + 1 by rw [← hsz]; exact hsz ▸ this) (Nat.lt_irrefl _))]; exact n) (fun b o hb q => ⟨o, keep b o hb q⟩)
  (fun b ys q => by rw [upd_ne (nn b _ q)]; exact q) (fun b o v q => by rw [upd_ne (nn b _ q)]; exact q) (fun b ps q => ⟨#[], by rw [upd_ne (nn b _ q), q]; simp⟩) (fun m hm => by
   obtain ⟨o, es, ep, ho, r⟩ := hm
   exact ⟨o, es, ep, keep _ o (fun z => f1 (List.mem_singleton.mp z).symm) ho, r⟩) (fun b v q => by
   by_cases hb : b = s1.heap.objs.size + 1
   ·subst hb
    rw [upd_same] at q
    cases q
    refine ⟨by rw [List.length_reverse]; exact hz, its.reverse, c', vals_reverse rv, ?_⟩
    rw [k5, ← ev]
   ·rw [upd_ne hb] at q
    refine (I2.hok b v q).stay (fun c w' hc q' => keep c w' ?_ q') (fun c q' => ?_) fun c ys q' => ?_
    ·rcases hc with z | z
     ·rw [z]; exact trk b v q
     ·exact trk c _ z
    ·rw [upd_ne (nn c _ q')]; exact q'
    ·rw [upd_ne (nn c _ q')]; exact q') I1.bare
 have es : s' = { heap := s'.heap, gens := s1.gens, drawn := s1.drawn, toks := s'.toks, os := s1.os } := by
  cases s'
  cases k2
  cases k3
  cases k4
  rfl
 rw [es]
 exact st
end
end L2
namespace M
open PySem PySem.Spec PyProof.Rows L2
def revE (x : Ev) : Res Ev := match lstOf x with
 | some ds => .ok (.f (.list ds.reverse))
 | none => .bad
theorem de_listrev {X : Cx} {E : L2.St → XK} {e : Expr} {fe : En → Res Ev} {p1 p2 pos1 pos2 : Pos} (hc : X.calm = true) (hg1 : Gl X "list") (hm1 : X.mg "list" = none) (hg2 : Gl X "reversed") (hm2 : X.mg "reversed" = none) (he : DE X E e fe)
  (hs1 : starEach [.Call (.Name "reversed" p2) [e] [] pos2] X.env = (false, eval (.Call (.Name "reversed" p2) [e] [] pos2) X.env) :: starEach [] X.env := by rfl) (hs2 : starEach [e] X.env = (false, eval e X.env) :: starEach [] X.env := by rfl) :
  DE X E (.Call (.Name "list" p1) [.Call (.Name "reversed" p2) [e] [] pos2] [] pos1) (mUn revE fe) := by
 obtain ⟨t, q, m⟩ := he.out
 refine DE.in ⟨_, pe_listrev hc hg1 hm1 hg2 hm2 q hs1 hs2, fun B G0 G W H σ en Q hh hs hw => m B G0 G W H σ en _ hh hs ?_⟩
 have hw : wpR ((fe en).bind _) _ _ := hw
 rw [wpR_bind] at hw
 refine wpR_mono hw (fun r hr G1 H1 v s e => ?_) fun C h => h
 obtain ⟨G2, s2, e2⟩ := e.c s
 unfold revE at hr
 cases el : lstOf r.c with
 | none => rw [el] at hr; exact hr.elim
 | some ds =>
  rw [el] at hr
  obtain ⟨a, xs, rfl, h1, h2⟩ := lst_at s2.gh e2 el
  refine ⟨a, xs, rfl, .inl h1, fun l hl => ?_⟩
  exact hr G2 _ _ (s2.trans (Step.lay s2.gh hl)) ⟨l, _, rfl, s2.h.free hl, s2.gh.free hl, upd_same, .lst h2.rev⟩
end M

namespace L2
open PySem PySem.Spec PyProof.Rows
section
variable {X : Cx}
def maxL (i : Int) (is : List Int) : Int := is.foldl (fun a b => if a < b then b else a) i
def rMaxL (K : PySem.W.Frag) : List V → Hp → VK → Prop := fun xs H Q => ∃ a i is, xs = [.ref a] ∧ SqL K H a ((i :: is).map V.int) ∧ Q (.int (maxL i is)) H
theorem vals_intsT : ∀ {is : List Int} {us : List Value}, Vals (is.map V.int) us → ∃ ts : List (Int × Tok), us = ts.map (fun p => Value.int p.1 p.2) ∧ ts.map (·.1) = is
 | [], _, .nil => ⟨[], rfl, rfl⟩
 | i :: is, _, .cons r t => by
  obtain ⟨tk, e⟩ := r
  obtain ⟨ts, e1, e2⟩ := vals_intsT t
  refine ⟨(i, tk) :: ts, ?_, ?_⟩
  ·rw [e, e1]; rfl
  ·rw [List.map_cons, e2]
theorem argBest_maxL (f : Nat → Int) : ∀ k, f (argBest (fun i j => decide (f i > f j)) k) = maxL (f 0) ((List.range k).map fun j => f (j + 1))
 | 0 => rfl
 | k + 1 => by
  have ih := argBest_maxL f k
  unfold maxL at ih ⊢
  rw [List.range_succ, List.map_append, List.foldl_append, ← ih]
  show f (if decide (f (k + 1) > f (argBest (fun i j => decide (f i > f j)) k)) = true then k + 1 else argBest (fun i j => decide (f i > f j)) k) = if f (argBest (fun i j => decide (f i > f j)) k) < f (k + 1) then f (k + 1) else f (argBest (fun i j => decide (f i > f j)) k)
  by_cases h : f (argBest (fun i j => decide (f i > f j)) k) < f (k + 1)
  ·rw [if_pos h, if_pos (decide_eq_true h)]
  ·rw [if_neg h, if_neg (by simpa using h)]
theorem call_maxL (hc : X.calm = true) {K : PySem.W.Frag} (hK : X.K = K) : CallR X (.builtin "max") (rMaxL K) := by
 subst hK
 intro pins s σ H xs us Q I r h
 obtain ⟨a, i, is, rfl, hq, q⟩ := h
 obtain ⟨u, rfl, ru⟩ := vals1 r
 cases ru
 obtain ⟨its, rv, p, hz⟩ := I.list hq
 obtain ⟨ts, e1, e2⟩ := vals_intsT rv
 have hn : ts.length = is.length + 1 := by
  have := congrArg List.length e2
  rw [List.length_map, List.length_cons] at this
  exact this
 have hl : s.heap.IsList a (intItems ts.toArray) := by
  have h := p.isList
  rw [e1] at h
  simpa [intItems] using h
 have num : ∀ j, numAt ts.toArray j = ((i :: is)[j]?).getD 0 := fun j => by
  rw [← e2]
  simp [numAt]
 refine max_intList (A := X.A) (I.ok.hd hc) hl (by simp; omega) fun v h' tk hP hk => ⟨.int (maxL i is), H, I.kept hk, ?_, q⟩
 obtain ⟨t, rfl⟩ := intItems_at hP
 refine ⟨t, ?_⟩
 rw [argBest_maxL (numAt ts.toArray)]
 have e0 : numAt ts.toArray 0 = i := by rw [num]; rfl
 have e3 : ((List.range (ts.toArray.size - 1)).map fun j => numAt ts.toArray (j + 1)) = is := by
  rw [List.size_toArray, hn, Nat.add_sub_cancel]
  apply List.ext_getElem
  ·simp
  ·intro j h1 h2
   simp [num, h2]
 rw [e0, e3]
end
end L2
namespace M
open PySem PySem.Spec PyProof.Rows L2
variable {K : PySem.W.Frag}
def intsOf : List D → Option (List Int)
 | [] => some []
 | .int b :: ds => match intsOf ds with
  | some bs => some (b :: bs)
  | none => none
 | _ => none
theorem intsOf_map : ∀ is : List Int, intsOf (is.map .int) = some is
 | [] => rfl
 | i :: is => by
  show (match intsOf (is.map .int) with | some bs => some (i :: bs) | none => none) = _
  rw [intsOf_map is]
theorem ints_reps {G : Hp} : ∀ {ds : List D} {bs : List Int} {xs : List V}, intsOf ds = some bs → Reps K G xs ds → xs = bs.map V.int
 | [], _, _, h, .nil => by cases h; rfl
 | d :: ds, bs, _, h, .cons r t => by
  cases d with
  | int b =>
   unfold intsOf at h
   cases e : intsOf ds with
   | none => rw [e] at h; cases h
   | some bs' =>
    rw [e] at h
    cases h
    cases r
    rw [ints_reps e t]
    rfl
  | _ => cases h
def maxE (rs : List Ev) : Res Ev := match rs with
 | [x] => match lstOf x with
  | some ds => match intsOf ds with
   | some (i :: is) => .ok (.p (.int (maxL i is)))
   | _ => .bad
  | none => .bad
 | _ => .bad
theorem noX_max : NoXs maxE := by
 intro rs C h
 unfold maxE at h
 split at h
 ·split at h
  ·split at h <;> cases h
  ·cases h
 ·cases h
theorem cm_maxL : CallM K (rMaxL K) maxE := by
 intro W Hs G H vs rs Q gh he hw
 unfold maxE at hw
 split at hw
 ·rename_i x
  match vs, he with
  | [v], ⟨h1, _⟩ =>
   split at hw
   ·rename_i ds ed
    obtain ⟨a, xs, rfl, k1, k2⟩ := lst_at gh h1 ed
    split at hw
    ·rename_i i is eb
     have := ints_reps eb k2
     subst this
     exact ⟨a, i, is, rfl, .inl k1, hw G H _ (Step.refl gh) (.int _)⟩
    ·exact hw.elim
   ·exact hw.elim
 ·exact hw.elim
end M

namespace L2
open PySem PySem.Spec PyProof.Rows
section
variable {X : Cx} {tg : Expr}
end
end L2
namespace M
open PySem PySem.Spec PyProof.Rows L2
section
variable {X : Cx} {E : L2.St → XK} {pos : Pos}
end
end M
namespace L2
open PySem PySem.Spec PyProof.Rows M
section
variable {X : Cx}
end
end L2
namespace M
open PySem PySem.Spec PyProof.Rows L2
variable {K : PySem.W.Frag}
end M

namespace L2
open PySem PySem.Spec PyProof.Rows
end L2
namespace M
open PySem PySem.Spec PyProof.Rows L2
section
variable {X : Cx} {E : L2.St → XK}
end
variable {K : PySem.W.Frag}
end M

namespace L2
open PySem PySem.Spec PyProof.Rows M
section
variable {X : Cx}
end
end L2
namespace M
open PySem PySem.Spec PyProof.Rows L2
variable {K : PySem.W.Frag}
end M

namespace L2
open PySem PySem.Spec PyProof.Rows
def CMulX (i j : Int) : Prop := CMulW i j ∨ CMul i j
theorem op_mulX {X : Cx} : OpR X (binaryOp .Mult) (rI CMulX fun i j => .int (i * j)) := opI fun _ _ _ _ _ _ _ hc q => mul_int q (hc.elim CMulW.ok CMul.ok)
end L2
namespace M
open PySem PySem.Spec PyProof.Rows L2
variable {K : PySem.W.Frag}
noncomputable abbrev mulXE : Ev → Ev → Res Ev := intE CMulX fun i j => .int (i * j)
theorem om_mulX : OpM K (rI CMulX fun i j => .int (i * j)) mulXE := om_int fun _ _ _ => .int _
theorem mulX_ok {i j : Int} (h : CMulX i j) : mulXE (.p (.int i)) (.p (.int j)) = .ok (.p (.int (i * j))) := by simp [intE, h]
theorem mulX_r {i j : Int} (h1 : -(2 ^ 64) < j) (h2 : j < 2 ^ 64) : mulXE (.p (.int i)) (.p (.int j)) = .ok (.p (.int (i * j))) := mulX_ok (.inr (.inr ⟨h1, h2⟩))
end M

namespace L2
open PySem PySem.Spec PyProof.Rows M SRT
section
variable {prog : Program} {w : World} {A : Around} {E : Value → Shared → Prop} {s : Shared}
end
section
variable {X : Cx}
end
end L2
namespace M
open PySem PySem.Spec PyProof.Rows L2 SRT
variable {K : PySem.W.Frag}
end M

namespace L2
open PySem PySem.Spec PyProof.Rows
section
variable {X : Cx} {CX : CXT} {k : Nat} {f : Addr} {fd : FuncData} {ps : List Str} {sp : Sp} {E : St → XK} {x : Str} {p pos : Pos}
end
end L2
namespace M
open PySem PySem.Spec PyProof.Rows L2
section
variable {X : Cx} {E : L2.St → XK} {k j : Nat} {x : Str} {p pos : Pos} {n : Nat} {m : List L → Res L}
end
end M

namespace L2
open PySem PySem.Spec PyProof.Rows
section
variable {X : Cx} {pos : Pos}
end
end L2
namespace M
open PySem PySem.Spec PyProof.Rows L2
section
variable {X : Cx} {E : L2.St → XK} {pos : Pos}
end
end M

namespace L2
open PySem PySem.Spec PyProof.Rows
section
variable {X : Cx}
def rSum (K : PySem.W.Frag) : List V → Hp → VK → Prop := fun xs H Q => ∃ (a : Addr) (is : List Int), xs = [.ref a] ∧ SqL K H a (is.map V.int) ∧ Q (.int is.sum) H
theorem preSum_sum (f : Nat → Int) : ∀ (is : List Int), (∀ j, j < is.length → f j = (is[j]?).getD 0) → preSum f is.length = is.sum := by
 have gen : ∀ (n : Nat) (is : List Int), is.length = n → (∀ j, j < is.length → f j = (is[j]?).getD 0) → preSum f n = is.sum := by
  intro n
  induction n with
  | zero =>
   intro is h _
   rw [List.length_eq_zero_iff.mp h]
   rfl
  | succ n ih =>
   intro is h hj
   have hne : is ≠ [] := fun z => by rw [z] at h; cases h
   have e : is = is.dropLast ++ [is.getLast hne] := (List.dropLast_concat_getLast hne).symm
   have hl : is.dropLast.length = n := by rw [List.length_dropLast]; omega
   have h1 := ih is.dropLast hl fun j hj' => by
    rw [hj j (by omega)]
    conv => lhs; rw [e]
    rw [List.getElem?_append_left hj']
   show preSum f n + f n = is.sum
   rw [h1, hj n (by omega)]
   conv => rhs; rw [e, List.sum_append]
   conv => lhs; rw [e]
   rw [List.getElem?_append_right (by omega), hl]
   simp
 exact fun is hj => gen _ is rfl hj
theorem call_sumL (hc : X.calm = true) {K : PySem.W.Frag} (hK : X.K = K) : CallR X (.builtin "sum") (rSum K) := by
 subst hK
 intro pins s σ H xs us Q I r h
 obtain ⟨a, is, rfl, hq, q⟩ := h
 obtain ⟨u, rfl, ru⟩ := vals1 r
 cases ru
 obtain ⟨its, rv, p, hz⟩ := I.list hq
 obtain ⟨ts, e1, e2⟩ := vals_intsT rv
 have hl : s.heap.IsList a (intItems ts.toArray) := by
  have h := p.isList
  rw [e1] at h
  simpa [intItems] using h
 have hn : ts.length = is.length := by
  have := congrArg List.length e2
  rw [List.length_map] at this
  exact this
 have num : ∀ j, numAt ts.toArray j = (is[j]?).getD 0 := fun j => by
  rw [← e2]
  simp [numAt]
 refine sum_intListG (A := X.A) (I.ok.hd hc) hl fun h' tk t' hk => ⟨.int is.sum, H, I.kept hk, ?_, q⟩
 refine ⟨t', ?_⟩
 rw [List.size_toArray, hn, preSum_sum _ is fun j _ => num j]
theorem vals_intsAre : ∀ {is : List Int} {us : List Value}, Vals (is.map V.int) us → IntsAre us is
 | [], _, .nil => .nil
 | i :: is, _, .cons r t => by
  obtain ⟨tk, e⟩ := r
  rw [e]
  exact .cons i tk (vals_intsAre t)
def rCount (K : PySem.W.Frag) : V → List V → Hp → VK → Prop := fun x vs H Q => ∃ (a : Addr) (k : Int) (is : List Int), x = .ref a ∧ vs = [.int k] ∧ SqL K H a (is.map V.int) ∧ Q (.int (is.count k : Nat)) H
theorem mt_count {K : PySem.W.Frag} (hK : X.K = K) : MtR X "list.count" (rCount K) := by
 subst hK
 intro pins s σ H x vs v us Q I rx rv h
 obtain ⟨a, k, is, rfl, rfl, hq, q⟩ := h
 cases rx
 obtain ⟨u, rfl, t, rfl⟩ := vals1 rv
 obtain ⟨its, r', p, hz⟩ := I.list hq
 exact count_list_ints p.isList (vals_intsAre r') ⟨.int (is.count k : Nat), H, I.tok _, ⟨_, rfl⟩, q⟩
def rIndex (K : PySem.W.Frag) : V → List V → Hp → VK → Prop := fun x vs H Q => ∃ (a : Addr) (k : Int) (is : List Int), x = .ref a ∧ vs = [.int k] ∧ SqL K H a (is.map V.int) ∧ k ∈ is ∧ Q (.int (is.idxOf k : Nat)) H
theorem mt_index {K : PySem.W.Frag} (hK : X.K = K) : MtR X "list.index" (rIndex K) := by
 subst hK
 intro pins s σ H x vs v us Q I rx rv h
 obtain ⟨a, k, is, rfl, rfl, hq, hk, q⟩ := h
 cases rx
 obtain ⟨u, rfl, t, rfl⟩ := vals1 rv
 obtain ⟨its, r', p, hz⟩ := I.list hq
 have hi := vals_intsAre r'
 obtain ⟨⟨cls, dd, data, sl⟩, ho, hc, n, hd⟩ := p.isList
 simp only at hc hd
 subst hc hd
 have hlen := hi.length
 have hj : is.idxOf k < is.length := List.idxOf_lt_length_iff.mpr hk
 have hz' : is.length ≤ sizeLine := by simpa using hz
 have hn := line63
 refine call_meets PySem.F.slot_list_index ⟨_, ho, rfl⟩ PySem.F.entry_list_index (PySem.F.args_list_index_2 _ _)
  (SeqAt.list_indexAt a its.toArray n dd sl (.int k t) (isInt k) (is.idxOf k) (by simpa [hlen] using hj) (by omega) ?_ ?_) ⟨ho, fun y hy => (eq_isInt k t hi y (by simpa using hy)).at _ _, ⟨.int (is.idxOf k : Nat), H, I.tok _, ⟨_, rfl⟩, q⟩⟩
 ·show isInt k its[is.idxOf k] = true
  rw [isInt_at k hi _ (by omega) hj]
  simpa using List.getElem_idxOf hj
 ·intro j hjs hlt
  show isInt k its[j] = false
  rw [isInt_at k hi j (by simpa using hjs) (by omega)]
  exact ne_of_lt_idxOf hlt _
end
end L2
namespace M
open PySem PySem.Spec PyProof.Rows L2
section
variable {K : PySem.W.Frag}
def sumE (rs : List Ev) : Res Ev := match rs with
 | [x] => match lstOf x with
  | some ds => match intsOf ds with
   | some is => .ok (.p (.int is.sum))
   | none => .bad
  | none => .bad
 | _ => .bad
theorem noX_sum : NoXs sumE := by
 intro rs C h
 unfold sumE at h
 split at h
 ·split at h
  ·split at h <;> cases h
  ·cases h
 ·cases h
theorem cm_sum : CallM K (rSum K) sumE := by
 intro W Hs G H vs rs Q gh he hw
 unfold sumE at hw
 split at hw
 ·rename_i x
  match vs, he with
  | [v], ⟨h1, _⟩ =>
   split at hw
   ·rename_i ds ed
    obtain ⟨a, xs, rfl, k1, k2⟩ := lst_at gh h1 ed
    split at hw
    ·rename_i is eb
     have := ints_reps eb k2
     subst this
     exact ⟨a, is, rfl, .inl k1, hw G H _ (Step.refl gh) (.int _)⟩
    ·exact hw.elim
   ·exact hw.elim
 ·exact hw.elim
def countE (x y : Ev) : Res Ev := match y with
 | .p (.int k) => match lstOf x with
  | some ds => match intsOf ds with
   | some is => .ok (.p (.int (is.count k : Nat)))
   | none => .bad
  | none => .bad
 | _ => .bad
def indexE (x y : Ev) : Res Ev := match y with
 | .p (.int k) => match lstOf x with
  | some ds => match intsOf ds with
   | some is => if k ∈ is then .ok (.p (.int (is.idxOf k : Nat))) else .bad
   | none => .bad
  | none => .bad
 | _ => .bad
theorem noX_count : NoX countE := by
 intro x y C h
 unfold countE at h
 split at h
 ·split at h
  ·split at h <;> cases h
  ·cases h
 ·cases h
theorem noX_index : NoX indexE := by
 intro x y C h
 unfold indexE at h
 split at h
 ·split at h
  ·split at h
   ·split at h <;> cases h
   ·cases h
  ·cases h
 ·cases h
theorem om_count : OpM K (fun v u H Q => rCount K v [u] H Q) countE := by
 intro W G H v u x y Q gh hx hy hw
 unfold countE at hw
 split at hw
 ·rename_i k ey
  rw [ey] at hy
  cases hy
  split at hw
  ·rename_i ds ed
   obtain ⟨a, xs, rfl, k1, k2⟩ := lst_at gh hx ed
   split at hw
   ·rename_i is eb
    have := ints_reps eb k2
    subst this
    exact ⟨a, k, is, rfl, rfl, .inl k1, hw G H _ (Step.refl gh) (.int _)⟩
   ·exact hw.elim
  ·exact hw.elim
 ·exact hw.elim
theorem om_index : OpM K (fun v u H Q => rIndex K v [u] H Q) indexE := by
 intro W G H v u x y Q gh hx hy hw
 unfold indexE at hw
 split at hw
 ·rename_i k ey
  rw [ey] at hy
  cases hy
  split at hw
  ·rename_i ds ed
   obtain ⟨a, xs, rfl, k1, k2⟩ := lst_at gh hx ed
   split at hw
   ·rename_i is eb
    split at hw
    ·rename_i hk
     have := ints_reps eb k2
     subst this
     exact ⟨a, k, is, rfl, rfl, .inl k1, hk, hw G H _ (Step.refl gh) (.int _)⟩
    ·exact hw.elim
   ·exact hw.elim
  ·exact hw.elim
 ·exact hw.elim
end
def mMt (op : Ev → Ev → Res Ev) (fo fe : En → Res Ev) : En → Res Ev := fun en => (fo en).bind fun x => if (lstOf x.c).isSome = true then (fe en).bind fun y => op x.c y.c else .bad
theorem de_mt {X : Cx} {E : L2.St → XK} {o e : Expr} {fo fe : En → Res Ev} {name : Str} {id : String} {apos cpos : Pos} {r : V → List V → Hp → VK → Prop} {f : Ev → Ev → Res Ev} (slot : PySem.Slot "list" name id) (hty : typeOf (.builtin id) = pure (.type "method_descriptor")) (hm : MtR X id r) (hM : OpM X.K (fun v u H Q => r v [u] H Q) f) (hn : NoX f) (ho : DE X E o fo) (ha : DE X E e fe)
  (hbase : attributeBase o name X.env (eval o X.env) = eval o X.env := by rfl)
  (hfew : ((backTo cpos (starEach [e] X.env)).all (fun x => !x.1) && (backToKw cpos (keywordEach [] X.env)).all (fun x => x.1.isSome)
   && decide ([e].length + ([] : List Keyword).length + (if ([] : List Keyword).isEmpty then 0 else 1) < 30)) = true := by rfl)
  (hline : (apos.endLine == cpos.line) = true := by rfl) (hs : starEach [e] X.env = (false, eval e X.env) :: starEach [] X.env := by rfl) (hplain : (backTo cpos (starEach [] X.env)).any (·.1) = false := by rfl) :
  DE X E (.Call (.Attribute o name apos) [e] [] cpos) (mMt f fo fe) := by
 obtain ⟨to, po, mo⟩ := ho.out
 obtain ⟨te, pe, me⟩ := ha.out
 refine DE.in ⟨_, pe_bm PySem.F.plainAttrs_list slot hty hm po (pa_cons pe pa_nil hs) hbase hfew hline hs hplain, fun B G0 G W H σ en Q hh hs' hw => ?_⟩
 refine mo B G0 G W H σ en _ hh hs' (DE.go hw fun x G1 H1 v s1 e1 h1 => ?_)
 split at h1
 ·rename_i hx
  obtain ⟨ds, ed⟩ := Option.isSome_iff_exists.mp hx
  obtain ⟨a, xs, rfl, k1, k2⟩ := lst_at s1.gh e1 ed
  refine ⟨.inl ⟨rfl, xs, .inl k1⟩, ?_⟩
  refine me B G0 G1 W H1 σ en _ (hh.step s1) (hs'.step s1) (DE.go h1 fun y G2 H2 u s2 e2 h2 => ?_)
  exact hM W G2 H2 (.ref a) u x y Q s2.gh (e1.step s2) (by cases y <;> exact e2) (noX h2 (hn _ _))
 ·exact h1.elim
end M
namespace L2
open PySem PySem.Spec PyProof.Rows
section
variable {X : Cx}
def rExtR : V → List V → Hp → VK → Prop := fun x vs H Q => ∃ l b xs zs, x = .ref l ∧ vs = [.ref b] ∧ H l = some (.lst xs) ∧ Rd H b (.lst zs) ∧ xs.length + zs.length ≤ sizeLine ∧ Q .non (upd H l (.lst (xs ++ zs)))
theorem mt_extR : MtM X "list.extend" rExtR := by
 intro pins s σ H x vs v us Q I rx rv h
 obtain ⟨l, b, xs, zs, rfl, rfl, hH, hB, hz, q⟩ := h
 cases rx
 obtain ⟨u, rfl, ru⟩ := rv.one
 cases ru
 obtain ⟨z, its, n, r, hl, e⟩ := I.lstM hH
 obtain ⟨z2, its2, n2, r2, e2⟩ := hB.ok I.hok
 have hl2 := r2.length
 have hsz : its.toArray.size + its2.toArray.size ≤ sizeLine := by rw [List.size_toArray, List.size_toArray]; omega
 have hlong : ¬ (!its.toArray.isEmpty && Builtin.List.listTooLong (its.toArray.size + its2.toArray.size)) = true := by
  rw [notLongL hsz, Bool.and_false]
  exact Bool.false_ne_true
 refine call_meets F.slot_list_extend ⟨_, e, rfl⟩ F.entry_list_extend (F.args_list_extend_2 _ _)
  (AutoSeq1.list_extend_list_list_0 l its.toArray n b its2.toArray n2 hlong (by rw [List.size_toArray]; omega) (by omega)) ⟨e, e2, ?_⟩
 refine ⟨.non, _, I.lset (its' := its ++ its2) hH e (by simp) (r.append r2) ?_, rfl, q⟩
 rw [List.length_append]
 omega
end
end L2
namespace M
open PySem PySem.Spec PyProof.Rows L2
def mExtP (i : Nat) (fe : En → Res Ev) : MS := fun en => match en[i]? with
 | some (some (.o (.list ds))) => match fe en with
  | .ok (.p (.list es)) => if ds.length + es.length ≤ 100000 then some (.nx (en.set i (some (.o (.list (ds ++ es)))))) else none
  | .exc C => some (.ex C en)
  | _ => none
 | _ => none
theorem ds_extP {X : Cx} {E : L2.St → XK} {e : Expr} {i : Nat} {fe : En → Res Ev} {st : Stmt} (he : DE X E e fe) (hp : ∀ t, PE X e t → PS X st (tDrop (tBM X.K "list" rExtR (tVar i) (tCons t tNil)))) : DS X E st (mExtP i fe) := by
 obtain ⟨t, q, mm⟩ := he.out
 refine DS.in ⟨_, hp t q, fun B G0 G W H σ en Dn hh hs hw => ?_⟩
 unfold mExtP at hw
 split at hw
 ·rename_i ds ei
  obtain ⟨v, e1, a, o, rfl, e2, e3, e4⟩ := hs.2 i _ ei
  cases e4 with
  | @lst xs _ rp =>
  refine ⟨_, e1, .inl ⟨rfl, _, SqL.of e3⟩, mm B G0 G W H σ en _ hh hs ?_⟩
  cases ef : fe en with
  | bad => rw [ef] at hw; exact hw
  | exc C => rw [ef] at hw; exact fun G1 H1 s => hw G1 W H1 σ (hh.step s) (hs.step s)
  | ok r =>
   rw [ef] at hw
   cases r with
   | f d => exact hw.elim
   | b d => exact hw.elim
   | x C => exact hw.elim
   | p d =>
    cases d with
    | list es =>
     dsimp only at hw
     split at hw
     ·rename_i hl
      intro G1 H1 y s ey
      cases ey with
      | @lst b zs _ k3 rz =>
      have hx := s.h _ _ e3
      refine ⟨a, b, xs, zs, rfl, rfl, hx, rd_mono s.gh k3, Nat.le_trans (by rw [rp.length, rz.length]; exact hl) (by decide), ?_⟩
      obtain ⟨w1, w2⟩ := write_ok (o' := .lst (xs ++ zs)) (d' := .list (ds ++ es)) (hh.step s) (hs.step s) e2 e1 (.lst ((rp.mono s.g).append rz))
      exact hw _ _ _ _ w1 w2
     ·exact hw.elim
    | _ => exact hw.elim
 ·exact hw.elim
end M

namespace L2
open PySem PySem.Spec PyProof.Rows
section
variable {prog : Program} {w : World} {A : Around} {E : Value → Shared → Prop} {s : Shared}
end
def hIJ (i j : Int) : Int := reduceHash (Builtin.Tuple.tupleHashOf [hashInt i, hashInt j])
theorem hIJ_nd : ((List.range 81).map fun n : Nat => hIJ ((n / 9 : Nat) : Int) ((n % 9 : Nat) : Int)).Nodup := by decide +kernel
theorem nd_at {α : Type} {f : Nat → α} {n : Nat} (h : ((List.range n).map f).Nodup) {a b : Nat} (ha : a < n) (hb : b < n) (e : f a = f b) : a = b := by
 have p := List.pairwise_iff_getElem.mp h
 rcases Nat.lt_trichotomy a b with z | z | z
 ·have := p a b (by simpa using ha) (by simpa using hb) z
  simp at this
  exact absurd e this
 ·exact z
 ·have := p b a (by simpa using hb) (by simpa using ha) z
  simp at this
  exact absurd e.symm this
theorem hIJ_inj {i j k l : Int} (hi : 0 ≤ i ∧ i ≤ 8) (hj : 0 ≤ j ∧ j ≤ 8) (hk : 0 ≤ k ∧ k ≤ 8) (hl : 0 ≤ l ∧ l ≤ 8) (e : hIJ i j = hIJ k l) : i = k ∧ j = l := by
 have q : ∀ {a b : Int}, (0 ≤ a ∧ a ≤ 8) → (0 ≤ b ∧ b ≤ 8) → (((9 * a + b).toNat / 9 : Nat) : Int) = a ∧ (((9 * a + b).toNat % 9 : Nat) : Int) = b := fun h1 h2 => by omega
 have e1 := q hi hj
 have e2 := q hk hl
 have := nd_at hIJ_nd (a := (9 * i + j).toNat) (b := (9 * k + l).toNat) (by omega) (by omega) (by
  show hIJ _ _ = hIJ _ _
  rw [e1.1, e1.2, e2.1, e2.2]
  exact e)
 omega
theorem hIJ_key (P : Program) (w : World) (i j : Int) : tupleKeyHash (mixKind P w) [Sum.inl i, Sum.inl j] = hIJ i j := congrArg (fun l => reduceHash (Builtin.Tuple.tupleHashOf l)) (show ([Sum.inl i, Sum.inl j] : List Key).map (mixKind P w).hash = [hashInt i, hashInt j] from rfl)
theorem hT_box (P : Program) (w : World) {i j k l : Int} (hi : 0 ≤ i ∧ i ≤ 8) (hj : 0 ≤ j ∧ j ≤ 8) (hk : 0 ≤ k ∧ k ≤ 8) (hl : 0 ≤ l ∧ l ≤ 8) (e : tupleKeyHash (mixKind P w) [Sum.inl i, Sum.inl j] = tupleKeyHash (mixKind P w) [Sum.inl k, Sum.inl l]) : i = k ∧ j = l := hIJ_inj hi hj hk hl ((hIJ_key P w i j).symm.trans (e.trans (hIJ_key P w k l)))
section
variable {X : Cx}
end
end L2
namespace M
open PySem PySem.Spec PyProof.Rows L2
section
variable {K : PySem.W.Frag}
def small2 : List Int → Bool
 | [i, j] => decide (0 ≤ i ∧ i ≤ 8) && decide (0 ≤ j ∧ j ≤ 8)
 | _ => false
end
end M

namespace L2
open PySem PySem.Spec PyProof.Rows
section
variable {X : Cx}
end
end L2
namespace M
open PySem PySem.Spec PyProof.Rows L2
variable {K : PySem.W.Frag}
end M

namespace L2
open PySem PySem.Spec PyProof.Rows
section
variable {X : Cx}
end
end L2
namespace M
open PySem PySem.Spec PyProof.Rows L2
section
variable {X : Cx} {E : L2.St → XK} {sts rest A : List Stmt} {st : Stmt} {fA g : MS} {fe : En → Res Ev} {fc : En → Res Bool} {e c : Expr} {pos pos2 : Pos}
end
end M

namespace L2
open PySem
def lpN (mask : Nat) (i p : Nat) : Nat → Nat × Nat
 | 0 => (i, p)
 | m + 1 => lpN mask (SetTable.leap mask i p).1 (SetTable.leap mask i p).2 m
theorem lpN_add (mask : Nat) : ∀ (a b i p : Nat), lpN mask i p (a + b) = lpN mask (lpN mask i p a).1 (lpN mask i p a).2 b
 | 0, b, i, p => by rw [Nat.zero_add]; rfl
 | a + 1, b, i, p => by
  rw [Nat.succ_add]
  show lpN mask _ _ (a + b) = _
  rw [lpN_add mask a b]
  rfl
theorem lpN_2 (mask : Nat) : ∀ (m i p : Nat), (lpN mask i p m).2 = p / 32 ^ m
 | 0, i, p => by simp [lpN]
 | m + 1, i, p => by
  show (lpN mask _ (p / 32) m).2 = _
  rw [lpN_2 mask m, Nat.div_div_eq_div_mul, Nat.pow_succ, Nat.mul_comm]
theorem lpN_1 (mask : Nat) : ∀ (m i p : Nat), i ≤ mask → (lpN mask i p m).1 ≤ mask
 | 0, i, p, h => h
 | m + 1, i, p, _ => by
  show (lpN mask ((i * 5 + 1 + p / 32) % (mask + 1)) (p / 32) m).1 ≤ mask
  exact lpN_1 mask m _ _ (Nat.le_of_lt_succ (Nat.mod_lt _ (Nat.succ_pos _)))
def orb (mask : Nat) : Nat → Nat → List Nat
 | 0, _ => []
 | n + 1, i => i :: orb mask n ((i * 5 + 1) % (mask + 1))
theorem orb_at (mask : Nat) : ∀ (n i q : Nat), q ∈ orb mask n i → ∃ m, m < n ∧ (lpN mask i 0 m).1 = q
 | n + 1, i, q, h => by
  rcases List.mem_cons.mp h with z | z
  ·exact ⟨0, Nat.succ_pos _, z.symm⟩
  ·obtain ⟨m, hm, e⟩ := orb_at mask n _ q z
   exact ⟨m + 1, Nat.succ_lt_succ hm, e⟩
def MaskOk (mask : Nat) : Prop := mask = 7 ∨ mask = 31
theorem orb_all {mask : Nat} (hm : MaskOk mask) {i q : Nat} (hi : i ≤ mask) (hq : q ≤ mask) : q ∈ orb mask (mask + 1) i := by
 have key : ∀ mask, MaskOk mask → (List.range (mask + 1)).all (fun i => (List.range (mask + 1)).all fun q => (orb mask (mask + 1) i).contains q) = true := by
  rintro _ (rfl | rfl) <;> decide +kernel
 have a := List.all_eq_true.mp (key mask hm) i (List.mem_range.mpr (Nat.lt_succ_of_le hi))
 have b := List.all_eq_true.mp a q (List.mem_range.mpr (Nat.lt_succ_of_le hq))
 exact List.contains_iff_mem.mp b
theorem lp_cover {mask : Nat} (hm : MaskOk mask) {i p q : Nat} (hi : i ≤ mask) (hp : p < 2 ^ 64) (hq : q ≤ mask) : ∃ m, m ≤ 13 + mask ∧ (lpN mask i p m).1 = q := by
 have e2 : (lpN mask i p 13).2 = 0 := by
  rw [lpN_2]
  exact Nat.div_eq_of_lt (Nat.lt_of_lt_of_le hp (by decide))
 obtain ⟨m, h1, h2⟩ := orb_at mask _ _ _ (orb_all hm (lpN_1 mask 13 i p hi) hq)
 refine ⟨13 + m, by omega, ?_⟩
 rw [lpN_add, e2]
 exact h2
theorem nd_len {α : Type} [DecidableEq α] : ∀ {l m : List α}, l.Nodup → (∀ x ∈ l, x ∈ m) → l.length ≤ m.length
 | [], m, _, _ => Nat.zero_le _
 | x :: l, m, h, s => by
  obtain ⟨h1, h2⟩ := List.nodup_cons.mp h
  have hx := s x (.head _)
  have q := nd_len (m := m.erase x) h2 fun y hy => (List.mem_erase_of_ne (show y ≠ x from fun z => h1 (by rw [← z]; exact hy))).mpr (s y (.tail _ hy))
  rw [List.length_erase_of_mem hx] at q
  have := List.length_pos_of_mem hx
  rw [List.length_cons]
  omega
theorem miss {mask : Nat} {l : List Nat} (h : l.length ≤ mask) : ∃ q, q ≤ mask ∧ q ∉ l := by
 by_cases z : ∀ q ∈ List.range (mask + 1), q ∈ l
 ·have := nd_len List.nodup_range z
  rw [List.length_range] at this
  omega
 ·obtain ⟨q, hq⟩ := Classical.not_forall.mp z
  obtain ⟨h1, h2⟩ := Classical.not_imp.mp hq
  exact ⟨q, Nat.le_of_lt_succ (List.mem_range.mp h1), h2⟩
theorem slot_free {t : SetTable} (hd : t.dummies = #[]) {j : Nat} (h : j ∉ t.place.toList) : t.slot j = .empty := by
 unfold SetTable.slot SetTable.has
 rw [hd]
 dsimp only
 have : (t.place[SetTable.below t.place j]? == some j) = false := by
  rw [beq_eq_false_iff_ne]
  exact fun z => h (Array.mem_toList_iff.mpr (Array.mem_of_getElem? z))
 rw [this]
 simp
theorem slot_live {t : SetTable} (hd : t.dummies = #[]) {j : Nat} : t.slot j = .empty ∨ ∃ i, i < t.place.size ∧ t.slot j = .live i := by
 unfold SetTable.slot SetTable.has
 rw [hd]
 dsimp only
 by_cases z : (t.place[SetTable.below t.place j]? == some j) = true
 ·right
  refine ⟨SetTable.below t.place j, ?_, by rw [if_pos z]⟩
  rw [beq_iff_eq] at z
  exact (Array.getElem?_eq_some_iff.mp z).1
 ·left
  rw [if_neg z]
  simp
def advN (t : SetTable) : Nat → SetTable.Probe → SetTable.Probe
 | 0, p => p
 | k + 1, p => advN t k (t.advance p)
theorem advN_add (t : SetTable) : ∀ (a b : Nat) (p : SetTable.Probe), advN t (a + b) p = advN t b (advN t a p)
 | 0, b, p => by rw [Nat.zero_add]; rfl
 | a + 1, b, p => by
  rw [Nat.succ_add]
  exact advN_add t a b _
theorem adv_dummy (t : SetTable) (p : SetTable.Probe) : (t.advance p).dummy = p.dummy := by
 unfold SetTable.advance
 split <;> rfl
theorem go_free {t : SetTable} {f : Nat → Int} {h : Int} (hl : ∀ j, t.slot j = .empty ∨ ∃ i, t.slot j = .live i ∧ f i ≠ h) : ∀ (k fuel : Nat) (p : SetTable.Probe), k < fuel → p.dummy = none → t.slot (advN t k p).j = .empty → ∃ j, SetTable.probe.go t f h fuel p = some (.empty j none)
 | k, fuel + 1, p, hk, hd, he => by
  unfold SetTable.probe.go
  rcases hl p.j with z | ⟨i, z, n⟩
  ·rw [z]
   exact ⟨p.j, by rw [hd]⟩
  ·rw [z]
   dsimp only
   rw [if_neg (by simpa using n)]
   cases k with
   | zero =>
    have he : t.slot p.j = .empty := he
    rw [z] at he
    cases he
   | succ k => exact go_free hl k fuel _ (by omega) (by rw [adv_dummy]; exact hd) he
def runS (t : SetTable) (i p : Nat) : SetTable.Probe := { j := i, more := SetTable.runEnd t.mask i - i, i, perturb := p, dummy := none }
theorem adv_run (t : SetTable) : ∀ (r j i p : Nat), advN t (r + 1) { j, more := r, i, perturb := p, dummy := none } = runS t (SetTable.leap t.mask i p).1 (SetTable.leap t.mask i p).2
 | 0, j, i, p => rfl
 | r + 1, j, i, p => adv_run t r (j + 1) i p
theorem adv_runs (t : SetTable) : ∀ (m i p : Nat), ∃ k, k ≤ 10 * m ∧ advN t k (runS t i p) = runS t (lpN t.mask i p m).1 (lpN t.mask i p m).2
 | 0, i, p => ⟨0, Nat.le_refl _, rfl⟩
 | m + 1, i, p => by
  have r9 : SetTable.runEnd t.mask i - i ≤ 9 := by unfold SetTable.runEnd; split <;> omega
  obtain ⟨k, h1, h2⟩ := adv_runs t m (SetTable.leap t.mask i p).1 (SetTable.leap t.mask i p).2
  refine ⟨(SetTable.runEnd t.mask i - i) + 1 + k, by omega, ?_⟩
  rw [advN_add]
  show advN t k (advN t _ { j := i, more := SetTable.runEnd t.mask i - i, i := i, perturb := p, dummy := none }) = _
  rw [adv_run t]
  exact h2
theorem bits_lt (h : Int) : SetTable.bits h < 2 ^ 64 := by
 unfold SetTable.bits
 omega
theorem probe_free {t : SetTable} (hm : MaskOk t.mask) (hd : t.dummies = #[]) (hs : t.place.size ≤ t.mask) {f : Nat → Int} {h : Int} (hf : ∀ i, i < t.place.size → f i ≠ h) : ∃ j, t.probe f h (t.probeStart h) = some (.empty j none) := by
 obtain ⟨q, q1, q2⟩ := miss (mask := t.mask) (l := t.place.toList) (by rw [Array.length_toList]; exact hs)
 have i0 : SetTable.bits h % (t.mask + 1) ≤ t.mask := Nat.le_of_lt_succ (Nat.mod_lt _ (Nat.succ_pos _))
 obtain ⟨m, m1, m2⟩ := lp_cover hm i0 (bits_lt h) q1
 obtain ⟨k, k1, k2⟩ := adv_runs t m (SetTable.bits h % (t.mask + 1)) (SetTable.bits h)
 unfold SetTable.probe
 refine go_free (fun j => ?_) k _ _ ?_ rfl ?_
 ·rcases slot_live hd (j := j) with z | ⟨i, hi, z⟩
  ·exact .inl z
  ·exact .inr ⟨i, z, hf i hi⟩
 ·unfold SetTable.turns
  omega
 ·show t.slot (advN t k (runS t (SetTable.bits h % (t.mask + 1)) (SetTable.bits h))).j = .empty
  rw [k2]
  show t.slot (lpN t.mask _ _ m).1 = .empty
  rw [m2]
  exact slot_free hd q2
def cntS (l : List (Option Nat)) : Nat := (l.filterMap id).length
theorem cnt_set : ∀ (l : List (Option Nat)) (j k : Nat), l[j]? = some none → cntS (l.set j (some k)) = cntS l + 1
 | none :: l, 0, k, _ => by simp [cntS]
 | x :: l, j + 1, k, h => by
  have ih := cnt_set l j k h
  cases x <;> simp_all [cntS]
theorem free_some {mask : Nat} {ow : Array (Option Nat)} : ∀ (m fuel i p : Nat), m < fuel → i ≤ mask → ow[(lpN mask i p m).1]? = some none → ∃ j, SetTable.layClean.free mask ow fuel i p = some j ∧ ow[j]? = some none
 | m, fuel + 1, i, p, hk, hi, he => by
  unfold SetTable.layClean.free
  have gd : ∀ j, (ow.getD j (some 0)).isNone = true → ow[j]? = some none := fun j z => by
   cases q : ow[j]? with
   | none => rw [Array.getD_eq_getD_getElem?, q] at z; cases z
   | some x => rw [Array.getD_eq_getD_getElem?, q] at z; cases x with
    | none => rfl
    | some y => cases z
  cases q : (List.range (SetTable.runEnd mask i + 1 - i)).find? fun k => (ow.getD (i + k) (some 0)).isNone with
  | some k => exact ⟨i + k, rfl, gd _ (List.find?_some (p := fun k => (ow.getD (i + k) (some 0)).isNone) q)⟩
  | none =>
   dsimp only
   cases m with
   | zero =>
    have he : ow[i]? = some none := he
    have := List.find?_eq_none.mp q 0 (List.mem_range.mpr (by unfold SetTable.runEnd; split <;> omega))
    rw [Nat.add_zero, Array.getD_eq_getD_getElem?, he] at this
    simp at this
   | succ m => exact free_some m fuel _ _ (by omega) (Nat.le_of_lt_succ (Nat.mod_lt _ (Nat.succ_pos _))) he
theorem cnt_le : ∀ l : List (Option Nat), cntS l < l.length → ∃ q : Nat, l[q]? = some none
 | none :: l, _ => ⟨0, rfl⟩
 | some x :: l, h => by
  have h : cntS l + 1 < l.length + 1 := h
  obtain ⟨q, hq⟩ := cnt_le l (by omega)
  exact ⟨q + 1, hq⟩
theorem cnt_rep : ∀ n : Nat, cntS (List.replicate n none) = 0
 | 0 => rfl
 | n + 1 => cnt_rep n
structure Own (mask : Nat) (ow : Array (Option Nat)) (k : Nat) : Prop where
 s : ow.size = mask + 1
 c : cntS ow.toList = k
 v : ∀ (j x : Nat), ow[j]? = some (some x) → x < k
theorem own_step {mask : Nat} (hm : MaskOk mask) {ow : Array (Option Nat)} {k : Nat} (o : Own mask ow k) (hk : k ≤ mask) (h : Int) : ∃ j, SetTable.layClean.free mask ow (SetTable.turns mask) (SetTable.bits h % (mask + 1)) (SetTable.bits h) = some j ∧ Own mask (ow.setIfInBounds j (some k)) (k + 1) := by
 obtain ⟨q, hq⟩ := cnt_le ow.toList (by rw [o.c, Array.length_toList, o.s]; omega)
 rw [Array.getElem?_toList] at hq
 have q1 : q ≤ mask := by
  have := (Array.getElem?_eq_some_iff.mp hq).1
  rw [o.s] at this
  omega
 have i0 : SetTable.bits h % (mask + 1) ≤ mask := Nat.le_of_lt_succ (Nat.mod_lt _ (Nat.succ_pos _))
 obtain ⟨m, m1, m2⟩ := lp_cover hm i0 (bits_lt h) q1
 obtain ⟨j, j1, j2⟩ := free_some (mask := mask) (ow := ow) m (SetTable.turns mask) _ (SetTable.bits h) (by unfold SetTable.turns; omega) i0 (by rw [m2]; exact hq)
 have jl := (Array.getElem?_eq_some_iff.mp j2).1
 refine ⟨j, j1, by simp [o.s], ?_, fun a x z => ?_⟩
 ·rw [Array.toList_setIfInBounds, cnt_set _ _ _ (by rw [Array.getElem?_toList]; exact j2), o.c]
 ·rw [Array.getElem?_setIfInBounds] at z
  split at z
  ·cases z; omega
  ·have := o.v a x z; omega
theorem lay_fold {mask : Nat} (hm : MaskOk mask) : ∀ (hs : List Int) (ow : Array (Option Nat)) (k : Nat), Own mask ow k → k + hs.length ≤ mask → ∃ ow', hs.foldl (fun acc h => do
  let (owner, k) ← acc
  let j ← SetTable.layClean.free mask owner (SetTable.turns mask) (SetTable.bits h % (mask + 1)) (SetTable.bits h)
  pure (owner.setIfInBounds j (some k), k + 1)) (some (ow, k)) = some (ow', k + hs.length) ∧ Own mask ow' (k + hs.length)
 | [], ow, k, o, _ => ⟨ow, rfl, o⟩
 | h :: hs, ow, k, o, hk => by
  rw [List.length_cons] at hk
  obtain ⟨j, j1, j2⟩ := own_step hm o (by omega) h
  obtain ⟨ow', e, o'⟩ := lay_fold hm hs _ _ j2 (by omega)
  rw [show k + 1 + hs.length = k + (h :: hs).length by rw [List.length_cons]; omega] at e o'
  refine ⟨ow', ?_, o'⟩
  rw [List.foldl_cons, ← e]
  congr 1
  show (SetTable.layClean.free mask ow _ _ _).bind _ = _
  rw [j1]
  rfl
theorem lay_ok {mask : Nat} (hm : MaskOk mask) (hs : Array Int) (hk : hs.size ≤ mask) : ∃ ow, SetTable.layClean mask hs = some ow ∧ Own mask ow hs.size := by
 have o0 : Own mask (Array.replicate (mask + 1) none) 0 := ⟨by simp, by rw [Array.toList_replicate]; exact cnt_rep _, fun j x z => by
  rw [Array.getElem?_replicate] at z
  split at z <;> cases z⟩
 obtain ⟨ow, e, o⟩ := lay_fold hm hs.toList _ 0 o0 (by rw [Array.length_toList]; omega)
 rw [Array.length_toList, Nat.zero_add] at e o
 refine ⟨ow, ?_, o⟩
 unfold SetTable.layClean
 rw [← Array.foldl_toList]
 exact (congrArg (Option.map Prod.fst) e).trans rfl
theorem fm_len {α β : Type} {f : α → Option β} : ∀ {l : List α}, (∀ x ∈ l, (f x).isSome = true) → (l.filterMap f).length = l.length
 | [], _ => rfl
 | x :: l, h => by
  obtain ⟨y, hy⟩ := Option.isSome_iff_exists.mp (h x (.head _))
  rw [List.filterMap_cons, hy]
  dsimp only
  rw [List.length_cons, fm_len fun z hz => h z (.tail _ hz), List.length_cons]
theorem fm_pair {α : Type} (g : Nat → Option α) : ∀ l : List Nat, (l.filterMap fun j => (g j).map fun x => (j, x)).length = ((l.map g).filterMap id).length
 | [] => rfl
 | x :: l => by
  rw [List.filterMap_cons, List.map_cons, List.filterMap_cons]
  cases g x with
  | none => exact fm_pair g l
  | some y => exact congrArg Nat.succ (fm_pair g l)
theorem range_get (ow : Array (Option Nat)) : (List.range ow.size).map (fun j => ow.getD j none) = ow.toList := by
 apply List.ext_getElem
 ·simp
 ·intro i h1 h2
  have : i < ow.size := by simpa using h1
  simp [Array.getD, this]
theorem relaid_ok {t : SetTable} {es : Array (Int × Value)} {wanted : Nat} (hm : MaskOk (SetTable.sizeAbove wanted - 1)) (hk : es.size ≤ SetTable.sizeAbove wanted - 1) : ∃ t' order, t.relaid (es.map (·.1)) wanted = some (t', order) ∧ t'.mask = SetTable.sizeAbove wanted - 1 ∧ t'.dummies = #[] ∧ t'.place.size = es.size ∧ (order.filterMap (es[·]?)).size = es.size := by
 obtain ⟨ow, e, o⟩ := lay_ok hm (es.map (·.1)) (by rw [Array.size_map]; exact hk)
 rw [Array.size_map] at o
 have ll : ((List.range (SetTable.sizeAbove wanted - 1 + 1)).filterMap fun j => (ow.getD j none).map fun x => (j, x)).length = es.size := by
  rw [fm_pair, ← o.s, range_get]
  exact o.c
 unfold SetTable.relaid SetTable.laid
 rw [e]
 refine ⟨_, _, rfl, rfl, rfl, ?_, ?_⟩
 ·rw [List.size_toArray, List.length_map]
  exact ll
 ·rw [← Array.length_toList, Array.toList_filterMap, List.toList_toArray, fm_len fun x hx => ?_, List.length_map]
  ·exact ll
  ·obtain ⟨y, hy, rfl⟩ := List.mem_map.mp hx
   obtain ⟨j, _, hj⟩ := List.mem_filterMap.mp hy
   have : y.2 < es.size := by
    refine o.v j y.2 ?_
    cases q : ow[j]? with
    | none => rw [Array.getD_eq_getD_getElem?, q] at hj; cases hj
    | some x =>
     rw [Array.getD_eq_getD_getElem?, q] at hj
     cases x with
     | none => cases hj
     | some x => cases hj; rfl
   simp [this]
theorem ins_size {α : Type} (xs : Array α) (p : Nat) (x : α) : (SetTable.insertAt xs p x).size = xs.size + 1 := by
 unfold SetTable.insertAt
 simp
 omega
theorem ext_mem {α : Type} {xs : Array α} {a b : Nat} {y : α} (h : y ∈ xs.extract a b) : y ∈ xs := by
 rw [← Array.mem_toList_iff] at h ⊢
 rw [Array.toList_extract] at h
 exact List.mem_of_mem_drop (List.mem_of_mem_take h)
theorem ins_mem {α : Type} {xs : Array α} {p : Nat} {x y : α} (h : y ∈ SetTable.insertAt xs p x) : y = x ∨ y ∈ xs := by
 unfold SetTable.insertAt at h
 rcases Array.mem_append.mp h with z | z
 ·rcases Array.mem_push.mp z with z | z
  ·exact .inr (ext_mem z)
  ·exact .inl z
 ·exact .inr (ext_mem z)
section
variable {prog : Program} {w : World} {A : Around} {E : Value → Shared → Prop} {s : Shared} {K : Type} [DecidableEq K] {knd : KeyKind prog w K}
theorem hbv_val {M : Model} {v : Value} (n : Nat) (h : carriedByValue v = true) : ∃ b, hashByValue n v = pure b := by
 cases v with
 | ref a => simp [carriedByValue] at h
 | float x y => cases n <;> exact ⟨_, rfl⟩
 | _ => cases n <;> exact ⟨_, rfl⟩
theorem hbv_tup {ks : List K} {a : Addr} {Q : Bool → Shared → Prop} (hk : IsTupleKey knd s.heap ks a) (h : ∀ b, Q b s) : wpAny (model prog w) A (hashByValue 8 (.ref a)) Q E s := by
 have hT := hk.typeIs
 obtain ⟨o, items, n, ho, _, hd, hi⟩ := hk
 have bv := hi.byValue
 unfold hashByValue
 refine wpAny_bind (wpAny_specialOf hT F.slot_tuple_hash.lookup ?_)
 dsimp only
 refine wpAny_bind (wpAny_seqItems ho hd ?_)
 refine wpAny_bind (wpAny_forIn_array' _ (fun rest b s' => s' = s ∧ ∀ v ∈ rest, carriedByValue v = true) _ ?_ ?_ _ _ ⟨rfl, bv⟩)
 ·rintro x rest b s1 ⟨rfl, hx⟩
  obtain ⟨c, hc⟩ := hbv_val (M := model prog w) 7 (hx x (.head _))
  refine wpAny_bind (wpAny_of_eq hc ?_)
  cases c
  ·exact wpAny_pure (wpAny_pure (h _))
  ·exact wpAny_pure ⟨rfl, fun v hv => hx v (.tail _ hv)⟩
 ·rintro b s1 ⟨rfl, _⟩
  obtain ⟨b1, b2⟩ := b
  cases b1 with
  | none => exact wpAny_pure (h _)
  | some c => exact wpAny_pure (h _)
def TupS (h : Heap) (S : Addr) (hs : List Int) : Prop := ∃ o es ep t, h.get? S = some o ∧ o.ExactSet ∧ o.data = .set es ep t ∧ t.dummies = #[] ∧ t.place.size = es.size ∧ es.size = hs.length ∧ (∀ e ∈ es, e.1 ∈ hs) ∧ ((t.mask = 7 ∧ es.size ≤ 4) ∨ (t.mask = 31 ∧ es.size ≤ 18))
theorem fits_of {t : SetTable} {n : Nat} (hd : t.dummies = #[]) (hp : t.place.size = n) (hm : n ≤ t.mask) : t.fits n = true := by
 unfold SetTable.fits SetTable.fill
 rw [hd, hp]
 simpa using hm
theorem ts_store {h : Heap} {S : Addr} {o : Obj} {es : Array (Int × Value)} {ep : Nat} {t : SetTable} (ho : h.get? S = some o) (hd : o.data = .set es ep t) (es' : Array (Int × Value)) (t' : SetTable) :
  (h.update S (Obj.putSet es' t')).get? S = some { o with data := .set es' (ep + 1) t' } := by
 have := Heap.get?_update_self (Obj.putSet es' t') ho (by rw [putSet_of es' t' hd]; rfl)
 rw [putSet_of es' t' hd] at this
 exact this
theorem ts_relay {S : Addr} {hs : List Int} {o : Obj} {es : Array (Int × Value)} {ep : Nat} {t : SetTable} {Q : Unit → Shared → Prop} (ho : s.heap.get? S = some o) (hex : o.ExactSet) (hd : o.data = .set es ep t) (td : t.dummies = #[]) (tp : t.place.size = es.size) (el : es.size = hs.length) (em : ∀ e ∈ es, e.1 ∈ hs) (tm : t.mask = 7) (e5 : es.size = 5)
  (q : ∀ h', Heap.SameBut S s.heap h' → TupS h' S hs → Q () { s with heap := h' }) : wpAny (model prog w) A (setRelay S (SetTable.grown 5)) Q E s := by
 have hf := fits_of td tp (by omega)
 have sa : SetTable.sizeAbove (SetTable.grown 5) = 32 := by decide
 obtain ⟨t', order, r1, r2, r3, r4, r5⟩ := relaid_ok (t := t) (es := es) (wanted := SetTable.grown 5) (by rw [sa]; exact .inr rfl) (by rw [sa]; omega)
 rw [sa] at r2
 unfold setRelay
 refine wpAny_bind (wpAny_setState_of ho hd hf ?_)
 dsimp only
 rw [sa, if_neg (by rw [sizeLine_eq]; decide), r1]
 refine wpAny_bind ?_
 show wpAny (model prog w) A (if ((order.filterMap (es[·]?)).size != es.size) = true then (unsupported "internal:set-table-lost-an-element" >>= fun _ => pure (order.filterMap (es[·]?), t')) else pure (order.filterMap (es[·]?), t')) _ _ _
 rw [if_neg (by rw [r5]; simp)]
 refine wpAny_pure ?_
 dsimp only
 refine wpAny_storeSet_of ho hd ?_ (by rw [r5, sizeLine_eq]; omega)
 refine q _ (Heap.SameBut.update ..) ⟨_, _, _, t', ts_store ho hd _ _, hex, rfl, r3, by rw [r4, r5], by rw [r5, el], fun e he => ?_, .inr ⟨r2, by rw [r5]; omega⟩⟩
 obtain ⟨x, _, hx⟩ := Array.mem_filterMap.mp he
 exact em e (Array.mem_of_getElem? hx)
theorem ts_tail {S : Addr} {hs : List Int} {o : Obj} {es es1 : Array (Int × Value)} {ep : Nat} {t t1 : SetTable} {Q : Bool → Shared → Prop} (ho : s.heap.get? S = some o) (hex : o.ExactSet) (hd : o.data = .set es ep t) (td : t1.dummies = #[]) (tp : t1.place.size = es1.size) (el : es1.size = hs.length) (em : ∀ e ∈ es1, e.1 ∈ hs) (mm : (t1.mask = 7 ∧ es1.size ≤ 5) ∨ (t1.mask = 31 ∧ es1.size ≤ 18))
  (q : ∀ h', Heap.SameBut S s.heap h' → TupS h' S hs → Q true { s with heap := h' }) : wpAny (model prog w) A (do
   storeSet S es1 t1
   if (!false && t1.tooFull) = true then do
    setRelay S (SetTable.grown es1.size)
    pure true
   else pure true) Q E s := by
 refine wpAny_bind (wpAny_storeSet_of ho hd ?_ (by rw [sizeLine_eq]; omega))
 have ho1 := ts_store ho hd es1 t1
 have sb := Heap.SameBut.update s.heap S (Obj.putSet es1 t1)
 have full : t1.tooFull = decide (t1.mask = 7 ∧ es1.size = 5) := by
  unfold SetTable.tooFull SetTable.fill
  rw [td, tp]
  rcases mm with ⟨z, y⟩ | ⟨z, y⟩ <;> rw [z] <;> simp <;> omega
 by_cases z : t1.mask = 7 ∧ es1.size = 5
 ·rw [full, decide_eq_true z, if_pos (by decide), z.2]
  exact wpAny_bind (ts_relay ho1 hex rfl td tp el em z.1 z.2 fun h' s2 T => wpAny_pure (q h' (sb.trans s2) T))
 ·rw [full, decide_eq_false z, if_neg (by decide)]
  refine wpAny_pure (q _ sb ⟨_, _, _, t1, ho1, hex, rfl, td, tp, el, em, ?_⟩)
  rcases mm with ⟨y, x⟩ | y
  ·exact .inl ⟨y, by omega⟩
  ·exact .inr y
theorem ts_add {S a : Addr} {hs : List Int} {ks : List K} {h : Int} {Q : Bool → Shared → Prop} (T : TupS s.heap S hs) (hk : IsTupleKey knd s.heap ks a) (hn : h ∉ hs) (hl : hs.length < 18)
  (q : ∀ h', Heap.SameBut S s.heap h' → TupS h' S (h :: hs) → Q true { s with heap := h' }) : wpAny (model prog w) A (setAddHashed S (.ref a) h) Q E s := by
 obtain ⟨o, es, ep, t, ho, hex, hd, td, tp, el, em, mm⟩ := T
 have mok : MaskOk t.mask := mm.imp And.left And.left
 have sm : es.size ≤ t.mask := by rcases mm with z | z <;> omega
 have hf := fits_of td tp sm
 have odd : t.gaveWay = false := by
  unfold SetTable.gaveWay
  rcases mok with z | z <;> rw [z] <;> rfl
 obtain ⟨j, hj⟩ := probe_free mok td (by rw [tp]; exact sm) (f := fun i => (es[i]?.map (·.1)).getD 0) (h := h) fun i hi z => by
  rw [tp] at hi
  have : (es[i]?.map (·.1)).getD 0 = (es[i]).1 := by simp [hi]
  have z : (es[i]?.map (·.1)).getD 0 = h := z
  rw [this] at z
  exact hn (by rw [← z]; exact em _ (Array.getElem_mem hi))
 unfold setAddHashed setAddHashedIn
 refine wpAny_holding (wpAny_bind (wpAny_setState_of ho hd hf ?_))
 dsimp only
 have bs : byScan (.ref a) es = false := rfl
 rw [bs]
 simp only [Bool.false_eq_true, if_false]
 refine wpAny_bind ?_
 unfold setSearch setSearchFrom
 refine wpAny_bind (wpAny_setState_of ho hd hf ?_)
 dsimp only
 rw [odd]
 simp only [Bool.false_eq_true, if_false]
 generalize hg : t.probe _ h _ = met
 cases (show met = some (.empty j none) from hg.symm.trans hj)
 dsimp only
 refine wpAny_pure ?_
 dsimp only
 refine wpAny_bind (wpAny_setState_of ho hd hf ?_)
 dsimp only
 have isz := ins_size es (t.put j).2 (h, Value.ref a)
 have pd : (t.put j).1.dummies = #[] := by
  unfold SetTable.put
  rw [td]
  rfl
 have pp : (t.put j).1.place.size = (SetTable.insertAt es (t.put j).2 (h, Value.ref a)).size := by
  rw [isz, ← tp]
  exact ins_size _ _ _
 have pm : (t.put j).1.mask = t.mask := rfl
 have fin : ∀ b : Bool, wpAny (model prog w) A (do
   storeSet S (SetTable.insertAt es (t.put j).2 (h, Value.ref a)) (if b = true then (t.put j).1 else { (t.put j).1 with plain := false })
   if (!false && (if b = true then (t.put j).1 else { (t.put j).1 with plain := false }).tooFull) = true then do
    setRelay S (SetTable.grown (es.size + 1))
    pure true
   else pure true) Q E s := fun b => by
  have e1 : (if b = true then (t.put j).1 else { (t.put j).1 with plain := false }).dummies = #[] := by cases b <;> exact pd
  have e2 : (if b = true then (t.put j).1 else { (t.put j).1 with plain := false }).place.size = (SetTable.insertAt es (t.put j).2 (h, Value.ref a)).size := by cases b <;> exact pp
  have e3 : (if b = true then (t.put j).1 else { (t.put j).1 with plain := false }).mask = t.mask := by cases b <;> rfl
  rw [← isz]
  refine ts_tail ho hex hd e1 e2 (by rw [isz, el, List.length_cons]) (fun e he => ?_) (by rw [e3, isz]; omega) q
  rcases ins_mem he with z | z
  ·rw [z]; exact .head _
  ·exact .tail _ (em e z)
 split
 ·exact wpAny_bind (hbv_tup hk fin)
 ·exact wpAny_bind (wpAny_pure (fin true))
end
def hsN (f : Nat → Int) : Nat → List Int
 | 0 => []
 | n + 1 => f n :: hsN f n
theorem hsN_len (f : Nat → Int) : ∀ n, (hsN f n).length = n
 | 0 => rfl
 | n + 1 => congrArg Nat.succ (hsN_len f n)
theorem hsN_mem {f : Nat → Int} {x : Int} : ∀ {n : Nat}, x ∈ hsN f n → ∃ i, i < n ∧ f i = x
 | n + 1, h => by
  rcases List.mem_cons.mp h with z | z
  ·exact ⟨n, Nat.lt_succ_self _, z.symm⟩
  ·obtain ⟨i, h1, h2⟩ := hsN_mem z
   exact ⟨i, Nat.lt_succ_of_lt h1, h2⟩
theorem tk_keep {prog : Program} {w : World} {K : Type} [DecidableEq K] {knd : KeyKind prog w K} {h h' : Heap} {ks : List K} {a : Addr} (hk : IsTupleKey knd h ks a) (q : ∀ o, h.get? a = some o → h'.get? a = some o) : IsTupleKey knd h' ks a := by
 obtain ⟨o, items, n, ho, r⟩ := hk
 exact ⟨o, items, n, q o ho, r⟩
theorem TupS.at {h h' : Heap} {S : Addr} {hs : List Int} (T : TupS h S hs) (q : ∀ o, h.get? S = some o → h'.get? S = some o) : TupS h' S hs := by
 obtain ⟨o, es, ep, t, ho, r⟩ := T
 exact ⟨o, es, ep, t, q o ho, r⟩
section
variable {prog : Program} {w : World} {A : Around} {K : Type} [DecidableEq K] {knd : KeyKind prog w K} {R : Result → Shared → Prop} {I : Addr} {fp wr : List Addr} {G : Array GenState → Array GenState → Prop} {n : Nat} {P : Nat → Value → Prop} {St : Nat → Shared → Prop}
theorem set_loopT (W : WalksS prog w A.in1 I fp wr G n P St) (hu : A.in1.units < cLine) {S : Addr} (hSf : S ∉ fp) (ky : Nat → List K) (hinj : ∀ i j, i < n → j < n → tupleKeyHash knd (ky i) = tupleKeyHash knd (ky j) → i = j) (hb : n ≤ 18) :
  ∀ (k i : Nat) (s : Shared), n - i = k → i ≤ n → St i s → TupS s.heap S (hsN (fun i => tupleKeyHash knd (ky i)) i) → (∀ i v, i < n → P i v → ∃ a, v = .ref a ∧ a ∉ S :: wr ∧ IsTupleKey knd s.heap (ky i) a) →
   (∀ s', Moved (S :: wr) G s s' → TupS s'.heap S (hsN (fun i => tupleKeyHash knd (ky i)) n) → R (.ok (.ret .none)) s') →
   codeAny (model prog w) A (.builtin "set.update.loop" ⟨[.ref S, .ref I], []⟩) R s := by
 have hSw : S ∉ wr := fun z => hSf (W.sub _ z)
 have sub : ∀ b ∈ wr, b ∈ S :: wr := fun b z => .tail _ z
 intro k
 induction k with
 | zero =>
  intro i s hk hi st T _ q
  cases (show i = n by omega)
  refine codeAny_builtin PyProof.Rows.F.entry_set_update_loop ?_
  rw [Around.under_plainId PyProof.Rows.F.plain_set_update_loop _]
  unfold Builtin.«set.update.loop»
  refine wpAny_bind (W.done s _ _ st fun s' mv => ?_)
  exact wpAny_pure (q s' (mv.mono sub) (T.at fun o e => mv.heap S o hSw e))
 | succ k ih =>
  intro i s hk hi st T kt q
  have lt : i < n := by omega
  refine codeAny_builtin PyProof.Rows.F.entry_set_update_loop ?_
  rw [Around.under_plainId PyProof.Rows.F.plain_set_update_loop _]
  unfold Builtin.«set.update.loop»
  refine wpAny_bind (W.item i s _ _ lt st fun v s' hP st' mv => ?_)
  obtain ⟨a, rfl, ha, hka⟩ := kt i v lt hP
  have T' := T.at (h' := s'.heap) fun o e => mv.heap S o hSw e
  have aw : a ∉ wr := fun z => ha (.tail _ z)
  have hka' := tk_keep (h' := s'.heap) hka fun o e => mv.heap a o aw e
  dsimp only
  refine wpAny_bind (wpAny_holding ?_)
  unfold setAdd
  refine wpAny_holding (wpAny_bind (wpAny_pyHash_tuple hu hka' ?_))
  refine ts_add (s := { s' with toks := s'.toks + ((ky i).length + 1) }) (knd := knd) (ks := ky i) T' hka' (fun z => ?_) (by rw [hsN_len]; omega) fun h' sb T2 => ?_
  ·obtain ⟨j, j1, j2⟩ := hsN_mem z
   have := hinj j i (by omega) lt j2
   omega
  ·have mv2 : Moved (S :: wr) G s { s' with heap := h', toks := s'.toks + ((ky i).length + 1) } := (mv.mono sub).then_heap (Nat.le_add_right _ _) fun b o hb e => by
    rw [sb.2 b (fun z => hb (by rw [z]; exact .head _))]
    exact e
   refine wpAny_pure ⟨plainId_quiet PyProof.Rows.F.plain_set_update_loop _, ih (i + 1) _ (by omega) lt (W.frame _ s' _ _ st' (Nat.le_add_right _ _) fun b hb o e => ?_) T2 (fun j v hj hv => ?_) fun s2 m2 T3 => ?_⟩
   ·rw [sb.2 b (fun z => hSf (by rw [← z]; exact hb))]
    exact e
   ·obtain ⟨b, rfl, hb, hkb⟩ := kt j v hj hv
    exact ⟨b, rfl, hb, tk_keep hkb fun o e => mv2.heap b o hb e⟩
   ·exact q s2 (Moved.trans W.gtrans mv2 m2) T3
end
section
variable {prog : Program} {w : World} {A : Around} {E : Value → Shared → Prop} {s : Shared} {K : Type} [DecidableEq K] {knd : KeyKind prog w K}
def nSet (led : Bool) : Obj := { cls := .type "set", dict := none, data := .set #[] 0 (.fresh 0 0 led) }
theorem call_set1 {x : Value} {Q : Value → Shared → Prop}
  (h : ∀ led, wpAny (model prog w) A.in1.in1 (Builtin.«set.__init__» ⟨[.ref s.heap.objs.size, x], []⟩)
   (fun fin s' => match fin with | .done f => wants (fun r s₂ => r = .none ∧ Q (.ref s.heap.objs.size) s₂) E (.ok f) s' | .again c' => c'.quiet = true ∧ codeAny (model prog w) A.in1 c' (wants (fun r s₂ => r = .none ∧ Q (.ref s.heap.objs.size) s₂) E) s')
   (fun e s' => wants (fun r s₂ => r = .none ∧ Q (.ref s.heap.objs.size) s₂) E (.error e) s') { s with heap := s.heap.push (nSet led) }) :
  wpAny (model prog w) A (call (.type "set") [x]) Q E s := by
 have ft := F.called_set
 obtain ⟨c, tl, hmro⟩ := ft.mro
 have hmade := ft.made
 have hsub := ft.sub
 have h1 := ft.notType
 have h2 := ft.canCreate
 have hct := F.typeCall_set_1 x
 refine wpAny_call (codeAny_of_tree (wpAny_pure ⟨Code.quiet_builtin _ (by decide +kernel), codeAny_builtin F.entry_type_call ?_⟩))
 rw [Around.under_plain (weight_type_call_type "set" [x] []) rfl]
 repeat (any_goals (first | assumption | wp_step))
 refine codeAny_mono (code_set_new_1 x (E := E) (Q₁ := fun obj s₁ => ∃ led, obj = .ref s.heap.objs.size ∧ s₁ = { s with heap := s.heap.push (nSet led) }) fun led => ⟨led, rfl, rfl⟩) fun r s₁ hr => ?_
 cases r with
 | error e => exact hr
 | ok fl =>
  cases fl with
  | ret obj =>
   obtain ⟨led, rfl, rfl⟩ := hr
   have hT : Shared.TypeIs { s with heap := s.heap.push (nSet led) } (.ref s.heap.objs.size) "set" := ⟨_, Heap.get?_push_size _ rfl, rfl⟩
   have hli := ft.init.lookup
   have hbi := ft.init.bind (.ref s.heap.objs.size)
   repeat (any_goals (first | assumption | wp_step))
   refine codeAny_mono (codeAny_call_builtin ft.init.plain F.entry_set_init (check_set_init_1 hT (h led))) fun r₂ s₂ hr₂ => ?_
   cases r₂ with
   | error e => exact hr₂
   | ok f2 =>
    cases f2 with
    | ret u =>
     obtain ⟨rfl, hq⟩ := hr₂
     repeat (any_goals (first | assumption | wp_step))
    | _ => exact hr₂.elim
  | _ => exact hr.elim
theorem call_setT (hh : A.handled = none) (hu : A.units + 10 < cLine) {l : Addr} {items : Array Value} (ky : Nat → List K) (hl : s.heap.IsList l items) (hz : items.size ≤ 18)
  (hk : ∀ i v, items[i]? = some v → ∃ a, v = .ref a ∧ IsTupleKey knd s.heap (ky i) a) (hinj : ∀ i j, i < items.size → j < items.size → tupleKeyHash knd (ky i) = tupleKeyHash knd (ky j) → i = j)
  {Q : Value → Shared → Prop} (q : ∀ h' tk hs, TupS h' s.heap.objs.size hs → hs.length = items.size → (∀ b o, s.heap.get? b = some o → h'.get? b = some o) → s.toks ≤ tk → Q (.ref s.heap.objs.size) { s with heap := h', toks := tk }) :
  wpAny (model prog w) A (call (.type "set") [.ref l]) Q E s := by
 refine call_set1 fun led => ?_
 obtain ⟨ol, hol, hcl, nl, hdl⟩ := id hl
 have hS : (s.heap.push (nSet led)).get? s.heap.objs.size = some (nSet led) := Heap.get?_push_size _ rfl
 have hl1 : (s.heap.push (nSet led)).IsList l items := ⟨ol, Heap.get?_push_of_some _ hol, hcl, nl, hdl⟩
 have tl : Shared.TypeIs { s with heap := s.heap.push (nSet led) } (.ref l) "list" := ⟨ol, Heap.get?_push_of_some _ hol, hcl⟩
 have hls : l < s.heap.objs.size := Heap.lt_size hol
 obtain ⟨ocls, odict, odata, oslots⟩ := ol
 simp only at hcl hdl
 subst hcl hdl
 have hol' : (s.heap.push (nSet led)).get? l = some { cls := .type "list", dict := odict, data := .seq items nl, slots := oslots } := Heap.get?_push_of_some _ hol
 have a1 := F.sub_list_set
 have a2 := F.sub_list_frozenset
 have a3 : (Value.type "list" == Value.type "dict") = false := by decide
 unfold nSet at hS hol' hl1 tl ⊢
 unfold Builtin.«set.__init__» noKeywords Builtin.Frozenset.updateFrom
 generalize hPI : pyIter = PI
 wp_walk
 subst hPI
 refine wpAny_pyIter_list hl1 (wpAny_bind (wpAny_runValue ?_))
 generalize hO : ({ cls := Value.type "set", data := Data.set #[] 0 (SetTable.fresh 0 0 led) } : Obj) = O at *
 have sz : (s.heap.push O).objs.size = s.heap.objs.size + 1 := by rw [Heap.size_push]
 have kp : ∀ b o, s.heap.get? b = some o → ((s.heap.push O).push { cls := .type "list_iterator", data := .fields #[.ref l, .int 0 0] }).get? b = some o := fun b o e => Heap.get?_push_of_some _ (Heap.get?_push_of_some _ e)
 have nI : ∀ b, b ≤ s.heap.objs.size → b ≠ (s.heap.push O).objs.size := fun b z y => by rw [sz] at y; omega
 refine set_loopT (knd := knd) (A := A.in1.in1) ((Walks.list (A := A.in1.in1.in1) hh (s.heap.push O).objs.size l (nI l (Nat.le_of_lt hls)) items).toS) (show A.units + 1 + 1 + 1 < cLine by omega) (S := s.heap.objs.size) (fun z => ?_) ky hinj hz items.size 0 _ rfl (Nat.zero_le _) ⟨⟨_, Heap.get?_push_size _ rfl, rfl, rfl⟩, hl1.push _⟩ ?_ (fun i v _ hv => ?_) fun s' mv T => ?_
 ·rcases List.mem_cons.mp z with z | z
  ·exact nI _ (Nat.le_refl _) z
  ·rw [List.mem_singleton.mp z] at hls
   exact Nat.lt_irrefl _ hls
 ·refine ⟨O, #[], 0, .fresh 0 0 led, Heap.get?_push_of_some _ hS, ?_, by rw [← hO], rfl, rfl, rfl, fun e he => by simp at he, .inl ⟨rfl, Nat.zero_le _⟩⟩
  rw [← hO]
  exact ⟨rfl, rfl, rfl⟩
 ·obtain ⟨a, rfl, ka⟩ := hk i v hv
  obtain ⟨oa, _, _, hoa, _⟩ := id ka
  have la := Heap.lt_size hoa
  refine ⟨a, rfl, fun z => ?_, tk_keep ka fun o e => kp a o e⟩
  rcases List.mem_cons.mp z with z | z
  ·rw [z] at la
   exact Nat.lt_irrefl _ la
  ·exact nI a (Nat.le_of_lt la) (List.mem_singleton.mp z)
 ·refine wpAny_pure (wpAny_pure ⟨rfl, ?_⟩)
  obtain ⟨h', g', d', tk', os'⟩ := s'
  cases (show g' = s.gens from mv.gens)
  cases (show d' = s.drawn from mv.drawn)
  cases (show os' = s.os from mv.os)
  refine q h' tk' _ T (hsN_len _ _) (fun b o e => mv.heap b o (fun z => ?_) (kp b o e)) mv.toks
  have lb := Heap.lt_size e
  rcases List.mem_cons.mp z with z | z
  ·rw [z] at lb
   exact Nat.lt_irrefl _ lb
  ·exact nI b (Nat.le_of_lt lb) (List.mem_singleton.mp z)
end
section
variable {X : Cx}
theorem bT_set0 : bootBuiltins "set" = some (.type "set") := by decide +kernel
def KL (H : Hp) (xs : List V) (ks : List (List Int)) : Prop := ∀ (i : Nat) x, xs[i]? = some x → ∃ k b, ks[i]? = some k ∧ x = .ref b ∧ H b = some (.tup ((k.map Sum.inl).map kV))
def tLS (K : PySem.W.Frag) (te : TE) : TE := fun σ H Q => te σ H fun x H1 => ∃ a xs ks, x = .ref a ∧ SqL K H1 a xs ∧ xs.length = ks.length ∧ KL H1 xs ks ∧ ks.Nodup ∧ (∀ k ∈ ks, ∃ i j : Int, k = [i, j] ∧ (0 ≤ i ∧ i ≤ 8) ∧ (0 ≤ j ∧ j ≤ 8)) ∧ ks.length ≤ 18 ∧ Q (.int (ks.length : Nat)) H1
theorem vals_at : ∀ {xs : List V} {us : List Value}, Vals xs us → ∀ (i : Nat) v, us[i]? = some v → ∃ x, xs[i]? = some x ∧ RelV x v
 | _, _, .nil, i, v, h => by simp at h
 | _, _, .cons r t, 0, v, h => by
  simp at h
  exact ⟨_, rfl, h ▸ r⟩
 | _, _, .cons r t, i + 1, v, h => vals_at t i v h
theorem pe_lenset {e : Expr} {te : TE} {p1 p2 pos1 pos2 : Pos} (hc : X.calm = true) (hu : X.A.units + 64 < cLine) (hg1 : Gl X "len") (hm1 : X.mg "len" = none) (hg2 : Gl X "set") (hm2 : X.mg "set" = none) (he : PE X e te)
  (hs1 : starEach [.Call (.Name "set" p2) [e] [] pos2] X.env = (false, eval (.Call (.Name "set" p2) [e] [] pos2) X.env) :: starEach [] X.env := by rfl) (hs2 : starEach [e] X.env = (false, eval e X.env) :: starEach [] X.env := by rfl) :
  PE X (.Call (.Name "len" p1) [.Call (.Name "set" p2) [e] [] pos2] [] pos1) (tLS X.K te) := by
 intro pins s σ H Q I h
 refine wpAny_Call_Name_kw (ld_blt I hg1 hm1 PySem.boot_len (PyProof.Rows.callWith_builtin1 ?_ hs1 rfl))
 rw [hs1]
 show wpAny _ _ (spliced ((false, eval _ X.env) :: backTo pos1 (starEach [] X.env))) _ _ s
 refine Calls.spliced_cons (wpAny_Call_Name_kw (ld_blt I hg2 hm2 bT_set0 (PyProof.Rows.callWith_type1 ?_ hs2 rfl)))
 rw [hs2]
 show wpAny _ _ (spliced ((false, eval _ X.env) :: backTo pos2 (starEach [] X.env))) _ _ s
 refine Calls.spliced_cons (thn (he pins s σ H _ I h) fun u s1 ⟨x, H1, I1, r1, a, xs, ks, ex, hq, hl, kl, nd, box, hz, q⟩ => Calls.spliced_nil ?_)
 subst ex
 cases (show u = Value.ref a from r1)
 obtain ⟨its, rv, pl, _⟩ := I1.list hq
 have hlen := rv.length
 have sz : its.toArray.size = ks.length := by rw [List.size_toArray, ← hlen, hl]
 refine call_setT (knd := mixKind X.prog X.w) (I.ok.hd hc) (by omega) (fun i => (ks.getD i []).map Sum.inl) pl.isList (by rw [sz]; exact hz) (fun i v hv => ?_) (fun i j hi hj e => ?_) fun h' tk hs T hln kp ht => Calls.spliced_nil ?_
 ·rw [List.getElem?_toArray] at hv
  obtain ⟨x, hx, rx⟩ := vals_at rv i v hv
  obtain ⟨k, b, hk, rfl, hb⟩ := kl i x hx
  refine ⟨b, rx, ?_⟩
  have : ks.getD i [] = k := by simp [List.getD, hk]
  rw [this]
  exact key_of I1.hok hb
 ·rw [sz] at hi hj
  have gi : ks.getD i [] = ks[i] := by simp [List.getD, hi]
  have gj : ks.getD j [] = ks[j] := by simp [List.getD, hj]
  rw [gi, gj] at e
  obtain ⟨i1, j1, e1, b1, b2⟩ := box _ (List.getElem_mem hi)
  obtain ⟨i2, j2, e2, b3, b4⟩ := box _ (List.getElem_mem hj)
  rw [e1, e2] at e
  obtain ⟨z1, z2⟩ := hT_box X.prog X.w b1 b2 b3 b4 e
  have : ks[i] = ks[j] := by rw [e1, e2, z1, z2]
  have p := List.pairwise_iff_getElem.mp nd
  rcases Nat.lt_trichotomy i j with z | z | z
  ·exact absurd this (p i j hi hj z)
  ·exact z
  ·exact absurd this.symm (p j i hj hi z)
 ·obtain ⟨o, es, ep, t, ho, hex, hd, td, tp, el, _, mm⟩ := T
  have en : es.size = ks.length := by rw [el, hln, sz]
  refine PySem.call_len_set ho hex hd (fits_of td tp (by omega)) (by rw [en]; omega) ⟨.int (ks.length : Nat), H1, (I1.kept (t' := tk) kp).tok _, ?_, q⟩
  rw [en]
  exact ⟨_, rfl⟩
end
end L2
namespace M
open PySem PySem.Spec PyProof.Rows L2
def setLenE (x : Ev) : Res Ev := match lstOf x with
 | some ds => match keysD ds with
  | some ks => if (ks.all small2 && decide ks.Nodup && decide (ks.length ≤ 18)) = true then .ok (.p (.int (ks.length : Nat))) else .bad
  | none => .bad
 | none => .bad
theorem reps_ints {K : PySem.W.Frag} {G : Hp} : ∀ {zs : List V} {k : List Int}, Reps K G zs (k.map .int) → zs = (k.map Sum.inl).map kV
 | [], [], _ => rfl
 | [], _ :: _, r => by cases r
 | _ :: _, [], r => by cases r
 | z :: zs, i :: k, .cons r t => by
  cases r
  rw [reps_ints t]
  rfl
theorem reps_kl {K : PySem.W.Frag} {G H : Hp} (gh : Same G H) : ∀ {xs : List V} {ks : List (List Int)}, Reps K G xs (ks.map tupD) → KL H xs ks
 | [], ks, _, i, x, h => by simp at h
 | y :: ys, [], r, i, x, h => by cases r
 | y :: ys, k :: ks, .cons r t, i, x, h => by
  cases i with
  | zero =>
   simp at h
   subst h
   cases r with
   | @tup a zs _ ha hz =>
    refine ⟨k, a, rfl, rfl, ?_⟩
    have : zs = (k.map Sum.inl).map kV := reps_ints hz
    rw [← this]
    exact gh _ _ ha
  | succ i => exact reps_kl gh t i x h
theorem de_lenset {X : Cx} {E : L2.St → XK} {e : Expr} {fe : En → Res Ev} {p1 p2 pos1 pos2 : Pos} (hc : X.calm = true) (hu : X.A.units + 64 < cLine) (hg1 : Gl X "len") (hm1 : X.mg "len" = none) (hg2 : Gl X "set") (hm2 : X.mg "set" = none) (he : DE X E e fe)
  (hs1 : starEach [.Call (.Name "set" p2) [e] [] pos2] X.env = (false, eval (.Call (.Name "set" p2) [e] [] pos2) X.env) :: starEach [] X.env := by rfl) (hs2 : starEach [e] X.env = (false, eval e X.env) :: starEach [] X.env := by rfl) :
  DE X E (.Call (.Name "len" p1) [.Call (.Name "set" p2) [e] [] pos2] [] pos1) (mUn setLenE fe) := by
 obtain ⟨t, q, m⟩ := he.out
 refine DE.in ⟨_, pe_lenset hc hu hg1 hm1 hg2 hm2 q hs1 hs2, fun B G0 G W H σ en Q hh hs hw => m B G0 G W H σ en _ hh hs ?_⟩
 have hw : wpR ((fe en).bind _) _ _ := hw
 rw [wpR_bind] at hw
 refine wpR_mono hw (fun r hr G1 H1 v s e => ?_) fun C h => h
 obtain ⟨G2, s2, e2⟩ := e.c s
 unfold setLenE at hr
 cases el : lstOf r.c with
 | none => rw [el] at hr; exact hr.elim
 | some ds =>
  rw [el] at hr
  dsimp only at hr
  cases ek : keysD ds with
  | none => rw [ek] at hr; exact hr.elim
  | some ks =>
   rw [ek] at hr
   dsimp only at hr
   by_cases hz : (ks.all small2 && decide ks.Nodup && decide (ks.length ≤ 18)) = true
   ·rw [if_pos hz] at hr
    rw [Bool.and_eq_true, Bool.and_eq_true, decide_eq_true_iff, decide_eq_true_iff] at hz
    obtain ⟨a, xs, rfl, h1, h2⟩ := lst_at s2.gh e2 el
    cases (keysD_eq ek)
    refine ⟨a, xs, ks, rfl, .inl h1, by rw [h2.length, List.length_map], reps_kl s2.gh h2, hz.1.2, fun k hk => ?_, hz.2, hr G2 _ _ s2 (.int _)⟩
    have := List.all_eq_true.mp hz.1.1 k hk
    unfold small2 at this
    split at this
    ·rename_i i j
     rw [Bool.and_eq_true] at this
     exact ⟨i, j, rfl, of_decide_eq_true this.1, of_decide_eq_true this.2⟩
    ·cases this
   ·rw [if_neg hz] at hr
    exact hr.elim
end M

namespace N
open PySem PySem.Spec PyProof.Rows L2 M
def frD (x : Int × Int) : D := .tuple [.int x.1, .int x.2]
abbrev Pl := Int × Int × (Int × Int)
def plD (p : Pl) : D := .tuple [.int p.1, .int p.2.1, frD p.2.2]
theorem at0 {α : Type} (x : α) (r : List α) : atI (x :: r) 0 = some x := atI_nat (j := 0) rfl
theorem at1 {α : Type} (x y : α) (r : List α) : atI (x :: y :: r) 1 = some y := atI_nat (j := 1) rfl
theorem at2 {α : Type} (x y z : α) (r : List α) : atI (x :: y :: z :: r) 2 = some z := atI_nat (j := 2) rfl
theorem eqv_ii (i j : Int) : PyData.eqv (.int i) (.int j) = (i == j) := by simp [PyData.eqv]
theorem sh_int (i : Int) : SeqAt.shaped (.int i) = true := by simp [SeqAt.shaped, PyData.canLay0, PyData.depth]
def decL {α : Type} (f : D → Option α) : List D → Option (List α)
 | [] => some []
 | d :: r => match f d with
  | none => none
  | some a => match decL f r with
   | none => none
   | some as => some (a :: as)
theorem decL_map {α : Type} {f : D → Option α} {enc : α → D} (h : ∀ a, f (enc a) = some a) : ∀ xs : List α, decL f (xs.map enc) = some xs
 | [] => rfl
 | x :: xs => by
  show (match f (enc x) with | none => none | some a => match decL f (xs.map enc) with | none => none | some as => some (a :: as)) = _
  rw [h x, decL_map h xs]
def frOf : D → Option (Int × Int)
 | .tuple [.int a, .int b] => some (a, b)
 | _ => none
def plOf : D → Option Pl
 | .tuple [.int i, .int j, .tuple [.int a, .int b]] => some (i, j, (a, b))
 | _ => none
theorem frOf_frD (x : Int × Int) : frOf (frD x) = some x := rfl
theorem plOf_plD (x : Pl) : plOf (plD x) = some x := rfl
theorem mapO_map {α : Type} {g : D → Option (Option D)} {enc : α → D} {out : α → D} : ∀ xs : List α, (∀ x ∈ xs, g (enc x) = some (some (out x))) → mapO g (xs.map enc) = some (xs.map out)
 | [], _ => rfl
 | x :: xs, h => by
  show (match g (enc x) with | none => none | some o => match mapO g (xs.map enc) with | none => none | some r => some (match o with | some y => y :: r | none => r)) = _
  rw [h x (.head _), mapO_map xs fun y hy => h y (.tail _ hy)]
  rfl
def ltF (x y : Int × Int) : Bool := decide (x.1 * y.2 < y.1 * x.2)
def best (b : Int × Int) : List (Int × Int) → Int × Int
 | [] => b
 | x :: r => best (if ltF b x = true then x else b) r
def FSz (n : Nat) (x : Int × Int) : Prop := Sz n x.1 ∧ Sz n x.2
def Good (n : Nat) (x : Int × Int) : Prop := 1 ≤ x.2 ∧ Sz n x.1 ∧ Sz n x.2
theorem Good.fsz {n : Nat} {x : Int × Int} (h : Good n x) : FSz n x := h.2
theorem Good.mono {m n : Nat} {x : Int × Int} (h : Good m x) (l : m ≤ n) : Good n x := ⟨h.1, h.2.1.mono l, h.2.2.mono l⟩
theorem mk_good {n : Nat} {t b : Int} (ht : Sz n t) (hb : Sz n b) (h0 : b ≠ 0) : Good n (FR.mk t b) := ⟨(FR.mk_fr h0).1.pos, Sz.le ht (natAbs_fdiv_le _ _), Sz.le hb (natAbs_fdiv_le _ _)⟩
def hT (i : Int) (x : Int × Int) : Int × Int := FR.mk (i * x.1) (1 * x.2)
def hP (x y : Int × Int) : Int × Int := FR.mk (x.1 * y.2 + y.1 * x.2) (x.2 * y.2)
def hgt (p : Pl) (pt : (Int × Int) × (Int × Int)) : Int × Int := hP (hP (hT p.1 pt.1) (hT p.2.1 pt.2)) p.2.2
theorem good_T {m n : Nat} {i : Int} {x : Int × Int} (hi : Sz m i) (hx : Good n x) : Good (m + n) (hT i x) :=
 mk_good (Sz.mul hi hx.2.1) (by rw [Int.one_mul]; exact hx.2.2.mono (Nat.le_add_left _ _)) (by have := hx.1; omega)
theorem good_P {m n : Nat} {x y : Int × Int} (hx : Good m x) (hy : Good n y) : Good (m + n + 1) (hP x y) :=
 mk_good (Sz.add (Sz.mul hx.2.1 hy.2.2) ((Sz.mul hy.2.1 hx.2.2).mono (by omega))) ((Sz.mul hx.2.2 hy.2.2).mono (by omega)) (fun z => by
  rcases Int.mul_eq_zero.mp z with q | q
  ·have := hx.1; omega
  ·have := hy.1; omega)
theorem Good.ne {m n : Nat} {x y : Int × Int} (hx : Good m x) (hy : Good n y) : x.2 * y.2 ≠ 0 := fun z => by
 rcases Int.mul_eq_zero.mp z with q | q
 ·have := hx.1; omega
 ·have := hy.1; omega
theorem sz_one : Sz 2000 (1 : Int) := by unfold Sz; exact Nat.one_lt_two_pow (by decide)
open Classical in
noncomputable def mOf {α : Type} (enc : α → List L) (P : α → Prop) (g : α → Res L) (ls : List L) : Res L := if h : ∃ a, enc a = ls ∧ P a then g h.choose else .bad
theorem mOf_at {α : Type} {enc : α → List L} {P : α → Prop} {g : α → Res L} (inj : ∀ a b, enc a = enc b → a = b) {a : α} (h : P a) : mOf enc P g (enc a) = g a := by
 have hx : ∃ b, enc b = enc a ∧ P b := ⟨a, rfl, h⟩
 unfold mOf
 rw [dif_pos hx, inj _ _ hx.choose_spec.1]
theorem mOf_eq {α : Type} {enc : α → List L} {P : α → Prop} {g : α → Res L} {n : Nat} {f : MS} (h : ∀ a, P a → runF n f (enc a) = g a) : ∀ ls, mOf enc P g ls = .bad ∨ runF n f ls = mOf enc P g ls := by
 intro ls
 unfold mOf
 by_cases hx : ∃ a, enc a = ls ∧ P a
 ·rw [dif_pos hx]
  exact .inr ((congrArg _ hx.choose_spec.1.symm).trans (h _ hx.choose_spec.2))
 ·exact .inl (dif_neg hx)
theorem frI {a b : Int × Int} (h : frD a = frD b) : a = b := Option.some.inj (congrArg frOf h)
theorem plI {a b : Pl} (h : plD a = plD b) : a = b := Option.some.inj (congrArg plOf h)
theorem plsI {a b : List Pl} (h : a.map plD = b.map plD) : a = b := by
 have e := congrArg (decL plOf) h
 rw [decL_map plOf_plD, decL_map plOf_plD] at e
 exact Option.some.inj e
theorem ptI {x y : (Int × Int) × (Int × Int)} (h : PyData.tuple [frD x.1, frD x.2] = .tuple [frD y.1, frD y.2]) : x = y := by
 injection h with h
 injection h with h1 h2
 injection h2 with h2 _
 exact Prod.ext (frI h1) (frI h2)
def ePH (a : Pl × (Int × Int) × (Int × Int)) : List L := [.p (plD a.1), .p (.tuple [frD a.2.1, frD a.2.2])]
theorem ePH_inj (a b : Pl × (Int × Int) × (Int × Int)) (h : ePH a = ePH b) : a = b := by
 unfold ePH at h
 injection h with h1 h2
 injection h2 with h2 _
 injection h1 with h1
 injection h2 with h2
 exact Prod.ext (plI h1) (ptI h2)
theorem ix_t0 (a : D) (r : List D) : ixE (.p (.tuple (a :: r))) (.p (.int 0)) = .ok (.p a) := by simp [ixE, seqOf, at0]
theorem ix_t1 (a b : D) (r : List D) : ixE (.p (.tuple (a :: b :: r))) (.p (.int 1)) = .ok (.p b) := by simp [ixE, seqOf, at1]
theorem ix_t2 (a b d : D) (r : List D) : ixE (.p (.tuple (a :: b :: d :: r))) (.p (.int 2)) = .ok (.p d) := by simp [ixE, seqOf, at2]
theorem ix_pl0 (p : Pl) : ixE (.p (plD p)) (.p (.int 0)) = .ok (.p (.int p.1)) := ix_t0 _ _
theorem ix_pl1 (p : Pl) : ixE (.p (plD p)) (.p (.int 1)) = .ok (.p (.int p.2.1)) := ix_t1 _ _ _
theorem ix_pl2 (p : Pl) : ixE (.p (plD p)) (.p (.int 2)) = .ok (.p (frD p.2.2)) := ix_t2 _ _ _ _
theorem ix_fr0 (p : Int × Int) : ixE (.p (frD p)) (.p (.int 0)) = .ok (.p (.int p.1)) := ix_t0 _ _
theorem ix_fr1 (p : Int × Int) : ixE (.p (frD p)) (.p (.int 1)) = .ok (.p (.int p.2)) := ix_t1 _ _ _
section
variable {κ α : Type} [DecidableEq κ]
variable {ek : κ → D} {ev : α → D} (inj : ∀ a b, ek a = ek b → a = b)
include inj
end
theorem sz_of {x : Int} (n : Nat) (h : x.natAbs < 2 ^ n) : Sz n x := h
theorem fmod_pos {a b : Int} (hb : 0 < b) : 0 ≤ a.fmod b ∧ a.fmod b < b := by
 rw [Int.fmod_eq_emod_of_nonneg a (Int.le_of_lt hb)]
 exact ⟨Int.emod_nonneg a (by omega), Int.emod_lt_of_pos a hb⟩
theorem seq_nx {f g : MS} {en e1 : En} (h : f en = some (.nx e1)) : mSeq f g en = g e1 := by unfold mSeq; rw [h]
theorem seq_rt {f g : MS} {en : En} {l : L} (h : f en = some (.rt l)) : mSeq f g en = some (.rt l) := by unfold mSeq; rw [h]
theorem set_p {i : Nat} {fe : En → Res Ev} {en : En} {d : D} (h : fe en = .ok (.p d)) : mSet i fe en = some (.nx (en.set i (some (.p d)))) := by unfold mSet; rw [h]
theorem set_f {i : Nat} {fe : En → Res Ev} {en : En} {d : D} (h : fe en = .ok (.f d)) : mSet i fe en = some (.nx (en.set i (some (.o d)))) := by unfold mSet; rw [h]
theorem if_t {ft : En → Res Bool} {f g : MS} {en : En} (h : ft en = .ok true) : mIfS ft f g en = f en := by unfold mIfS; rw [h]; rfl
theorem if_f {ft : En → Res Bool} {f g : MS} {en : En} (h : ft en = .ok false) : mIfS ft f g en = g en := by unfold mIfS; rw [h]; rfl
theorem run_rt {n : Nat} {f : MS} {ls : List L} {l : L} (h : f (startE n ls) = some (.rt l)) : runF n f ls = .ok l := by unfold runF; rw [h]
theorem can_all {α : Type} (f : α → D) (h : ∀ a, PyData.canLay0 (f a) = true) : ∀ xs : List α, PyData.canLayAll0 (xs.map f) = true
 | [] => rfl
 | x :: xs => by rw [List.map_cons, PyData.canLayAll0, h x, can_all f h xs]; rfl
theorem dep_all {α : Type} (f : α → D) (n : Nat) (h : ∀ a, PyData.depth (f a) ≤ n) : ∀ xs : List α, PyData.depthAll (xs.map f) ≤ n
 | [] => Nat.zero_le _
 | x :: xs => by
  rw [List.map_cons, PyData.depthAll]
  exact Nat.max_le.mpr ⟨h x, dep_all f n h xs⟩
theorem can_pl (p : Pl) : PyData.canLay0 (plD p) = true := by simp [plD, frD, PyData.canLay0, PyData.canLayAll0]
theorem dep_pl (p : Pl) : PyData.depth (plD p) ≤ 9 := by simp [plD, frD, PyData.depth, PyData.depthAll]
theorem sh_list {α : Type} (f : α → D) (h1 : ∀ a, PyData.canLay0 (f a) = true) (h2 : ∀ a, PyData.depth (f a) ≤ 9) (xs : List α) : SeqAt.shaped (.list (xs.map f)) = true := by
 have a : PyData.canLay0 (.list (xs.map f)) = true := by rw [PyData.canLay0]; exact can_all f h1 xs
 have b : PyData.depth (.list (xs.map f)) ≤ 64 := by
  rw [PyData.depth]
  have := dep_all f 9 h2 xs
  omega
 unfold SeqAt.shaped
 rw [a, decide_eq_true b]
 rfl
theorem eqE_same {x y : Ev} {d : D} (h1 : dat x = some d) (h2 : dat y = some d) (hs : SeqAt.shaped d = true) (ng : Bool) : eqE ng x y = .ok (.p (.bool (!ng))) := by
 have hc : PyData.canLay0 d = true := by
  unfold SeqAt.shaped at hs
  exact (Bool.and_eq_true_iff.mp hs).1
 unfold eqE
 rw [h1, h2]
 dsimp only
 rw [if_pos ⟨hs, hs⟩, SeqAt.eqv_refl d hc]
 cases ng <;> rfl
theorem sh_fr (x : Int × Int) : SeqAt.shaped (frD x) = true := by simp [SeqAt.shaped, frD, PyData.canLay0, PyData.canLayAll0, PyData.depth, PyData.depthAll]
theorem for_l {fi : En → Res (List D)} {tg : D → En → Option En} {f : MS} {en : En} {ds : List D} (h : fi en = .ok ds) : mFor fi tg f en = mLoop tg f ds en := by unfold mFor; rw [h]
theorem mapO_flt {α : Type} {g : D → Option (Option D)} {enc : α → D} {out : α → D} {p : α → Bool} : ∀ xs : List α, (∀ x ∈ xs, g (enc x) = some (if p x = true then some (out x) else none)) → mapO g (xs.map enc) = some ((xs.filter p).map out)
 | [], _ => rfl
 | x :: xs, h => by
  show (match g (enc x) with | none => none | some o => match mapO g (xs.map enc) with | none => none | some r => some (match o with | some y => y :: r | none => r)) = _
  rw [h x (.head _), mapO_flt xs fun y hy => h y (.tail _ hy), List.filter_cons]
  cases p x <;> rfl
theorem eqv_fr (x y : Int × Int) : PyData.eqv (frD x) (frD y) = decide (x = y) := by
 have : PyData.eqv (frD x) (frD y) = (x.1 == y.1 && (x.2 == y.2 && true)) := by simp [frD, PyData.eqv, PyData.eqvAll]
 rw [this]
 by_cases h : x = y
 ·subst h; simp
 ·rw [decide_eq_false h]
  by_cases h1 : x.1 = y.1
  ·have h2 : ¬ x.2 = y.2 := fun h2 => h (Prod.ext h1 h2)
   simp [h1, h2]
  ·simp [h1]
theorem Sz.addM {m n : Nat} {x y : Int} (hx : Sz m x) (hy : Sz n y) : Sz (max m n + 1) (x + y) := Sz.add (hx.mono (Nat.le_max_left _ _)) (hy.mono (Nat.le_max_right _ _))
theorem Sz.subM {m n : Nat} {x y : Int} (hx : Sz m x) (hy : Sz n y) : Sz (max m n + 1) (x - y) := Sz.sub (hx.mono (Nat.le_max_left _ _)) (hy.mono (Nat.le_max_right _ _))
theorem sz_fmod {n : Nat} {a b : Int} (h : 0 < b) (hb : Sz n b) : Sz n (a.fmod b) := by
 have := fmod_pos (a := a) h
 exact Sz.le hb (by omega)
theorem cm2 {m n : Nat} {i j : Int} (h1 : Sz m i) (h2 : Sz n j) (hm : m ≤ 60000) (hn : n ≤ 60000) : CMulW i j := ⟨h1.mono hm, h2.mono hn⟩
theorem cd2 {m : Nat} {j : Int} (i : Int) (h0 : j ≠ 0) (h1 : Sz m j) (hm : m ≤ 8000) : CDivW i j := ⟨h0, h1.mono hm⟩
theorem mul_ok {i j : Int} (h : CMulW i j) : mulE (.p (.int i)) (.p (.int j)) = .ok (.p (.int (i * j))) := by simp [mulE, intE, h]
theorem fdiv_ok {i j : Int} (h : CDivW i j) : fdivE (.p (.int i)) (.p (.int j)) = .ok (.p (.int (i.fdiv j))) := by simp [fdivE, intE, h]
theorem mod_ok {i j : Int} (h : j ≠ 0) : modE (.p (.int i)) (.p (.int j)) = .ok (.p (.int (i.fmod j))) := by simp [modE, intE, h]
theorem pow_ok {i j : Int} (h : CPow i j) : powE (.p (.int i)) (.p (.int j)) = .ok (.p (.int (i ^ j.toNat))) := by simp [powE, intE, h]
def eII (a : Int × Int) : List L := [.p (.int a.1), .p (.int a.2)]
theorem eII_inj (a b : Int × Int) (h : eII a = eII b) : a = b := by
 unfold eII at h
 injection h with h1 h2
 injection h2 with h2 _
 injection h1 with h1
 injection h2 with h2
 injection h1 with h1
 injection h2 with h2
 exact Prod.ext h1 h2
theorem frsI {a b : List (Int × Int)} (h : a.map frD = b.map frD) : a = b := by
 have e := congrArg (decL frOf) h
 rw [decL_map frOf_frD, decL_map frOf_frD] at e
 exact Option.some.inj e
def eFs (hs : List (Int × Int)) : List L := [.p (.list (hs.map frD))]
theorem eFs_inj (a b : List (Int × Int)) (h : eFs a = eFs b) : a = b := by
 unfold eFs at h
 injection h with h _
 injection h with h
 injection h with h
 exact frsI h
def eFF (a : (Int × Int) × (Int × Int)) : List L := [.p (frD a.1), .p (frD a.2)]
theorem eFF_inj (a b : (Int × Int) × (Int × Int)) (h : eFF a = eFF b) : a = b := by
 unfold eFF at h
 injection h with h1 h2
 injection h2 with h2 _
 injection h1 with h1
 injection h2 with h2
 exact Prod.ext (frI h1) (frI h2)
abbrev Pt := (Int × Int) × (Int × Int)
theorem bind_ok {α β : Type} (a : α) (f : α → Res β) : (Res.ok a).bind f = f a := rfl
theorem ret_f {fe : En → Res Ev} {en : En} {d : D} (h : fe en = .ok (.f d)) : mRet fe en = some (.rt (.o d)) := by unfold mRet; rw [h]; rfl
theorem ret_p {fe : En → Res Ev} {en : En} {d : D} (h : fe en = .ok (.p d)) : mRet fe en = some (.rt (.p d)) := by unfold mRet; rw [h]; rfl
theorem comp_l {n : Nat} {js : List Nat} {fi : En → Res (List D)} {tg : D → En → Option En} {ft : En → Res Bool} {fe : En → Res Ev} {en : En} {ds es : List D} (h1 : fi en = .ok ds) (h2 : ds.length ≤ 100000) (h3 : mapO (compItem n js tg ft fe en) ds = some es) : mComp n js fi tg ft fe en = .ok (.f (.list es)) := by
 unfold mComp
 rw [h1, bind_ok]
 unfold compR
 rw [if_pos h2, h3]
def leF (x y : Int × Int) : Prop := x.1 * y.2 ≤ y.1 * x.2
theorem dvd_low {a b d : Int} (h : d ∣ a * b) (g : Int.gcd a d = 1) : d ∣ b := by
 have h1 : d.natAbs ∣ a.natAbs * b.natAbs := by
  rw [← Int.natAbs_mul]
  exact Int.natAbs_dvd_natAbs.mpr h
 have c : Nat.Coprime d.natAbs a.natAbs := by
  show Nat.gcd d.natAbs a.natAbs = 1
  rw [Nat.gcd_comm]
  exact g
 exact Int.natAbs_dvd_natAbs.mp (Nat.Coprime.dvd_of_dvd_mul_left c h1)
theorem leF_eq {x y : Int × Int} (hx : FR.Fr x) (hy : FR.Fr y) (h1 : leF x y) (h2 : leF y x) : x = y := by
 have e : x.1 * y.2 = y.1 * x.2 := Int.le_antisymm h1 h2
 have p1 := hx.pos
 have p2 := hy.pos
 have d1 : x.2 ∣ y.2 := by
  have : x.2 ∣ x.1 * y.2 := ⟨y.1, by rw [e]; ac_rfl⟩
  exact dvd_low this hx.low
 have d2 : y.2 ∣ x.2 := by
  have : y.2 ∣ y.1 * x.2 := ⟨x.1, by rw [← e]; ac_rfl⟩
  exact dvd_low this hy.low
 have eb : x.2 = y.2 := Int.dvd_antisymm (by omega) (by omega) d1 d2
 have et : x.1 = y.1 := by
  rw [eb] at e
  exact Int.eq_of_mul_eq_mul_right (by omega) e
 exact Prod.ext et eb
theorem pos_mul {x y : Int} (hx : 1 ≤ x) (hy : 1 ≤ y) : 1 ≤ x * y := by
 have := Int.mul_pos (show 0 < x by omega) (show 0 < y by omega)
 omega
abbrev R2 := Int × Int
abbrev R3 := Int × Int × Int
def hM (x y : Int × Int) : Int × Int := FR.mk (x.1 * y.2 - y.1 * x.2) (x.2 * y.2)
def hO (x y : Int × Int) : Int × Int := FR.mk (x.1 * y.2) (x.2 * y.1)
def lowHigh (l h : R3) : R2 := (l.2.1 * h.1 - h.2.1 * l.1, l.2.1 * h.2.2 - h.2.1 * l.2.2)
def elimK (rows : List R3) : List R2 := (rows.filter fun r => decide (r.2.1 = 0)).map fun r => (r.1, r.2.2)
def elimH (rows : List R3) : List R3 := rows.filter fun r => decide (r.2.1 < 0)
def elimS (highs : List R3) (k : List R2) (l : R3) : List R2 := if 0 < l.2.1 then k ++ highs.map (lowHigh l) else k
def elim (rows : List R3) : List R2 := rows.foldl (elimS (elimH rows)) (elimK rows)
end N

namespace N
theorem mk_fr1 {t b : Int} (h : 1 ≤ b) : FR.Fr (FR.mk t b) := (FR.mk_fr (by omega)).1
theorem hP_fr {x y : Int × Int} (hx : 1 ≤ x.2) (hy : 1 ≤ y.2) : FR.Fr (hP x y) := mk_fr1 (pos_mul hx hy)
def ng (x : Int × Int) : Int × Int := hM (0, 1) x
def ngP (s : Pt) : Pt := (ng s.1, ng s.2)
def mvP (s : Pt) (p : Pl) : Pl := (p.1, p.2.1, hgt p (ngP s))
def Pos (ps : List Pl) : Prop := ∀ p ∈ ps, 1 ≤ p.2.2.2
end N

namespace My
open PySem PySem.Spec PyProof.Rows L2 M N
def top (i : Nat) : Stmt := PySem.Challenge.pw_creasecurve_k44_two_on_top_at_each_point.main.body.getD i (.Pass ⟨0, 0, 0, 0⟩)
abbrev s_greatest_divisor : Stmt := top 5
abbrev s_fraction : Stmt := top 6
abbrev s_plus : Stmt := top 7
abbrev s_minus : Stmt := top 8
abbrev s_times : Stmt := top 9
abbrev s_common_bottom : Stmt := top 10
abbrev s_whole : Stmt := top 11
abbrev s_dealings_of : Stmt := top 13
abbrev s_whole_rows : Stmt := top 14
abbrev s_worth_of : Stmt := top 15
abbrev s_best : Stmt := top 16
abbrev s_plane_height : Stmt := top 18
abbrev s_check_numbers : Stmt := top 22
abbrev s_table_without : Stmt := top 23
abbrev s_through : Stmt := top 24
abbrev s__law_whole : Stmt := top 26
abbrev s__law_cell_at : Stmt := top 27
abbrev s__law_mix : Stmt := top 28
abbrev s__law_lowest : Stmt := top 29
abbrev s__law_sum : Stmt := top 30
abbrev s__law_product : Stmt := top 31
abbrev s__law_before : Stmt := top 32
abbrev s__law_is_fraction : Stmt := top 33
abbrev s__law_number : Stmt := top 34
abbrev s__law_slopes : Stmt := top 35
abbrev s__law_points : Stmt := top 36
abbrev s__law_is_roof : Stmt := top 37
abbrev s__law_height : Stmt := top 38
abbrev s__law_tops : Stmt := top 39
abbrev s__law_drawn_slopes : Stmt := top 40
abbrev s__law_moved : Stmt := top 41
abbrev s_law : Stmt := top 42
theorem bB_abs : bootBuiltins "abs" = some (.builtin "abs") := by decide +kernel
theorem bT_bool : bootBuiltins "bool" = some (.type "bool") := by decide +kernel
theorem bT_int : bootBuiltins "int" = some (.type "int") := by decide +kernel
theorem bT_list : bootBuiltins "list" = some (.type "list") := by decide +kernel
theorem bB_max : bootBuiltins "max" = some (.builtin "max") := by decide +kernel
theorem bB_sorted : bootBuiltins "sorted" = some (.builtin "sorted") := by decide +kernel
theorem bB_sum : bootBuiltins "sum" = some (.builtin "sum") := by decide +kernel
theorem bT_tuple : bootBuiltins "tuple" = some (.type "tuple") := by decide +kernel
structure Blt (mg : Str → Option Value) : Prop where
 abs_ : mg "abs" = none
 bool_ : mg "bool" = none
 enumerate_ : mg "enumerate" = none
 int_ : mg "int" = none
 isinstance_ : mg "isinstance" = none
 len_ : mg "len" = none
 list_ : mg "list" = none
 max_ : mg "max" = none
 range_ : mg "range" = none
 reversed_ : mg "reversed" = none
 set_ : mg "set" = none
 sorted_ : mg "sorted" = none
 sum_ : mg "sum" = none
 tuple_ : mg "tuple" = none
 zip_ : mg "zip" = none
structure Cls where
 RoofError : Addr
 NoFraction : Addr
 NoDealing : Addr
structure ClsM (mg : Str → Option Value) (c : Cls) : Prop where
 mRoofError : mg "RoofError" = some (.ref c.RoofError)
 mNoFraction : mg "NoFraction" = some (.ref c.NoFraction)
 mNoDealing : mg "NoDealing" = some (.ref c.NoDealing)
structure ClsO (mg : Str → Option Value) (base : Heap) (c : Cls) : Prop where
 NoDealing : PyProof.Rows.OwnCls "NoDealing" c.NoDealing [.type "ValueError", .type "Exception", .type "BaseException", .type "object"] "ValueError.__new__" mg base
 NoFraction : PyProof.Rows.OwnCls "NoFraction" c.NoFraction [.type "ValueError", .type "Exception", .type "BaseException", .type "object"] "ValueError.__new__" mg base
noncomputable def m_greatest_divisor (K : PySem.W.Frag) (c : Cls) : List L → Res L := mOf eII (fun _ => True) fun a => .ok (.p (.int (Int.gcd a.1 a.2 : Nat)))
noncomputable def f_greatest_divisor_c1 (K : PySem.W.Frag) (c : Cls) : En → Res Bool := (mTru (mBin (eqE true) (mVar 3) (mC (.int 0))))
noncomputable def f_greatest_divisor_b2 (K : PySem.W.Frag) (c : Cls) : MS := (mSeq (mSet 4 (mBin modE (mVar 2) (mVar 3))) (mSeq (mSet 2 (mVar 3)) (mSet 3 (mVar 4))))
noncomputable def f_greatest_divisor (K : PySem.W.Frag) (c : Cls) : MS := (mSeq (mSet 2 (mCallB absE (mCons (mVar 0) mNil))) (mSeq (mSet 3 (mCallB absE (mCons (mVar 1) mNil))) (mSeq (mWhile (f_greatest_divisor_c1 K c) (f_greatest_divisor_b2 K c)) (mRet (mVar 2)))))
theorem wh_gd (K : PySem.W.Frag) (c : Cls) (A B : Option L) : ∀ (n : Nat) (l s : Int) (r : Option L), 0 ≤ l → 0 ≤ s → s.toNat ≤ n → ∃ r', mWh (f_greatest_divisor_c1 K c) (f_greatest_divisor_b2 K c) (n + 1) [A, B, some (.p (.int l)), some (.p (.int s)), r] = some (.nx [A, B, some (.p (.int (Int.gcd l s : Nat))), some (.p (.int 0)), r']) := by
 intro n
 have hc : ∀ (l s : Int) (r : Option L), f_greatest_divisor_c1 K c [A, B, some (.p (.int l)), some (.p (.int s)), r] = .ok (!(s == 0)) := fun l s r => by
  simp only [f_greatest_divisor_c1, mTru, mBin, mVar, mC, List.getElem?_cons_zero, List.getElem?_cons_succ, List.set_cons_zero, List.set_cons_succ, List.length_cons, List.length_nil, List.length_map, List.length_append, if_true, if_false, ite_true, ite_false, decide_true, decide_false, Bool.false_eq_true, Nat.zero_add, Nat.reduceAdd, Nat.reduceEqDiff, Nat.reduceLeDiff, reduceIte, List.map_append, List.map_cons, List.map_nil, Res.bind, Ev.c, eqE, dat, sh_int, eqv_ii, truthR]
  rfl
 have done : ∀ (n : Nat) (l : Int) (r : Option L), 0 ≤ l → mWh (f_greatest_divisor_c1 K c) (f_greatest_divisor_b2 K c) (n + 1) [A, B, some (.p (.int l)), some (.p (.int 0)), r] = some (.nx [A, B, some (.p (.int (Int.gcd l 0 : Nat))), some (.p (.int 0)), r]) := fun n l r hl => by
  unfold mWh
  rw [hc, FR.gcd_end hl]
  rfl
 induction n with
 | zero =>
  intro l s r hl hs hn
  have : s = 0 := by omega
  subst this
  exact ⟨r, done 0 l r hl⟩
 | succ n ih =>
  intro l s r hl hs hn
  by_cases h0 : s = 0
  ·subst h0
   exact ⟨r, done _ l r hl⟩
  ·have em : l.fmod s = l % s := Int.fmod_eq_emod_of_nonneg l hs
   have m0 := Int.emod_nonneg l h0
   have m1 := Int.emod_lt_of_pos l (show 0 < s by omega)
   obtain ⟨r', ih⟩ := ih s (l.fmod s) (some (.p (.int (l.fmod s)))) hs (by omega) (by omega)
   refine ⟨r', ?_⟩
   rw [em, FR.gcd_turn hl hs] at ih
   have hb : f_greatest_divisor_b2 K c [A, B, some (.p (.int l)), some (.p (.int s)), r] = some (.nx [A, B, some (.p (.int s)), some (.p (.int (l % s))), some (.p (.int (l % s)))]) := by
    simp (disch := assumption) only [f_greatest_divisor_b2, mBin, mVar, mC, mSeq, mSet, List.getElem?_cons_zero, List.getElem?_cons_succ, List.set_cons_zero, List.set_cons_succ, List.length_cons, List.length_nil, List.length_map, List.length_append, if_true, if_false, ite_true, ite_false, decide_true, decide_false, Bool.false_eq_true, Nat.zero_add, Nat.reduceAdd, Nat.reduceEqDiff, Nat.reduceLeDiff, reduceIte, List.map_append, List.map_cons, List.map_nil, Res.bind, Ev.c, mod_ok, em]
   have ht : f_greatest_divisor_c1 K c [A, B, some (.p (.int l)), some (.p (.int s)), r] = .ok true := by rw [hc, beq_false_of_ne h0]; rfl
   unfold mWh
   rw [ht]
   dsimp only
   rw [hb]
   exact ih
theorem eq_greatest_divisor (K : PySem.W.Frag) (c : Cls) : ∀ ls, m_greatest_divisor K c ls = .bad ∨ runF 5 (f_greatest_divisor K c) ls = m_greatest_divisor K c ls := mOf_eq fun x _ => by
 obtain ⟨a, b⟩ := x
 obtain ⟨r', h⟩ := wh_gd K c (some (.p (.int a))) (some (.p (.int b))) _ (if a < 0 then -a else a) (if b < 0 then -b else b) none (by split <;> omega) (by split <;> omega) (Nat.le_refl _)
 have h := mWhile_of h
 rw [FR.gcd_abs] at h
 refine run_rt ?_
 rw [show startE 5 (eII (a, b)) = [some (.p (.int a)), some (.p (.int b)), none, none, none] from rfl]
 refine (seq_nx (set_p (d := .int (if a < 0 then -a else a)) rfl)).trans ((seq_nx (set_p (d := .int (if b < 0 then -b else b)) rfl)).trans ((seq_nx h).trans ?_))
 rfl
theorem gcd_good (K : PySem.W.Frag) (c : Cls) (a b : Int) : m_greatest_divisor K c [.p (.int a), .p (.int b)] = .ok (.p (.int (Int.gcd a b : Nat))) := mOf_at (a := (a, b)) eII_inj trivial
theorem cdivW {b : Int} (t : Int) (hb : b ≠ 0) (hz : Sz 8000 b) : CDivW t ((Int.gcd t b : Nat) : Int) ∧ CDivW t (-((Int.gcd t b : Nat) : Int)) := by
 have g0 := FR.gcd_pos (t := t) hb
 have gle : Int.gcd t b ≤ b.natAbs := Nat.le_of_dvd (by omega) (Int.gcd_dvd_natAbs_right t b)
 refine ⟨⟨by omega, Sz.le hz (by rw [Int.natAbs_natCast]; exact gle)⟩, by omega, Sz.le hz (by rw [Int.natAbs_neg, Int.natAbs_natCast]; exact gle)⟩
open Classical in
noncomputable def m_fraction (K : PySem.W.Frag) (c : Cls) : List L → Res L := mOf eII (fun a => Sz 8000 a.2) fun a => if a.2 = 0 then .exc c.NoFraction else .ok (.p (frD (FR.mk a.1 a.2)))
noncomputable def f_fraction (K : PySem.W.Frag) (c : Cls) : MS := (mSeq (mIfS (mTru (mBin (eqE false) (mVar 1) (mC (.int 0)))) (mRaise c.NoFraction (mCons (mC (.str "nothing is divided by 0")) mNil)) mNext) (mSeq (mSet 2 (mCall 2 (m_greatest_divisor K c) (mCons (mVar 0) (mCons (mVar 1) mNil)))) (mSeq (mIfS (mTru (mBin ltE (mVar 1) (mC (.int 0)))) (mSet 2 (mUn negE (mVar 2))) mNext) (mRet (mCallB tupR' (mCons (mBin fdivE (mVar 0) (mVar 2)) (mCons (mBin fdivE (mVar 1) (mVar 2)) mNil)))))))
theorem eq_fraction (K : PySem.W.Frag) (c : Cls) : ∀ ls, m_fraction K c ls = .bad ∨ runF 3 (f_fraction K c) ls = m_fraction K c ls := mOf_eq fun x hz => by
 obtain ⟨t, b⟩ := x
 have hz : Sz 8000 b := hz
 show runF 3 (f_fraction K c) (eII (t, b)) = if b = 0 then .exc c.NoFraction else .ok (.p (frD (FR.mk t b)))
 have t0 : mTru (mBin (eqE false) (mVar 1) (mC (.int 0))) [some (.p (.int t)), some (.p (.int b)), none] = .ok (b == 0) := by
  simp only [mTru, mBin, mVar, mC, List.getElem?_cons_zero, List.getElem?_cons_succ, List.set_cons_zero, List.set_cons_succ, List.length_cons, List.length_nil, List.length_map, List.length_append, if_true, if_false, ite_true, ite_false, decide_true, decide_false, Bool.false_eq_true, Nat.zero_add, Nat.reduceAdd, Nat.reduceEqDiff, Nat.reduceLeDiff, reduceIte, List.map_append, List.map_cons, List.map_nil, Res.bind, Ev.c, eqE, dat, sh_int, eqv_ii, truthR]
  rfl
 by_cases hb : b = 0
 ·rw [if_pos hb]
  have t0 : mTru (mBin (eqE false) (mVar 1) (mC (.int 0))) [some (.p (.int t)), some (.p (.int b)), none] = .ok true := by rw [t0, hb]; rfl
  have e : f_fraction K c (startE 3 (eII (t, b))) = some (.ex c.NoFraction [some (.p (.int t)), some (.p (.int b)), none]) := by
   unfold f_fraction mSeq
   rw [show startE 3 (eII (t, b)) = [some (.p (.int t)), some (.p (.int b)), none] from rfl, if_t t0]
   rfl
  unfold runF
  rw [e]
 ·rw [if_neg hb]
  rw [beq_false_of_ne hb] at t0
  obtain ⟨q1, q2⟩ := cdivW t hb hz
  have q1' : CDivW b ((Int.gcd t b : Nat) : Int) := q1
  have q2' : CDivW b (-((Int.gcd t b : Nat) : Int)) := q2
  have g := gcd_good K c t b
  have e1 : (mCall 2 (m_greatest_divisor K c) (mCons (mVar 0) (mCons (mVar 1) mNil))) [some (.p (.int t)), some (.p (.int b)), none] = .ok (.p (.int (Int.gcd t b : Nat))) := by
   simp only [mCall, mCons, mNil, mVar, List.getElem?_cons_zero, List.getElem?_cons_succ, List.set_cons_zero, List.set_cons_succ, List.length_cons, List.length_nil, List.length_map, List.length_append, if_true, if_false, ite_true, ite_false, decide_true, decide_false, Bool.false_eq_true, Nat.zero_add, Nat.reduceAdd, Nat.reduceEqDiff, Nat.reduceLeDiff, reduceIte, List.map_append, List.map_cons, List.map_nil, Res.bind, Ev.c, callR, argsL, argL, g, retE]
  refine run_rt ?_
  rw [show startE 3 (eII (t, b)) = [some (.p (.int t)), some (.p (.int b)), none] from rfl]
  unfold f_fraction
  refine (seq_nx (if_f t0)).trans ((seq_nx (set_p e1)).trans ?_)
  have t1 : mTru (mBin ltE (mVar 1) (mC (.int 0))) [some (.p (.int t)), some (.p (.int b)), some (.p (.int (Int.gcd t b : Nat)))] = .ok (decide (b < 0)) := by
   simp only [mTru, mBin, mVar, mC, List.getElem?_cons_zero, List.getElem?_cons_succ, List.set_cons_zero, List.set_cons_succ, List.length_cons, List.length_nil, List.length_map, List.length_append, if_true, if_false, ite_true, ite_false, decide_true, decide_false, Bool.false_eq_true, Nat.zero_add, Nat.reduceAdd, Nat.reduceEqDiff, Nat.reduceLeDiff, reduceIte, List.map_append, List.map_cons, List.map_nil, Res.bind, Ev.c, intE0, truthR]
  by_cases hn : b < 0
  ·rw [decide_eq_true hn] at t1
   have es : FR.mk t b = (t.fdiv (-((Int.gcd t b : Nat) : Int)), b.fdiv (-((Int.gcd t b : Nat) : Int))) := by unfold FR.mk FR.sgn; rw [if_pos hn]
   refine (seq_nx ((if_t t1).trans (set_p (d := .int (-((Int.gcd t b : Nat) : Int))) rfl))).trans (ret_p ?_)
   rw [es]
   simp (disch := assumption) only [mSeq, mSet, mRet, mIfS, mVar, mC, mBin, mUn, mCons, mNil, mCall, callR, argsL, argL, argB, Res.bind, Ev.c, retL, retE, mCallB, tupR', lstR', pureL, mTru, truthR, mAnd, mOr, mNot, mAndV, mOrV, mNotV, mRaise, mNext, addE, intE0, negE, lstOf, dat, lenE, eqE, sh_int, eqv_ii, ix_pl2, ix_pl0, ix_pl1, ix_fr0, ix_fr1, ix_t0, ix_t1, ix_t2, mul_ok, fdiv_ok, mod_ok, pow_ok, List.getElem?_cons_zero, List.getElem?_cons_succ, List.set_cons_zero, List.set_cons_succ, List.length_cons, List.length_nil, List.length_map, List.length_append, if_true, if_false, ite_true, ite_false, decide_true, decide_false, Bool.false_eq_true, Nat.zero_add, Nat.reduceAdd, Nat.reduceEqDiff, Nat.reduceLeDiff, reduceIte, List.map_append, List.map_cons, List.map_nil, frD]
  ·rw [decide_eq_false hn] at t1
   have es : FR.mk t b = (t.fdiv ((Int.gcd t b : Nat) : Int), b.fdiv ((Int.gcd t b : Nat) : Int)) := by unfold FR.mk FR.sgn; rw [if_neg hn]
   refine (seq_nx (if_f t1)).trans (ret_p ?_)
   rw [es]
   simp (disch := assumption) only [mSeq, mSet, mRet, mIfS, mVar, mC, mBin, mUn, mCons, mNil, mCall, callR, argsL, argL, argB, Res.bind, Ev.c, retL, retE, mCallB, tupR', lstR', pureL, mTru, truthR, mAnd, mOr, mNot, mAndV, mOrV, mNotV, mRaise, mNext, addE, intE0, negE, lstOf, dat, lenE, eqE, sh_int, eqv_ii, ix_pl2, ix_pl0, ix_pl1, ix_fr0, ix_fr1, ix_t0, ix_t1, ix_t2, mul_ok, fdiv_ok, mod_ok, pow_ok, List.getElem?_cons_zero, List.getElem?_cons_succ, List.set_cons_zero, List.set_cons_succ, List.length_cons, List.length_nil, List.length_map, List.length_append, if_true, if_false, ite_true, ite_false, decide_true, decide_false, Bool.false_eq_true, Nat.zero_add, Nat.reduceAdd, Nat.reduceEqDiff, Nat.reduceLeDiff, reduceIte, List.map_append, List.map_cons, List.map_nil, frD]
theorem frac_ok (K : PySem.W.Frag) (c : Cls) {t b : Int} (h0 : b ≠ 0) (h1 : Sz 8000 b) : m_fraction K c [.p (.int t), .p (.int b)] = .ok (.p (frD (FR.mk t b))) := (mOf_at (a := (t, b)) eII_inj h1).trans (if_neg h0)
noncomputable def m_plus (K : PySem.W.Frag) (c : Cls) : List L → Res L := mOf eFF (fun a => FSz 2000 a.1 ∧ FSz 2000 a.2 ∧ a.1.2 * a.2.2 ≠ 0) fun a => .ok (.p (frD (FR.mk (a.1.1 * a.2.2 + a.2.1 * a.1.2) (a.1.2 * a.2.2))))
noncomputable def f_plus (K : PySem.W.Frag) (c : Cls) : MS := (mRet (mCall 2 (m_fraction K c) (mCons (mBin addE (mBin mulE (mBin ixE (mVar 0) (mC (.int 0))) (mBin ixE (mVar 1) (mC (.int 1)))) (mBin mulE (mBin ixE (mVar 1) (mC (.int 0))) (mBin ixE (mVar 0) (mC (.int 1))))) (mCons (mBin mulE (mBin ixE (mVar 0) (mC (.int 1))) (mBin ixE (mVar 1) (mC (.int 1)))) mNil))))
theorem eq_plus (K : PySem.W.Frag) (c : Cls) : ∀ ls, m_plus K c ls = .bad ∨ runF 2 (f_plus K c) ls = m_plus K c ls := mOf_eq fun a h => by
 obtain ⟨x, y⟩ := a
 obtain ⟨⟨x1, x2⟩, ⟨y1, y2⟩, hb⟩ := h
 dsimp only at x1 x2 y1 y2 hb ⊢
 have f := frac_ok K c (t := x.1 * y.2 + y.1 * x.2) hb ((Sz.mul x2 y2).mono (by decide))
 refine run_rt ?_
 rw [show startE 2 (eFF (x, y)) = [some (.p (frD x)), some (.p (frD y))] from rfl]
 unfold f_plus
 refine ret_p ?_
 simp (disch := (first | assumption | (first | apply N.cm2 | apply N.cd2) <;> (first | decide | omega | (repeat (first | assumption | apply L2.Sz.mul | apply N.Sz.addM | apply N.Sz.subM | apply L2.Sz.neg | apply N.sz_fdiv | (apply N.sz_fmod; (first | decide | omega)) | exact N.sz_lit4 (by decide) | exact N.sz_lit (by decide) | exact N.sz_lit70 (by decide) | exact N.sz_big (by decide)))) | decide | omega)) only [mSeq, mSet, mRet, mIfS, mVar, mC, mBin, mUn, mCons, mNil, mCall, callR, argsL, argL, argB, Res.bind, Ev.c, retL, retE, mCallB, tupR', lstR', pureL, mTru, truthR, mAnd, mOr, mNot, mAndV, mOrV, mNotV, mRaise, mNext, addE, intE0, negE, lstOf, dat, lenE, eqE, sh_int, eqv_ii, ix_pl2, ix_pl0, ix_pl1, ix_fr0, ix_fr1, ix_t0, ix_t1, ix_t2, mul_ok, fdiv_ok, mod_ok, pow_ok, List.getElem?_cons_zero, List.getElem?_cons_succ, List.set_cons_zero, List.set_cons_succ, List.length_cons, List.length_nil, List.length_map, List.length_append, if_true, if_false, ite_true, ite_false, decide_true, decide_false, Bool.false_eq_true, Nat.zero_add, Nat.reduceAdd, Nat.reduceEqDiff, Nat.reduceLeDiff, reduceIte, List.map_append, List.map_cons, List.map_nil, f]
theorem ok2_plus (K : PySem.W.Frag) (c : Cls) {x y : Int × Int} (h1 : FSz 2000 x) (h2 : FSz 2000 y) (h3 : x.2 * y.2 ≠ 0) : m_plus K c [.p (frD x), .p (frD y)] = .ok (.p (frD (FR.mk (x.1 * y.2 + y.1 * x.2) (x.2 * y.2)))) := mOf_at (a := (x, y)) eFF_inj ⟨h1, h2, h3⟩
theorem plus_good (K : PySem.W.Frag) (c : Cls) {m n : Nat} {x y : Int × Int} (hx : Good m x) (hy : Good n y) (hm : m ≤ 2000) (hn : n ≤ 2000) : m_plus K c [.p (frD x), .p (frD y)] = .ok (.p (frD (hP x y))) := ok2_plus K c (hx.mono hm).fsz (hy.mono hn).fsz (hx.ne hy)
noncomputable def m_minus (K : PySem.W.Frag) (c : Cls) : List L → Res L := mOf eFF (fun a => FSz 2000 a.1 ∧ FSz 2000 a.2 ∧ a.1.2 * a.2.2 ≠ 0) fun a => .ok (.p (frD (FR.mk (a.1.1 * a.2.2 - a.2.1 * a.1.2) (a.1.2 * a.2.2))))
noncomputable def f_minus (K : PySem.W.Frag) (c : Cls) : MS := (mRet (mCall 2 (m_fraction K c) (mCons (mBin subE (mBin mulE (mBin ixE (mVar 0) (mC (.int 0))) (mBin ixE (mVar 1) (mC (.int 1)))) (mBin mulE (mBin ixE (mVar 1) (mC (.int 0))) (mBin ixE (mVar 0) (mC (.int 1))))) (mCons (mBin mulE (mBin ixE (mVar 0) (mC (.int 1))) (mBin ixE (mVar 1) (mC (.int 1)))) mNil))))
theorem eq_minus (K : PySem.W.Frag) (c : Cls) : ∀ ls, m_minus K c ls = .bad ∨ runF 2 (f_minus K c) ls = m_minus K c ls := mOf_eq fun a h => by
 obtain ⟨x, y⟩ := a
 obtain ⟨⟨x1, x2⟩, ⟨y1, y2⟩, hb⟩ := h
 dsimp only at x1 x2 y1 y2 hb ⊢
 have f := frac_ok K c (t := x.1 * y.2 - y.1 * x.2) hb ((Sz.mul x2 y2).mono (by decide))
 refine run_rt ?_
 rw [show startE 2 (eFF (x, y)) = [some (.p (frD x)), some (.p (frD y))] from rfl]
 unfold f_minus
 refine ret_p ?_
 simp (disch := (first | assumption | (first | apply N.cm2 | apply N.cd2) <;> (first | decide | omega | (repeat (first | assumption | apply L2.Sz.mul | apply N.Sz.addM | apply N.Sz.subM | apply L2.Sz.neg | apply N.sz_fdiv | (apply N.sz_fmod; (first | decide | omega)) | exact N.sz_lit4 (by decide) | exact N.sz_lit (by decide) | exact N.sz_lit70 (by decide) | exact N.sz_big (by decide)))) | decide | omega)) only [mSeq, mSet, mRet, mIfS, mVar, mC, mBin, mUn, mCons, mNil, mCall, callR, argsL, argL, argB, Res.bind, Ev.c, retL, retE, mCallB, tupR', lstR', pureL, mTru, truthR, mAnd, mOr, mNot, mAndV, mOrV, mNotV, mRaise, mNext, addE, intE0, negE, lstOf, dat, lenE, eqE, sh_int, eqv_ii, ix_pl2, ix_pl0, ix_pl1, ix_fr0, ix_fr1, ix_t0, ix_t1, ix_t2, mul_ok, fdiv_ok, mod_ok, pow_ok, List.getElem?_cons_zero, List.getElem?_cons_succ, List.set_cons_zero, List.set_cons_succ, List.length_cons, List.length_nil, List.length_map, List.length_append, if_true, if_false, ite_true, ite_false, decide_true, decide_false, Bool.false_eq_true, Nat.zero_add, Nat.reduceAdd, Nat.reduceEqDiff, Nat.reduceLeDiff, reduceIte, List.map_append, List.map_cons, List.map_nil, f]
theorem ok2_minus (K : PySem.W.Frag) (c : Cls) {x y : Int × Int} (h1 : FSz 2000 x) (h2 : FSz 2000 y) (h3 : x.2 * y.2 ≠ 0) : m_minus K c [.p (frD x), .p (frD y)] = .ok (.p (frD (FR.mk (x.1 * y.2 - y.1 * x.2) (x.2 * y.2)))) := mOf_at (a := (x, y)) eFF_inj ⟨h1, h2, h3⟩
theorem minus_good (K : PySem.W.Frag) (c : Cls) {m n : Nat} {x y : Int × Int} (hx : Good m x) (hy : Good n y) (hm : m ≤ 2000) (hn : n ≤ 2000) : m_minus K c [.p (frD x), .p (frD y)] = .ok (.p (frD (hM x y))) := ok2_minus K c (hx.mono hm).fsz (hy.mono hn).fsz (hx.ne hy)
noncomputable def m_times (K : PySem.W.Frag) (c : Cls) : List L → Res L := mOf eFF (fun a => FSz 2000 a.1 ∧ FSz 2000 a.2 ∧ a.1.2 * a.2.2 ≠ 0) fun a => .ok (.p (frD (FR.mk (a.1.1 * a.2.1) (a.1.2 * a.2.2))))
noncomputable def f_times (K : PySem.W.Frag) (c : Cls) : MS := (mRet (mCall 2 (m_fraction K c) (mCons (mBin mulE (mBin ixE (mVar 0) (mC (.int 0))) (mBin ixE (mVar 1) (mC (.int 0)))) (mCons (mBin mulE (mBin ixE (mVar 0) (mC (.int 1))) (mBin ixE (mVar 1) (mC (.int 1)))) mNil))))
theorem eq_times (K : PySem.W.Frag) (c : Cls) : ∀ ls, m_times K c ls = .bad ∨ runF 2 (f_times K c) ls = m_times K c ls := mOf_eq fun a h => by
 obtain ⟨x, y⟩ := a
 obtain ⟨⟨x1, x2⟩, ⟨y1, y2⟩, hb⟩ := h
 dsimp only at x1 x2 y1 y2 hb ⊢
 have f := frac_ok K c (t := x.1 * y.1) hb ((Sz.mul x2 y2).mono (by decide))
 refine run_rt ?_
 rw [show startE 2 (eFF (x, y)) = [some (.p (frD x)), some (.p (frD y))] from rfl]
 unfold f_times
 refine ret_p ?_
 simp (disch := (first | assumption | (first | apply N.cm2 | apply N.cd2) <;> (first | decide | omega | (repeat (first | assumption | apply L2.Sz.mul | apply N.Sz.addM | apply N.Sz.subM | apply L2.Sz.neg | apply N.sz_fdiv | (apply N.sz_fmod; (first | decide | omega)) | exact N.sz_lit4 (by decide) | exact N.sz_lit (by decide) | exact N.sz_lit70 (by decide) | exact N.sz_big (by decide)))) | decide | omega)) only [mSeq, mSet, mRet, mIfS, mVar, mC, mBin, mUn, mCons, mNil, mCall, callR, argsL, argL, argB, Res.bind, Ev.c, retL, retE, mCallB, tupR', lstR', pureL, mTru, truthR, mAnd, mOr, mNot, mAndV, mOrV, mNotV, mRaise, mNext, addE, intE0, negE, lstOf, dat, lenE, eqE, sh_int, eqv_ii, ix_pl2, ix_pl0, ix_pl1, ix_fr0, ix_fr1, ix_t0, ix_t1, ix_t2, mul_ok, fdiv_ok, mod_ok, pow_ok, List.getElem?_cons_zero, List.getElem?_cons_succ, List.set_cons_zero, List.set_cons_succ, List.length_cons, List.length_nil, List.length_map, List.length_append, if_true, if_false, ite_true, ite_false, decide_true, decide_false, Bool.false_eq_true, Nat.zero_add, Nat.reduceAdd, Nat.reduceEqDiff, Nat.reduceLeDiff, reduceIte, List.map_append, List.map_cons, List.map_nil, f]
theorem ok2_times (K : PySem.W.Frag) (c : Cls) {x y : Int × Int} (h1 : FSz 2000 x) (h2 : FSz 2000 y) (h3 : x.2 * y.2 ≠ 0) : m_times K c [.p (frD x), .p (frD y)] = .ok (.p (frD (FR.mk (x.1 * y.1) (x.2 * y.2)))) := mOf_at (a := (x, y)) eFF_inj ⟨h1, h2, h3⟩
theorem times_good (K : PySem.W.Frag) (c : Cls) {n : Nat} {i : Int} {x : Int × Int} (hi : Sz 2000 i) (hx : Good n x) (hn : n ≤ 2000) : m_times K c [.p (.tuple [.int i, .int 1]), .p (frD x)] = .ok (.p (frD (hT i x))) := ok2_times K c (x := (i, 1)) ⟨hi, sz_one⟩ (hx.mono hn).fsz (by have := hx.1; show 1 * x.2 ≠ 0; omega)
structure GoodQ (p : Pl) (pt : Pt) : Prop where
 i : Sz 10 p.1
 j : Sz 10 p.2.1
 h : Good 700 p.2.2
 x : Good 610 pt.1
 y : Good 610 pt.2
theorem GoodQ.hgt {p : Pl} {pt : Pt} (g : GoodQ p pt) : Good 1942 (hgt p pt) := good_P (good_P (good_T g.i g.x) (good_T g.j g.y)) g.h
noncomputable def m_plane_height (K : PySem.W.Frag) (c : Cls) : List L → Res L := mOf ePH (fun a => GoodQ a.1 a.2) fun a => .ok (.p (frD (hgt a.1 a.2)))
noncomputable def f_plane_height (K : PySem.W.Frag) (c : Cls) : MS := (mSeq (mSet 2 (mCall 2 (m_times K c) (mCons (mCallB tupR' (mCons (mBin ixE (mVar 0) (mC (.int 0))) (mCons (mC (.int 1)) mNil))) (mCons (mBin ixE (mVar 1) (mC (.int 0))) mNil)))) (mSeq (mSet 3 (mCall 2 (m_times K c) (mCons (mCallB tupR' (mCons (mBin ixE (mVar 0) (mC (.int 1))) (mCons (mC (.int 1)) mNil))) (mCons (mBin ixE (mVar 1) (mC (.int 1))) mNil)))) (mRet (mCall 2 (m_plus K c) (mCons (mCall 2 (m_plus K c) (mCons (mVar 2) (mCons (mVar 3) mNil))) (mCons (mBin ixE (mVar 0) (mC (.int 2))) mNil))))))
theorem eq_plane_height (K : PySem.W.Frag) (c : Cls) : ∀ ls, m_plane_height K c ls = .bad ∨ runF 4 (f_plane_height K c) ls = m_plane_height K c ls := mOf_eq fun a g => by
 obtain ⟨p, pt⟩ := a
 dsimp only at g ⊢
 have t1 := times_good K c (g.i.mono (show 10 ≤ 2000 by decide)) g.x (by decide)
 have t2 := times_good K c (g.j.mono (show 10 ≤ 2000 by decide)) g.y (by decide)
 have p1 := plus_good K c (good_T g.i g.x) (good_T g.j g.y) (by decide) (by decide)
 have p2 := plus_good K c (good_P (good_T g.i g.x) (good_T g.j g.y)) g.h (by decide) (by decide)
 refine run_rt ?_
 rw [show startE 4 (ePH (p, pt)) = [some (.p (plD p)), some (.p (.tuple [frD pt.1, frD pt.2])), none, none] from rfl]
 unfold f_plane_height
 have e1 : (mCall 2 (m_times K c) (mCons (mCallB tupR' (mCons (mBin ixE (mVar 0) (mC (.int 0))) (mCons (mC (.int 1)) mNil))) (mCons (mBin ixE (mVar 1) (mC (.int 0))) mNil))) [some (.p (plD p)), some (.p (.tuple [frD pt.1, frD pt.2])), none, none] = .ok (.p (frD (hT p.1 pt.1))) := by
  simp only [mSeq, mSet, mRet, mIfS, mVar, mC, mBin, mUn, mCons, mNil, mCall, callR, argsL, argL, argB, Res.bind, Ev.c, retL, retE, mCallB, tupR', lstR', pureL, mTru, truthR, mAnd, mOr, mNot, mAndV, mOrV, mNotV, mRaise, mNext, addE, intE0, negE, lstOf, dat, lenE, eqE, sh_int, eqv_ii, ix_pl2, ix_pl0, ix_pl1, ix_fr0, ix_fr1, ix_t0, ix_t1, ix_t2, List.getElem?_cons_zero, List.getElem?_cons_succ, List.set_cons_zero, List.set_cons_succ, List.length_cons, List.length_nil, List.length_map, List.length_append, if_true, if_false, ite_true, ite_false, decide_true, decide_false, Bool.false_eq_true, Nat.zero_add, Nat.reduceAdd, Nat.reduceEqDiff, Nat.reduceLeDiff, reduceIte, List.map_append, List.map_cons, List.map_nil, t1]
 have e2 : (mCall 2 (m_times K c) (mCons (mCallB tupR' (mCons (mBin ixE (mVar 0) (mC (.int 1))) (mCons (mC (.int 1)) mNil))) (mCons (mBin ixE (mVar 1) (mC (.int 1))) mNil))) [some (.p (plD p)), some (.p (.tuple [frD pt.1, frD pt.2])), some (.p (frD (hT p.1 pt.1))), none] = .ok (.p (frD (hT p.2.1 pt.2))) := by
  simp only [mSeq, mSet, mRet, mIfS, mVar, mC, mBin, mUn, mCons, mNil, mCall, callR, argsL, argL, argB, Res.bind, Ev.c, retL, retE, mCallB, tupR', lstR', pureL, mTru, truthR, mAnd, mOr, mNot, mAndV, mOrV, mNotV, mRaise, mNext, addE, intE0, negE, lstOf, dat, lenE, eqE, sh_int, eqv_ii, ix_pl2, ix_pl0, ix_pl1, ix_fr0, ix_fr1, ix_t0, ix_t1, ix_t2, List.getElem?_cons_zero, List.getElem?_cons_succ, List.set_cons_zero, List.set_cons_succ, List.length_cons, List.length_nil, List.length_map, List.length_append, if_true, if_false, ite_true, ite_false, decide_true, decide_false, Bool.false_eq_true, Nat.zero_add, Nat.reduceAdd, Nat.reduceEqDiff, Nat.reduceLeDiff, reduceIte, List.map_append, List.map_cons, List.map_nil, t2]
 refine (seq_nx (set_p e1)).trans ((seq_nx (set_p e2)).trans (ret_p ?_))
 simp only [mSeq, mSet, mRet, mIfS, mVar, mC, mBin, mUn, mCons, mNil, mCall, callR, argsL, argL, argB, Res.bind, Ev.c, retL, retE, mCallB, tupR', lstR', pureL, mTru, truthR, mAnd, mOr, mNot, mAndV, mOrV, mNotV, mRaise, mNext, addE, intE0, negE, lstOf, dat, lenE, eqE, sh_int, eqv_ii, ix_pl2, ix_pl0, ix_pl1, ix_fr0, ix_fr1, ix_t0, ix_t1, ix_t2, List.getElem?_cons_zero, List.getElem?_cons_succ, List.set_cons_zero, List.set_cons_succ, List.length_cons, List.length_nil, List.length_map, List.length_append, if_true, if_false, ite_true, ite_false, decide_true, decide_false, Bool.false_eq_true, Nat.zero_add, Nat.reduceAdd, Nat.reduceEqDiff, Nat.reduceLeDiff, reduceIte, List.map_append, List.map_cons, List.map_nil, p1, p2]
 rfl
theorem ph_good (K : PySem.W.Frag) (c : Cls) {p : Pl} {pt : Pt} (g : GoodQ p pt) : m_plane_height K c [.p (plD p), .p (.tuple [frD pt.1, frD pt.2])] = .ok (.p (frD (hgt p pt))) := mOf_at (a := (p, pt)) ePH_inj g
def cbS (c b : Int) : Int := (c * b).fdiv (Int.gcd c b : Nat)
def cb (hs : List (Int × Int)) : Int := hs.foldl (fun c h => cbS c h.2) 1
theorem cbS_ok {c b : Int} (hc : 1 ≤ c) (hb : 1 ≤ b) : 1 ≤ cbS c b ∧ c ∣ cbS c b ∧ b ∣ cbS c b := by
 have g0 : 0 < Int.gcd c b := Int.gcd_pos_of_ne_zero_right c (by omega)
 obtain ⟨k, hk⟩ := Int.gcd_dvd_right c b
 obtain ⟨j, hj⟩ := Int.gcd_dvd_left c b
 have e1 : cbS c b = c * k := by
  unfold cbS
  have : c * b = ((Int.gcd c b : Nat) : Int) * (c * k) := by
   conv => lhs; rw [hk]
   ac_rfl
  rw [this]
  exact Int.mul_fdiv_cancel_left _ (by omega)
 have e2 : cbS c b = b * j := by
  unfold cbS
  have : c * b = ((Int.gcd c b : Nat) : Int) * (b * j) := by
   conv => lhs; rw [hj]
   ac_rfl
  rw [this]
  exact Int.mul_fdiv_cancel_left _ (by omega)
 have k0 : 0 < k := Int.pos_of_mul_pos_right (show 0 < ((Int.gcd c b : Nat) : Int) * k by rw [← hk]; omega) (by omega)
 refine ⟨?_, ⟨k, e1⟩, ⟨j, e2⟩⟩
 rw [e1]
 exact pos_mul hc k0
theorem cb_ok {b : Nat} : ∀ (hs : List (Int × Int)) (c : Int) (n : Nat), 1 ≤ c → Sz n c → (∀ h ∈ hs, 1 ≤ h.2 ∧ Sz b h.2) → 1 ≤ hs.foldl (fun c h => cbS c h.2) c ∧ c ∣ hs.foldl (fun c h => cbS c h.2) c ∧ (∀ h ∈ hs, h.2 ∣ hs.foldl (fun c h => cbS c h.2) c) ∧ Sz (n + b * hs.length) (hs.foldl (fun c h => cbS c h.2) c)
 | [], c, n, h1, h2, _ => ⟨h1, Int.dvd_refl _, (fun _ h => nomatch h), h2⟩
 | h :: hs, c, n, h1, h2, hg => by
  have g := hg h (.head _)
  obtain ⟨a1, a2, a3⟩ := cbS_ok h1 g.1
  have sz : Sz (n + b) (cbS c h.2) := Sz.le (Sz.mul h2 g.2) (natAbs_fdiv_le _ _)
  obtain ⟨b1, b2, b3, b4⟩ := cb_ok hs (cbS c h.2) (n + b) a1 sz fun x hx => hg x (.tail _ hx)
  rw [List.foldl_cons]
  refine ⟨b1, Int.dvd_trans a2 b2, fun x hx => ?_, b4.mono (by rw [List.length_cons, Nat.mul_succ]; omega)⟩
  rcases List.mem_cons.mp hx with z | z
  ·rw [z]; exact Int.dvd_trans a3 b2
  ·exact b3 x z
def CbP (hs : List (Int × Int)) : Prop := ∃ b : Nat, b ≤ 400 ∧ b * hs.length ≤ 40000 ∧ ∀ h ∈ hs, 1 ≤ h.2 ∧ Sz b h.2
noncomputable def m_common_bottom (K : PySem.W.Frag) (c : Cls) : List L → Res L := mOf eFs CbP fun hs => .ok (.p (.int (cb hs)))
noncomputable def f_common_bottom_b1 (K : PySem.W.Frag) (c : Cls) : MS := (mSet 1 (mBin fdivE (mBin mulE (mVar 1) (mBin ixE (mVar 2) (mC (.int 1)))) (mCall 2 (m_greatest_divisor K c) (mCons (mVar 1) (mCons (mBin ixE (mVar 2) (mC (.int 1))) mNil)))))
noncomputable def f_common_bottom (K : PySem.W.Frag) (c : Cls) : MS := (mSeq (mSet 1 (mC (.int 1))) (mSeq (mFor (mItL (mVar 0)) (mgName 2) (f_common_bottom_b1 K c)) (mRet (mVar 1))))
theorem eq_common_bottom (K : PySem.W.Frag) (c : Cls) : ∀ ls, m_common_bottom K c ls = .bad ∨ runF 3 (f_common_bottom K c) ls = m_common_bottom K c ls := mOf_eq fun hs h => by
 obtain ⟨b, hb, hl, hg⟩ := h
 have gen : ∀ (xs : List (Int × Int)) (x : Int) (n : Nat) (r : Option L), 1 ≤ x → Sz n x → n + b * xs.length ≤ 40001 → (∀ h ∈ xs, 1 ≤ h.2 ∧ Sz b h.2) → ∃ r', mLoop (mgName 2) (f_common_bottom_b1 K c) (xs.map frD) [some (.p (.list (hs.map frD))), some (.p (.int x)), r] = some (.nx [some (.p (.list (hs.map frD))), some (.p (.int (xs.foldl (fun c h => cbS c h.2) x))), r']) := by
  intro xs
  induction xs with
  | nil => intro x n r _ _ _ _; exact ⟨r, rfl⟩
  | cons h xs ih =>
   intro x n r x1 x2 hk hxs
   have g := hxs h (.head _)
   rw [List.length_cons, Nat.mul_succ] at hk
   obtain ⟨a1, a2, a3⟩ := cbS_ok x1 g.1
   have sz : Sz (n + b) (cbS x h.2) := Sz.le (Sz.mul x2 g.2) (natAbs_fdiv_le _ _)
   obtain ⟨r', ih⟩ := ih (cbS x h.2) (n + b) (some (.p (frD h))) a1 sz (by omega) fun y hy => hxs y (.tail _ hy)
   refine ⟨r', ?_⟩
   have g0 : 0 < Int.gcd x h.2 := Int.gcd_pos_of_ne_zero_right x (by have := g.1; omega)
   have q1 : CMulW x h.2 := ⟨x2.mono (by omega), g.2.mono (by omega)⟩
   have q2 : CDivW (x * h.2) ((Int.gcd x h.2 : Nat) : Int) := ⟨by omega, (Sz.le g.2 (by rw [Int.natAbs_natCast]; exact Nat.le_of_dvd (by have := g.1; omega) (Int.gcd_dvd_natAbs_right x h.2))).mono (by omega)⟩
   have hb : f_common_bottom_b1 K c [some (.p (.list (hs.map frD))), some (.p (.int x)), some (.p (frD h))] = some (.nx [some (.p (.list (hs.map frD))), some (.p (.int (cbS x h.2))), some (.p (frD h))]) := by
    simp (disch := assumption) only [f_common_bottom_b1, mSeq, mSet, mRet, mIfS, mVar, mC, mBin, mUn, mCons, mNil, mCall, callR, argsL, argL, argB, Res.bind, Ev.c, retL, retE, mCallB, tupR', lstR', pureL, mTru, truthR, mAnd, mOr, mNot, mAndV, mOrV, mNotV, mRaise, mNext, addE, intE0, negE, lstOf, dat, lenE, eqE, sh_int, eqv_ii, ix_pl2, ix_pl0, ix_pl1, ix_fr0, ix_fr1, ix_t0, ix_t1, ix_t2, mul_ok, fdiv_ok, mod_ok, pow_ok, List.getElem?_cons_zero, List.getElem?_cons_succ, List.set_cons_zero, List.set_cons_succ, List.length_cons, List.length_nil, List.length_map, List.length_append, if_true, if_false, ite_true, ite_false, decide_true, decide_false, Bool.false_eq_true, Nat.zero_add, Nat.reduceAdd, Nat.reduceEqDiff, Nat.reduceLeDiff, reduceIte, List.map_append, List.map_cons, List.map_nil, gcd_good]
    rfl
   rw [List.map_cons]
   unfold mLoop
   simp only [mgName, List.set_cons_succ, List.set_cons_zero]
   rw [hb]
   exact ih
 obtain ⟨r', h⟩ := gen hs 1 1 none (Int.le_refl 1) (sz_of _ (by decide)) (by omega) hg
 refine run_rt ?_
 rw [show startE 3 (eFs hs) = [some (.p (.list (hs.map frD))), none, none] from rfl]
 refine (seq_nx (set_p (d := .int 1) rfl)).trans ?_
 refine (seq_nx ((for_l (ds := hs.map frD) rfl).trans h)).trans (ret_p rfl)
theorem cb_good (K : PySem.W.Frag) (c : Cls) {hs : List (Int × Int)} (h : CbP hs) : m_common_bottom K c [.p (.list (hs.map frD))] = .ok (.p (.int (cb hs))) := mOf_at (a := hs) eFs_inj h
def eHI (a : (Int × Int) × Int) : List L := [.p (frD a.1), .p (.int a.2)]
theorem eHI_inj (a b : (Int × Int) × Int) (h : eHI a = eHI b) : a = b := by
 unfold eHI at h
 injection h with h1 h2
 injection h2 with h2 _
 injection h1 with h1
 injection h2 with h2
 injection h2 with h2
 exact Prod.ext (frI h1) h2
def wI (x : Int × Int) (F : Int) : Int := x.1 * F.fdiv x.2
noncomputable def m_whole (K : PySem.W.Frag) (c : Cls) : List L → Res L := mOf eHI (fun a => Good 400 a.1 ∧ Sz 41000 a.2) fun a => .ok (.p (.int (wI a.1 a.2)))
noncomputable def f_whole (K : PySem.W.Frag) (c : Cls) : MS := (mRet (mBin mulE (mBin ixE (mVar 0) (mC (.int 0))) (mBin fdivE (mVar 1) (mBin ixE (mVar 0) (mC (.int 1))))))
theorem eq_whole (K : PySem.W.Frag) (c : Cls) : ∀ ls, m_whole K c ls = .bad ∨ runF 2 (f_whole K c) ls = m_whole K c ls := mOf_eq fun a h => by
 obtain ⟨x, F⟩ := a
 obtain ⟨⟨p, t, b⟩, hF⟩ := h
 dsimp only at p t b hF ⊢
 have bn : x.2 ≠ 0 := by omega
 have q1 : CDivW F x.2 := ⟨bn, b.mono (by decide)⟩
 have q2 : CMulW x.1 (F.fdiv x.2) := ⟨t.mono (by decide), (Sz.le hF (natAbs_fdiv_le _ _)).mono (by decide)⟩
 refine run_rt ?_
 rw [show startE 2 (eHI (x, F)) = [some (.p (frD x)), some (.p (.int F))] from rfl]
 unfold f_whole
 refine ret_p ?_
 simp (disch := assumption) only [mSeq, mSet, mRet, mIfS, mVar, mC, mBin, mUn, mCons, mNil, mCall, callR, argsL, argL, argB, Res.bind, Ev.c, retL, retE, mCallB, tupR', lstR', pureL, mTru, truthR, mAnd, mOr, mNot, mAndV, mOrV, mNotV, mRaise, mNext, addE, intE0, negE, lstOf, dat, lenE, eqE, sh_int, eqv_ii, ix_pl2, ix_pl0, ix_pl1, ix_fr0, ix_fr1, ix_t0, ix_t1, ix_t2, mul_ok, fdiv_ok, mod_ok, pow_ok, List.getElem?_cons_zero, List.getElem?_cons_succ, List.set_cons_zero, List.set_cons_succ, List.length_cons, List.length_nil, List.length_map, List.length_append, if_true, if_false, ite_true, ite_false, decide_true, decide_false, Bool.false_eq_true, Nat.zero_add, Nat.reduceAdd, Nat.reduceEqDiff, Nat.reduceLeDiff, reduceIte, List.map_append, List.map_cons, List.map_nil]
 rfl
theorem whole_good (K : PySem.W.Frag) (c : Cls) {x : Int × Int} {F : Int} (h1 : Good 400 x) (h2 : Sz 41000 F) : m_whole K c [.p (frD x), .p (.int F)] = .ok (.p (.int (wI x F))) := mOf_at (a := (x, F)) eHI_inj ⟨h1, h2⟩
structure KitF (K : PySem.W.Frag) (c : Cls) : Prop where
 ii : PySem.W.kitOne K (.type "int") (.type "int") = some true
 ib : PySem.W.kitOne K (.type "int") (.type "bool") = some false
 tt : PySem.W.kitOne K (.type "tuple") (.type "tuple") = some true
 ll : PySem.W.kitOne K (.type "list") (.type "list") = some true
noncomputable def f__law_cell_at (K : PySem.W.Frag) (c : Cls) : MS := (mSeq (mIfS (mTru (mBin ltE (mVar 1) (mCallB lenE (mCons (mVar 0) mNil)))) (mRet (mBin ixE (mVar 0) (mVar 1))) mNext) (mRet (mC (.int 0))))
noncomputable def m__law_cell_at (K : PySem.W.Frag) (c : Cls) (ls : List L) : Res L := runF 2 (f__law_cell_at K c) ls
theorem eq__law_cell_at (K : PySem.W.Frag) (c : Cls) : ∀ ls, m__law_cell_at K c ls = .bad ∨ runF 2 (f__law_cell_at K c) ls = m__law_cell_at K c ls := fun _ => .inr rfl
theorem at_nat {ns : List Int} {k : Nat} (h : k < ns.length) : atI (ns.map PyData.int) (k : Int) = some (.int (ns.getD k 0)) := by
 have : ns.getD k 0 = ns[k] := by simp [List.getD, h]
 rw [this]
 exact atI_nat (by rw [List.getElem?_map, List.getElem?_eq_getElem h]; rfl)
theorem cell_ok (K : PySem.W.Frag) (c : Cls) (ns : List Int) (k : Nat) : m__law_cell_at K c [.p (.list (ns.map .int)), .p (.int (k : Int))] = .ok (.p (.int (ns.getD k 0))) := by
 have hlen : lenE [.p (.list (ns.map .int))] = .ok (.p (.int (ns.length : Nat))) := by simp [lenE, seqOf]
 unfold m__law_cell_at
 refine run_rt ?_
 rw [show startE 2 [.p (.list (ns.map .int)), .p (.int (k : Int))] = [some (.p (.list (ns.map .int))), some (.p (.int (k : Int)))] from rfl]
 have ht : mTru (mBin ltE (mVar 1) (mCallB lenE (mCons (mVar 0) mNil))) [some (.p (.list (ns.map .int))), some (.p (.int (k : Int)))] = .ok (decide (k < ns.length)) := by
  simp [mTru, mBin, mVar, mCallB, mCons, mNil, Res.bind, Ev.c, hlen, intE0, truthR]
 by_cases hk : k < ns.length
 ·rw [decide_eq_true hk] at ht
  refine (seq_rt ((if_t ht).trans ?_))
  simp [mRet, mBin, mVar, Res.bind, Ev.c, ixE, seqOf, at_nat hk, retL]
 ·rw [decide_eq_false hk] at ht
  refine (seq_nx (if_f ht)).trans ?_
  have : ns.getD k 0 = 0 := by simp [List.getD, Nat.le_of_not_lt hk]
  rw [this]
  rfl
noncomputable def m__law_whole (K : PySem.W.Frag) (c : Cls) : List L → Res L := mOf (fun i : Int => [.p (.int i)]) (fun _ => True) fun _ => .ok (.p (.bool true))
noncomputable def f__law_whole (K : PySem.W.Frag) (c : Cls) : MS := (mRet (mAndV (mUn (isiE K (.type "int")) (mVar 0)) (mNotV (mUn (isiE K (.type "bool")) (mVar 0)))))
theorem eq__law_whole (K : PySem.W.Frag) (c : Cls) (hk : KitF K c) : ∀ ls, m__law_whole K c ls = .bad ∨ runF 1 (f__law_whole K c) ls = m__law_whole K c ls := mOf_eq fun i _ => by
 unfold runF
 rw [show startE 1 [.p (.int i)] = [some (.p (.int i))] from rfl]
 simp [f__law_whole, mSeq, mSet, mRet, mIfS, mVar, mC, mBin, mUn, mCons, mNil, mCall, callR, argsL, argL, argB, Res.bind, Ev.c, retL, retE, mCallB, tupR', lstR', pureL, mTru, truthR, mAnd, mOr, mNot, mAndV, mOrV, mNotV, mRaise, mNext, addE, intE0, negE, lstOf, dat, lenE, eqE, sh_int, eqv_ii, ix_pl2, ix_pl0, ix_pl1, ix_fr0, ix_fr1, ix_t0, ix_t1, ix_t2, isiE, tyD, hk.ii, hk.ib]
theorem whole_ok (K : PySem.W.Frag) (c : Cls) (i : Int) : m__law_whole K c [.p (.int i)] = .ok (.p (.bool true)) := mOf_at (a := i) (fun a b h => by injection h with h _; injection h with h; injection h) trivial
noncomputable def m__law_lowest (K : PySem.W.Frag) (c : Cls) : List L → Res L := mOf eII (fun a => a.2 ≠ 0 ∧ Sz 8000 a.2) fun a => .ok (.p (frD (FR.mk a.1 a.2)))
noncomputable def f__law_lowest_c1 (K : PySem.W.Frag) (c : Cls) : En → Res Bool := (mTru (mBin (eqE true) (mVar 3) (mC (.int 0))))
noncomputable def f__law_lowest_b2 (K : PySem.W.Frag) (c : Cls) : MS := (mSeq (mSet 4 (mBin modE (mVar 2) (mVar 3))) (mSeq (mSet 2 (mVar 3)) (mSet 3 (mVar 4))))
noncomputable def f__law_lowest (K : PySem.W.Frag) (c : Cls) : MS := (mSeq (mSet 2 (mCallB absE (mCons (mVar 0) mNil))) (mSeq (mSet 3 (mCallB absE (mCons (mVar 1) mNil))) (mSeq (mWhile (f__law_lowest_c1 K c) (f__law_lowest_b2 K c)) (mSeq (mIfS (mTru (mBin ltE (mVar 1) (mC (.int 0)))) (mSet 2 (mUn negE (mVar 2))) mNext) (mRet (mCallB tupR' (mCons (mBin fdivE (mVar 0) (mVar 2)) (mCons (mBin fdivE (mVar 1) (mVar 2)) mNil))))))))
theorem eq__law_lowest (K : PySem.W.Frag) (c : Cls) : ∀ ls, m__law_lowest K c ls = .bad ∨ runF 5 (f__law_lowest K c) ls = m__law_lowest K c ls := mOf_eq fun x h => by
 obtain ⟨t, b⟩ := x
 obtain ⟨hb, hz⟩ := h
 dsimp only at hb hz ⊢
 obtain ⟨r', h⟩ := wh_gd K c (some (.p (.int t))) (some (.p (.int b))) _ (if t < 0 then -t else t) (if b < 0 then -b else b) none (by split <;> omega) (by split <;> omega) (Nat.le_refl _)
 have h := mWhile_of h
 rw [FR.gcd_abs] at h
 have h : mWhile (f__law_lowest_c1 K c) (f__law_lowest_b2 K c) _ = _ := h
 obtain ⟨q1, q2⟩ := cdivW t hb hz
 have q1' : CDivW b ((Int.gcd t b : Nat) : Int) := q1
 have q2' : CDivW b (-((Int.gcd t b : Nat) : Int)) := q2
 refine run_rt ?_
 rw [show startE 5 (eII (t, b)) = [some (.p (.int t)), some (.p (.int b)), none, none, none] from rfl]
 unfold f__law_lowest
 refine (seq_nx (set_p (d := .int (if t < 0 then -t else t)) rfl)).trans ((seq_nx (set_p (d := .int (if b < 0 then -b else b)) rfl)).trans ((seq_nx h).trans ?_))
 have t1 : mTru (mBin ltE (mVar 1) (mC (.int 0))) [some (.p (.int t)), some (.p (.int b)), some (.p (.int (Int.gcd t b : Nat))), some (.p (.int 0)), r'] = .ok (decide (b < 0)) := by
  simp only [mTru, mBin, mVar, mC, List.getElem?_cons_zero, List.getElem?_cons_succ, List.set_cons_zero, List.set_cons_succ, List.length_cons, List.length_nil, List.length_map, List.length_append, if_true, if_false, ite_true, ite_false, decide_true, decide_false, Bool.false_eq_true, Nat.zero_add, Nat.reduceAdd, Nat.reduceEqDiff, Nat.reduceLeDiff, reduceIte, List.map_append, List.map_cons, List.map_nil, Res.bind, Ev.c, intE0, truthR]
 by_cases hn : b < 0
 ·rw [decide_eq_true hn] at t1
  have es : FR.mk t b = (t.fdiv (-((Int.gcd t b : Nat) : Int)), b.fdiv (-((Int.gcd t b : Nat) : Int))) := by unfold FR.mk FR.sgn; rw [if_pos hn]
  refine (seq_nx ((if_t t1).trans (set_p (d := .int (-((Int.gcd t b : Nat) : Int))) rfl))).trans (ret_p ?_)
  rw [es]
  simp (disch := assumption) only [mSeq, mSet, mRet, mIfS, mVar, mC, mBin, mUn, mCons, mNil, mCall, callR, argsL, argL, argB, Res.bind, Ev.c, retL, retE, mCallB, tupR', lstR', pureL, mTru, truthR, mAnd, mOr, mNot, mAndV, mOrV, mNotV, mRaise, mNext, addE, intE0, negE, lstOf, dat, lenE, eqE, sh_int, eqv_ii, ix_pl2, ix_pl0, ix_pl1, ix_fr0, ix_fr1, ix_t0, ix_t1, ix_t2, mul_ok, fdiv_ok, mod_ok, pow_ok, List.getElem?_cons_zero, List.getElem?_cons_succ, List.set_cons_zero, List.set_cons_succ, List.length_cons, List.length_nil, List.length_map, List.length_append, if_true, if_false, ite_true, ite_false, decide_true, decide_false, Bool.false_eq_true, Nat.zero_add, Nat.reduceAdd, Nat.reduceEqDiff, Nat.reduceLeDiff, reduceIte, List.map_append, List.map_cons, List.map_nil, frD]
 ·rw [decide_eq_false hn] at t1
  have es : FR.mk t b = (t.fdiv ((Int.gcd t b : Nat) : Int), b.fdiv ((Int.gcd t b : Nat) : Int)) := by unfold FR.mk FR.sgn; rw [if_neg hn]
  refine (seq_nx (if_f t1)).trans (ret_p ?_)
  rw [es]
  simp (disch := assumption) only [mSeq, mSet, mRet, mIfS, mVar, mC, mBin, mUn, mCons, mNil, mCall, callR, argsL, argL, argB, Res.bind, Ev.c, retL, retE, mCallB, tupR', lstR', pureL, mTru, truthR, mAnd, mOr, mNot, mAndV, mOrV, mNotV, mRaise, mNext, addE, intE0, negE, lstOf, dat, lenE, eqE, sh_int, eqv_ii, ix_pl2, ix_pl0, ix_pl1, ix_fr0, ix_fr1, ix_t0, ix_t1, ix_t2, mul_ok, fdiv_ok, mod_ok, pow_ok, List.getElem?_cons_zero, List.getElem?_cons_succ, List.set_cons_zero, List.set_cons_succ, List.length_cons, List.length_nil, List.length_map, List.length_append, if_true, if_false, ite_true, ite_false, decide_true, decide_false, Bool.false_eq_true, Nat.zero_add, Nat.reduceAdd, Nat.reduceEqDiff, Nat.reduceLeDiff, reduceIte, List.map_append, List.map_cons, List.map_nil, frD]
theorem low_ok (K : PySem.W.Frag) (c : Cls) {t b : Int} (h0 : b ≠ 0) (h1 : Sz 8000 b) : m__law_lowest K c [.p (.int t), .p (.int b)] = .ok (.p (frD (FR.mk t b))) := mOf_at (a := (t, b)) eII_inj ⟨h0, h1⟩
noncomputable def m__law_before (K : PySem.W.Frag) (c : Cls) : List L → Res L := mOf eFF (fun a => FSz 2000 a.1 ∧ FSz 2000 a.2) fun a => .ok (.p (.bool (ltF a.1 a.2)))
noncomputable def f__law_before (K : PySem.W.Frag) (c : Cls) : MS := (mRet (mBin ltE (mBin mulE (mBin ixE (mVar 0) (mC (.int 0))) (mBin ixE (mVar 1) (mC (.int 1)))) (mBin mulE (mBin ixE (mVar 1) (mC (.int 0))) (mBin ixE (mVar 0) (mC (.int 1))))))
theorem eq__law_before (K : PySem.W.Frag) (c : Cls) : ∀ ls, m__law_before K c ls = .bad ∨ runF 2 (f__law_before K c) ls = m__law_before K c ls := mOf_eq fun a h => by
 obtain ⟨x, y⟩ := a
 obtain ⟨⟨x1, x2⟩, ⟨y1, y2⟩⟩ := h
 dsimp only at x1 x2 y1 y2 ⊢
 refine run_rt ?_
 rw [show startE 2 (eFF (x, y)) = [some (.p (frD x)), some (.p (frD y))] from rfl]
 unfold f__law_before
 simp (disch := (first | assumption | (first | apply N.cm2 | apply N.cd2) <;> (first | decide | omega | (repeat (first | assumption | apply L2.Sz.mul | apply N.Sz.addM | apply N.Sz.subM | apply L2.Sz.neg | apply N.sz_fdiv | (apply N.sz_fmod; (first | decide | omega)) | exact N.sz_lit4 (by decide) | exact N.sz_lit (by decide) | exact N.sz_lit70 (by decide) | exact N.sz_big (by decide)))) | decide | omega)) only [mSeq, mSet, mRet, mIfS, mVar, mC, mBin, mUn, mCons, mNil, mCall, callR, argsL, argL, argB, Res.bind, Ev.c, retL, retE, mCallB, tupR', lstR', pureL, mTru, truthR, mAnd, mOr, mNot, mAndV, mOrV, mNotV, mRaise, mNext, addE, intE0, negE, lstOf, dat, lenE, eqE, sh_int, eqv_ii, ix_pl2, ix_pl0, ix_pl1, ix_fr0, ix_fr1, ix_t0, ix_t1, ix_t2, mul_ok, fdiv_ok, mod_ok, pow_ok, List.getElem?_cons_zero, List.getElem?_cons_succ, List.set_cons_zero, List.set_cons_succ, List.length_cons, List.length_nil, List.length_map, List.length_append, if_true, if_false, ite_true, ite_false, decide_true, decide_false, Bool.false_eq_true, Nat.zero_add, Nat.reduceAdd, Nat.reduceEqDiff, Nat.reduceLeDiff, reduceIte, List.map_append, List.map_cons, List.map_nil]
 rfl
theorem before_ok (K : PySem.W.Frag) (c : Cls) {x y : Int × Int} (hx : FSz 2000 x) (hy : FSz 2000 y) : m__law_before K c [.p (frD x), .p (frD y)] = .ok (.p (.bool (ltF x y))) := mOf_at (a := (x, y)) eFF_inj ⟨hx, hy⟩
theorem mk_self {x : Int × Int} (h : FR.Fr x) : FR.mk x.1 x.2 = x := by
 have p := h.pos
 obtain ⟨f, e⟩ := FR.mk_fr (t := x.1) (b := x.2) (by omega)
 exact leF_eq f h (Int.le_of_eq e) (Int.le_of_eq e.symm)
def eF1 (x : Int × Int) : List L := [.p (frD x)]
theorem eF1_inj (a b : Int × Int) (h : eF1 a = eF1 b) : a = b := by
 unfold eF1 at h
 injection h with h _
 injection h with h
 exact frI h
noncomputable def m__law_is_fraction (K : PySem.W.Frag) (c : Cls) : List L → Res L := mOf eF1 (fun x => FR.Fr x ∧ Sz 8000 x.2) fun _ => .ok (.p (.bool true))
noncomputable def f__law_is_fraction (K : PySem.W.Frag) (c : Cls) : MS := (mSeq (mIfS (mOr (mNot (mTru (mUn (isiE K (.type "tuple")) (mVar 0)))) (mOr (mTru (mBin (eqE true) (mCallB lenE (mCons (mVar 0) mNil)) (mC (.int 2)))) (mOr (mNot (mTru (mCall 1 (m__law_whole K c) (mCons (mBin ixE (mVar 0) (mC (.int 0))) mNil)))) (mNot (mTru (mCall 1 (m__law_whole K c) (mCons (mBin ixE (mVar 0) (mC (.int 1))) mNil))))))) (mRet (mC (.bool false))) mNext) (mRet (mAndV (mBin gtE (mBin ixE (mVar 0) (mC (.int 1))) (mC (.int 0))) (mBin (eqE false) (mCall 2 (m__law_lowest K c) (mCons (mBin ixE (mVar 0) (mC (.int 0))) (mCons (mBin ixE (mVar 0) (mC (.int 1))) mNil))) (mVar 0)))))
theorem eq__law_is_fraction (K : PySem.W.Frag) (c : Cls) (hk : KitF K c) : ∀ ls, m__law_is_fraction K c ls = .bad ∨ runF 1 (f__law_is_fraction K c) ls = m__law_is_fraction K c ls := mOf_eq fun x h => by
 obtain ⟨hf, hz⟩ := h
 have p := hf.pos
 have l := low_ok K c (t := x.1) (b := x.2) (by omega) hz
 rw [mk_self hf] at l
 have w1 := whole_ok K c x.1
 have w2 := whole_ok K c x.2
 have i1 : isiE K (.type "tuple") (.p (frD x)) = .ok (.p (.bool true)) := by simp [isiE, dat, frD, tyD, hk.tt]
 have e1 : lenE [.p (frD x)] = .ok (.p (.int 2)) := by simp [lenE, seqOf, frD]
 have e2 : eqE true (.p (.int 2)) (.p (.int 2)) = .ok (.p (.bool false)) := by simp [eqE, dat, sh_int, eqv_ii]
 have e3 : eqE false (.p (frD x)) (.p (frD x)) = .ok (.p (.bool true)) := eqE_same rfl rfl (sh_fr x) false
 refine run_rt ?_
 rw [show startE 1 (eF1 x) = [some (.p (frD x))] from rfl]
 unfold f__law_is_fraction
 have t1 : (mOr (mNot (mTru (mUn (isiE K (.type "tuple")) (mVar 0)))) (mOr (mTru (mBin (eqE true) (mCallB lenE (mCons (mVar 0) mNil)) (mC (.int 2)))) (mOr (mNot (mTru (mCall 1 (m__law_whole K c) (mCons (mBin ixE (mVar 0) (mC (.int 0))) mNil)))) (mNot (mTru (mCall 1 (m__law_whole K c) (mCons (mBin ixE (mVar 0) (mC (.int 1))) mNil))))))) [some (.p (frD x))] = .ok false := by
  simp only [mOr, mNot, mTru, mUn, mBin, mCall, mCallB, mCons, mNil, mVar, mC, callR, argsL, argL, List.getElem?_cons_zero, List.getElem?_cons_succ, List.set_cons_zero, List.set_cons_succ, List.length_cons, List.length_nil, List.length_map, List.length_append, if_true, if_false, ite_true, ite_false, decide_true, decide_false, Bool.false_eq_true, Nat.zero_add, Nat.reduceAdd, Nat.reduceEqDiff, Nat.reduceLeDiff, reduceIte, List.map_append, List.map_cons, List.map_nil, Res.bind, Ev.c, i1, e1, e2, ix_fr0, ix_fr1, w1, w2, retE, truthR, Bool.not_true]
 refine (seq_nx (if_f t1)).trans (ret_p ?_)
 simp only [mAndV, mBin, mCall, mCons, mNil, mVar, mC, intE0, callR, argsL, argL, List.getElem?_cons_zero, List.getElem?_cons_succ, List.set_cons_zero, List.set_cons_succ, List.length_cons, List.length_nil, List.length_map, List.length_append, if_true, if_false, ite_true, ite_false, decide_true, decide_false, Bool.false_eq_true, Nat.zero_add, Nat.reduceAdd, Nat.reduceEqDiff, Nat.reduceLeDiff, reduceIte, List.map_append, List.map_cons, List.map_nil, Res.bind, Ev.c, ix_fr0, ix_fr1, l, retE, e3, decide_eq_true (show 0 < x.2 by omega)]
theorem isf_ok (K : PySem.W.Frag) (c : Cls) {x : Int × Int} (h : FR.Fr x) (hz : Sz 8000 x.2) : m__law_is_fraction K c [.p (frD x)] = .ok (.p (.bool true)) := mOf_at (a := x) eF1_inj ⟨h, hz⟩
noncomputable def m__law_sum (K : PySem.W.Frag) (c : Cls) : List L → Res L := mOf eFF (fun a => Good 2000 a.1 ∧ Good 2000 a.2) fun a => .ok (.p (frD (hP a.1 a.2)))
noncomputable def f__law_sum (K : PySem.W.Frag) (c : Cls) : MS := (mRet (mCall 2 (m__law_lowest K c) (mCons (mBin addE (mBin mulE (mBin ixE (mVar 0) (mC (.int 0))) (mBin ixE (mVar 1) (mC (.int 1)))) (mBin mulE (mBin ixE (mVar 1) (mC (.int 0))) (mBin ixE (mVar 0) (mC (.int 1))))) (mCons (mBin mulE (mBin ixE (mVar 0) (mC (.int 1))) (mBin ixE (mVar 1) (mC (.int 1)))) mNil))))
theorem eq__law_sum (K : PySem.W.Frag) (c : Cls) : ∀ ls, m__law_sum K c ls = .bad ∨ runF 2 (f__law_sum K c) ls = m__law_sum K c ls := mOf_eq fun a h => by
 obtain ⟨x, y⟩ := a
 obtain ⟨g1, g2⟩ := h
 obtain ⟨x0, x1, x2⟩ := id g1
 obtain ⟨y0, y1, y2⟩ := id g2
 dsimp only at g1 g2 x0 x1 x2 y0 y1 y2 ⊢
 have l := low_ok K c (t := x.1 * y.2 + y.1 * x.2) (b := x.2 * y.2) (g1.ne g2) ((Sz.mul x2 y2).mono (by decide))
 refine run_rt ?_
 rw [show startE 2 (eFF (x, y)) = [some (.p (frD x)), some (.p (frD y))] from rfl]
 unfold f__law_sum
 refine ret_p ?_
 simp (disch := (first | assumption | (first | apply N.cm2 | apply N.cd2) <;> (first | decide | omega | (repeat (first | assumption | apply L2.Sz.mul | apply N.Sz.addM | apply N.Sz.subM | apply L2.Sz.neg | apply N.sz_fdiv | (apply N.sz_fmod; (first | decide | omega)) | exact N.sz_lit4 (by decide) | exact N.sz_lit (by decide) | exact N.sz_lit70 (by decide) | exact N.sz_big (by decide)))) | decide | omega)) only [mSeq, mSet, mRet, mIfS, mVar, mC, mBin, mUn, mCons, mNil, mCall, callR, argsL, argL, argB, Res.bind, Ev.c, retL, retE, mCallB, tupR', lstR', pureL, mTru, truthR, mAnd, mOr, mNot, mAndV, mOrV, mNotV, mRaise, mNext, addE, intE0, negE, lstOf, dat, lenE, eqE, sh_int, eqv_ii, ix_pl2, ix_pl0, ix_pl1, ix_fr0, ix_fr1, ix_t0, ix_t1, ix_t2, mul_ok, fdiv_ok, mod_ok, pow_ok, List.getElem?_cons_zero, List.getElem?_cons_succ, List.set_cons_zero, List.set_cons_succ, List.length_cons, List.length_nil, List.length_map, List.length_append, if_true, if_false, ite_true, ite_false, decide_true, decide_false, Bool.false_eq_true, Nat.zero_add, Nat.reduceAdd, Nat.reduceEqDiff, Nat.reduceLeDiff, reduceIte, List.map_append, List.map_cons, List.map_nil, l]
 rfl
theorem lsum_ok (K : PySem.W.Frag) (c : Cls) {m n : Nat} {x y : Int × Int} (hx : Good m x) (hy : Good n y) (h1 : m ≤ 2000) (h2 : n ≤ 2000) : m__law_sum K c [.p (frD x), .p (frD y)] = .ok (.p (frD (hP x y))) := mOf_at (a := (x, y)) eFF_inj ⟨hx.mono h1, hy.mono h2⟩
noncomputable def m__law_product (K : PySem.W.Frag) (c : Cls) : List L → Res L := mOf eFF (fun a => Good 2000 a.1 ∧ Good 2000 a.2) fun a => .ok (.p (frD (FR.mk (a.1.1 * a.2.1) (a.1.2 * a.2.2))))
noncomputable def f__law_product (K : PySem.W.Frag) (c : Cls) : MS := (mRet (mCall 2 (m__law_lowest K c) (mCons (mBin mulE (mBin ixE (mVar 0) (mC (.int 0))) (mBin ixE (mVar 1) (mC (.int 0)))) (mCons (mBin mulE (mBin ixE (mVar 0) (mC (.int 1))) (mBin ixE (mVar 1) (mC (.int 1)))) mNil))))
theorem eq__law_product (K : PySem.W.Frag) (c : Cls) : ∀ ls, m__law_product K c ls = .bad ∨ runF 2 (f__law_product K c) ls = m__law_product K c ls := mOf_eq fun a h => by
 obtain ⟨x, y⟩ := a
 obtain ⟨g1, g2⟩ := h
 obtain ⟨x0, x1, x2⟩ := id g1
 obtain ⟨y0, y1, y2⟩ := id g2
 dsimp only at g1 g2 x0 x1 x2 y0 y1 y2 ⊢
 have l := low_ok K c (t := x.1 * y.1) (b := x.2 * y.2) (g1.ne g2) ((Sz.mul x2 y2).mono (by decide))
 refine run_rt ?_
 rw [show startE 2 (eFF (x, y)) = [some (.p (frD x)), some (.p (frD y))] from rfl]
 unfold f__law_product
 refine ret_p ?_
 simp (disch := (first | assumption | (first | apply N.cm2 | apply N.cd2) <;> (first | decide | omega | (repeat (first | assumption | apply L2.Sz.mul | apply N.Sz.addM | apply N.Sz.subM | apply L2.Sz.neg | apply N.sz_fdiv | (apply N.sz_fmod; (first | decide | omega)) | exact N.sz_lit4 (by decide) | exact N.sz_lit (by decide) | exact N.sz_lit70 (by decide) | exact N.sz_big (by decide)))) | decide | omega)) only [mSeq, mSet, mRet, mIfS, mVar, mC, mBin, mUn, mCons, mNil, mCall, callR, argsL, argL, argB, Res.bind, Ev.c, retL, retE, mCallB, tupR', lstR', pureL, mTru, truthR, mAnd, mOr, mNot, mAndV, mOrV, mNotV, mRaise, mNext, addE, intE0, negE, lstOf, dat, lenE, eqE, sh_int, eqv_ii, ix_pl2, ix_pl0, ix_pl1, ix_fr0, ix_fr1, ix_t0, ix_t1, ix_t2, mul_ok, fdiv_ok, mod_ok, pow_ok, List.getElem?_cons_zero, List.getElem?_cons_succ, List.set_cons_zero, List.set_cons_succ, List.length_cons, List.length_nil, List.length_map, List.length_append, if_true, if_false, ite_true, ite_false, decide_true, decide_false, Bool.false_eq_true, Nat.zero_add, Nat.reduceAdd, Nat.reduceEqDiff, Nat.reduceLeDiff, reduceIte, List.map_append, List.map_cons, List.map_nil, l]
theorem lprod_ok (K : PySem.W.Frag) (c : Cls) {n : Nat} {i : Int} {y : Int × Int} (hi : Sz 2000 i) (hy : Good n y) (h2 : n ≤ 2000) : m__law_product K c [.p (.tuple [.int i, .int 1]), .p (frD y)] = .ok (.p (frD (FR.mk (i * y.1) (1 * y.2)))) := mOf_at (a := ((i, 1), y)) eFF_inj ⟨⟨Int.le_refl 1, hi, sz_one⟩, hy.mono h2⟩
noncomputable def f__law_mix (K : PySem.W.Frag) (c : Cls) : MS := (mSeq (mSet 2 (mBin addE (mBin addE (mBin mulE (mBin modE (mVar 0) (mBin powE (mC (.int 10)) (mC (.int 18)))) (mBin addE (mBin mulE (mC (.int 2)) (mVar 1)) (mC (.int 48271)))) (mBin mulE (mBin mulE (mC (.int 7919)) (mVar 1)) (mVar 1))) (mVar 1))) (mRet (mBin modE (mBin mulE (mBin modE (mVar 2) (mC (.int 2147483647))) (mC (.int 69621))) (mC (.int 2147483629)))))
noncomputable def m__law_mix (K : PySem.W.Frag) (c : Cls) (ls : List L) : Res L := runF 3 (f__law_mix K c) ls
theorem eq__law_mix (K : PySem.W.Frag) (c : Cls) : ∀ ls, m__law_mix K c ls = .bad ∨ runF 3 (f__law_mix K c) ls = m__law_mix K c ls := fun _ => .inr rfl
theorem mix_ok (K : PySem.W.Frag) (c : Cls) (cell : Int) {k : Int} (k0 : 0 ≤ k) (k1 : k ≤ 100) : ∃ v : Int, 0 ≤ v ∧ v < 2147483629 ∧ m__law_mix K c [.p (.int cell), .p (.int k)] = .ok (.p (.int v)) := by
 have p18 : CPow 10 18 := ⟨by decide, by decide, by decide⟩
 have kz : Sz 20 k := by unfold Sz; omega
 have pn : (10 : Int) ^ Int.toNat 18 ≠ 0 := by decide
 have cz : Sz 100 (cell.fmod (10 ^ Int.toNat 18)) := sz_fmod (by decide) (by unfold Sz; decide)
 generalize hC : cell.fmod (10 ^ Int.toNat 18) = C at cz
 refine ⟨(((C * (2 * k + 48271) + 7919 * k * k + k).fmod 2147483647) * 69621).fmod 2147483629, (fmod_pos (by decide)).1, (fmod_pos (by decide)).2, ?_⟩
 have z1 : Sz 40 ((C * (2 * k + 48271) + 7919 * k * k + k).fmod 2147483647) := sz_fmod (by decide) (by unfold Sz; decide)
 have sl : ∀ {x : Int}, Sz 50 x → Sz 60000 x := fun h => h.mono (by decide)
 have q1 : CMulW 2 k := ⟨sl (by unfold Sz; decide), kz.mono (by decide)⟩
 have q2 : CMulW C (2 * k + 48271) := ⟨cz.mono (by decide), sl (by unfold Sz; omega)⟩
 have q3 : CMulW 7919 k := ⟨sl (by unfold Sz; decide), kz.mono (by decide)⟩
 have q4 : CMulW (7919 * k) k := ⟨sl (by unfold Sz; omega), kz.mono (by decide)⟩
 have q5 : CMulW ((C * (2 * k + 48271) + 7919 * k * k + k).fmod 2147483647) 69621 := ⟨z1.mono (by decide), sl (by unfold Sz; decide)⟩
 have n1 : (2147483647 : Int) ≠ 0 := by decide
 have n2 : (2147483629 : Int) ≠ 0 := by decide
 unfold m__law_mix
 refine run_rt ?_
 rw [show startE 3 [.p (.int cell), .p (.int k)] = [some (.p (.int cell)), some (.p (.int k)), none] from rfl]
 unfold f__law_mix
 refine (seq_nx (set_p (d := .int (C * (2 * k + 48271) + 7919 * k * k + k)) ?_)).trans (ret_p ?_)
 ·simp (disch := assumption) only [mSeq, mSet, mRet, mIfS, mVar, mC, mBin, mUn, mCons, mNil, mCall, callR, argsL, argL, argB, Res.bind, Ev.c, retL, retE, mCallB, tupR', lstR', pureL, mTru, truthR, mAnd, mOr, mNot, mAndV, mOrV, mNotV, mRaise, mNext, addE, intE0, negE, lstOf, dat, lenE, eqE, sh_int, eqv_ii, ix_pl2, ix_pl0, ix_pl1, ix_fr0, ix_fr1, ix_t0, ix_t1, ix_t2, mul_ok, fdiv_ok, mod_ok, pow_ok, List.getElem?_cons_zero, List.getElem?_cons_succ, List.set_cons_zero, List.set_cons_succ, List.length_cons, List.length_nil, List.length_map, List.length_append, if_true, if_false, ite_true, ite_false, decide_true, decide_false, Bool.false_eq_true, Nat.zero_add, Nat.reduceAdd, Nat.reduceEqDiff, Nat.reduceLeDiff, reduceIte, List.map_append, List.map_cons, List.map_nil, hC]
 ·simp (disch := assumption) only [mSeq, mSet, mRet, mIfS, mVar, mC, mBin, mUn, mCons, mNil, mCall, callR, argsL, argL, argB, Res.bind, Ev.c, retL, retE, mCallB, tupR', lstR', pureL, mTru, truthR, mAnd, mOr, mNot, mAndV, mOrV, mNotV, mRaise, mNext, addE, intE0, negE, lstOf, dat, lenE, eqE, sh_int, eqv_ii, ix_pl2, ix_pl0, ix_pl1, ix_fr0, ix_fr1, ix_t0, ix_t1, ix_t2, mul_ok, fdiv_ok, mod_ok, pow_ok, List.getElem?_cons_zero, List.getElem?_cons_succ, List.set_cons_zero, List.set_cons_succ, List.length_cons, List.length_nil, List.length_map, List.length_append, if_true, if_false, ite_true, ite_false, decide_true, decide_false, Bool.false_eq_true, Nat.zero_add, Nat.reduceAdd, Nat.reduceEqDiff, Nat.reduceLeDiff, reduceIte, List.map_append, List.map_cons, List.map_nil]
noncomputable def f__law_number (K : PySem.W.Frag) (c : Cls) : MS := (mSeq (mSet 2 (mBin modE (mCall 2 (m__law_mix K c) (mCons (mVar 0) (mCons (mVar 1) mNil))) (mC (.int 5)))) (mSeq (mIfS (mTru (mBin (eqE false) (mVar 2) (mC (.int 0)))) (mRet (mCall 2 (m__law_lowest K c) (mCons (mBin subE (mBin modE (mBin addE (mBin mulXE (mVar 0) (mC (.int 48271))) (mVar 1)) (mBin addE (mBin mulXE (mC (.int 2)) (mBin powE (mC (.int 10)) (mC (.int 20)))) (mC (.int 1)))) (mBin powE (mC (.int 10)) (mC (.int 20)))) (mCons (mBin addE (mC (.int 1)) (mBin modE (mCall 2 (m__law_mix K c) (mCons (mVar 0) (mCons (mBin addE (mVar 1) (mC (.int 1))) mNil))) (mC (.int 12)))) mNil)))) mNext) (mSeq (mIfS (mTru (mBin (eqE false) (mVar 2) (mC (.int 1)))) (mRet (mCall 2 (m__law_lowest K c) (mCons (mBin subE (mBin modE (mCall 2 (m__law_mix K c) (mCons (mVar 0) (mCons (mBin addE (mVar 1) (mC (.int 2))) mNil))) (mC (.int 41))) (mC (.int 20))) (mCons (mBin addE (mC (.int 1)) (mBin modE (mCall 2 (m__law_mix K c) (mCons (mVar 0) (mCons (mBin addE (mVar 1) (mC (.int 3))) mNil))) (mC (.int 6)))) mNil)))) mNext) (mRet (mCallB tupR' (mCons (mBin subE (mBin modE (mCall 2 (m__law_mix K c) (mCons (mVar 0) (mCons (mBin addE (mVar 1) (mC (.int 4))) mNil))) (mC (.int 5))) (mC (.int 2))) (mCons (mC (.int 1)) mNil)))))))
noncomputable def m__law_number (K : PySem.W.Frag) (c : Cls) (ls : List L) : Res L := runF 3 (f__law_number K c) ls
theorem eq__law_number (K : PySem.W.Frag) (c : Cls) : ∀ ls, m__law_number K c ls = .bad ∨ runF 3 (f__law_number K c) ls = m__law_number K c ls := fun _ => .inr rfl
structure GN (h : Int × Int) : Prop where
 f : FR.Fr h
 t : Sz 80 h.1
 b : Sz 6 h.2
theorem gn_one {t : Int} (ht : Sz 80 t) : GN (t, 1) := ⟨⟨Int.le_refl 1, Int.gcd_one⟩, ht, (show Sz 6 (1 : Int) by unfold Sz; decide)⟩
theorem gn_mk {t b : Int} (h0 : b ≠ 0) (ht : Sz 80 t) (hb : Sz 6 b) : GN (FR.mk t b) := ⟨(FR.mk_fr h0).1, Sz.le ht (natAbs_fdiv_le _ _), Sz.le hb (natAbs_fdiv_le _ _)⟩
theorem GN.good {h : Int × Int} (g : GN h) : Good 80 h := ⟨g.f.pos, g.t, g.b.mono (by decide)⟩
theorem number_ok (K : PySem.W.Frag) (c : Cls) (cell : Int) {k : Int} (k0 : 0 ≤ k) (k1 : k ≤ 90) : ∃ x, GN x ∧ m__law_number K c [.p (.int cell), .p (.int k)] = .ok (.p (frD x)) := by
 obtain ⟨v0, a0, b0, e0⟩ := mix_ok K c cell (k := k) k0 (by omega)
 obtain ⟨v1, a1, b1, e1⟩ := mix_ok K c cell (k := k + 1) (by omega) (by omega)
 obtain ⟨v2, a2, b2, e2⟩ := mix_ok K c cell (k := k + 2) (by omega) (by omega)
 obtain ⟨v3, a3, b3, e3⟩ := mix_ok K c cell (k := k + 3) (by omega) (by omega)
 obtain ⟨v4, a4, b4, e4⟩ := mix_ok K c cell (k := k + 4) (by omega) (by omega)
 have p20 : CPow 10 20 := ⟨by decide, by decide, by decide⟩
 have m12 := fmod_pos (a := v1) (b := 12) (by decide)
 have m41 := fmod_pos (a := v2) (b := 41) (by decide)
 have m6 := fmod_pos (a := v3) (b := 6) (by decide)
 have m5 := fmod_pos (a := v4) (b := 5) (by decide)
 have x1 : mulXE (.p (.int cell)) (.p (.int 48271)) = .ok (.p (.int (cell * 48271))) := mulX_r (by decide) (by decide)
 have x2 : mulXE (.p (.int 2)) (.p (.int (10 ^ Int.toNat 20))) = .ok (.p (.int (2 * 10 ^ Int.toNat 20))) := mulX_ok (.inr (.inl ⟨by decide, by decide⟩))
 have n1 : (2 * 10 ^ Int.toNat 20 + 1 : Int) ≠ 0 := by decide
 have mm := fmod_pos (a := cell * 48271 + k) (b := 2 * 10 ^ Int.toNat 20 + 1) (by decide)
 have pw : (10 : Int) ^ Int.toNat 20 = 100000000000000000000 := by decide
 have l0 := low_ok K c (t := (cell * 48271 + k).fmod (2 * 10 ^ Int.toNat 20 + 1) - 10 ^ Int.toNat 20) (b := 1 + v1.fmod 12) (by omega) (by unfold Sz; omega)
 have l1 := low_ok K c (t := v2.fmod 41 - 20) (b := 1 + v3.fmod 6) (by omega) (by unfold Sz; omega)
 have d5 : (5 : Int) ≠ 0 := by decide
 have d12 : (12 : Int) ≠ 0 := by decide
 have d41 : (41 : Int) ≠ 0 := by decide
 have d6 : (6 : Int) ≠ 0 := by decide
 unfold m__law_number
 suffices h : ∃ x, GN x ∧ f__law_number K c (startE 3 [.p (.int cell), .p (.int k)]) = some (.rt (.p (frD x))) from let ⟨x, g, e⟩ := h; ⟨x, g, run_rt e⟩
 rw [show startE 3 [.p (.int cell), .p (.int k)] = [some (.p (.int cell)), some (.p (.int k)), none] from rfl]
 unfold f__law_number
 have s0 : (mBin modE (mCall 2 (m__law_mix K c) (mCons (mVar 0) (mCons (mVar 1) mNil))) (mC (.int 5))) [some (.p (.int cell)), some (.p (.int k)), none] = .ok (.p (.int (v0.fmod 5))) := by
  simp (disch := assumption) only [mSeq, mSet, mRet, mIfS, mVar, mC, mBin, mUn, mCons, mNil, mCall, callR, argsL, argL, argB, Res.bind, Ev.c, retL, retE, mCallB, tupR', lstR', pureL, mTru, truthR, mAnd, mOr, mNot, mAndV, mOrV, mNotV, mRaise, mNext, addE, intE0, negE, lstOf, dat, lenE, eqE, sh_int, eqv_ii, ix_pl2, ix_pl0, ix_pl1, ix_fr0, ix_fr1, ix_t0, ix_t1, ix_t2, mul_ok, fdiv_ok, mod_ok, pow_ok, List.getElem?_cons_zero, List.getElem?_cons_succ, List.set_cons_zero, List.set_cons_succ, List.length_cons, List.length_nil, List.length_map, List.length_append, if_true, if_false, ite_true, ite_false, decide_true, decide_false, Bool.false_eq_true, Nat.zero_add, Nat.reduceAdd, Nat.reduceEqDiff, Nat.reduceLeDiff, reduceIte, List.map_append, List.map_cons, List.map_nil, e0]
 have tt : ∀ (w n : Int), mTru (mBin (eqE false) (mVar 2) (mC (.int n))) [some (.p (.int cell)), some (.p (.int k)), some (.p (.int w))] = .ok (w == n) := fun w n => by
  simp only [mTru, mBin, mVar, mC, List.getElem?_cons_zero, List.getElem?_cons_succ, List.set_cons_zero, List.set_cons_succ, List.length_cons, List.length_nil, List.length_map, List.length_append, if_true, if_false, ite_true, ite_false, decide_true, decide_false, Bool.false_eq_true, Nat.zero_add, Nat.reduceAdd, Nat.reduceEqDiff, Nat.reduceLeDiff, reduceIte, List.map_append, List.map_cons, List.map_nil, Res.bind, Ev.c, eqE, dat, sh_int, eqv_ii, truthR]
  rfl
 generalize v0.fmod 5 = w at s0
 by_cases h0 : (w == 0) = true
 ·have t0 := tt w 0
  rw [h0] at t0
  refine ⟨_, gn_mk (t := (cell * 48271 + k).fmod (2 * 10 ^ Int.toNat 20 + 1) - 10 ^ Int.toNat 20) (b := 1 + v1.fmod 12) (by omega) (by unfold Sz; omega) (by unfold Sz; omega), (seq_nx (set_p s0)).trans (seq_rt ((if_t t0).trans (ret_p ?_)))⟩
  simp (disch := assumption) only [mSeq, mSet, mRet, mIfS, mVar, mC, mBin, mUn, mCons, mNil, mCall, callR, argsL, argL, argB, Res.bind, Ev.c, retL, retE, mCallB, tupR', lstR', pureL, mTru, truthR, mAnd, mOr, mNot, mAndV, mOrV, mNotV, mRaise, mNext, addE, intE0, negE, lstOf, dat, lenE, eqE, sh_int, eqv_ii, ix_pl2, ix_pl0, ix_pl1, ix_fr0, ix_fr1, ix_t0, ix_t1, ix_t2, mul_ok, fdiv_ok, mod_ok, pow_ok, List.getElem?_cons_zero, List.getElem?_cons_succ, List.set_cons_zero, List.set_cons_succ, List.length_cons, List.length_nil, List.length_map, List.length_append, if_true, if_false, ite_true, ite_false, decide_true, decide_false, Bool.false_eq_true, Nat.zero_add, Nat.reduceAdd, Nat.reduceEqDiff, Nat.reduceLeDiff, reduceIte, List.map_append, List.map_cons, List.map_nil, e1, x1, x2, l0]
 ·have t0 := tt w 0
  rw [Bool.eq_false_iff.mpr h0] at t0
  by_cases h1 : (w == 1) = true
  ·have t1 := tt w 1
   rw [h1] at t1
   refine ⟨_, gn_mk (t := v2.fmod 41 - 20) (b := 1 + v3.fmod 6) (by omega) (by unfold Sz; omega) (by unfold Sz; omega), (seq_nx (set_p s0)).trans ((seq_nx (if_f t0)).trans (seq_rt ((if_t t1).trans (ret_p ?_))))⟩
   simp (disch := assumption) only [mSeq, mSet, mRet, mIfS, mVar, mC, mBin, mUn, mCons, mNil, mCall, callR, argsL, argL, argB, Res.bind, Ev.c, retL, retE, mCallB, tupR', lstR', pureL, mTru, truthR, mAnd, mOr, mNot, mAndV, mOrV, mNotV, mRaise, mNext, addE, intE0, negE, lstOf, dat, lenE, eqE, sh_int, eqv_ii, ix_pl2, ix_pl0, ix_pl1, ix_fr0, ix_fr1, ix_t0, ix_t1, ix_t2, mul_ok, fdiv_ok, mod_ok, pow_ok, List.getElem?_cons_zero, List.getElem?_cons_succ, List.set_cons_zero, List.set_cons_succ, List.length_cons, List.length_nil, List.length_map, List.length_append, if_true, if_false, ite_true, ite_false, decide_true, decide_false, Bool.false_eq_true, Nat.zero_add, Nat.reduceAdd, Nat.reduceEqDiff, Nat.reduceLeDiff, reduceIte, List.map_append, List.map_cons, List.map_nil, e2, e3, l1]
  ·have t1 := tt w 1
   rw [Bool.eq_false_iff.mpr h1] at t1
   refine ⟨(v4.fmod 5 - 2, 1), gn_one (by unfold Sz; omega), (seq_nx (set_p s0)).trans ((seq_nx (if_f t0)).trans ((seq_nx (if_f t1)).trans (ret_p ?_)))⟩
   simp (disch := assumption) only [mSeq, mSet, mRet, mIfS, mVar, mC, mBin, mUn, mCons, mNil, mCall, callR, argsL, argL, argB, Res.bind, Ev.c, retL, retE, mCallB, tupR', lstR', pureL, mTru, truthR, mAnd, mOr, mNot, mAndV, mOrV, mNotV, mRaise, mNext, addE, intE0, negE, lstOf, dat, lenE, eqE, sh_int, eqv_ii, ix_pl2, ix_pl0, ix_pl1, ix_fr0, ix_fr1, ix_t0, ix_t1, ix_t2, mul_ok, fdiv_ok, mod_ok, pow_ok, List.getElem?_cons_zero, List.getElem?_cons_succ, List.set_cons_zero, List.set_cons_succ, List.length_cons, List.length_nil, List.length_map, List.length_append, if_true, if_false, ite_true, ite_false, decide_true, decide_false, Bool.false_eq_true, Nat.zero_add, Nat.reduceAdd, Nat.reduceEqDiff, Nat.reduceLeDiff, reduceIte, List.map_append, List.map_cons, List.map_nil, e4]
   rfl
theorem rng1_lit (n : Nat) (h : n ≤ 100000) : rng1R [.p (.int (n : Int))] = .ok (rngL 0 n) := by
 unfold rng1R
 exact if_pos ⟨by omega, by omega⟩
theorem ita1 {r : List Ev → Res (List D)} {f : En → Res Ev} {en : En} {a : D} {o : Res (List D)} (h1 : f en = .ok (.p a)) (h : r [.p a] = o) : mItA r (mCons f mNil) en = o := by
 simp only [mItA, mCons, mNil, h1, Res.bind, Ev.c, h]
theorem lp_nx {tg : D → En → Option En} {f : MS} {d : D} {ds : List D} {en e e' : En} (h1 : tg d en = some e) (h2 : f e = some (.nx e')) : mLoop tg f (d :: ds) en = mLoop tg f ds e' := by
 rw [mLoop, h1]
 dsimp only
 rw [h2]
def cols (n : Nat) : List Int := (List.range n).map fun k : Nat => (k : Int)
def dD (d : List Int) : D := .list (d.map .int)
theorem intsI {a b : List Int} (h : a.map PyData.int = b.map PyData.int) : a = b := (List.map_inj_right fun x y e => by injection e).mp h
theorem dD_inj (a b : List Int) (h : dD a = dD b) : a = b := by
 unfold dD at h
 injection h with h
 exact intsI h
theorem rng_cols (n : Nat) : rngL 0 n = (cols n).map .int := by
 unfold rngL cols
 rw [List.map_map]
 refine List.map_congr_left fun k _ => ?_
 show PyData.int (0 + (k : Int)) = .int (k : Int)
 rw [Int.zero_add]
theorem rng_v {i n : Nat} {en : En} (hn : n ≤ 1000) (h : en[i]? = some (some (.p (.int (n : Int))))) : mItA rng1R (mCons (mVar i) mNil) en = .ok ((cols n).map .int) := by
 rw [← rng_cols]
 refine ita1 (a := .int (n : Int)) ?_ (rng1_lit n (by omega))
 unfold mVar
 rw [h]
theorem cols_mem {n : Nat} {c : Int} : c ∈ cols n ↔ 0 ≤ c ∧ c < n := by
 unfold cols
 rw [List.mem_map]
 constructor
 ·rintro ⟨k, hk, rfl⟩
  have := List.mem_range.mp hk
  omega
 ·rintro ⟨h1, h2⟩
  exact ⟨c.toNat, List.mem_range.mpr (by omega), by omega⟩
theorem cols_len (n : Nat) : (cols n).length = n := by unfold cols; rw [List.length_map, List.length_range]
def ext (n : Nat) (P : Int → Bool) (ds : List (List Int)) : List (List Int) := ds.flatMap fun d => ((cols n).filter fun c => (!decide (c ∈ d)) && P c).map fun c => d ++ [c]
def dealK (n : Nat) : Nat → List (List Int)
 | 0 => [[]]
 | k + 1 => ext n (fun _ => true) (dealK n k)
def deal (n : Nat) : List (List Int) := dealK n n
theorem ext_one_len (n : Nat) (P : Int → Bool) (d : List Int) : (((cols n).filter fun c => (!decide (c ∈ d)) && P c).map fun c => d ++ [c]).length ≤ n := by
 rw [List.length_map]
 exact Nat.le_trans (List.length_filter_le _ _) (by rw [cols_len]; exact Nat.le_refl _)
theorem ext_len (n : Nat) (P : Int → Bool) : ∀ ds : List (List Int), (ext n P ds).length ≤ n * ds.length
 | [] => Nat.zero_le _
 | d :: ds => by
  have := ext_one_len n P d
  have ih := ext_len n P ds
  show ((((cols n).filter fun c => (!decide (c ∈ d)) && P c).map fun c => d ++ [c]) ++ ext n P ds).length ≤ _
  rw [List.length_append, List.length_cons, Nat.mul_succ]
  omega
theorem deal_len {n : Nat} (hn : n ≤ 6) : ∀ k, k ≤ 6 → (dealK n k).length ≤ 6 ^ k
 | 0, _ => Nat.le_refl _
 | k + 1, hk => by
  have ih := deal_len hn k (by omega)
  have := ext_len n (fun _ => true) (dealK n k)
  have h2 := Nat.mul_le_mul hn ih
  rw [Nat.pow_succ, Nat.mul_comm]
  exact Nat.le_trans this h2
theorem pow6 {k : Nat} (h : k ≤ 6) : 6 ^ k ≤ 46656 := Nat.le_trans (Nat.pow_le_pow_right (by decide) h) (by decide)
theorem in_ints (ng : Bool) (c : Int) (d : List Int) : inE ng (.p (.int c)) (.p (dD d)) = .ok (.p (.bool (if ng then !decide (c ∈ d) else decide (c ∈ d)))) := by
 have e : (d.map PyData.int).any (fun e => PyData.eqv e (.int c)) = decide (c ∈ d) := by
  induction d with
  | nil => rfl
  | cons x d ih =>
   rw [List.map_cons, List.any_cons, ih, eqv_ii]
   by_cases h : x = c
   ·rw [h]; simp
   ·have : (x == c) = false := by rw [beq_eq_false_iff_ne]; exact h
    rw [this, Bool.false_or]
    simp [Ne.symm h]
 have f : (d.map PyData.int).all flatD = true := by
  rw [List.all_eq_true]
  intro x hx
  obtain ⟨y, _, rfl⟩ := List.mem_map.mp hx
  rfl
 unfold inE dD
 simp only [seqOf]
 rw [if_pos ⟨rfl, f⟩, e]
theorem add_one (d : List Int) (c : Int) (h : d.length ≤ 1000) : addE (.p (dD d)) (.p (.list [.int c])) = .ok (.f (dD (d ++ [c]))) := by
 unfold addE dD
 dsimp only [lstOf]
 rw [if_pos (by rw [List.length_map]; simp; omega), List.map_append]
 rfl
theorem deal_dlen {n : Nat} : ∀ (k : Nat) (d : List Int), d ∈ dealK n k → d.length = k
 | 0, d, h => by rw [List.mem_singleton.mp h]; rfl
 | k + 1, d, h => by
  obtain ⟨e, he, hd⟩ := List.mem_flatMap.mp h
  obtain ⟨c, _, rfl⟩ := List.mem_map.mp hd
  rw [List.length_append, deal_dlen k e he]
  rfl
def eN (n : Nat) : List L := [.p (.int (n : Int))]
theorem eN_inj (a b : Nat) (h : eN a = eN b) : a = b := by
 unfold eN at h
 injection h with h _
 injection h with h
 injection h with h
 omega
noncomputable def m_dealings_of (K : PySem.W.Frag) (c : Cls) : List L → Res L := mOf eN (fun n => n ≤ 6) fun n => .ok (.p (.list ((deal n).map dD)))
noncomputable def f_dealings_of_e1 (K : PySem.W.Frag) (c : Cls) : En → Res Ev := (mBin addE (mVar 1) (mCallB lstR' (mCons (mVar 0) mNil)))
noncomputable def f_dealings_of_b2 (K : PySem.W.Frag) (c : Cls) : MS := (mExtend 3 (mComp 1 [4] (mItA rng1R (mCons (mVar 0) mNil)) (mgName 0) (mTru (mBin (inE true) (mVar 0) (mVar 1))) (f_dealings_of_e1 K c)))
noncomputable def f_dealings_of_b3 (K : PySem.W.Frag) (c : Cls) : MS := (mSeq (mSet 3 (mCallB lstR' mNil)) (mSeq (mFor (mItL (mVar 1)) (mgName 4) (f_dealings_of_b2 K c)) (fun en => (mSet 1 (mVar 3)) (frz 3 en))))
noncomputable def f_dealings_of (K : PySem.W.Frag) (c : Cls) : MS := (mSeq (mSet 1 (mCallB lstR' (mCons (mCallB lstR' mNil) mNil))) (fun en => (mSeq (mFor (mItA rng1R (mCons (mVar 0) mNil)) (mgName 2) (f_dealings_of_b3 K c)) (mRet (mVar 1))) (frz 1 en)))
theorem deal_cm (K : PySem.W.Frag) (c : Cls) {n : Nat} (M R0 Q0 : Option L) {d : List Int} (hd : d.length ≤ 100) : mapO (compItem 1 [4] (mgName 0) (mTru (mBin (inE true) (mVar 0) (mVar 1))) (f_dealings_of_e1 K c) [some (.p (.int (n : Int))), M, R0, Q0, some (.p (dD d))]) ((cols n).map .int) = some (((cols n).filter fun c => (!decide (c ∈ d)) && true).map fun c => dD (d ++ [c])) := by
 refine mapO_flt _ fun x hx => ?_
 have t : mTru (mBin (inE true) (mVar 0) (mVar 1)) [some (.p (.int x)), some (.p (dD d))] = .ok (!decide (x ∈ d)) := by
  simp only [mTru, mBin, mVar, List.getElem?_cons_zero, List.getElem?_cons_succ, List.set_cons_zero, List.set_cons_succ, List.length_cons, List.length_nil, List.length_map, List.length_append, if_true, if_false, ite_true, ite_false, decide_true, decide_false, Bool.false_eq_true, Nat.zero_add, Nat.reduceAdd, Nat.reduceEqDiff, Nat.reduceLeDiff, reduceIte, List.map_append, List.map_cons, List.map_nil, Res.bind, Ev.c, in_ints, truthR]
 have e : f_dealings_of_e1 K c [some (.p (.int x)), some (.p (dD d))] = .ok (.f (dD (d ++ [x]))) := by
  have := add_one d x (by omega)
  simp only [f_dealings_of_e1, mBin, mVar, mCallB, mCons, mNil, lstR', pureL, List.getElem?_cons_zero, List.getElem?_cons_succ, List.set_cons_zero, List.set_cons_succ, List.length_cons, List.length_nil, List.length_map, List.length_append, if_true, if_false, ite_true, ite_false, decide_true, decide_false, Bool.false_eq_true, Nat.zero_add, Nat.reduceAdd, Nat.reduceEqDiff, Nat.reduceLeDiff, reduceIte, List.map_append, List.map_cons, List.map_nil, Res.bind, Ev.c, this]
 rw [Bool.and_true]
 unfold compItem
 simp only [mgName, capE, capO, List.getElem?_cons_zero, List.getElem?_cons_succ, List.set_cons_zero, List.set_cons_succ, List.length_cons, List.length_nil, List.length_map, List.length_append, if_true, if_false, ite_true, ite_false, decide_true, decide_false, Bool.false_eq_true, Nat.zero_add, Nat.reduceAdd, Nat.reduceEqDiff, Nat.reduceLeDiff, reduceIte, List.map_append, List.map_cons, List.map_nil, List.replicate, List.cons_append, List.nil_append, t, e, Ev.c]
 cases decide (x ∈ d) <;> rfl
theorem ext_nx {i : Nat} {fe : En → Res Ev} {en : En} {ds es : List D} (h1 : en[i]? = some (some (.o (.list ds)))) (h2 : fe en = .ok (.f (.list es))) (h3 : ds.length + es.length ≤ 100000) : mExtend i fe en = some (.nx (en.set i (some (.o (.list (ds ++ es)))))) := by
 unfold mExtend
 rw [h1]
 dsimp only
 rw [h2]
 dsimp only
 rw [if_pos h3]
theorem deal_b2 (K : PySem.W.Frag) (c : Cls) {n : Nat} (hn : n ≤ 6) (M R0 : Option L) {acc : List (List Int)} (ha : acc.length ≤ 50000) {d : List Int} (hd : d.length ≤ 100) : f_dealings_of_b2 K c [some (.p (.int (n : Int))), M, R0, some (.o (.list (acc.map dD))), some (.p (dD d))] = some (.nx [some (.p (.int (n : Int))), M, R0, some (.o (.list ((acc ++ ((cols n).filter fun c => (!decide (c ∈ d)) && true).map fun c => d ++ [c]).map dD))), some (.p (dD d))]) := by
 have hit := rng_v (i := 0) (en := [some (.p (.int (n : Int))), M, R0, some (.o (.list (acc.map dD))), some (.p (dD d))]) (n := n) (by omega) rfl
 have hc := comp_l hit (by rw [List.length_map, cols_len]; omega) (deal_cm K c M R0 (some (.o (.list (acc.map dD)))) hd)
 have hl := ext_one_len n (fun _ => true) d
 have e := ext_nx (i := 3) (ds := acc.map dD) rfl hc (by rw [List.length_map] at hl; rw [List.length_map, List.length_map]; omega)
 unfold f_dealings_of_b2
 rw [e, List.map_append, List.map_map]
 rfl
theorem deal_in (K : PySem.W.Frag) (c : Cls) {n : Nat} (hn : n ≤ 6) (M R0 : Option L) : ∀ (ds acc : List (List Int)) (r4 : Option L), acc.length + n * ds.length ≤ 50000 → (∀ d ∈ ds, d.length ≤ 100) → ∃ q4, mLoop (mgName 4) (f_dealings_of_b2 K c) (ds.map dD) [some (.p (.int (n : Int))), M, R0, some (.o (.list (acc.map dD))), r4] = some (.nx [some (.p (.int (n : Int))), M, R0, some (.o (.list ((acc ++ ext n (fun _ => true) ds).map dD))), q4])
 | [], acc, r4, _, _ => ⟨r4, by show _ = some (Out.nx [_, _, _, some (.o (.list ((acc ++ []).map dD))), _]); rw [List.append_nil]; rfl⟩
 | d :: ds, acc, r4, hl, hd => by
  rw [List.length_cons, Nat.mul_succ] at hl
  have hb := deal_b2 K c hn M R0 (acc := acc) (d := d) (by omega) (hd d (.head _))
  have h1 := ext_one_len n (fun _ => true) d
  obtain ⟨q4, ih⟩ := deal_in K c hn M R0 ds (acc ++ ((cols n).filter fun c => (!decide (c ∈ d)) && true).map fun c => d ++ [c]) (some (.p (dD d))) (by rw [List.length_append]; omega) fun x hx => hd x (.tail _ hx)
  refine ⟨q4, ?_⟩
  rw [List.map_cons, lp_nx rfl hb]
  rw [List.append_assoc] at ih
  exact ih
theorem deal_out (K : PySem.W.Frag) (c : Cls) {n : Nat} (hn : n ≤ 6) : ∀ (xs : List D) (k : Nat) (r2 r3 r4 : Option L), k + xs.length ≤ 6 → ∃ q2 q3 q4, mLoop (mgName 2) (f_dealings_of_b3 K c) xs [some (.p (.int (n : Int))), some (.p (.list ((dealK n k).map dD))), r2, r3, r4] = some (.nx [some (.p (.int (n : Int))), some (.p (.list ((dealK n (k + xs.length)).map dD))), q2, q3, q4])
 | [], k, r2, r3, r4, _ => ⟨r2, r3, r4, rfl⟩
 | x :: xs, k, r2, r3, r4, hk => by
  rw [List.length_cons] at hk
  have l1 := deal_len hn k (by omega)
  have l2 := pow6 (show k ≤ 6 by omega)
  obtain ⟨q4, h1⟩ := deal_in K c hn (some (.p (.list ((dealK n k).map dD)))) (some (.p x)) (dealK n k) [] r4 (by
   rw [List.length_nil]
   rcases Nat.lt_or_ge k 6 with z | z
   ·have := Nat.mul_le_mul hn l1
    have l3 := pow6 (show k + 1 ≤ 6 by omega)
    rw [Nat.pow_succ, Nat.mul_comm] at l3
    omega
   ·omega) (fun d hd => by rw [deal_dlen k d hd]; omega)
  obtain ⟨q2, q3, q4', ih⟩ := deal_out K c hn xs (k + 1) (some (.p x)) (some (.p (.list ((dealK n (k + 1)).map dD)))) q4 (by omega)
  refine ⟨q2, q3, q4', ?_⟩
  have hb : f_dealings_of_b3 K c [some (.p (.int (n : Int))), some (.p (.list ((dealK n k).map dD))), some (.p x), r3, r4] = some (.nx [some (.p (.int (n : Int))), some (.p (.list ((dealK n (k + 1)).map dD))), some (.p x), some (.p (.list ((dealK n (k + 1)).map dD))), q4]) := by
   unfold f_dealings_of_b3
   refine (seq_nx (set_f (d := .list []) rfl)).trans ?_
   simp only [List.set_cons_succ, List.set_cons_zero]
   refine (seq_nx ((for_l (ds := (dealK n k).map dD) rfl).trans h1)).trans ?_
   rfl
  rw [show k + (x :: xs).length = k + 1 + xs.length by rw [List.length_cons]; omega]
  rw [lp_nx rfl hb]
  exact ih
theorem eq_dealings_of (K : PySem.W.Frag) (c : Cls) : ∀ ls, m_dealings_of K c ls = .bad ∨ runF 5 (f_dealings_of K c) ls = m_dealings_of K c ls := mOf_eq fun n hn => by
 refine run_rt ?_
 rw [show startE 5 (eN n) = [some (.p (.int (n : Int))), none, none, none, none] from rfl]
 obtain ⟨q2, q3, q4, hlp⟩ := deal_out K c hn ((cols n).map .int) 0 none none none (by rw [List.length_map, cols_len]; omega)
 rw [List.length_map, cols_len, Nat.zero_add] at hlp
 have hit := rng_v (i := 0) (en := [some (.p (.int (n : Int))), some (.p (.list ((dealK n 0).map dD))), none, none, none]) (n := n) (by omega) rfl
 unfold f_dealings_of
 refine (seq_nx (set_f (d := .list ((dealK n 0).map dD)) rfl)).trans ?_
 simp only [List.set_cons_succ, List.set_cons_zero, frz, List.getElem?_cons_succ, List.getElem?_cons_zero]
 refine (seq_nx ((for_l hit).trans hlp)).trans ?_
 rfl
theorem deal_good (K : PySem.W.Frag) (c : Cls) {n : Nat} (h : n ≤ 6) : m_dealings_of K c [.p (.int (n : Int))] = .ok (.p (.list ((deal n).map dD))) := mOf_at (a := n) eN_inj h
abbrev Tb := List (List (Int × Int))
def rwF (r : List (Int × Int)) : D := .list (r.map frD)
def tbD (t : Tb) : D := .list (t.map rwF)
theorem rwF_inj (a b : List (Int × Int)) (h : rwF a = rwF b) : a = b := by
 unfold rwF at h
 injection h with h
 exact (List.map_inj_right fun x y e => frI e).mp h
theorem tbI {a b : Tb} (h : tbD a = tbD b) : a = b := by
 unfold tbD at h
 injection h with h
 exact (List.map_inj_right fun x y e => rwF_inj x y e).mp h
def eTF (a : Tb × Int) : List L := [.p (tbD a.1), .p (.int a.2)]
theorem eTF_inj (a b : Tb × Int) (h : eTF a = eTF b) : a = b := by
 unfold eTF at h
 injection h with h1 h2
 injection h2 with h2 _
 injection h1 with h1
 injection h2 with h2
 injection h2 with h2
 exact Prod.ext (tbI h1) h2
def whR (F : Int) (r : List (Int × Int)) : List Int := r.map fun x => wI x F
noncomputable def m_whole_rows (K : PySem.W.Frag) (c : Cls) : List L → Res L := mOf eTF (fun a => a.1.length ≤ 10 ∧ (∀ r ∈ a.1, r.length ≤ 10 ∧ ∀ x ∈ r, Good 400 x) ∧ Sz 41000 a.2) fun a => .ok (.o (.list ((a.1.map (whR a.2)).map dD)))
noncomputable def f_whole_rows_e1 (K : PySem.W.Frag) (c : Cls) : En → Res Ev := (mCall 2 (m_whole K c) (mCons (mVar 0) (mCons (mVar 1) mNil)))
noncomputable def f_whole_rows_b2 (K : PySem.W.Frag) (c : Cls) : MS := (mAppend 2 (mComp 1 [1] (mItL (mVar 3)) (mgName 0) mYes (f_whole_rows_e1 K c)))
noncomputable def f_whole_rows (K : PySem.W.Frag) (c : Cls) : MS := (mSeq (mSet 2 (mCallB lstR' mNil)) (mSeq (mFor (mItL (mVar 0)) (mgName 3) (f_whole_rows_b2 K c)) (mRet (mVar 2))))
theorem eq_whole_rows (K : PySem.W.Frag) (c : Cls) : ∀ ls, m_whole_rows K c ls = .bad ∨ runF 4 (f_whole_rows K c) ls = m_whole_rows K c ls := mOf_eq fun a h => by
 obtain ⟨t, F⟩ := a
 obtain ⟨hl, hg, hF⟩ := h
 dsimp only at hl hg hF ⊢
 refine run_rt ?_
 rw [show startE 4 (eTF (t, F)) = [some (.p (tbD t)), some (.p (.int F)), none, none] from rfl]
 have gen : ∀ (rs : Tb) (acc : List (List Int)) (r3 : Option L), acc.length + rs.length ≤ 20 → (∀ r ∈ rs, r.length ≤ 10 ∧ ∀ x ∈ r, Good 400 x) → ∃ q3, mLoop (mgName 3) (f_whole_rows_b2 K c) (rs.map rwF) [some (.p (tbD t)), some (.p (.int F)), some (.o (.list (acc.map dD))), r3] = some (.nx [some (.p (tbD t)), some (.p (.int F)), some (.o (.list ((acc ++ rs.map (whR F)).map dD))), q3]) := by
  intro rs
  induction rs with
  | nil => intro acc r3 _ _; exact ⟨r3, by rw [List.map_nil, List.map_nil, List.append_nil]; rfl⟩
  | cons r rs ih =>
   intro acc r3 hl hg
   rw [List.length_cons] at hl
   obtain ⟨q3, ih⟩ := ih (acc ++ [whR F r]) (some (.p (rwF r))) (by rw [List.length_append]; simp; omega) fun x hx => hg x (.tail _ hx)
   refine ⟨q3, ?_⟩
   have hm : mapO (compItem 1 [1] (mgName 0) mYes (f_whole_rows_e1 K c) [some (.p (tbD t)), some (.p (.int F)), some (.o (.list (acc.map dD))), some (.p (rwF r))]) (r.map frD) = some (r.map fun x => .int (wI x F)) := by
    refine mapO_map _ fun x hx => ?_
    have w := whole_good K c ((hg r (.head _)).2 x hx) hF
    have he : f_whole_rows_e1 K c [some (.p (frD x)), some (.p (.int F))] = .ok (.p (.int (wI x F))) := by
     simp only [f_whole_rows_e1, mSeq, mSet, mRet, mIfS, mVar, mC, mBin, mUn, mCons, mNil, mCall, callR, argsL, argL, argB, Res.bind, Ev.c, retL, retE, mCallB, tupR', lstR', pureL, mTru, truthR, mAnd, mOr, mNot, mAndV, mOrV, mNotV, mRaise, mNext, addE, intE0, negE, lstOf, dat, lenE, eqE, sh_int, eqv_ii, ix_pl2, ix_pl0, ix_pl1, ix_fr0, ix_fr1, ix_t0, ix_t1, ix_t2, List.getElem?_cons_zero, List.getElem?_cons_succ, List.set_cons_zero, List.set_cons_succ, List.length_cons, List.length_nil, List.length_map, List.length_append, if_true, if_false, ite_true, ite_false, decide_true, decide_false, Bool.false_eq_true, Nat.zero_add, Nat.reduceAdd, Nat.reduceEqDiff, Nat.reduceLeDiff, reduceIte, List.map_append, List.map_cons, List.map_nil, w]
    simp [compItem, mgName, capE, capO, mYes, he, Ev.c]
   have hc := comp_l (n := 1) (js := [1]) (fi := mItL (mVar 3)) (tg := mgName 0) (ft := mYes) (fe := f_whole_rows_e1 K c) (en := [some (.p (tbD t)), some (.p (.int F)), some (.o (.list (acc.map dD))), some (.p (rwF r))]) (ds := r.map frD) rfl (by rw [List.length_map]; have := (hg r (.head _)).1; omega) hm
   have hb : f_whole_rows_b2 K c [some (.p (tbD t)), some (.p (.int F)), some (.o (.list (acc.map dD))), some (.p (rwF r))] = some (.nx [some (.p (tbD t)), some (.p (.int F)), some (.o (.list ((acc ++ [whR F r]).map dD))), some (.p (rwF r))]) := by
    unfold f_whole_rows_b2 mAppend
    simp only [List.getElem?_cons_succ, List.getElem?_cons_zero, hc, Ev.c]
    rw [if_pos (by rw [List.length_map]; omega), List.map_append]
    rw [show (.list (r.map fun x => PyData.int (wI x F)) : D) = dD (whR F r) by unfold whR dD; rw [List.map_map]; rfl]
    rfl
   rw [List.map_cons, lp_nx rfl hb]
   rw [List.append_assoc] at ih
   exact ih
 obtain ⟨q3, hlp⟩ := gen t [] none (by rw [List.length_nil]; omega) hg
 rw [List.nil_append] at hlp
 unfold f_whole_rows
 refine (seq_nx (set_f (d := .list []) rfl)).trans ((seq_nx ((for_l (ds := t.map rwF) rfl).trans hlp)).trans ?_)
 rfl
theorem wrows_good (K : PySem.W.Frag) (c : Cls) {t : Tb} {F : Int} (h1 : t.length ≤ 10) (h2 : ∀ r ∈ t, r.length ≤ 10 ∧ ∀ x ∈ r, Good 400 x) (h3 : Sz 41000 F) : m_whole_rows K c [.p (tbD t), .p (.int F)] = .ok (.o (.list ((t.map (whR F)).map dD))) := mOf_at (a := (t, F)) eTF_inj ⟨h1, h2, h3⟩
def wo (rows : List (List Int)) (d : List Int) : Int := ((rows.zip d).map fun x => x.1.getD x.2.toNat 0).sum
def eRD (a : List (List Int) × List Int) : List L := [.p (.list (a.1.map dD)), .p (dD a.2)]
theorem eRD_inj (a b : List (List Int) × List Int) (h : eRD a = eRD b) : a = b := by
 unfold eRD at h
 injection h with h1 h2
 injection h2 with h2 _
 injection h1 with h1
 injection h1 with h1
 injection h2 with h2
 exact Prod.ext ((List.map_inj_right fun x y e => dD_inj x y e).mp h1) (dD_inj _ _ h2)
theorem zipL_zip {α β : Type} (f : α → D) (g : β → D) : ∀ (xs : List α) (ys : List β), zipL (xs.map f) (ys.map g) = (xs.zip ys).map fun x => .tuple [f x.1, g x.2]
 | [], _ => by simp [zipL]
 | _ :: _, [] => by simp [zipL]
 | x :: xs, y :: ys => by
  show PyData.tuple [f x, g y] :: zipL (xs.map f) (ys.map g) = _
  rw [zipL_zip f g xs ys]
  rfl
noncomputable def m_worth_of (K : PySem.W.Frag) (c : Cls) : List L → Res L := mOf eRD (fun a => a.1.length ≤ 10 ∧ ∀ r ∈ a.1, ∀ x ∈ a.2, 0 ≤ x ∧ x < r.length) fun a => .ok (.p (.int (wo a.1 a.2)))
noncomputable def f_worth_of_e1 (K : PySem.W.Frag) (c : Cls) : En → Res Ev := (mBin ixE (mVar 0) (mVar 1))
noncomputable def f_worth_of (K : PySem.W.Frag) (c : Cls) : MS := (mRet (mCallB sumE (mCons (mComp 2 [] (mItA zipR (mCons (mVar 0) (mCons (mVar 1) mNil))) (mgTup 2 (mgCons (mgName 0) (mgCons (mgName 1) mgNil))) mYes (f_worth_of_e1 K c)) mNil)))
theorem ix_ints {r : List Int} {x : Int} (h0 : 0 ≤ x) (h1 : x < r.length) : ixE (.p (dD r)) (.p (.int x)) = .ok (.p (.int (r.getD x.toNat 0))) := by
 have := at_nat (ns := r) (k := x.toNat) (by omega)
 rw [Int.toNat_of_nonneg h0] at this
 simp only [ixE, dD, seqOf, this]
theorem eq_worth_of (K : PySem.W.Frag) (c : Cls) : ∀ ls, m_worth_of K c ls = .bad ∨ runF 2 (f_worth_of K c) ls = m_worth_of K c ls := mOf_eq fun a h => by
 obtain ⟨rows, d⟩ := a
 obtain ⟨hl, hg⟩ := h
 dsimp only at hl hg ⊢
 refine run_rt ?_
 rw [show startE 2 (eRD (rows, d)) = [some (.p (.list (rows.map dD))), some (.p (dD d))] from rfl]
 have hit : (mItA zipR (mCons (mVar 0) (mCons (mVar 1) mNil))) [some (.p (.list (rows.map dD))), some (.p (dD d))] = .ok ((rows.zip d).map fun x => .tuple [dD x.1, .int x.2]) := by
  simp only [mItA, mCons, mNil, mVar, Res.bind, List.getElem?_cons_zero, List.getElem?_cons_succ, List.set_cons_zero, List.set_cons_succ, List.length_cons, List.length_nil, List.length_map, List.length_append, if_true, if_false, ite_true, ite_false, decide_true, decide_false, Bool.false_eq_true, Nat.zero_add, Nat.reduceAdd, Nat.reduceEqDiff, Nat.reduceLeDiff, reduceIte, List.map_append, List.map_cons, List.map_nil, Ev.c, zipR, dD, zipL_zip]
 have hm : mapO (compItem 2 [] (mgTup 2 (mgCons (mgName 0) (mgCons (mgName 1) mgNil))) mYes (f_worth_of_e1 K c) [some (.p (.list (rows.map dD))), some (.p (dD d))]) ((rows.zip d).map fun x => .tuple [dD x.1, .int x.2]) = some ((rows.zip d).map fun x => .int (x.1.getD x.2.toNat 0)) := by
  refine mapO_map _ fun x hx => ?_
  obtain ⟨h1, h2⟩ := List.of_mem_zip hx
  have i := ix_ints (hg x.1 h1 x.2 h2).1 (hg x.1 h1 x.2 h2).2
  have e : f_worth_of_e1 K c [some (.p (dD x.1)), some (.p (.int x.2))] = .ok (.p (.int (x.1.getD x.2.toNat 0))) := by
   simp only [f_worth_of_e1, mBin, mVar, List.getElem?_cons_zero, List.getElem?_cons_succ, List.set_cons_zero, List.set_cons_succ, List.length_cons, List.length_nil, List.length_map, List.length_append, if_true, if_false, ite_true, ite_false, decide_true, decide_false, Bool.false_eq_true, Nat.zero_add, Nat.reduceAdd, Nat.reduceEqDiff, Nat.reduceLeDiff, reduceIte, List.map_append, List.map_cons, List.map_nil, Res.bind, Ev.c, i]
  unfold compItem
  simp only [mgTup, mgCons, mgNil, mgName, capE, mYes, List.getElem?_cons_zero, List.getElem?_cons_succ, List.set_cons_zero, List.set_cons_succ, List.length_cons, List.length_nil, List.length_map, List.length_append, if_true, if_false, ite_true, ite_false, decide_true, decide_false, Bool.false_eq_true, Nat.zero_add, Nat.reduceAdd, Nat.reduceEqDiff, Nat.reduceLeDiff, reduceIte, List.map_append, List.map_cons, List.map_nil, List.replicate, List.cons_append, List.nil_append, e, Ev.c]
 have hc := comp_l (n := 2) (js := []) hit (by rw [List.length_map, List.length_zip]; omega) hm
 unfold f_worth_of
 refine ret_p ?_
 have hs : sumE [.p (.list ((rows.zip d).map fun x => PyData.int (x.1.getD x.2.toNat 0)))] = .ok (.p (.int (wo rows d))) := by
  rw [show ((rows.zip d).map fun x => PyData.int (x.1.getD x.2.toNat 0)) = ((rows.zip d).map fun x => x.1.getD x.2.toNat 0).map PyData.int by rw [List.map_map]; rfl]
  simp only [sumE, lstOf, intsOf_map]
  rfl
 simp only [mCallB, mCons, mNil, hc, Res.bind, Ev.c, hs]
theorem wo_good (K : PySem.W.Frag) (c : Cls) {rows : List (List Int)} {d : List Int} (h1 : rows.length ≤ 10) (h2 : ∀ r ∈ rows, ∀ x ∈ d, 0 ≤ x ∧ x < r.length) : m_worth_of K c [.p (.list (rows.map dD)), .p (dD d)] = .ok (.p (.int (wo rows d))) := mOf_at (a := (rows, d)) eRD_inj ⟨h1, h2⟩
theorem w_mul {F : Int} {h : Int × Int} (h0 : 1 ≤ h.2) (hd : h.2 ∣ F) : h.1 * F.fdiv h.2 * h.2 = h.1 * F := by
 obtain ⟨k, hk⟩ := hd
 have : F.fdiv h.2 = k := by
  rw [hk]
  exact Int.mul_fdiv_cancel_left _ (by omega)
 rw [this, hk]
 ac_rfl
def wt (G : Int) (h : Int × Int) : Int := h.1 * G.fdiv h.2
theorem wt_le {G : Int} {x y : Int × Int} (hG : 1 ≤ G) (x0 : 1 ≤ x.2) (y0 : 1 ≤ y.2) (xd : x.2 ∣ G) (yd : y.2 ∣ G) (h : leF x y) : wt G x ≤ wt G y := by
 have e1 : wt G x * x.2 = x.1 * G := w_mul x0 xd
 have e2 : wt G y * y.2 = y.1 * G := w_mul y0 yd
 have p := pos_mul x0 y0
 refine Int.le_of_mul_le_mul_right (a := x.2 * y.2) ?_ (by omega)
 have a1 : wt G x * (x.2 * y.2) = x.1 * y.2 * G := by
  rw [← Int.mul_assoc, e1]
  ac_rfl
 have a2 : wt G y * (x.2 * y.2) = y.1 * x.2 * G := by
  rw [Int.mul_comm x.2, ← Int.mul_assoc, e2]
  ac_rfl
 rw [a1, a2]
 exact Int.mul_le_mul_of_nonneg_right h (by omega)
theorem wt_inj {G : Int} {x y : Int × Int} (hG : 1 ≤ G) (fx : FR.Fr x) (fy : FR.Fr y) (xd : x.2 ∣ G) (yd : y.2 ∣ G) (h : wt G x = wt G y) : x = y := by
 have e1 : wt G x * x.2 = x.1 * G := w_mul fx.pos xd
 have e2 : wt G y * y.2 = y.1 * G := w_mul fy.pos yd
 have e : x.1 * y.2 = y.1 * x.2 := by
  refine Int.eq_of_mul_eq_mul_right (a := G) (by omega) ?_
  have a1 : x.1 * y.2 * G = wt G x * (x.2 * y.2) := by
   rw [← Int.mul_assoc, e1]
   ac_rfl
  have a2 : y.1 * x.2 * G = wt G y * (x.2 * y.2) := by
   rw [Int.mul_comm x.2, ← Int.mul_assoc, e2]
   ac_rfl
  rw [a1, a2, h]
 exact leF_eq fx fy (Int.le_of_eq e) (Int.le_of_eq e.symm)
theorem wt_sum {G : Int} {x y : Int × Int} (x0 : 1 ≤ x.2) (y0 : 1 ≤ y.2) (xd : x.2 ∣ G) (yd : y.2 ∣ G) : (hP x y).2 ∣ G ∧ wt G (hP x y) = wt G x + wt G y := by
 have e1 : wt G x * x.2 = x.1 * G := w_mul x0 xd
 have e2 : wt G y * y.2 = y.1 * G := w_mul y0 yd
 have p := pos_mul x0 y0
 obtain ⟨fs, es⟩ := FR.mk_fr (t := x.1 * y.2 + y.1 * x.2) (b := x.2 * y.2) (by omega)
 have key : (hP x y).1 * G = (wt G x + wt G y) * (hP x y).2 := by
  refine Int.eq_of_mul_eq_mul_right (a := x.2 * y.2) (by omega) ?_
  have a1 : (hP x y).1 * G * (x.2 * y.2) = (hP x y).1 * (x.2 * y.2) * G := by ac_rfl
  have a2 : (wt G x + wt G y) * (hP x y).2 * (x.2 * y.2) = (wt G x * x.2 * y.2 + wt G y * y.2 * x.2) * (hP x y).2 := by
   rw [Int.add_mul, Int.add_mul, Int.add_mul]
   congr 1 <;> ac_rfl
  rw [a1, a2, show (hP x y).1 * (x.2 * y.2) = (x.1 * y.2 + y.1 * x.2) * (hP x y).2 from es, e1, e2]
  have a3 : x.1 * G * y.2 + y.1 * G * x.2 = (x.1 * y.2 + y.1 * x.2) * G := by
   rw [Int.add_mul]
   congr 1 <;> ac_rfl
  rw [a3]
  ac_rfl
 have fs : FR.Fr (hP x y) := fs
 have hd : (hP x y).2 ∣ G := by
  have d1 : (hP x y).2 ∣ (hP x y).1 * G := ⟨wt G x + wt G y, by rw [key, Int.mul_comm]⟩
  have d2 : (hP x y).2.natAbs ∣ (hP x y).1.natAbs * G.natAbs := by
   rw [← Int.natAbs_mul]
   exact Int.natAbs_dvd_natAbs.mpr d1
  have c : Nat.Coprime (hP x y).2.natAbs (hP x y).1.natAbs := by
   have := fs.low
   rw [Int.gcd_comm] at this
   exact this
  exact Int.natAbs_dvd_natAbs.mp (c.dvd_of_dvd_mul_left d2)
 refine ⟨hd, ?_⟩
 have e3 : wt G (hP x y) * (hP x y).2 = (hP x y).1 * G := w_mul fs.pos hd
 exact Int.eq_of_mul_eq_mul_right (a := (hP x y).2) (by have := fs.pos; omega) (by rw [e3, key])
theorem wt_two {F G : Int} {x : Int × Int} (x0 : 1 ≤ x.2) (d1 : x.2 ∣ F) (d2 : x.2 ∣ G) : wt F x * G = wt G x * F := by
 have e1 : wt F x * x.2 = x.1 * F := w_mul x0 d1
 have e2 : wt G x * x.2 = x.1 * G := w_mul x0 d2
 refine Int.eq_of_mul_eq_mul_right (a := x.2) (by omega) ?_
 have a1 : wt F x * G * x.2 = wt F x * x.2 * G := by ac_rfl
 have a2 : wt G x * F * x.2 = wt G x * x.2 * F := by ac_rfl
 rw [a1, a2, e1, e2]
 ac_rfl
theorem at_map {α : Type} (f : α → D) (xs : List α) (d : α) {k : Nat} (h : k < xs.length) : atI (xs.map f) (k : Int) = some (f (xs.getD k d)) := by
 have : xs.getD k d = xs[k] := by simp [List.getD, h]
 rw [this]
 exact atI_nat (by rw [List.getElem?_map, List.getElem?_eq_getElem h]; rfl)
theorem mem_ext {n : Nat} {P : Int → Bool} {ds : List (List Int)} {e : List Int} : e ∈ ext n P ds ↔ ∃ d ∈ ds, ∃ x : Int, (0 ≤ x ∧ x < n) ∧ x ∉ d ∧ P x = true ∧ e = d ++ [x] := by
 unfold ext
 rw [List.mem_flatMap]
 constructor
 ·rintro ⟨d, hd, h⟩
  obtain ⟨x, hx, rfl⟩ := List.mem_map.mp h
  obtain ⟨h1, h2⟩ := List.mem_filter.mp hx
  rw [Bool.and_eq_true] at h2
  exact ⟨d, hd, x, cols_mem.mp h1, by simpa using h2.1, h2.2, rfl⟩
 ·rintro ⟨d, hd, x, h1, h2, h3, rfl⟩
  refine ⟨d, hd, List.mem_map.mpr ⟨x, List.mem_filter.mpr ⟨cols_mem.mpr h1, ?_⟩, rfl⟩⟩
  rw [Bool.and_eq_true]
  exact ⟨by simpa using h2, h3⟩
theorem mem_deal {n : Nat} : ∀ (k : Nat) (d : List Int), d ∈ dealK n k ↔ d.length = k ∧ d.Nodup ∧ ∀ x ∈ d, 0 ≤ x ∧ x < n
 | 0, d => by
  constructor
  ·intro h
   rw [List.mem_singleton.mp h]
   exact ⟨rfl, List.Pairwise.nil, (fun _ h => nomatch h)⟩
  ·rintro ⟨h, _⟩
   rw [List.length_eq_zero_iff.mp h]
   exact .head _
 | k + 1, d => by
  show d ∈ ext n (fun _ => true) (dealK n k) ↔ _
  rw [mem_ext]
  constructor
  ·rintro ⟨e, he, x, hx, hn, _, rfl⟩
   obtain ⟨h1, h2, h3⟩ := (mem_deal k e).mp he
   refine ⟨by rw [List.length_append, h1]; rfl, List.nodup_append.mpr ⟨h2, List.pairwise_singleton _ _, fun a ha b hb z => ?_⟩, fun y hy => ?_⟩
   ·rw [List.mem_singleton.mp hb] at z
    exact hn (z ▸ ha)
   ·rcases List.mem_append.mp hy with z | z
    ·exact h3 y z
    ·rw [List.mem_singleton.mp z]; exact hx
  ·rintro ⟨h1, h2, h3⟩
   have hne : d ≠ [] := fun z => by rw [z] at h1; cases h1
   have e : d = d.dropLast ++ [d.getLast hne] := (List.dropLast_concat_getLast hne).symm
   have nd := h2
   rw [e] at nd
   obtain ⟨n1, _, n3⟩ := List.nodup_append.mp nd
   exact ⟨d.dropLast, (mem_deal k _).mpr ⟨by rw [List.length_dropLast, h1]; rfl, n1, fun x hx => h3 x (List.dropLast_subset _ hx)⟩, d.getLast hne, h3 _ (List.getLast_mem _), fun z => n3 _ z _ (.head _) rfl, rfl, e⟩
def mxw : List Int → Int
 | [] => 0
 | i :: is => maxL i is
theorem maxL_spec : ∀ (is : List Int) (i : Int), maxL i is ∈ i :: is ∧ ∀ x ∈ i :: is, x ≤ maxL i is
 | [], i => ⟨.head _, fun x hx => by rw [List.mem_singleton.mp hx]; exact Int.le_refl _⟩
 | j :: is, i => by
  obtain ⟨h1, h2⟩ := maxL_spec is (if i < j then j else i)
  have e : maxL i (j :: is) = maxL (if i < j then j else i) is := rfl
  rw [e]
  constructor
  ·rcases List.mem_cons.mp h1 with z | z
   ·rw [z]
    split
    ·exact .tail _ (.head _)
    ·exact .head _
   ·exact .tail _ (.tail _ z)
  ·intro x hx
   have h0 := h2 _ (.head _)
   have hi : i ≤ (if i < j then j else i) := by split <;> omega
   have hj : j ≤ (if i < j then j else i) := by split <;> omega
   rcases List.mem_cons.mp hx with z | z
   ·rw [z]; exact Int.le_trans hi h0
   ·rcases List.mem_cons.mp z with w | w
    ·rw [w]; exact Int.le_trans hj h0
    ·exact h2 x (.tail _ w)
theorem mxw_spec {ws : List Int} (h : ws ≠ []) : mxw ws ∈ ws ∧ ∀ x ∈ ws, x ≤ mxw ws := by
 cases ws with
 | nil => exact absurd rfl h
 | cons i is => exact maxL_spec is i
theorem cnt_flt {α : Type} (W : α → Int) (f : α → Bool) (top : Int) : ∀ ds : List α, (∀ d ∈ ds, (W d = top ↔ f d = true)) → (ds.map W).count top = (ds.filter f).length
 | [], _ => rfl
 | d :: ds, h => by
  have ih := cnt_flt W f top ds fun x hx => h x (.tail _ hx)
  have hd := h d (.head _)
  rw [List.map_cons, List.count_cons, ih, List.filter_cons]
  by_cases z : f d = true
  ·rw [if_pos z, if_pos (by rw [beq_iff_eq]; exact hd.mpr z), List.length_cons]
  ·rw [if_neg z, if_neg (by rw [beq_iff_eq]; exact fun w => z (hd.mp w))]
   rfl
def eT (t : Tb) : List L := [.p (tbD t)]
theorem eT_inj (a b : Tb) (h : eT a = eT b) : a = b := by
 unfold eT at h
 injection h with h _
 injection h with h
 exact tbI h
structure GT (t : Tb) : Prop where
 l : t.length ≤ 6
 r : ∀ r ∈ t, r.length = t.length
 g : ∀ r ∈ t, ∀ x ∈ r, 1 ≤ x.2 ∧ Sz 200 x.1 ∧ Sz 30 x.2
def wsOf (t : Tb) : List Int := (deal t.length).map (wo (t.map (whR (cb t.flatten))))
def bestT (t : Tb) : D := .tuple [frD (FR.mk (mxw (wsOf t)) (cb t.flatten)), .int ((wsOf t).count (mxw (wsOf t)) : Nat), dD ((deal t.length).getD ((wsOf t).idxOf (mxw (wsOf t))) [])]
theorem flat_len : ∀ (t : Tb) (n : Nat), (∀ r ∈ t, r.length = n) → t.flatten.length = t.length * n
 | [], n, _ => by simp
 | r :: t, n, h => by
  rw [List.flatten_cons, List.length_append, flat_len t n fun x hx => h x (.tail _ hx), h r (.head _), List.length_cons, Nat.succ_mul]
  omega
theorem GT.fl {t : Tb} (h : GT t) : ∀ x ∈ t.flatten, 1 ≤ x.2 ∧ Sz 30 x.2 := fun x hx => by
 obtain ⟨r, hr, hx⟩ := List.mem_flatten.mp hx
 have := h.g r hr x hx
 exact ⟨this.1, this.2.2⟩
theorem GT.cb {t : Tb} (h : GT t) : 1 ≤ cb t.flatten ∧ (∀ x ∈ t.flatten, x.2 ∣ cb t.flatten) ∧ Sz 1200 (cb t.flatten) := by
 obtain ⟨a, _, b, c⟩ := cb_ok (b := 30) t.flatten 1 1 (Int.le_refl 1) (by unfold Sz; decide) h.fl
 refine ⟨a, b, c.mono ?_⟩
 rw [flat_len t t.length h.r]
 have := Nat.mul_le_mul h.l h.l
 omega
theorem deal_ne (n : Nat) : deal n ≠ [] := by
 have : cols n ∈ deal n := (mem_deal n _).mpr ⟨cols_len n, by
  unfold cols
  exact List.pairwise_map.mpr (List.nodup_range.imp fun {a b} w z => w (by omega)), fun x hx => cols_mem.mp hx⟩
 exact List.ne_nil_of_mem this
noncomputable def m_best (K : PySem.W.Frag) (c : Cls) : List L → Res L := mOf eT GT fun t => .ok (.p (bestT t))
noncomputable def f_best_e1 (K : PySem.W.Frag) (c : Cls) : En → Res Ev := (mCall 2 (m_worth_of K c) (mCons (mVar 1) (mCons (mVar 0) mNil)))
noncomputable def f_best_b2 (K : PySem.W.Frag) (c : Cls) : MS := (mExtP 1 (mVar 2))
noncomputable def f_best (K : PySem.W.Frag) (c : Cls) : MS := (mSeq (mSet 1 (mCallB lstR' mNil)) (mSeq (mFor (mItL (mVar 0)) (mgName 2) (f_best_b2 K c)) (mSeq (mSet 3 (mCall 1 (m_common_bottom K c) (mCons (mVar 1) mNil))) (mSeq (mSet 4 (mCall 2 (m_whole_rows K c) (mCons (mVar 0) (mCons (mVar 3) mNil)))) (mSeq (mSet 5 (mCall 1 (m_dealings_of K c) (mCons (mCallB lenE (mCons (mVar 4) mNil)) mNil))) (fun en => (mSeq (mSet 6 (mComp 1 [4] (mItL (mVar 5)) (mgName 0) mYes (f_best_e1 K c))) (mSeq (mSet 7 (mCallB maxE (mCons (mVar 6) mNil))) (mRet (mCallB tupR' (mCons (mCall 2 (m_fraction K c) (mCons (mVar 7) (mCons (mVar 3) mNil))) (mCons (mMt countE (mVar 6) (mVar 7)) (mCons (mBin ixE (mVar 5) (mMt indexE (mVar 6) (mVar 7))) mNil))))))) (frz 4 en)))))))
theorem extp_nx {i : Nat} {fe : En → Res Ev} {en : En} {ds es : List D} (h1 : en[i]? = some (some (.o (.list ds)))) (h2 : fe en = .ok (.p (.list es))) (h3 : ds.length + es.length ≤ 100000) : mExtP i fe en = some (.nx (en.set i (some (.o (.list (ds ++ es)))))) := by
 unfold mExtP
 rw [h1]
 dsimp only
 rw [h2]
 dsimp only
 rw [if_pos h3]
theorem best_loop (K : PySem.W.Frag) (c : Cls) (A : Option L) (rs' : List (Option L)) : ∀ (rs : Tb) (acc : List (Int × Int)) (r2 : Option L), acc.length + 10 * rs.length ≤ 1000 → (∀ r ∈ rs, r.length ≤ 10) → ∃ q2, mLoop (mgName 2) (f_best_b2 K c) (rs.map rwF) (A :: some (.o (.list (acc.map frD))) :: r2 :: rs') = some (.nx (A :: some (.o (.list ((acc ++ rs.flatten).map frD))) :: q2 :: rs'))
 | [], acc, r2, _, _ => ⟨r2, by rw [List.flatten_nil, List.append_nil]; rfl⟩
 | r :: rs, acc, r2, hl, hr => by
  rw [List.length_cons] at hl
  have h1 := hr r (.head _)
  obtain ⟨q2, ih⟩ := best_loop K c A rs' rs (acc ++ r) (some (.p (rwF r))) (by rw [List.length_append]; omega) fun x hx => hr x (.tail _ hx)
  refine ⟨q2, ?_⟩
  have hb : f_best_b2 K c (A :: some (.o (.list (acc.map frD))) :: some (.p (rwF r)) :: rs') = some (.nx (A :: some (.o (.list ((acc ++ r).map frD))) :: some (.p (rwF r)) :: rs')) := by
   unfold f_best_b2
   rw [extp_nx (i := 1) (ds := acc.map frD) (es := r.map frD) rfl rfl (by rw [List.length_map, List.length_map]; omega), List.map_append]
   rfl
  rw [List.map_cons, lp_nx rfl hb]
  rw [List.flatten_cons, ← List.append_assoc]
  exact ih
theorem eq_best (K : PySem.W.Frag) (c : Cls) : ∀ ls, m_best K c ls = .bad ∨ runF 8 (f_best K c) ls = m_best K c ls := mOf_eq fun t h => by
 obtain ⟨f0, f1, f2⟩ := h.cb
 have hl := h.l
 have hfi : ∀ x : Int, flatL (.p (.int x)) = true := fun x => by simp [flatL, lfD]
 obtain ⟨q2, hlp⟩ := best_loop K c (some (.p (tbD t))) [none, none, none, none, none] t [] none (by rw [List.length_nil]; omega) (fun r hr => by rw [h.r r hr]; omega)
 rw [List.nil_append] at hlp
 have hcb := cb_good K c (hs := t.flatten) ⟨30, by decide, by rw [flat_len t t.length h.r]; have := Nat.mul_le_mul h.l h.l; omega, h.fl⟩
 have hwr := wrows_good K c (t := t) (F := cb t.flatten) (by omega) (fun r hr => ⟨by rw [h.r r hr]; omega, fun x hx => by
  have := h.g r hr x hx
  exact ⟨this.1, this.2.1.mono (by decide), this.2.2.mono (by decide)⟩⟩) (f2.mono (by decide))
 have hde := deal_good K c (n := t.length) h.l
 have hfr := frac_ok K c (t := mxw (wsOf t)) (b := cb t.flatten) (by omega) (f2.mono (by decide))
 refine run_rt ?_
 rw [show startE 8 (eT t) = [some (.p (tbD t)), none, none, none, none, none, none, none] from rfl]
 unfold f_best
 refine (seq_nx (set_f (d := .list []) rfl)).trans ?_
 refine (seq_nx ((for_l (ds := t.map rwF) rfl).trans hlp)).trans ?_
 have e3 : (mCall 1 (m_common_bottom K c) (mCons (mVar 1) mNil)) [some (.p (tbD t)), some (.o (.list (t.flatten.map frD))), q2, none, none, none, none, none] = .ok (.p (.int (cb t.flatten))) := by
  simp only [mCall, mCons, mNil, mVar, List.getElem?_cons_zero, List.getElem?_cons_succ, List.set_cons_zero, List.set_cons_succ, List.length_cons, List.length_nil, List.length_map, List.length_append, if_true, if_false, ite_true, ite_false, decide_true, decide_false, Bool.false_eq_true, Nat.zero_add, Nat.reduceAdd, Nat.reduceEqDiff, Nat.reduceLeDiff, reduceIte, List.map_append, List.map_cons, List.map_nil, Res.bind, Ev.c, callR, argsL, argL, argB, hcb, hfi, retE]
 refine (seq_nx (set_p e3)).trans ?_
 simp only [List.set_cons_succ, List.set_cons_zero]
 have e4 : (mCall 2 (m_whole_rows K c) (mCons (mVar 0) (mCons (mVar 3) mNil))) [some (.p (tbD t)), some (.o (.list (t.flatten.map frD))), q2, some (.p (.int (cb t.flatten))), none, none, none, none] = .ok (.f (.list ((t.map (whR (cb t.flatten))).map dD))) := by
  simp only [mCall, mCons, mNil, mVar, List.getElem?_cons_zero, List.getElem?_cons_succ, List.set_cons_zero, List.set_cons_succ, List.length_cons, List.length_nil, List.length_map, List.length_append, if_true, if_false, ite_true, ite_false, decide_true, decide_false, Bool.false_eq_true, Nat.zero_add, Nat.reduceAdd, Nat.reduceEqDiff, Nat.reduceLeDiff, reduceIte, List.map_append, List.map_cons, List.map_nil, Res.bind, Ev.c, callR, argsL, argL, hwr, retE]
 refine (seq_nx (set_f e4)).trans ?_
 simp only [List.set_cons_succ, List.set_cons_zero]
 have hlen : lenE [.b (.list ((t.map (whR (cb t.flatten))).map dD))] = .ok (.p (.int (t.length : Nat))) := by simp [lenE, seqOf]
 have e5 : (mCall 1 (m_dealings_of K c) (mCons (mCallB lenE (mCons (mVar 4) mNil)) mNil)) [some (.p (tbD t)), some (.o (.list (t.flatten.map frD))), q2, some (.p (.int (cb t.flatten))), some (.o (.list ((t.map (whR (cb t.flatten))).map dD))), none, none, none] = .ok (.p (.list ((deal t.length).map dD))) := by
  simp only [mCall, mCallB, mCons, mNil, mVar, List.getElem?_cons_zero, List.getElem?_cons_succ, List.set_cons_zero, List.set_cons_succ, List.length_cons, List.length_nil, List.length_map, List.length_append, if_true, if_false, ite_true, ite_false, decide_true, decide_false, Bool.false_eq_true, Nat.zero_add, Nat.reduceAdd, Nat.reduceEqDiff, Nat.reduceLeDiff, reduceIte, List.map_append, List.map_cons, List.map_nil, Res.bind, Ev.c, callR, argsL, argL, hlen, hde, retE]
 refine (seq_nx (set_p e5)).trans ?_
 simp only [List.set_cons_succ, List.set_cons_zero, frz, List.getElem?_cons_succ, List.getElem?_cons_zero]
 have hm : mapO (compItem 1 [4] (mgName 0) mYes (f_best_e1 K c) [some (.p (tbD t)), some (.o (.list (t.flatten.map frD))), q2, some (.p (.int (cb t.flatten))), some (.p (.list ((t.map (whR (cb t.flatten))).map dD))), some (.p (.list ((deal t.length).map dD))), none, none]) ((deal t.length).map dD) = some ((deal t.length).map fun d => .int (wo (t.map (whR (cb t.flatten))) d)) := by
  refine mapO_map _ fun d hd => ?_
  obtain ⟨_, _, d3⟩ := (mem_deal _ d).mp hd
  have w := wo_good K c (rows := t.map (whR (cb t.flatten))) (d := d) (by rw [List.length_map]; omega) (fun r hr x hx => by
   obtain ⟨r0, h0, rfl⟩ := List.mem_map.mp hr
   have := h.r r0 h0
   unfold whR
   rw [List.length_map, this]
   exact d3 x hx)
  have he : f_best_e1 K c [some (.p (dD d)), some (.p (.list ((t.map (whR (cb t.flatten))).map dD)))] = .ok (.p (.int (wo (t.map (whR (cb t.flatten))) d))) := by
   simp only [f_best_e1, mCall, mCons, mNil, mVar, List.getElem?_cons_zero, List.getElem?_cons_succ, List.set_cons_zero, List.set_cons_succ, List.length_cons, List.length_nil, List.length_map, List.length_append, if_true, if_false, ite_true, ite_false, decide_true, decide_false, Bool.false_eq_true, Nat.zero_add, Nat.reduceAdd, Nat.reduceEqDiff, Nat.reduceLeDiff, reduceIte, List.map_append, List.map_cons, List.map_nil, Res.bind, Ev.c, callR, argsL, argL, w, retE]
  unfold compItem
  simp only [mgName, capE, capO, mYes, List.getElem?_cons_zero, List.getElem?_cons_succ, List.set_cons_zero, List.set_cons_succ, List.length_cons, List.length_nil, List.length_map, List.length_append, if_true, if_false, ite_true, ite_false, decide_true, decide_false, Bool.false_eq_true, Nat.zero_add, Nat.reduceAdd, Nat.reduceEqDiff, Nat.reduceLeDiff, reduceIte, List.map_append, List.map_cons, List.map_nil, List.replicate, List.cons_append, List.nil_append, he, Ev.c]
 have l6 := deal_len (n := t.length) h.l t.length h.l
 have p6 := pow6 h.l
 have hc := comp_l (n := 1) (js := [4]) (fi := mItL (mVar 5)) (tg := mgName 0) (ft := mYes) (fe := f_best_e1 K c) (en := [some (.p (tbD t)), some (.o (.list (t.flatten.map frD))), q2, some (.p (.int (cb t.flatten))), some (.p (.list ((t.map (whR (cb t.flatten))).map dD))), some (.p (.list ((deal t.length).map dD))), none, none]) (ds := (deal t.length).map dD) rfl (by rw [List.length_map]; unfold deal; omega) hm
 rw [show ((deal t.length).map fun d => PyData.int (wo (t.map (whR (cb t.flatten))) d)) = (wsOf t).map .int by unfold wsOf; rw [List.map_map]; rfl] at hc
 refine (seq_nx (set_f hc)).trans ?_
 simp only [List.set_cons_succ, List.set_cons_zero]
 have wn : wsOf t ≠ [] := fun z => deal_ne t.length (List.map_eq_nil_iff.mp z)
 obtain ⟨tm, _⟩ := mxw_spec wn
 have hmx : maxE [.b (.list ((wsOf t).map .int))] = .ok (.p (.int (mxw (wsOf t)))) := by
  cases e : wsOf t with
  | nil => exact absurd e wn
  | cons i is => simp only [maxE, lstOf, intsOf_map]; rfl
 have e7 : (mCallB maxE (mCons (mVar 6) mNil)) [some (.p (tbD t)), some (.o (.list (t.flatten.map frD))), q2, some (.p (.int (cb t.flatten))), some (.p (.list ((t.map (whR (cb t.flatten))).map dD))), some (.p (.list ((deal t.length).map dD))), some (.o (.list ((wsOf t).map .int))), none] = .ok (.p (.int (mxw (wsOf t)))) := by
  simp only [mCallB, mCons, mNil, mVar, List.getElem?_cons_zero, List.getElem?_cons_succ, List.set_cons_zero, List.set_cons_succ, List.length_cons, List.length_nil, List.length_map, List.length_append, if_true, if_false, ite_true, ite_false, decide_true, decide_false, Bool.false_eq_true, Nat.zero_add, Nat.reduceAdd, Nat.reduceEqDiff, Nat.reduceLeDiff, reduceIte, List.map_append, List.map_cons, List.map_nil, Res.bind, Ev.c, hmx]
 refine (seq_nx (set_p e7)).trans ?_
 simp only [List.set_cons_succ, List.set_cons_zero]
 have hco : countE (.b (.list ((wsOf t).map .int))) (.p (.int (mxw (wsOf t)))) = .ok (.p (.int ((wsOf t).count (mxw (wsOf t)) : Nat))) := by
  simp only [countE, lstOf, intsOf_map]
 have hix : indexE (.b (.list ((wsOf t).map .int))) (.p (.int (mxw (wsOf t)))) = .ok (.p (.int ((wsOf t).idxOf (mxw (wsOf t)) : Nat))) := by
  simp only [indexE, lstOf, intsOf_map]
  rw [if_pos tm]
 have hat : ixE (.p (.list ((deal t.length).map dD))) (.p (.int ((wsOf t).idxOf (mxw (wsOf t)) : Nat))) = .ok (.p (dD ((deal t.length).getD ((wsOf t).idxOf (mxw (wsOf t))) []))) := by
  have li : (wsOf t).idxOf (mxw (wsOf t)) < (deal t.length).length := by
   have := List.idxOf_lt_length_iff.mpr tm
   unfold wsOf at this
   rw [List.length_map] at this
   exact this
  have := at_map dD (deal t.length) [] li
  simp only [ixE, seqOf, this]
 refine ret_p ?_
 simp only [mCallB, mCons, mNil, mVar, mCall, mMt, mBin, List.getElem?_cons_zero, List.getElem?_cons_succ, List.set_cons_zero, List.set_cons_succ, List.length_cons, List.length_nil, List.length_map, List.length_append, if_true, if_false, ite_true, ite_false, decide_true, decide_false, Bool.false_eq_true, Nat.zero_add, Nat.reduceAdd, Nat.reduceEqDiff, Nat.reduceLeDiff, reduceIte, List.map_append, List.map_cons, List.map_nil, Res.bind, Ev.c, callR, argsL, argL, hfr, retE, hco, hix, hat, lstOf, Option.isSome_some, tupR', pureL]
 rfl
theorem best_good (K : PySem.W.Frag) (c : Cls) {t : Tb} (h : GT t) : m_best K c [.p (tbD t)] = .ok (.p (bestT t)) := mOf_at (a := t) eT_inj h
theorem getD_lt {α : Type} {xs : List α} {k : Nat} (h : k < xs.length) (d : α) : xs.getD k d = xs[k] := by simp [List.getD, h]
theorem getD_in {α : Type} {xs : List α} {k : Nat} (h : k < xs.length) (d : α) : xs.getD k d ∈ xs := by rw [getD_lt h]; exact List.getElem_mem h
theorem psum {a b : List Int} (h : a.Perm b) : a.sum = b.sum := by
 induction h with
 | nil => rfl
 | cons x _ ih => rw [List.sum_cons, List.sum_cons, ih]
 | swap x y l => simp only [List.sum_cons]; omega
 | trans _ _ h1 h2 => rw [h1, h2]
theorem perm_sub {α : Type} [DecidableEq α] : ∀ {l m : List α}, l.Nodup → (∀ x ∈ l, x ∈ m) → m.length ≤ l.length → l.Perm m
 | [], m, _, _, h => by
  have : m = [] := List.length_eq_zero_iff.mp (by simpa using h)
  rw [this]
 | x :: l, m, h, s, hl => by
  obtain ⟨h1, h2⟩ := List.nodup_cons.mp h
  have hx := s x (.head _)
  have p : m.Perm (x :: m.erase x) := List.perm_cons_erase hx
  have q : l.Perm (m.erase x) := perm_sub h2 (fun y hy => (List.mem_erase_of_ne (show y ≠ x from fun z => h1 (by rw [← z]; exact hy))).mpr (s y (.tail _ hy))) (by rw [List.length_erase_of_mem hx]; rw [List.length_cons] at hl; omega)
  exact (q.cons x).trans p.symm
theorem wo_two {F G : Int} : ∀ (t : Tb) (d : List Int), (∀ r ∈ t, ∀ x ∈ r, 1 ≤ x.2 ∧ x.2 ∣ F ∧ x.2 ∣ G) → wo (t.map (whR F)) d * G = wo (t.map (whR G)) d * F
 | [], _, _ => by unfold wo; simp
 | _ :: _, [], _ => by unfold wo; simp
 | r :: t, a :: d, h => by
  have ih := wo_two t d fun x hx => h x (.tail _ hx)
  show ((whR F r).getD a.toNat 0 + wo (t.map (whR F)) d) * G = ((whR G r).getD a.toNat 0 + wo (t.map (whR G)) d) * F
  rw [Int.add_mul, Int.add_mul, ih]
  congr 1
  by_cases hk : a.toNat < r.length
  ·have q : ∀ H : Int, (whR H r).getD a.toNat 0 = wt H (r.getD a.toNat (0, 1)) := fun H => by
    unfold whR
    rw [getD_lt (by rw [List.length_map]; exact hk), getD_lt hk, List.getElem_map]
    rfl
   have g := h r (.head _) _ (getD_in hk (0, 1))
   rw [q, q, wt_two g.1 g.2.1 g.2.2]
  ·have q : ∀ H : Int, (whR H r).getD a.toNat 0 = 0 := fun H => by
    unfold whR
    simp [List.getD, Nat.le_of_not_lt hk]
   rw [q, q, Int.zero_mul, Int.zero_mul]
theorem nd_inj {α : Type} {l : List α} (nd : l.Nodup) {i j : Nat} {hi : i < l.length} {hj : j < l.length} (e : l[i] = l[j]) : i = j := by
 have p := List.pairwise_iff_getElem.mp nd
 rcases Nat.lt_trichotomy i j with z | z | z
 ·exact absurd e (p i j hi hj z)
 ·exact z
 ·exact absurd e.symm (p j i hj hi z)
section
variable {α β : Type} [DecidableEq α]
def wsl (u : α → β → Int) : List β → List α → Int
 | p :: ps, o :: os => u o p + wsl u ps os
 | _, _ => 0
def rowsU (u : α → β → Int) (os : List α) (ps : List β) : List (List Int) := ps.map fun p => os.map fun o => u o p
structure Dl (os e : List α) : Prop where
 l : e.length = os.length
 n : e.Nodup
 m : ∀ o ∈ e, o ∈ os
theorem wo_wsl (u : α → β → Int) {os : List α} (o0 : α) : ∀ (ps : List β) (d : List Int), (∀ a ∈ d, 0 ≤ a ∧ a < os.length) → wo (rowsU u os ps) d = wsl u ps (d.map fun a => os.getD a.toNat o0)
 | [], d, _ => by unfold rowsU wo wsl; simp
 | _ :: _, [], _ => by unfold rowsU wo wsl; simp
 | p :: ps, a :: d, h => by
  have ih := wo_wsl u o0 ps d fun x hx => h x (.tail _ hx)
  have ha := h a (.head _)
  have hk : a.toNat < os.length := by omega
  show (os.map fun o => u o p).getD a.toNat 0 + wo (rowsU u os ps) d = u (os.getD a.toNat o0) p + wsl u ps (d.map fun a => os.getD a.toNat o0)
  rw [ih, getD_lt (by rw [List.length_map]; exact hk), getD_lt hk, List.getElem_map]
theorem dl_of {os : List α} (nd : os.Nodup) (o0 : α) {d : List Int} (hd : d ∈ deal os.length) : Dl os (d.map fun a => os.getD a.toNat o0) := by
 obtain ⟨d1, d2, d3⟩ := (mem_deal _ d).mp hd
 refine ⟨by rw [List.length_map, d1], ?_, fun o ho => ?_⟩
 ·refine List.pairwise_map.mpr (List.Pairwise.imp_of_mem (fun {x y} hx hy w z => w ?_) d2)
  have a := d3 x hx
  have b := d3 y hy
  have e := z
  rw [getD_lt (show x.toNat < os.length by omega), getD_lt (show y.toNat < os.length by omega)] at e
  have := nd_inj nd e
  omega
 ·obtain ⟨x, hx, rfl⟩ := List.mem_map.mp ho
  have a := d3 x hx
  exact getD_in (by omega) o0
theorem of_dl {os e : List α} (o0 : α) (h : Dl os e) : (e.map fun o => ((os.idxOf o : Nat) : Int)) ∈ deal os.length ∧ (e.map fun o => ((os.idxOf o : Nat) : Int)).map (fun a => os.getD a.toNat o0) = e := by
 have at' : ∀ o ∈ e, os.idxOf o < os.length := fun o ho => List.idxOf_lt_length_iff.mpr (h.m o ho)
 have get : ∀ o ∈ e, os.getD (os.idxOf o) o0 = o := fun o ho => by
  rw [getD_lt (at' o ho)]
  exact List.getElem_idxOf (at' o ho)
 refine ⟨(mem_deal _ _).mpr ⟨by rw [List.length_map, h.l], ?_, fun x hx => ?_⟩, ?_⟩
 ·refine List.pairwise_map.mpr (List.Pairwise.imp_of_mem (fun {x y} hx hy w z => w ?_) h.n)
  have e : os.idxOf x = os.idxOf y := by omega
  rw [← get x hx, ← get y hy, e]
 ·obtain ⟨o, ho, rfl⟩ := List.mem_map.mp hx
  have := at' o ho
  omega
 ·rw [List.map_map]
  have : ∀ o ∈ e, ((fun a : Int => os.getD a.toNat o0) ∘ fun o => ((os.idxOf o : Nat) : Int)) o = id o := fun o ho => by
   show os.getD (((os.idxOf o : Nat) : Int)).toNat o0 = o
   rw [Int.toNat_natCast]
   exact get o ho
  rw [List.map_congr_left this, List.map_id]
def wsU (u : α → β → Int) (os : List α) (ps : List β) : List Int := (deal os.length).map (wo (rowsU u os ps))
def Bv (u : α → β → Int) (os : List α) (ps : List β) : Int := mxw (wsU u os ps)
theorem wsU_ne (u : α → β → Int) (os : List α) (ps : List β) : wsU u os ps ≠ [] := fun z => deal_ne _ (List.map_eq_nil_iff.mp z)
theorem Bv_le {u : α → β → Int} {os e : List α} {ps : List β} (o0 : α) (h : Dl os e) : wsl u ps e ≤ Bv u os ps := by
 obtain ⟨h1, h2⟩ := of_dl o0 h
 obtain ⟨_, _, d3⟩ := (mem_deal _ _).mp h1
 have := (mxw_spec (wsU_ne u os ps)).2 _ (List.mem_map.mpr ⟨_, h1, rfl⟩)
 rw [wo_wsl u o0 ps _ d3, h2] at this
 exact this
theorem Bv_at {u : α → β → Int} {os : List α} (nd : os.Nodup) (ps : List β) (o0 : α) : ∃ e, Dl os e ∧ wsl u ps e = Bv u os ps := by
 obtain ⟨d, hd, e⟩ := List.mem_map.mp (mxw_spec (wsU_ne u os ps)).1
 obtain ⟨_, _, d3⟩ := (mem_deal _ _).mp hd
 refine ⟨_, dl_of nd o0 hd, ?_⟩
 rw [← wo_wsl u o0 ps _ d3]
 exact e
theorem wsl_set (u : α → β → Int) (s : α) : ∀ (ps : List β) (e : List α) (k : Nat) (h1 : k < ps.length) (h2 : k < e.length), wsl u ps (e.set k s) = wsl u ps e - u e[k] ps[k] + u s ps[k]
 | p :: ps, o :: e, 0, _, _ => by
  show u s p + wsl u ps e = u o p + wsl u ps e - u o p + u s p
  omega
 | p :: ps, o :: e, k + 1, h1, h2 => by
  have h1 : k < ps.length := Nat.lt_of_succ_lt_succ h1
  have h2 : k < e.length := Nat.lt_of_succ_lt_succ h2
  have ih := wsl_set u s ps e k h1 h2
  show u o p + wsl u ps (e.set k s) = u o p + wsl u ps e - u e[k] ps[k] + u s ps[k]
  rw [ih]
  omega
def oth (S : List α) (s : α) : List α := S.filter fun o => !decide (o = s)
theorem oth_nd {S : List α} (nd : S.Nodup) (s : α) : (oth S s).Nodup := nd.filter _
theorem mem_oth {S : List α} {s o : α} : o ∈ oth S s ↔ o ∈ S ∧ o ≠ s := by
 unfold oth
 rw [List.mem_filter]
 simp
theorem oth_len : ∀ {S : List α} {s : α}, S.Nodup → s ∈ S → (oth S s).length + 1 = S.length
 | x :: S, s, nd, hs => by
  obtain ⟨n1, n2⟩ := List.nodup_cons.mp nd
  unfold oth
  rw [List.filter_cons]
  by_cases z : x = s
  ·subst z
   have : S.filter (fun o => !decide (o = x)) = S := List.filter_eq_self.mpr fun o ho => by
    have : o ≠ x := fun e => n1 (e ▸ ho)
    simp [this]
   rw [if_neg (by simp), this]
   rfl
  ·have := oth_len n2 ((List.mem_cons.mp hs).resolve_left (Ne.symm z))
   rw [if_pos (by simp [z]), List.length_cons, List.length_cons]
   unfold oth at this
   omega
theorem oth_sum (v : α → Int) : ∀ {S : List α} {s : α}, S.Nodup → s ∈ S → ((oth S s).map v).sum = (S.map v).sum - v s
 | x :: S, s, nd, hs => by
  obtain ⟨n1, n2⟩ := List.nodup_cons.mp nd
  unfold oth
  rw [List.filter_cons]
  by_cases z : x = s
  ·subst z
   have : S.filter (fun o => !decide (o = x)) = S := List.filter_eq_self.mpr fun o ho => by
    have : o ≠ x := fun e => n1 (e ▸ ho)
    simp [this]
   rw [if_neg (by simp), this, List.map_cons, List.sum_cons]
   omega
  ·have := oth_sum v n2 ((List.mem_cons.mp hs).resolve_left (Ne.symm z))
   rw [if_pos (by simp [z]), List.map_cons, List.map_cons, List.sum_cons, List.sum_cons]
   unfold oth at this
   omega
theorem two_tops {u : α → β → Int} {S : List α} {ps : List β} (nd : S.Nodup) (hl : ps.length + 1 = S.length) {s : α} (hs : s ∈ S) {k : Nat} (hk : k < ps.length) : ∃ s' ∈ S, s' ≠ s ∧ u s ps[k] + Bv u (oth S s) ps ≤ u s' ps[k] + Bv u (oth S s') ps := by
 obtain ⟨e, de, we⟩ := Bv_at (u := u) (oth_nd nd s) ps s
 have ol := oth_len nd hs
 have ke : k < e.length := by rw [de.l]; omega
 have m1 := mem_oth.mp (de.m _ (List.getElem_mem ke))
 refine ⟨e[k], m1.1, m1.2, ?_⟩
 have ol' := oth_len nd m1.1
 have se : s ∉ e := fun z => (mem_oth.mp (de.m s z)).2 rfl
 have d' : Dl (oth S e[k]) (e.set k s) := by
  refine ⟨by rw [List.length_set, de.l]; omega, ?_, fun o ho => mem_oth.mpr ?_⟩
  ·rw [List.Nodup, List.pairwise_iff_getElem]
   intro i j hi hj hij
   rw [List.length_set] at hi hj
   rw [List.getElem_set, List.getElem_set]
   split
   ·rw [if_neg (by omega)]
    exact fun z => se (z ▸ List.getElem_mem hj)
   ·split
    ·exact fun z => se (z ▸ List.getElem_mem hi)
    ·exact fun z => by
      have := nd_inj de.n z
      omega
  ·obtain ⟨i, hi, rfl⟩ := List.mem_iff_getElem.mp ho
   rw [List.length_set] at hi
   rw [List.getElem_set]
   split
   ·exact ⟨hs, fun z => se (z ▸ List.getElem_mem ke)⟩
   ·refine ⟨(mem_oth.mp (de.m _ (List.getElem_mem hi))).1, fun z => ?_⟩
    have := nd_inj de.n z
    omega
 have := Bv_le (u := u) (ps := ps) s d'
 rw [wsl_set u s ps e k hk ke, we] at this
 omega
end
theorem mxw_eq {ws : List Int} {m : Int} (h1 : m ∈ ws) (h2 : ∀ x ∈ ws, x ≤ m) : mxw ws = m := by
 obtain ⟨a, b⟩ := mxw_spec (List.ne_nil_of_mem h1)
 have := h2 _ a
 have := b _ h1
 omega
theorem mxw_perm {a b : List Int} (h : a.Perm b) : mxw a = mxw b := by
 by_cases z : b = []
 ·subst z
  rw [List.perm_nil.mp h]
 ·obtain ⟨m1, m2⟩ := mxw_spec z
  exact mxw_eq (h.mem_iff.mpr m1) fun x hx => m2 x (h.mem_iff.mp hx)
theorem mxw_add {ws : List Int} (h : ws ≠ []) (v : Int) : mxw (ws.map (· + v)) = mxw ws + v := by
 obtain ⟨m1, m2⟩ := mxw_spec h
 refine mxw_eq (List.mem_map.mpr ⟨_, m1, rfl⟩) fun x hx => ?_
 obtain ⟨y, hy, rfl⟩ := List.mem_map.mp hx
 have := m2 y hy
 show y + v ≤ _
 omega
theorem cnt_inj {f : Int → Int} : ∀ (ws : List Int) (m : Int), (∀ x ∈ ws, f x = f m → x = m) → (ws.map f).count (f m) = ws.count m
 | [], m, _ => rfl
 | x :: ws, m, h => by
  rw [List.map_cons, List.count_cons, List.count_cons, cnt_inj ws m fun y hy => h y (.tail _ hy)]
  by_cases z : x = m
  ·rw [z]
   simp
  ·have : ¬ f x = f m := fun e => z (h x (.head _) e)
   simp [z, this]
theorem ext_nd (n : Nat) : ∀ ds : List (List Int), ds.Nodup → (ext n (fun _ => true) ds).Nodup
 | [], _ => List.Pairwise.nil
 | d :: ds, h => by
  obtain ⟨h1, h2⟩ := List.nodup_cons.mp h
  show ((((cols n).filter fun c => (!decide (c ∈ d)) && true).map fun c => d ++ [c]) ++ ext n (fun _ => true) ds).Nodup
  refine List.nodup_append.mpr ⟨?_, ext_nd n ds h2, fun a ha b hb z => ?_⟩
  ·have cn : (cols n).Nodup := by
    unfold cols
    exact List.pairwise_map.mpr (List.nodup_range.imp fun {a b} w z => w (by omega))
   rw [List.Nodup, List.pairwise_map]
   refine (List.Pairwise.filter _ cn).imp ?_
   intro x y w z
   have := List.append_cancel_left z
   injection this with e
   exact w e
  ·obtain ⟨c, _, rfl⟩ := List.mem_map.mp ha
   obtain ⟨d', hd', x, _, _, _, e⟩ := mem_ext.mp hb
   rw [← z] at e
   have := (List.append_inj' e rfl).1
   exact h1 (this ▸ hd')
theorem deal_nd (n : Nat) : ∀ k, (dealK n k).Nodup
 | 0 => List.pairwise_singleton _ _
 | k + 1 => ext_nd n _ (deal_nd n k)
theorem deal_rev (n : Nat) : ((deal n).map List.reverse).Perm (deal n) := by
 refine perm_sub (List.pairwise_map.mpr ((deal_nd n n).imp fun {a b} w z => w (List.reverse_inj.mp z))) (fun x hx => ?_) (by rw [List.length_map]; exact Nat.le_refl _)
 obtain ⟨d, hd, rfl⟩ := List.mem_map.mp hx
 obtain ⟨h1, h2, h3⟩ := (mem_deal n d).mp hd
 exact (mem_deal n _).mpr ⟨by rw [List.length_reverse, h1], List.pairwise_reverse.mpr (h2.imp fun w z => w z.symm), fun y hy => h3 y (List.mem_reverse.mp hy)⟩
theorem wo_rev {rows : List (List Int)} {d : List Int} (h : rows.length = d.length) : wo rows.reverse d.reverse = wo rows d := by
 unfold wo
 have z : rows.reverse.zip d.reverse = (rows.zip d).reverse := by
  rw [List.zip_eq_zipWith, List.zip_eq_zipWith, List.reverse_zipWith h]
 rw [z, List.map_reverse]
 exact psum (List.reverse_perm _)
theorem wsU_rev {α β : Type} [DecidableEq α] (u : α → β → Int) (os : List α) (ps : List β) (h : ps.length = os.length) : (wsU u os ps.reverse).Perm (wsU u os ps) := by
 unfold wsU
 have e : (deal os.length).map (wo (rowsU u os ps)) = ((deal os.length).map List.reverse).map (wo (rowsU u os ps.reverse)) := by
  rw [List.map_map]
  refine List.map_congr_left fun d hd => ?_
  obtain ⟨h1, _, _⟩ := (mem_deal _ d).mp hd
  have : rowsU u os ps.reverse = (rowsU u os ps).reverse := by unfold rowsU; rw [List.map_reverse]
  show _ = wo (rowsU u os ps.reverse) d.reverse
  rw [this, wo_rev (by unfold rowsU; rw [List.length_map, h, h1])]
 rw [e]
 exact ((deal_rev os.length).map _).symm
theorem wsl_add {α β : Type} {u u' : α → β → Int} {v : α → Int} : ∀ (ps : List β) (e : List α), ps.length = e.length → (∀ o ∈ e, ∀ p ∈ ps, u' o p = u o p + v o) → wsl u' ps e = wsl u ps e + (e.map v).sum
 | [], [], _, _ => rfl
 | p :: ps, o :: e, hl, h => by
  have ih := wsl_add ps e (by simpa using hl) fun a ha b hb => h a (.tail _ ha) b (.tail _ hb)
  have h0 := h o (.head _) p (.head _)
  show u' o p + wsl u' ps e = u o p + wsl u ps e + (v o + (e.map v).sum)
  rw [ih, h0]
  omega
theorem wsU_add {α β : Type} [DecidableEq α] {u u' : α → β → Int} {v : α → Int} {os : List α} {ps : List β} (nd : os.Nodup) (h : ps.length = os.length) (hv : ∀ o ∈ os, ∀ p ∈ ps, u' o p = u o p + v o) : wsU u' os ps = (wsU u os ps).map (· + (os.map v).sum) := by
 unfold wsU
 rw [List.map_map]
 by_cases ne : os = []
 ·subst ne
  have pe : ps = [] := List.length_eq_zero_iff.mp h
  subst pe
  rfl
 obtain ⟨o0, _⟩ := List.exists_mem_of_ne_nil _ ne
 refine List.map_congr_left fun d hd => ?_
 obtain ⟨d1, _, d3⟩ := (mem_deal _ d).mp hd
 have dl := dl_of nd o0 hd
 show wo (rowsU u' os ps) d = wo (rowsU u os ps) d + (os.map v).sum
 rw [wo_wsl u' o0 ps d d3, wo_wsl u o0 ps d d3, wsl_add (v := v) ps _ (by rw [List.length_map, d1, h]) fun o ho p hp => hv o (dl.m o ho) p hp]
 congr 1
 exact psum ((perm_sub dl.n dl.m (by rw [dl.l]; exact Nat.le_refl _)).map v)
structure Gx (G : Int) (x : Int × Int) : Prop where
 f : FR.Fr x
 d : x.2 ∣ G
theorem gx_of {G W : Int} {y : Int × Int} (f : FR.Fr y) (h : y.1 * G = W * y.2) : Gx G y ∧ wt G y = W := by
 have hd : y.2 ∣ G := by
  have d1 : y.2 ∣ y.1 * G := ⟨W, by rw [h, Int.mul_comm]⟩
  have d2 : y.2.natAbs ∣ y.1.natAbs * G.natAbs := by
   rw [← Int.natAbs_mul]
   exact Int.natAbs_dvd_natAbs.mpr d1
  have c : Nat.Coprime y.2.natAbs y.1.natAbs := by
   have := f.low
   rw [Int.gcd_comm] at this
   exact this
  exact Int.natAbs_dvd_natAbs.mp (c.dvd_of_dvd_mul_left d2)
 refine ⟨⟨f, hd⟩, ?_⟩
 have e : wt G y * y.2 = y.1 * G := w_mul f.pos hd
 exact Int.eq_of_mul_eq_mul_right (a := y.2) (by have := f.pos; omega) (by rw [e, h])
theorem Gx.p {G : Int} {x y : Int × Int} (h : Gx G x) (k : Gx G y) : Gx G (hP x y) ∧ wt G (hP x y) = wt G x + wt G y := by
 obtain ⟨a, b⟩ := wt_sum h.f.pos k.f.pos h.d k.d
 exact ⟨⟨hP_fr h.f.pos k.f.pos, a⟩, b⟩
theorem Gx.w {G : Int} {x : Int × Int} (h : Gx G x) : wt G x * x.2 = x.1 * G := w_mul h.f.pos h.d
theorem Gx.T {G : Int} {x : Int × Int} (h : Gx G x) (i : Int) : Gx G (hT i x) ∧ wt G (hT i x) = i * wt G x := by
 have p := h.f.pos
 obtain ⟨f, e⟩ := FR.mk_fr (t := i * x.1) (b := 1 * x.2) (by omega)
 have e : (hT i x).1 * (1 * x.2) = i * x.1 * (hT i x).2 := e
 refine gx_of f ?_
 refine Int.eq_of_mul_eq_mul_right (a := x.2) (by omega) ?_
 rw [Int.one_mul] at e
 have a1 : (hT i x).1 * G * x.2 = (hT i x).1 * x.2 * G := by ac_rfl
 have a2 : i * x.1 * (hT i x).2 * G = i * (x.1 * G) * (hT i x).2 := by ac_rfl
 show (hT i x).1 * G * x.2 = i * wt G x * (hT i x).2 * x.2
 rw [a1, e, a2, ← h.w]
 ac_rfl
theorem Gx.M {G : Int} {x y : Int × Int} (h : Gx G x) (k : Gx G y) : Gx G (hM x y) ∧ wt G (hM x y) = wt G x - wt G y := by
 have p := pos_mul h.f.pos k.f.pos
 obtain ⟨f, e⟩ := FR.mk_fr (t := x.1 * y.2 - y.1 * x.2) (b := x.2 * y.2) (by omega)
 have e : (hM x y).1 * (x.2 * y.2) = (x.1 * y.2 - y.1 * x.2) * (hM x y).2 := e
 refine gx_of f ?_
 refine Int.eq_of_mul_eq_mul_right (a := x.2 * y.2) (by omega) ?_
 show (hM x y).1 * G * (x.2 * y.2) = (wt G x - wt G y) * (hM x y).2 * (x.2 * y.2)
 have a1 : (hM x y).1 * G * (x.2 * y.2) = (hM x y).1 * (x.2 * y.2) * G := by ac_rfl
 have a2 : (wt G x - wt G y) * (hM x y).2 * (x.2 * y.2) = (wt G x * x.2 * y.2 - wt G y * y.2 * x.2) * (hM x y).2 := by
  rw [Int.sub_mul, Int.sub_mul, Int.sub_mul]
  congr 1 <;> ac_rfl
 have a3 : x.1 * G * y.2 - y.1 * G * x.2 = (x.1 * y.2 - y.1 * x.2) * G := by
  rw [Int.sub_mul]
  congr 1 <;> ac_rfl
 rw [a1, a2, e, h.w, k.w, a3]
 ac_rfl
theorem Gx.z (G : Int) : Gx G (0, 1) ∧ wt G (0, 1) = 0 := ⟨⟨⟨Int.le_refl 1, Int.gcd_one⟩, Int.one_dvd _⟩, by unfold wt; simp⟩
structure Gp (G : Int) (p : Pt) : Prop where
 x : Gx G p.1
 y : Gx G p.2
theorem hgt_wt {G : Int} {p : Pt} (hp : Gp G p) {h : Int × Int} (hh : Gx G h) (i j : Int) : Gx G (hgt (i, j, h) p) ∧ wt G (hgt (i, j, h) p) = i * wt G p.1 + j * wt G p.2 + wt G h := by
 obtain ⟨a1, a2⟩ := hp.x.T i
 obtain ⟨b1, b2⟩ := hp.y.T j
 obtain ⟨c1, c2⟩ := a1.p b1
 obtain ⟨d1, d2⟩ := c1.p hh
 refine ⟨d1, ?_⟩
 show wt G (hP (hP (hT i p.1) (hT j p.2)) h) = _
 rw [d2, c2, a2, b2]
abbrev lv (s : Int × Int) : Pl := (s.1, s.2, (0, 1))
def uG (G : Int) (s : Int × Int) (p : Pt) : Int := s.1 * wt G p.1 + s.2 * wt G p.2
def tabS (os : List (Int × Int)) (ps : List Pt) : Tb := ps.map fun p => os.map fun o => hgt (lv o) p
theorem lv_wt {G : Int} {p : Pt} (hp : Gp G p) (o : Int × Int) : Gx G (hgt (lv o) p) ∧ wt G (hgt (lv o) p) = uG G o p := by
 obtain ⟨a, b⟩ := hgt_wt hp (Gx.z G).1 o.1 o.2
 refine ⟨a, ?_⟩
 rw [b, (Gx.z G).2]
 unfold uG
 omega
theorem tab_wh {G : Int} {os : List (Int × Int)} {ps : List Pt} (hp : ∀ p ∈ ps, Gp G p) : (tabS os ps).map (whR G) = rowsU (uG G) os ps := by
 unfold tabS rowsU
 rw [List.map_map]
 refine List.map_congr_left fun p hq => ?_
 show (os.map fun o => hgt (lv o) p).map (fun x => wI x G) = _
 rw [List.map_map]
 refine List.map_congr_left fun o _ => ?_
 exact (lv_wt (hp p hq) o).2
def bX (t : Tb) : Int × Int := FR.mk (mxw (wsOf t)) (cb t.flatten)
def bK (t : Tb) : Nat := (wsOf t).count (mxw (wsOf t))
theorem tab_mem {os : List (Int × Int)} {ps : List Pt} {r : List (Int × Int)} {x : Int × Int} (hr : r ∈ tabS os ps) (hx : x ∈ r) : ∃ o ∈ os, ∃ p ∈ ps, x = hgt (lv o) p := by
 obtain ⟨p, hp, rfl⟩ := List.mem_map.mp hr
 obtain ⟨o, ho, rfl⟩ := List.mem_map.mp hx
 exact ⟨o, ho, p, hp, rfl⟩
theorem best_spec {G : Int} {os : List (Int × Int)} {ps : List Pt} (ht : GT (tabS os ps)) (hl : ps.length = os.length) (hG : 1 ≤ G) (hp : ∀ p ∈ ps, Gp G p) : Gx G (bX (tabS os ps)) ∧ wt G (bX (tabS os ps)) = Bv (uG G) os ps ∧ bK (tabS os ps) = (wsU (uG G) os ps).count (Bv (uG G) os ps) := by
 obtain ⟨f0, f1, _⟩ := ht.cb
 have tl : (tabS os ps).length = os.length := by unfold tabS; rw [List.length_map, hl]
 have key : ∀ d, wo ((tabS os ps).map (whR (cb (tabS os ps).flatten))) d * G = wo (rowsU (uG G) os ps) d * cb (tabS os ps).flatten := fun d => by
  rw [← tab_wh hp]
  refine wo_two _ d fun r hr x hx => ?_
  obtain ⟨o, _, p, hq, e⟩ := tab_mem hr hx
  refine ⟨(ht.g r hr x hx).1, f1 x (List.mem_flatten.mpr ⟨r, hr, hx⟩), ?_⟩
  rw [e]
  exact (lv_wt (hp p hq) o).1.d
 have ew : wsOf (tabS os ps) = (deal os.length).map (wo ((tabS os ps).map (whR (cb (tabS os ps).flatten)))) := by unfold wsOf; rw [tl]
 generalize hF : cb (tabS os ps).flatten = F at f0 key ew
 have wn : wsOf (tabS os ps) ≠ [] := by rw [ew]; exact fun z => deal_ne _ (List.map_eq_nil_iff.mp z)
 obtain ⟨m1, m2⟩ := mxw_spec wn
 generalize hm : mxw (wsOf (tabS os ps)) = m at m1 m2
 rw [ew] at m1 m2
 obtain ⟨d, hd, ed⟩ := List.mem_map.mp m1
 have kd := key d
 rw [ed] at kd
 have bv : Bv (uG G) os ps = wo (rowsU (uG G) os ps) d := mxw_eq (List.mem_map.mpr ⟨d, hd, rfl⟩) fun x hx => by
  obtain ⟨e, he, rfl⟩ := List.mem_map.mp hx
  have l := Int.mul_le_mul_of_nonneg_right (m2 _ (List.mem_map.mpr ⟨e, he, rfl⟩)) (show 0 ≤ G by omega)
  rw [key e, kd] at l
  exact Int.le_of_mul_le_mul_right l (by omega)
 rw [← bv] at kd
 obtain ⟨fr, fe⟩ := FR.mk_fr (t := m) (b := F) (by omega)
 have gx := gx_of (G := G) (W := Bv (uG G) os ps) fr (by
  refine Int.eq_of_mul_eq_mul_right (a := F) (by omega) ?_
  have a1 : (FR.mk m F).1 * G * F = (FR.mk m F).1 * F * G := by ac_rfl
  have a2 : m * (FR.mk m F).2 * G = m * G * (FR.mk m F).2 := by ac_rfl
  rw [a1, fe, a2, kd]
  ac_rfl)
 have iff : ∀ e, wo ((tabS os ps).map (whR F)) e = m ↔ wo (rowsU (uG G) os ps) e = Bv (uG G) os ps := fun e => by
  have k := key e
  constructor
  ·intro z
   rw [z, kd] at k
   exact (Int.eq_of_mul_eq_mul_right (show F ≠ 0 by omega) k).symm
  ·intro z
   rw [z, ← kd] at k
   exact Int.eq_of_mul_eq_mul_right (show G ≠ 0 by omega) k
 unfold bX bK
 rw [hm, hF, ew]
 refine ⟨gx.1, gx.2, ?_⟩
 unfold wsU
 rw [cnt_flt _ (fun e => decide (wo (rowsU (uG G) os ps) e = Bv (uG G) os ps)) m (deal os.length) fun e _ => by rw [decide_eq_true_iff]; exact iff e, cnt_flt _ (fun e => decide (wo (rowsU (uG G) os ps) e = Bv (uG G) os ps)) _ (deal os.length) fun e _ => by rw [decide_eq_true_iff]]
def bS (S : List (Int × Int)) (ps : List Pt) (s : Int × Int) : Int × Int := bX (tabS (oth S s) ps)
def roofOf (S : List (Int × Int)) (ps : List Pt) : List Pl := S.map fun s => (s.1, s.2, hM (bS S ps s) (bS S ps (S.headD (0, 0))))
def dblOf (S : List (Int × Int)) (ps : List Pt) : List (Int × Int) := S.filter fun s => decide (1 < bK (tabS (oth S s) ps))
structure Thr (S : List (Int × Int)) (ps : List Pt) : Prop where
 n : S.Nodup
 z : S ≠ []
 l : ps.length + 1 = S.length
 g : ∀ s ∈ S, GT (tabS (oth S s) ps)
theorem head_in {α : Type} {S : List α} (d : α) (h : S ≠ []) : S.headD d ∈ S := by
 cases S with
 | nil => exact absurd rfl h
 | cons x S => exact .head _
theorem Thr.b {G : Int} {S : List (Int × Int)} {ps : List Pt} (h : Thr S ps) (hG : 1 ≤ G) (hp : ∀ p ∈ ps, Gp G p) {s : Int × Int} (hs : s ∈ S) : Gx G (bS S ps s) ∧ wt G (bS S ps s) = Bv (uG G) (oth S s) ps ∧ bK (tabS (oth S s) ps) = (wsU (uG G) (oth S s) ps).count (Bv (uG G) (oth S s) ps) := by
 have := oth_len h.n hs
 have := h.l
 exact best_spec (h.g s hs) (by omega) hG hp
theorem thr_rev {S : List (Int × Int)} {ps : List Pt} (h : Thr S ps) (h' : Thr S ps.reverse) {G : Int} (hG : 1 ≤ G) (hp : ∀ p ∈ ps, Gp G p) : roofOf S ps.reverse = roofOf S ps ∧ dblOf S ps.reverse = dblOf S ps := by
 have hp' : ∀ p ∈ ps.reverse, Gp G p := fun p hq => hp p (List.mem_reverse.mp hq)
 have bb : ∀ s ∈ S, bS S ps.reverse s = bS S ps s ∧ bK (tabS (oth S s) ps.reverse) = bK (tabS (oth S s) ps) := fun s hs => by
  obtain ⟨a1, a2, a3⟩ := h.b hG hp hs
  obtain ⟨b1, b2, b3⟩ := h'.b hG hp' hs
  have ol := oth_len h.n hs
  have hl := h.l
  have pm := wsU_rev (uG G) (oth S s) ps (by omega)
  have mx : Bv (uG G) (oth S s) ps.reverse = Bv (uG G) (oth S s) ps := mxw_perm pm
  refine ⟨wt_inj hG b1.f a1.f b1.d a1.d (by rw [a2, b2, mx]), ?_⟩
  rw [a3, b3, mx]
  exact pm.count_eq _
 have h0 := bb _ (head_in (0, 0) h.z)
 constructor
 ·unfold roofOf
  refine List.map_congr_left fun s hs => ?_
  rw [(bb s hs).1, h0.1]
 ·unfold dblOf
  refine List.filter_congr fun s hs => ?_
  rw [(bb s hs).2]
def mvP (f : Pt) (p : Pt) : Pt := (hP p.1 f.1, hP p.2 f.2)
def mvL (f : Pt) (q p : Pl) : Pl := (p.1, p.2.1, hP p.2.2 (hP (hT (q.1 - p.1) f.1) (hT (q.2.1 - p.2.1) f.2)))
theorem thr_mv {S : List (Int × Int)} {ps : List Pt} {f : Pt} (h : Thr S ps) (h' : Thr S (ps.map (mvP f))) {G : Int} (hG : 1 ≤ G) (hp : ∀ p ∈ ps, Gp G p) (hf : Gp G f) : roofOf S (ps.map (mvP f)) = (roofOf S ps).map (mvL f ((roofOf S ps).headD (0, 0, (0, 1)))) ∧ dblOf S (ps.map (mvP f)) = dblOf S ps := by
 have mv : ∀ p ∈ ps, Gp G (mvP f p) ∧ wt G (mvP f p).1 = wt G p.1 + wt G f.1 ∧ wt G (mvP f p).2 = wt G p.2 + wt G f.2 := fun p hq => by
  obtain ⟨a1, a2⟩ := (hp p hq).x.p hf.x
  obtain ⟨b1, b2⟩ := (hp p hq).y.p hf.y
  exact ⟨⟨a1, b1⟩, a2, b2⟩
 have hp' : ∀ p ∈ ps.map (mvP f), Gp G p := fun p hq => by
  obtain ⟨q, h1, rfl⟩ := List.mem_map.mp hq
  exact (mv q h1).1
 have ws : ∀ s ∈ S, wsU (uG G) (oth S s) (ps.map (mvP f)) = (wsU (uG G) (oth S s) ps).map (· + ((S.map fun o => uG G o f).sum - uG G s f)) := fun s hs => by
  have ol := oth_len h.n hs
  have hl := h.l
  have a := wsU_add (u := uG G) (u' := fun o p => uG G o (mvP f p)) (v := fun o => uG G o f) (oth_nd h.n s) (ps := ps) (by omega) fun o _ p hq => by
   obtain ⟨_, e1, e2⟩ := mv p hq
   show uG G o (mvP f p) = _
   unfold uG
   rw [e1, e2, Int.mul_add, Int.mul_add]
   omega
  rw [oth_sum (fun o => uG G o f) h.n hs] at a
  rw [← a]
  unfold wsU rowsU
  rw [List.map_map]
  rfl
 have bb : ∀ s ∈ S, Gx G (bS S (ps.map (mvP f)) s) ∧ wt G (bS S (ps.map (mvP f)) s) = wt G (bS S ps s) + ((S.map fun o => uG G o f).sum - uG G s f) ∧ bK (tabS (oth S s) (ps.map (mvP f))) = bK (tabS (oth S s) ps) := fun s hs => by
  obtain ⟨a1, a2, a3⟩ := h.b hG hp hs
  obtain ⟨b1, b2, b3⟩ := h'.b hG hp' hs
  have mx : Bv (uG G) (oth S s) (ps.map (mvP f)) = Bv (uG G) (oth S s) ps + ((S.map fun o => uG G o f).sum - uG G s f) := by
   unfold Bv
   rw [ws s hs, mxw_add (wsU_ne _ _ _)]
  refine ⟨b1, by rw [b2, a2, mx], ?_⟩
  rw [a3, b3, mx, ws s hs]
  exact cnt_inj (f := (· + ((S.map fun o => uG G o f).sum - uG G s f))) _ _ fun x _ e => by
   have e : x + ((S.map fun o => uG G o f).sum - uG G s f) = Bv (uG G) (oth S s) ps + ((S.map fun o => uG G o f).sum - uG G s f) := e
   omega
 have hin := head_in (0, 0) h.z
 constructor
 ·have hq : (roofOf S ps).headD (0, 0, (0, 1)) = ((S.headD (0, 0)).1, (S.headD (0, 0)).2, hM (bS S ps (S.headD (0, 0))) (bS S ps (S.headD (0, 0)))) := by
   unfold roofOf
   cases S with
   | nil => exact absurd rfl h.z
   | cons x S => rfl
  rw [hq]
  unfold roofOf
  rw [List.map_map]
  refine List.map_congr_left fun s hs => ?_
  generalize S.headD (0, 0) = s0 at hin
  obtain ⟨a1, _, _⟩ := h.b hG hp hs
  obtain ⟨c1, _, _⟩ := h.b hG hp hin
  obtain ⟨b1, b2, _⟩ := bb s hs
  obtain ⟨d1, d2, _⟩ := bb s0 hin
  obtain ⟨m1, m2⟩ := b1.M d1
  obtain ⟨n1, n2⟩ := a1.M c1
  obtain ⟨t1, t2⟩ := hf.x.T (s0.1 - s.1)
  obtain ⟨t3, t4⟩ := hf.y.T (s0.2 - s.2)
  obtain ⟨q1, q2⟩ := t1.p t3
  obtain ⟨r1, r2⟩ := n1.p q1
  show (s.1, s.2, hM (bS S (ps.map (mvP f)) s) (bS S (ps.map (mvP f)) s0)) = (s.1, s.2, hP (hM (bS S ps s) (bS S ps s0)) (hP (hT (s0.1 - s.1) f.1) (hT (s0.2 - s.2) f.2)))
  congr 2
  refine wt_inj hG m1.f r1.f m1.d r1.d ?_
  rw [m2, r2, n2, q2, t2, t4, b2, d2, Int.sub_mul, Int.sub_mul]
  unfold uG
  omega
 ·unfold dblOf
  refine List.filter_congr fun s hs => ?_
  rw [(bb s hs).2.2]
theorem thr_top {S : List (Int × Int)} {ps : List Pt} (h : Thr S ps) {G : Int} (hG : 1 ≤ G) (hp : ∀ p ∈ ps, Gp G p) {k : Nat} (hk : k < ps.length) {q : Pl} (hq : q ∈ roofOf S ps) : ∃ q' ∈ roofOf S ps, q' ≠ q ∧ wt G (hgt q ps[k]) ≤ wt G (hgt q' ps[k]) := by
 obtain ⟨s, hs, rfl⟩ := List.mem_map.mp hq
 obtain ⟨s', hs', ne, le⟩ := two_tops (u := uG G) h.n h.l hs hk
 have hin := head_in (0, 0) h.z
 refine ⟨_, List.mem_map.mpr ⟨s', hs', rfl⟩, fun z => ne ?_, ?_⟩
 ·injection z with z1 z2
  injection z2 with z2 _
  exact Prod.ext z1 z2
 ·have hpk := hp _ (List.getElem_mem hk)
  obtain ⟨a1, a2, _⟩ := h.b hG hp hs
  obtain ⟨b1, b2, _⟩ := h.b hG hp hs'
  obtain ⟨c1, c2, _⟩ := h.b hG hp hin
  obtain ⟨m1, m2⟩ := a1.M c1
  obtain ⟨n1, n2⟩ := b1.M c1
  rw [(hgt_wt hpk m1 s.1 s.2).2, (hgt_wt hpk n1 s'.1 s'.2).2, m2, n2, a2, b2]
  unfold uG at le
  unfold uG
  omega
theorem app_nx {i : Nat} {fe : En → Res Ev} {en : En} {ds : List D} {d : D} (h1 : en[i]? = some (some (.o (.list ds)))) (h2 : fe en = .ok (.f d) ∨ fe en = .ok (.p d)) (h3 : ds.length ≤ 100000) : mAppend i fe en = some (.nx (en.set i (some (.o (.list (ds ++ [d])))))) := by
 unfold mAppend
 rw [h1]
 dsimp only
 rcases h2 with h2 | h2 <;> rw [h2] <;> dsimp only [Ev.c] <;> rw [if_pos h3]
def ptD (p : Pt) : D := .tuple [frD p.1, frD p.2]
theorem ptI {a b : Pt} (h : ptD a = ptD b) : a = b := by
 unfold ptD at h
 injection h with h
 injection h with h1 h2
 injection h2 with h2 _
 exact Prod.ext (frI h1) (frI h2)
theorem frsJ {a b : List (Int × Int)} (h : (.list (a.map frD) : D) = .list (b.map frD)) : a = b := by
 injection h with h
 exact (List.map_inj_right fun x y e => frI e).mp h
theorem ptsJ {a b : List Pt} (h : (.list (a.map ptD) : D) = .list (b.map ptD)) : a = b := by
 injection h with h
 exact (List.map_inj_right fun x y e => ptI e).mp h
def eSP (a : List (Int × Int) × List Pt) : List L := [.p (.list (a.1.map frD)), .p (.list (a.2.map ptD))]
theorem eSP_inj (a b : List (Int × Int) × List Pt) (h : eSP a = eSP b) : a = b := by
 unfold eSP at h
 injection h with h1 h2
 injection h2 with h2 _
 injection h1 with h1
 injection h2 with h2
 exact Prod.ext (frsJ h1) (ptsJ h2)
def eTW (a : (Int × Int) × List (Int × Int) × List Pt) : List L := [.p (frD a.1), .p (.list (a.2.1.map frD)), .p (.list (a.2.2.map ptD))]
theorem eTW_inj (a b : (Int × Int) × List (Int × Int) × List Pt) (h : eTW a = eTW b) : a = b := by
 unfold eTW at h
 injection h with h0 h1
 injection h1 with h1 h2
 injection h2 with h2 _
 injection h0 with h0
 injection h1 with h1
 injection h2 with h2
 exact Prod.ext (frI h0) (Prod.ext (frsJ h1) (ptsJ h2))
def In8 (s : Int × Int) : Prop := (0 ≤ s.1 ∧ s.1 ≤ 8) ∧ (0 ≤ s.2 ∧ s.2 ≤ 8)
structure OkS (S : List (Int × Int)) : Prop where
 l : 2 ≤ S.length
 m : S.length ≤ 6
 n : S.Nodup
 b : ∀ s ∈ S, In8 s
structure PtG (p : Pt) : Prop where
 f : FR.Fr p.1
 g : FR.Fr p.2
 x : Sz 90 p.1.1
 a : Sz 13 p.1.2
 y : Sz 90 p.2.1
 b : Sz 13 p.2.2
def toL (s : Int × Int) : List Int := [s.1, s.2]
theorem toL_map (S : List (Int × Int)) : S.map frD = (S.map toL).map tupD := by
 rw [List.map_map]
 rfl
theorem toL_nd {S : List (Int × Int)} (h : S.Nodup) : (S.map toL).Nodup := by
 rw [List.Nodup, List.pairwise_map]
 refine h.imp ?_
 intro x y w z
 unfold toL at z
 injection z with z1 z2
 injection z2 with z2 _
 exact w (Prod.ext z1 z2)
theorem sl_len {S : List (Int × Int)} (h : OkS S) : setLenE (.p (.list (S.map frD))) = .ok (.p (.int (S.length : Nat))) := by
 unfold setLenE
 simp only [lstOf]
 rw [toL_map, keysD_map]
 dsimp only
 have a : (S.map toL).all small2 = true := by
  rw [List.all_eq_true]
  intro k hk
  obtain ⟨s, hs, rfl⟩ := List.mem_map.mp hk
  have := h.b s hs
  unfold In8 at this
  show (decide (0 ≤ s.1 ∧ s.1 ≤ 8) && decide (0 ≤ s.2 ∧ s.2 ≤ 8)) = true
  rw [decide_eq_true this.1, decide_eq_true this.2]
  rfl
 have hm := h.m
 rw [a, decide_eq_true (toL_nd h.n), List.length_map, decide_eq_true (show S.length ≤ 18 by omega)]
 rfl
theorem ln_fr (S : List (Int × Int)) : lenE [.p (.list (S.map frD))] = .ok (.p (.int (S.length : Nat))) := by simp [lenE, seqOf]
theorem ln_pt (S : List Pt) : lenE [.p (.list (S.map ptD))] = .ok (.p (.int (S.length : Nat))) := by simp [lenE, seqOf]
theorem ne_ints (i j : Int) : eqE true (.p (.int i)) (.p (.int j)) = .ok (.p (.bool (!(i == j)))) := by
 simp only [eqE, dat, sh_int, eqv_ii]
 rfl
theorem run_nx {n : Nat} {f : MS} {ls : List L} {en : En} (h : f (startE n ls) = some (.nx en)) : runF n f ls = .ok (.p .none) := by
 unfold runF
 rw [h]
noncomputable def m_check_numbers (K : PySem.W.Frag) (c : Cls) : List L → Res L := mOf eSP (fun a => OkS a.1 ∧ a.2.length + 1 = a.1.length) fun _ => .ok (.p .none)
noncomputable def f_check_numbers (K : PySem.W.Frag) (c : Cls) : MS := (mSeq (mIfS (mOr (mTru (mBin ltE (mCallB lenE (mCons (mVar 0) mNil)) (mC (.int 2)))) (mTru (mBin gtE (mCallB lenE (mCons (mVar 0) mNil)) (mC (.int 6))))) (mRaise c.NoDealing (mCons (mC (.str "there are two to six slopes")) mNil)) mNext) (mSeq (mIfS (mTru (mBin (eqE true) (mUn setLenE (mVar 0)) (mCallB lenE (mCons (mVar 0) mNil)))) (mRaise c.NoDealing (mCons (mC (.str "slopes are unlike")) mNil)) mNext) (mIfS (mTru (mBin (eqE true) (mCallB lenE (mCons (mVar 1) mNil)) (mBin subE (mCallB lenE (mCons (mVar 0) mNil)) (mC (.int 1))))) (mRaise c.NoDealing (mCons (mC (.str "there is one point fewer than slopes")) mNil)) mNext)))
theorem eq_check_numbers (K : PySem.W.Frag) (c : Cls) : ∀ ls, m_check_numbers K c ls = .bad ∨ runF 2 (f_check_numbers K c) ls = m_check_numbers K c ls := mOf_eq fun a h => by
 obtain ⟨S, ps⟩ := a
 obtain ⟨ok, hl⟩ := h
 dsimp only at ok hl ⊢
 have h2 := ok.l
 have h6 := ok.m
 refine run_nx (en := [some (.p (.list (S.map frD))), some (.p (.list (ps.map ptD)))]) ?_
 rw [show startE 2 (eSP (S, ps)) = [some (.p (.list (S.map frD))), some (.p (.list (ps.map ptD)))] from rfl]
 have t1 : (mOr (mTru (mBin ltE (mCallB lenE (mCons (mVar 0) mNil)) (mC (.int 2)))) (mTru (mBin gtE (mCallB lenE (mCons (mVar 0) mNil)) (mC (.int 6))))) [some (.p (.list (S.map frD))), some (.p (.list (ps.map ptD)))] = .ok false := by
  have a : decide ((S.length : Int) < 2) = false := decide_eq_false (by omega)
  have b : decide (6 < (S.length : Int)) = false := decide_eq_false (by omega)
  simp only [mOr, mTru, mBin, mVar, mC, mCallB, mCons, mNil, List.getElem?_cons_zero, List.getElem?_cons_succ, List.set_cons_zero, List.set_cons_succ, List.length_cons, List.length_nil, List.length_map, List.length_append, if_true, if_false, ite_true, ite_false, decide_true, decide_false, Bool.false_eq_true, Nat.zero_add, Nat.reduceAdd, Nat.reduceEqDiff, Nat.reduceLeDiff, reduceIte, List.map_append, List.map_cons, List.map_nil, Res.bind, Ev.c, ln_fr, intE0, truthR, a, b]
 have t2 : (mTru (mBin (eqE true) (mUn setLenE (mVar 0)) (mCallB lenE (mCons (mVar 0) mNil)))) [some (.p (.list (S.map frD))), some (.p (.list (ps.map ptD)))] = .ok false := by
  simp only [mTru, mBin, mUn, mVar, mC, mCallB, mCons, mNil, List.getElem?_cons_zero, List.getElem?_cons_succ, List.set_cons_zero, List.set_cons_succ, List.length_cons, List.length_nil, List.length_map, List.length_append, if_true, if_false, ite_true, ite_false, decide_true, decide_false, Bool.false_eq_true, Nat.zero_add, Nat.reduceAdd, Nat.reduceEqDiff, Nat.reduceLeDiff, reduceIte, List.map_append, List.map_cons, List.map_nil, Res.bind, Ev.c, ln_fr, sl_len ok, ne_ints, truthR, beq_self_eq_true, Bool.not_true]
 have t3 : (mTru (mBin (eqE true) (mCallB lenE (mCons (mVar 1) mNil)) (mBin subE (mCallB lenE (mCons (mVar 0) mNil)) (mC (.int 1))))) [some (.p (.list (S.map frD))), some (.p (.list (ps.map ptD)))] = .ok false := by
  have e : ((ps.length : Nat) : Int) = (S.length : Nat) - 1 := by omega
  simp only [mTru, mBin, mVar, mC, mCallB, mCons, mNil, List.getElem?_cons_zero, List.getElem?_cons_succ, List.set_cons_zero, List.set_cons_succ, List.length_cons, List.length_nil, List.length_map, List.length_append, if_true, if_false, ite_true, ite_false, decide_true, decide_false, Bool.false_eq_true, Nat.zero_add, Nat.reduceAdd, Nat.reduceEqDiff, Nat.reduceLeDiff, reduceIte, List.map_append, List.map_cons, List.map_nil, Res.bind, Ev.c, ln_fr, ln_pt, intE0, ne_ints, truthR, e, beq_self_eq_true, Bool.not_true]
 unfold f_check_numbers
 exact (seq_nx (if_f t1)).trans ((seq_nx (if_f t2)).trans (if_f t3))
theorem check_good (K : PySem.W.Frag) (c : Cls) {S : List (Int × Int)} {ps : List Pt} (h1 : OkS S) (h2 : ps.length + 1 = S.length) : m_check_numbers K c [.p (.list (S.map frD)), .p (.list (ps.map ptD))] = .ok (.p .none) := mOf_at (a := (S, ps)) eSP_inj ⟨h1, h2⟩
theorem good01 : Good 2 (0, 1) := ⟨Int.le_refl 1, by unfold Sz; decide, by unfold Sz; decide⟩
theorem PtG.q {p : Pt} (g : PtG p) {s : Int × Int} (hs : In8 s) {h : Int × Int} (hh : Good 700 h) : GoodQ (s.1, s.2, h) p := by
 unfold In8 at hs
 exact ⟨(show Sz 10 s.1 by unfold Sz; omega), (show Sz 10 s.2 by unfold Sz; omega), hh, ⟨g.f.pos, g.x.mono (by decide), g.a.mono (by decide)⟩, ⟨g.g.pos, g.y.mono (by decide), g.b.mono (by decide)⟩⟩
theorem sz_T {a b c : Nat} {i : Int} {x : Int × Int} (hi : Sz a i) (hx : 1 ≤ x.2 ∧ Sz b x.1 ∧ Sz c x.2) : 1 ≤ (hT i x).2 ∧ Sz (a + b) (hT i x).1 ∧ Sz c (hT i x).2 := by
 have p := hx.1
 have h1 : Sz c (1 * x.2) := by rw [Int.one_mul]; exact hx.2.2
 exact ⟨(FR.mk_fr (by omega)).1.pos, Sz.le (Sz.mul hi hx.2.1) (natAbs_fdiv_le _ _), Sz.le h1 (natAbs_fdiv_le _ _)⟩
theorem sz_P {a b c d : Nat} {x y : Int × Int} (hx : 1 ≤ x.2 ∧ Sz a x.1 ∧ Sz b x.2) (hy : 1 ≤ y.2 ∧ Sz c y.1 ∧ Sz d y.2) : 1 ≤ (hP x y).2 ∧ Sz (max (a + d) (c + b) + 1) (hP x y).1 ∧ Sz (b + d) (hP x y).2 := by
 have p := pos_mul hx.1 hy.1
 exact ⟨(FR.mk_fr (by omega)).1.pos, Sz.le (Sz.addM (Sz.mul hx.2.1 hy.2.2) (Sz.mul hy.2.1 hx.2.2)) (natAbs_fdiv_le _ _), Sz.le (Sz.mul hx.2.2 hy.2.2) (natAbs_fdiv_le _ _)⟩
theorem PtG.e {p : Pt} (g : PtG p) {s : Int × Int} (hs : In8 s) : 1 ≤ (hgt (lv s) p).2 ∧ Sz 200 (hgt (lv s) p).1 ∧ Sz 30 (hgt (lv s) p).2 := by
 unfold In8 at hs
 have a1 := sz_T (a := 10) (i := s.1) (by unfold Sz; omega) ⟨g.f.pos, g.x, g.a⟩
 have a2 := sz_T (a := 10) (i := s.2) (by unfold Sz; omega) ⟨g.g.pos, g.y, g.b⟩
 have a3 := sz_P (x := hP (hT s.1 p.1) (hT s.2 p.2)) (y := (0, 1)) (c := 1) (d := 1) (sz_P a1 a2) ⟨Int.le_refl 1, by unfold Sz; decide, by unfold Sz; decide⟩
 exact ⟨a3.1, a3.2.1.mono (by decide), a3.2.2.mono (by decide)⟩
theorem gt_of {os : List (Int × Int)} {ps : List Pt} (h : ps.length = os.length) (h6 : ps.length ≤ 6) (ho : ∀ o ∈ os, In8 o) (hp : ∀ p ∈ ps, PtG p) : GT (tabS os ps) := by
 have tl : (tabS os ps).length = ps.length := by unfold tabS; rw [List.length_map]
 refine ⟨by omega, fun r hr => ?_, fun r hr x hx => ?_⟩
 ·obtain ⟨p, _, rfl⟩ := List.mem_map.mp hr
  rw [List.length_map, tl, h]
 ·obtain ⟨o, o1, p, p1, rfl⟩ := tab_mem hr hx
  exact (hp p p1).e (ho o o1)
theorem thr_of {S : List (Int × Int)} {ps : List Pt} (h : OkS S) (hl : ps.length + 1 = S.length) (hp : ∀ p ∈ ps, PtG p) : Thr S ps := by
 have h2 := h.l
 have h6 := h.m
 refine ⟨h.n, fun z => by rw [z] at h2; simp at h2, hl, fun s hs => ?_⟩
 have := oth_len h.n hs
 exact gt_of (by omega) (by omega) (fun o ho => h.b o (mem_oth.mp ho).1) hp
theorem ex_Gp : ∀ {ps : List Pt}, (∀ p ∈ ps, PtG p) → ∃ G : Int, 1 ≤ G ∧ Sz (1 + 26 * ps.length) G ∧ ∀ p ∈ ps, Gp G p
 | [], _ => ⟨1, Int.le_refl 1, by unfold Sz; decide, fun _ h => nomatch h⟩
 | p :: ps, h => by
  obtain ⟨G, g1, g2, g3⟩ := ex_Gp fun q hq => h q (.tail _ hq)
  have g := h p (.head _)
  have q1 := pos_mul g.f.pos g.g.pos
  refine ⟨p.1.2 * p.2.2 * G, pos_mul q1 g1, (Sz.mul (Sz.mul g.a g.b) g2).mono (by rw [List.length_cons]; omega), fun q hq => ?_⟩
  have up : ∀ {x : Int × Int}, Gx G x → Gx (p.1.2 * p.2.2 * G) x := fun z => ⟨z.f, Int.dvd_trans z.d (Int.dvd_mul_left _ _)⟩
  rcases List.mem_cons.mp hq with z | z
  ·rw [z]
   refine ⟨⟨g.f, ?_⟩, ⟨g.g, ?_⟩⟩
   ·rw [Int.mul_assoc]
    exact Int.dvd_mul_right _ _
   ·rw [Int.mul_comm p.1.2, Int.mul_assoc]
    exact Int.dvd_mul_right _ _
  ·exact ⟨up (g3 q z).x, up (g3 q z).y⟩
theorem gx_sz {G : Int} {a b : Nat} {x : Int × Int} (hG : 1 ≤ G) (h : Gx G x) (ha : Sz a G) (hb : Sz b (wt G x)) : Sz b x.1 ∧ Sz a x.2 := by
 have p := h.f.pos
 obtain ⟨k, hk⟩ := h.d
 have k1 : 1 ≤ k := by
  rcases Int.lt_or_le 0 k with z | z
  ·omega
  ·have := Int.mul_nonpos_of_nonneg_of_nonpos (show 0 ≤ x.2 by omega) z
   omega
 have w : wt G x = x.1 * k := by
  unfold wt
  rw [hk, Int.mul_fdiv_cancel_left _ (by omega)]
 refine ⟨Sz.le hb ?_, Sz.le ha ?_⟩
 ·rw [w, Int.natAbs_mul]
  exact Nat.le_mul_of_pos_right _ (by omega)
 ·rw [hk, Int.natAbs_mul]
  exact Nat.le_mul_of_pos_right _ (by omega)
theorem wt_sz {G : Int} {a b : Nat} {x : Int × Int} (ha : Sz a x.1) (hb : Sz b G) : Sz (a + b) (wt G x) := Sz.mul ha (Sz.le hb (natAbs_fdiv_le _ _))
theorem wsl_sz {u : (Int × Int) → Pt → Int} {b : Nat} : ∀ (ps : List Pt) (e : List (Int × Int)), (∀ o ∈ e, ∀ p ∈ ps, Sz b (u o p)) → Sz (b + 1 + ps.length) (wsl u ps e)
 | [], e, _ => by unfold wsl Sz; simp; exact Nat.two_pow_pos _
 | _ :: _, [], _ => by unfold wsl Sz; simp; exact Nat.two_pow_pos _
 | p :: ps, o :: e, h => by
  have ih := wsl_sz ps e fun a ha q hq => h a (.tail _ ha) q (.tail _ hq)
  have h0 := (h o (.head _) p (.head _)).mono (show b ≤ b + 1 + ps.length by omega)
  exact (Sz.addM h0 ih).mono (by rw [List.length_cons]; omega)
theorem bS_good {S : List (Int × Int)} {ps : List Pt} (h : OkS S) (hl : ps.length + 1 = S.length) (hp : ∀ p ∈ ps, PtG p) {s : Int × Int} (hs : s ∈ S) : Good 345 (bS S ps s) ∧ FR.Fr (bS S ps s) := by
 have h6 := h.m
 obtain ⟨G, g1, g2, g3⟩ := ex_Gp hp
 have g2 := g2.mono (show 1 + 26 * ps.length ≤ 180 by omega)
 obtain ⟨a1, a2, _⟩ := (thr_of h hl hp).b g1 g3 hs
 obtain ⟨e, de, we⟩ := Bv_at (u := uG G) (oth_nd h.n s) ps s
 have z : Sz 345 (wt G (bS S ps s)) := by
  rw [a2, ← we]
  refine (wsl_sz (b := 290) ps e fun o ho p hq => ?_).mono (by omega)
  have i := h.b o (mem_oth.mp (de.m o ho)).1
  unfold In8 at i
  have g := hp p hq
  have b1 := Sz.mul (show Sz 10 o.1 by unfold Sz; omega) (wt_sz g.x g2)
  have b2 := Sz.mul (show Sz 10 o.2 by unfold Sz; omega) (wt_sz g.y g2)
  exact (Sz.addM b1 b2).mono (by decide)
 obtain ⟨c1, c2⟩ := gx_sz g1 a1 g2 z
 exact ⟨⟨a1.f.pos, c1, c2.mono (by decide)⟩, a1.f⟩
theorem roof_good {S : List (Int × Int)} {ps : List Pt} (h : OkS S) (hl : ps.length + 1 = S.length) (hp : ∀ p ∈ ps, PtG p) : ∀ q ∈ roofOf S ps, In8 (q.1, q.2.1) ∧ Good 691 q.2.2 ∧ FR.Fr q.2.2 := fun q hq => by
 obtain ⟨s, hs, rfl⟩ := List.mem_map.mp hq
 have z := (thr_of h hl hp).z
 obtain ⟨a, _⟩ := bS_good h hl hp hs
 obtain ⟨b, _⟩ := bS_good h hl hp (head_in (0, 0) z)
 have p := pos_mul a.1 b.1
 refine ⟨h.b s hs, ⟨(FR.mk_fr (by omega)).1.pos, ?_, ?_⟩, (FR.mk_fr (by omega)).1⟩
 ·exact (Sz.le (Sz.subM (Sz.mul a.2.1 b.2.2) (Sz.mul b.2.1 a.2.2)) (natAbs_fdiv_le _ _)).mono (by decide)
 ·exact (Sz.le (Sz.mul a.2.2 b.2.2) (natAbs_fdiv_le _ _)).mono (by decide)
theorem eq_frn (ng : Bool) (x y : Int × Int) : eqE ng (.p (frD x)) (.p (frD y)) = .ok (.p (.bool (if ng then !decide (x = y) else decide (x = y)))) := by
 unfold eqE
 dsimp only [dat]
 rw [if_pos ⟨sh_fr x, sh_fr y⟩, eqv_fr]
noncomputable def m_table_without (K : PySem.W.Frag) (c : Cls) : List L → Res L := mOf eTW (fun a => a.2.1.length ≤ 6 ∧ (∀ o ∈ a.2.1, In8 o) ∧ a.2.2.length ≤ 6 ∧ ∀ p ∈ a.2.2, PtG p) fun a => .ok (.o (tbD (tabS (oth a.2.1 a.1) a.2.2)))
noncomputable def f_table_without_e1 (K : PySem.W.Frag) (c : Cls) : En → Res Ev := (mCall 2 (m_plane_height K c) (mCons (mVar 0) (mCons (mVar 1) mNil)))
noncomputable def f_table_without_b2 (K : PySem.W.Frag) (c : Cls) : MS := (mAppend 4 (mComp 1 [5] (mItL (mVar 3)) (mgName 0) mYes (f_table_without_e1 K c)))
noncomputable def f_table_without_e3 (K : PySem.W.Frag) (c : Cls) : En → Res Ev := (mCallB tupR' (mCons (mBin ixE (mVar 0) (mC (.int 0))) (mCons (mBin ixE (mVar 0) (mC (.int 1))) (mCons (mCallB tupR' (mCons (mC (.int 0)) (mCons (mC (.int 1)) mNil))) mNil))))
noncomputable def f_table_without (K : PySem.W.Frag) (c : Cls) : MS := (mSeq (mSet 3 (mComp 1 [0] (mItL (mVar 1)) (mgName 0) (mTru (mBin (eqE true) (mVar 0) (mVar 1))) (f_table_without_e3 K c))) (mSeq (mSet 4 (mCallB lstR' mNil)) (fun en => (mSeq (mFor (mItL (mVar 2)) (mgName 5) (f_table_without_b2 K c)) (mRet (mVar 4))) (frz 3 en))))
theorem tw_loop (K : PySem.W.Frag) (c : Cls) (A B C : Option L) {os : List (Int × Int)} (h6 : os.length ≤ 6) (ho : ∀ o ∈ os, In8 o) : ∀ (ps : List Pt) (acc : Tb) (r5 : Option L), acc.length + ps.length ≤ 20 → (∀ p ∈ ps, PtG p) → ∃ q5, mLoop (mgName 5) (f_table_without_b2 K c) (ps.map ptD) [A, B, C, some (.p (.list (os.map fun o => plD (lv o)))), some (.o (.list (acc.map rwF))), r5] = some (.nx [A, B, C, some (.p (.list (os.map fun o => plD (lv o)))), some (.o (.list ((acc ++ tabS os ps).map rwF))), q5])
 | [], acc, r5, _, _ => ⟨r5, by show _ = some (Out.nx [_, _, _, _, some (.o (.list ((acc ++ []).map rwF))), _]); rw [List.append_nil]; rfl⟩
 | p :: ps, acc, r5, hl, hp => by
  rw [List.length_cons] at hl
  obtain ⟨q5, ih⟩ := tw_loop K c A B C h6 ho ps (acc ++ [os.map fun o => hgt (lv o) p]) (some (.p (ptD p))) (by rw [List.length_append]; simp; omega) fun q hq => hp q (.tail _ hq)
  refine ⟨q5, ?_⟩
  have hm : mapO (compItem 1 [5] (mgName 0) mYes (f_table_without_e1 K c) [A, B, C, some (.p (.list (os.map fun o => plD (lv o)))), some (.o (.list (acc.map rwF))), some (.p (ptD p))]) (os.map fun o => plD (lv o)) = some (os.map fun o => frD (hgt (lv o) p)) := by
   refine mapO_map _ fun o hq => ?_
   have w := ph_good K c ((hp p (.head _)).q (ho o hq) (h := (0, 1)) (good01.mono (by decide)))
   have he : f_table_without_e1 K c [some (.p (plD (lv o))), some (.p (ptD p))] = .ok (.p (frD (hgt (lv o) p))) := by
    unfold ptD
    simp only [f_table_without_e1, mCall, mCons, mNil, mVar, List.getElem?_cons_zero, List.getElem?_cons_succ, List.set_cons_zero, List.set_cons_succ, List.length_cons, List.length_nil, List.length_map, List.length_append, if_true, if_false, ite_true, ite_false, decide_true, decide_false, Bool.false_eq_true, Nat.zero_add, Nat.reduceAdd, Nat.reduceEqDiff, Nat.reduceLeDiff, reduceIte, List.map_append, List.map_cons, List.map_nil, Res.bind, Ev.c, callR, argsL, argL, w, retE]
   unfold compItem
   simp only [mgName, capE, capO, mYes, List.getElem?_cons_zero, List.getElem?_cons_succ, List.set_cons_zero, List.set_cons_succ, List.length_cons, List.length_nil, List.length_map, List.length_append, if_true, if_false, ite_true, ite_false, decide_true, decide_false, Bool.false_eq_true, Nat.zero_add, Nat.reduceAdd, Nat.reduceEqDiff, Nat.reduceLeDiff, reduceIte, List.map_append, List.map_cons, List.map_nil, List.replicate, List.cons_append, List.nil_append, he, Ev.c]
  have hc := comp_l (n := 1) (js := [5]) (fi := mItL (mVar 3)) (tg := mgName 0) (ft := mYes) (fe := f_table_without_e1 K c) (en := [A, B, C, some (.p (.list (os.map fun o => plD (lv o)))), some (.o (.list (acc.map rwF))), some (.p (ptD p))]) (ds := os.map fun o => plD (lv o)) rfl (by rw [List.length_map]; omega) hm
  have hb : f_table_without_b2 K c [A, B, C, some (.p (.list (os.map fun o => plD (lv o)))), some (.o (.list (acc.map rwF))), some (.p (ptD p))] = some (.nx [A, B, C, some (.p (.list (os.map fun o => plD (lv o)))), some (.o (.list ((acc ++ [os.map fun o => hgt (lv o) p]).map rwF))), some (.p (ptD p))]) := by
   unfold f_table_without_b2
   rw [app_nx (i := 4) (ds := acc.map rwF) rfl (.inl hc) (by rw [List.length_map]; omega), List.map_append]
   rw [show (.list (os.map fun o => frD (hgt (lv o) p)) : D) = rwF (os.map fun o => hgt (lv o) p) by unfold rwF; rw [List.map_map]; rfl]
   rfl
  rw [List.map_cons, lp_nx rfl hb]
  rw [List.append_assoc] at ih
  exact ih
theorem eq_table_without (K : PySem.W.Frag) (c : Cls) : ∀ ls, m_table_without K c ls = .bad ∨ runF 6 (f_table_without K c) ls = m_table_without K c ls := mOf_eq fun a h => by
 obtain ⟨s, S, ps⟩ := a
 obtain ⟨h1, h2, h3, h4⟩ := h
 dsimp only at h1 h2 h3 h4 ⊢
 refine run_rt ?_
 rw [show startE 6 (eTW (s, S, ps)) = [some (.p (frD s)), some (.p (.list (S.map frD))), some (.p (.list (ps.map ptD))), none, none, none] from rfl]
 have hm : mapO (compItem 1 [0] (mgName 0) (mTru (mBin (eqE true) (mVar 0) (mVar 1))) (f_table_without_e3 K c) [some (.p (frD s)), some (.p (.list (S.map frD))), some (.p (.list (ps.map ptD))), none, none, none]) (S.map frD) = some ((oth S s).map fun o => plD (lv o)) := by
  refine mapO_flt _ fun o _ => ?_
  have t : mTru (mBin (eqE true) (mVar 0) (mVar 1)) [some (.p (frD o)), some (.p (frD s))] = .ok (!decide (o = s)) := by
   simp only [mTru, mBin, mVar, List.getElem?_cons_zero, List.getElem?_cons_succ, List.set_cons_zero, List.set_cons_succ, List.length_cons, List.length_nil, List.length_map, List.length_append, if_true, if_false, ite_true, ite_false, decide_true, decide_false, Bool.false_eq_true, Nat.zero_add, Nat.reduceAdd, Nat.reduceEqDiff, Nat.reduceLeDiff, reduceIte, List.map_append, List.map_cons, List.map_nil, Res.bind, Ev.c, eq_frn, truthR]
  have e : f_table_without_e3 K c [some (.p (frD o)), some (.p (frD s))] = .ok (.p (plD (lv o))) := by
   simp only [f_table_without_e3, mSeq, mSet, mRet, mIfS, mVar, mC, mBin, mUn, mCons, mNil, mCall, callR, argsL, argL, argB, Res.bind, Ev.c, retL, retE, mCallB, tupR', lstR', pureL, mTru, truthR, mAnd, mOr, mNot, mAndV, mOrV, mNotV, mRaise, mNext, addE, intE0, negE, lstOf, dat, lenE, eqE, sh_int, eqv_ii, ix_pl2, ix_pl0, ix_pl1, ix_fr0, ix_fr1, ix_t0, ix_t1, ix_t2, List.getElem?_cons_zero, List.getElem?_cons_succ, List.set_cons_zero, List.set_cons_succ, List.length_cons, List.length_nil, List.length_map, List.length_append, if_true, if_false, ite_true, ite_false, decide_true, decide_false, Bool.false_eq_true, Nat.zero_add, Nat.reduceAdd, Nat.reduceEqDiff, Nat.reduceLeDiff, reduceIte, List.map_append, List.map_cons, List.map_nil]
   rfl
  unfold compItem
  simp only [mgName, capE, capO, List.getElem?_cons_zero, List.getElem?_cons_succ, List.set_cons_zero, List.set_cons_succ, List.length_cons, List.length_nil, List.length_map, List.length_append, if_true, if_false, ite_true, ite_false, decide_true, decide_false, Bool.false_eq_true, Nat.zero_add, Nat.reduceAdd, Nat.reduceEqDiff, Nat.reduceLeDiff, reduceIte, List.map_append, List.map_cons, List.map_nil, List.replicate, List.cons_append, List.nil_append, t, e, Ev.c]
  cases decide (o = s) <;> rfl
 have hc := comp_l (n := 1) (js := [0]) (fi := mItL (mVar 1)) (tg := mgName 0) (fe := f_table_without_e3 K c) (en := [some (.p (frD s)), some (.p (.list (S.map frD))), some (.p (.list (ps.map ptD))), none, none, none]) (ds := S.map frD) rfl (by rw [List.length_map]; omega) hm
 obtain ⟨q5, hlp⟩ := tw_loop K c (some (.p (frD s))) (some (.p (.list (S.map frD)))) (some (.p (.list (ps.map ptD)))) (os := oth S s) (Nat.le_trans (List.length_filter_le _ _) h1) (fun o ho => h2 o (mem_oth.mp ho).1) ps [] none (by rw [List.length_nil]; omega) h4
 rw [List.nil_append] at hlp
 unfold f_table_without
 refine (seq_nx (set_f hc)).trans ((seq_nx (set_f (d := .list []) rfl)).trans ?_)
 simp only [List.set_cons_succ, List.set_cons_zero, frz, List.getElem?_cons_succ, List.getElem?_cons_zero]
 refine (seq_nx ((for_l (ds := ps.map ptD) rfl).trans hlp)).trans ?_
 rfl
theorem tw_good (K : PySem.W.Frag) (c : Cls) {s : Int × Int} {S : List (Int × Int)} {ps : List Pt} (h1 : S.length ≤ 6) (h2 : ∀ o ∈ S, In8 o) (h3 : ps.length ≤ 6) (h4 : ∀ p ∈ ps, PtG p) : m_table_without K c [.p (frD s), .p (.list (S.map frD)), .p (.list (ps.map ptD))] = .ok (.o (tbD (tabS (oth S s) ps))) := mOf_at (a := (s, S, ps)) eTW_inj ⟨h1, h2, h3, h4⟩
def ofL (k : List Int) : Int × Int := (k.getD 0 0, k.getD 1 0)
def srt (S : List (Int × Int)) : List (Int × Int) := (sortK (S.map toL)).map ofL
theorem srt_perm (S : List (Int × Int)) : (srt S).Perm S := by
 have p := (sortK_perm (S.map toL)).map ofL
 rw [List.map_map] at p
 have : (ofL ∘ toL : Int × Int → Int × Int) = id := rfl
 rw [this, List.map_id] at p
 exact p
theorem srt_eq (S : List (Int × Int)) : (sortK (S.map toL)).map tupD = (srt S).map frD := by
 unfold srt
 rw [List.map_map]
 refine List.map_congr_left fun k hk => ?_
 obtain ⟨s, _, rfl⟩ := List.mem_map.mp ((sortK_perm _).mem_iff.mp hk)
 rfl
theorem srt_ok {S : List (Int × Int)} (h : OkS S) : OkS (srt S) := by
 have p := srt_perm S
 have l := p.length_eq
 exact ⟨by rw [l]; exact h.l, by rw [l]; exact h.m, p.nodup_iff.mpr h.n, fun s hs => h.b s (p.mem_iff.mp hs)⟩
theorem sorted_ok {S : List (Int × Int)} (h : S.length < 64) {e : Ev} (he : lstOf e = some (S.map frD)) : sortedE [e] = .ok (.f (.list ((srt S).map frD))) := by
 unfold sortedE
 dsimp only
 rw [he]
 dsimp only
 rw [toL_map, keysD_map]
 dsimp only
 have a : ((S.map toL).all fun k => !k.isEmpty) = true := by
  rw [List.all_eq_true]
  intro k hk
  obtain ⟨s, _, rfl⟩ := List.mem_map.mp hk
  rfl
 rw [if_pos ⟨a, by rw [List.length_map]; exact h⟩, srt_eq]
def thD (S : List (Int × Int)) (ps : List Pt) : D := .tuple [.list ((roofOf S ps).map plD), .list ((dblOf S ps).map frD)]
noncomputable def m_through (K : PySem.W.Frag) (c : Cls) : List L → Res L := mOf eSP (fun a => OkS a.1 ∧ a.2.length + 1 = a.1.length ∧ ∀ p ∈ a.2, PtG p) fun a => .ok (.p (thD (srt a.1) a.2))
noncomputable def f_through_e1 (K : PySem.W.Frag) (c : Cls) : En → Res Ev := (mVar 0)
noncomputable def f_through_e2 (K : PySem.W.Frag) (c : Cls) : En → Res Ev := (mCallB tupR' (mCons (mBin ixE (mVar 0) (mC (.int 0))) (mCons (mBin ixE (mVar 0) (mC (.int 1))) (mCons (mCall 2 (m_minus K c) (mCons (mBin ixE (mVar 1) (mC (.int 0))) (mCons (mVar 2) mNil))) mNil))))
noncomputable def f_through_e3 (K : PySem.W.Frag) (c : Cls) : En → Res Ev := (mCall 1 (m_best K c) (mCons (mCall 3 (m_table_without K c) (mCons (mVar 0) (mCons (mVar 1) (mCons (mVar 2) mNil)))) mNil))
noncomputable def f_through (K : PySem.W.Frag) (c : Cls) : MS := (mSeq (mDrop (mCall 2 (m_check_numbers K c) (mCons (mVar 0) (mCons (mVar 1) mNil)))) (mSeq (mSet 2 (mCallB sortedE (mCons (mVar 0) mNil))) (fun en => (mSeq (mSet 3 (mComp 1 [2, 1] (mItL (mVar 2)) (mgName 0) mYes (f_through_e3 K c))) (fun en => (mSeq (mSet 4 (mBin ixE (mBin ixE (mVar 3) (mC (.int 0))) (mC (.int 0)))) (mSeq (mSet 5 (mComp 2 [4] (mItA zipR (mCons (mVar 2) (mCons (mVar 3) mNil))) (mgTup 2 (mgCons (mgName 0) (mgCons (mgName 1) mgNil))) mYes (f_through_e2 K c))) (fun en => (mRet (mCallB tupR' (mCons (mVar 5) (mCons (mComp 2 [] (mItA zipR (mCons (mVar 2) (mCons (mVar 3) mNil))) (mgTup 2 (mgCons (mgName 0) (mgCons (mgName 1) mgNil))) (mTru (mBin gtE (mBin ixE (mVar 1) (mC (.int 1))) (mC (.int 1)))) (f_through_e1 K c)) mNil)))) (frz 5 en)))) (frz 3 en))) (frz 2 en))))
theorem zip_self {α β : Type} (f : α → β) : ∀ xs : List α, xs.zip (xs.map f) = xs.map fun x => (x, f x)
 | [] => rfl
 | x :: xs => by
  rw [List.map_cons, List.zip_cons_cons, zip_self f xs]
  rfl
theorem zipL_self {α : Type} (f g : α → D) (xs : List α) : zipL (xs.map f) (xs.map g) = xs.map fun x => .tuple [f x, g x] := by
 rw [zipL_zip f g xs xs]
 have := zip_self id xs
 rw [List.map_id] at this
 rw [this, List.map_map]
 rfl
theorem eq_through (K : PySem.W.Frag) (c : Cls) : ∀ ls, m_through K c ls = .bad ∨ runF 6 (f_through K c) ls = m_through K c ls := mOf_eq fun a h => by
 obtain ⟨S0, ps⟩ := a
 obtain ⟨ok0, hl0, hp⟩ := h
 dsimp only at ok0 hl0 hp ⊢
 have ok := srt_ok ok0
 have hl : ps.length + 1 = (srt S0).length := by rw [(srt_perm S0).length_eq]; exact hl0
 have h6 := ok0.m
 have hck := check_good K c ok0 hl0
 have hso := sorted_ok (S := S0) (by omega) (e := .p (.list (S0.map frD))) rfl
 refine run_rt ?_
 rw [show startE 6 (eSP (S0, ps)) = [some (.p (.list (S0.map frD))), some (.p (.list (ps.map ptD))), none, none, none, none] from rfl]
 have h6' := ok.m
 have th := thr_of ok hl hp
 generalize srt S0 = S at *
 unfold f_through
 have e0 : (mDrop (mCall 2 (m_check_numbers K c) (mCons (mVar 0) (mCons (mVar 1) mNil)))) [some (.p (.list (S0.map frD))), some (.p (.list (ps.map ptD))), none, none, none, none] = some (.nx [some (.p (.list (S0.map frD))), some (.p (.list (ps.map ptD))), none, none, none, none]) := by
  simp only [mDrop, mCall, mCons, mNil, mVar, List.getElem?_cons_zero, List.getElem?_cons_succ, List.set_cons_zero, List.set_cons_succ, List.length_cons, List.length_nil, List.length_map, List.length_append, if_true, if_false, ite_true, ite_false, decide_true, decide_false, Bool.false_eq_true, Nat.zero_add, Nat.reduceAdd, Nat.reduceEqDiff, Nat.reduceLeDiff, reduceIte, List.map_append, List.map_cons, List.map_nil, Res.bind, Ev.c, callR, argsL, argL, hck, retE]
 refine (seq_nx e0).trans ?_
 have e1 : (mCallB sortedE (mCons (mVar 0) mNil)) [some (.p (.list (S0.map frD))), some (.p (.list (ps.map ptD))), none, none, none, none] = .ok (.f (.list (S.map frD))) := by
  simp only [mCallB, mCons, mNil, mVar, List.getElem?_cons_zero, List.getElem?_cons_succ, List.set_cons_zero, List.set_cons_succ, List.length_cons, List.length_nil, List.length_map, List.length_append, if_true, if_false, ite_true, ite_false, decide_true, decide_false, Bool.false_eq_true, Nat.zero_add, Nat.reduceAdd, Nat.reduceEqDiff, Nat.reduceLeDiff, reduceIte, List.map_append, List.map_cons, List.map_nil, Res.bind, Ev.c, hso]
 refine (seq_nx (set_f e1)).trans ?_
 simp only [List.set_cons_succ, List.set_cons_zero, frz, List.getElem?_cons_succ, List.getElem?_cons_zero]
 have hm : mapO (compItem 1 [2, 1] (mgName 0) mYes (f_through_e3 K c) [some (.p (.list (S0.map frD))), some (.p (.list (ps.map ptD))), some (.p (.list (S.map frD))), none, none, none]) (S.map frD) = some (S.map fun s => bestT (tabS (oth S s) ps)) := by
  refine mapO_map _ fun s hs => ?_
  have w := tw_good K c (s := s) h6' ok.b (by omega) hp
  have b := best_good K c (th.g s hs)
  have he : f_through_e3 K c [some (.p (frD s)), some (.p (.list (S.map frD))), some (.p (.list (ps.map ptD)))] = .ok (.p (bestT (tabS (oth S s) ps))) := by
   simp only [f_through_e3, mCall, mCons, mNil, mVar, List.getElem?_cons_zero, List.getElem?_cons_succ, List.set_cons_zero, List.set_cons_succ, List.length_cons, List.length_nil, List.length_map, List.length_append, if_true, if_false, ite_true, ite_false, decide_true, decide_false, Bool.false_eq_true, Nat.zero_add, Nat.reduceAdd, Nat.reduceEqDiff, Nat.reduceLeDiff, reduceIte, List.map_append, List.map_cons, List.map_nil, Res.bind, Ev.c, callR, argsL, argL, w, b, retE]
  unfold compItem
  simp only [mgName, capE, capO, mYes, List.getElem?_cons_zero, List.getElem?_cons_succ, List.set_cons_zero, List.set_cons_succ, List.length_cons, List.length_nil, List.length_map, List.length_append, if_true, if_false, ite_true, ite_false, decide_true, decide_false, Bool.false_eq_true, Nat.zero_add, Nat.reduceAdd, Nat.reduceEqDiff, Nat.reduceLeDiff, reduceIte, List.map_append, List.map_cons, List.map_nil, List.replicate, List.cons_append, List.nil_append, he, Ev.c]
 have hc := comp_l (n := 1) (js := [2, 1]) (fi := mItL (mVar 2)) (tg := mgName 0) (ft := mYes) (fe := f_through_e3 K c) (en := [some (.p (.list (S0.map frD))), some (.p (.list (ps.map ptD))), some (.p (.list (S.map frD))), none, none, none]) (ds := S.map frD) rfl (by rw [List.length_map]; omega) hm
 refine (seq_nx (set_f hc)).trans ?_
 simp only [List.set_cons_succ, List.set_cons_zero, frz, List.getElem?_cons_succ, List.getElem?_cons_zero]
 have i0 : ixE (.p (.list (S.map fun s => bestT (tabS (oth S s) ps)))) (.p (.int 0)) = .ok (.p (bestT (tabS (oth S (S.headD (0, 0))) ps))) := by
  have z := th.z
  cases S with
  | nil => exact absurd rfl z
  | cons x r => simp only [List.map_cons, ixE, seqOf, at0, List.headD_cons]
 have i1 : ∀ t : Tb, ixE (.p (bestT t)) (.p (.int 0)) = .ok (.p (frD (bX t))) := fun _ => rfl
 have i2 : ∀ t : Tb, ixE (.p (bestT t)) (.p (.int 1)) = .ok (.p (.int (bK t : Nat))) := fun _ => rfl
 have e4 : (mBin ixE (mBin ixE (mVar 3) (mC (.int 0))) (mC (.int 0))) [some (.p (.list (S0.map frD))), some (.p (.list (ps.map ptD))), some (.p (.list (S.map frD))), some (.p (.list (S.map fun s => bestT (tabS (oth S s) ps)))), none, none] = .ok (.p (frD (bS S ps (S.headD (0, 0))))) := by
  simp only [mBin, mVar, mC, List.getElem?_cons_zero, List.getElem?_cons_succ, List.set_cons_zero, List.set_cons_succ, List.length_cons, List.length_nil, List.length_map, List.length_append, if_true, if_false, ite_true, ite_false, decide_true, decide_false, Bool.false_eq_true, Nat.zero_add, Nat.reduceAdd, Nat.reduceEqDiff, Nat.reduceLeDiff, reduceIte, List.map_append, List.map_cons, List.map_nil, Res.bind, Ev.c, i0, i1]
  rfl
 refine (seq_nx (set_p e4)).trans ?_
 simp only [List.set_cons_succ, List.set_cons_zero]
 have hz : ∀ x5 : Option L, (mItA zipR (mCons (mVar 2) (mCons (mVar 3) mNil))) [some (.p (.list (S0.map frD))), some (.p (.list (ps.map ptD))), some (.p (.list (S.map frD))), some (.p (.list (S.map fun s => bestT (tabS (oth S s) ps)))), some (.p (frD (bS S ps (S.headD (0, 0))))), x5] = .ok (S.map fun s => .tuple [frD s, bestT (tabS (oth S s) ps)]) := fun x5 => by
  simp only [mItA, mCons, mNil, mVar, Res.bind, List.getElem?_cons_zero, List.getElem?_cons_succ, List.set_cons_zero, List.set_cons_succ, List.length_cons, List.length_nil, List.length_map, List.length_append, if_true, if_false, ite_true, ite_false, decide_true, decide_false, Bool.false_eq_true, Nat.zero_add, Nat.reduceAdd, Nat.reduceEqDiff, Nat.reduceLeDiff, reduceIte, List.map_append, List.map_cons, List.map_nil, Ev.c, zipR, zipL_self]
 have hm5 : mapO (compItem 2 [4] (mgTup 2 (mgCons (mgName 0) (mgCons (mgName 1) mgNil))) mYes (f_through_e2 K c) [some (.p (.list (S0.map frD))), some (.p (.list (ps.map ptD))), some (.p (.list (S.map frD))), some (.p (.list (S.map fun s => bestT (tabS (oth S s) ps)))), some (.p (frD (bS S ps (S.headD (0, 0))))), none]) (S.map fun s => .tuple [frD s, bestT (tabS (oth S s) ps)]) = some (S.map fun s => plD (s.1, s.2, hM (bS S ps s) (bS S ps (S.headD (0, 0))))) := by
  refine mapO_map _ fun s hs => ?_
  have g1 := (bS_good ok hl hp hs).1
  have g2 := (bS_good ok hl hp (head_in (0, 0) th.z)).1
  have mn := minus_good K c g1 g2 (by decide) (by decide)
  have i3 : ixE (.p (bestT (tabS (oth S s) ps))) (.p (.int 0)) = .ok (.p (frD (bS S ps s))) := rfl
  have he : f_through_e2 K c [some (.p (frD s)), some (.p (bestT (tabS (oth S s) ps))), some (.p (frD (bS S ps (S.headD (0, 0)))))] = .ok (.p (plD (s.1, s.2, hM (bS S ps s) (bS S ps (S.headD (0, 0)))))) := by
   simp only [f_through_e2, mSeq, mSet, mRet, mIfS, mVar, mC, mBin, mUn, mCons, mNil, mCall, callR, argsL, argL, argB, Res.bind, Ev.c, retL, retE, mCallB, tupR', lstR', pureL, mTru, truthR, mAnd, mOr, mNot, mAndV, mOrV, mNotV, mRaise, mNext, addE, intE0, negE, lstOf, dat, lenE, eqE, sh_int, eqv_ii, ix_pl2, ix_pl0, ix_pl1, ix_fr0, ix_fr1, ix_t0, ix_t1, ix_t2, List.getElem?_cons_zero, List.getElem?_cons_succ, List.set_cons_zero, List.set_cons_succ, List.length_cons, List.length_nil, List.length_map, List.length_append, if_true, if_false, ite_true, ite_false, decide_true, decide_false, Bool.false_eq_true, Nat.zero_add, Nat.reduceAdd, Nat.reduceEqDiff, Nat.reduceLeDiff, reduceIte, List.map_append, List.map_cons, List.map_nil, i3, mn]
   rfl
  unfold compItem
  simp only [mgTup, mgCons, mgNil, mgName, capE, capO, mYes, List.getElem?_cons_zero, List.getElem?_cons_succ, List.set_cons_zero, List.set_cons_succ, List.length_cons, List.length_nil, List.length_map, List.length_append, if_true, if_false, ite_true, ite_false, decide_true, decide_false, Bool.false_eq_true, Nat.zero_add, Nat.reduceAdd, Nat.reduceEqDiff, Nat.reduceLeDiff, reduceIte, List.map_append, List.map_cons, List.map_nil, List.replicate, List.cons_append, List.nil_append, he, Ev.c]
 have hc5 := comp_l (n := 2) (js := [4]) (hz none) (by rw [List.length_map]; omega) hm5
 refine (seq_nx (set_f hc5)).trans ?_
 simp only [List.set_cons_succ, List.set_cons_zero, frz, List.getElem?_cons_succ, List.getElem?_cons_zero]
 have hm6 : ∀ en : En, mapO (compItem 2 [] (mgTup 2 (mgCons (mgName 0) (mgCons (mgName 1) mgNil))) (mTru (mBin gtE (mBin ixE (mVar 1) (mC (.int 1))) (mC (.int 1)))) (f_through_e1 K c) en) (S.map fun s => .tuple [frD s, bestT (tabS (oth S s) ps)]) = some ((dblOf S ps).map frD) := fun en => by
  refine mapO_flt _ fun s hs => ?_
  have t : mTru (mBin gtE (mBin ixE (mVar 1) (mC (.int 1))) (mC (.int 1))) [some (.p (frD s)), some (.p (bestT (tabS (oth S s) ps)))] = .ok (decide (1 < bK (tabS (oth S s) ps))) := by
   have e : decide ((1 : Int) < (bK (tabS (oth S s) ps) : Nat)) = decide (1 < bK (tabS (oth S s) ps)) := by
    by_cases z : 1 < bK (tabS (oth S s) ps)
    ·rw [decide_eq_true z, decide_eq_true (by omega)]
    ·rw [decide_eq_false z, decide_eq_false (by omega)]
   simp only [mTru, mBin, mVar, mC, List.getElem?_cons_zero, List.getElem?_cons_succ, List.set_cons_zero, List.set_cons_succ, List.length_cons, List.length_nil, List.length_map, List.length_append, if_true, if_false, ite_true, ite_false, decide_true, decide_false, Bool.false_eq_true, Nat.zero_add, Nat.reduceAdd, Nat.reduceEqDiff, Nat.reduceLeDiff, reduceIte, List.map_append, List.map_cons, List.map_nil, Res.bind, Ev.c, i2, intE0, truthR]
   rw [← e]
  unfold compItem
  simp only [mgTup, mgCons, mgNil, mgName, capE, List.getElem?_cons_zero, List.getElem?_cons_succ, List.set_cons_zero, List.set_cons_succ, List.length_cons, List.length_nil, List.length_map, List.length_append, if_true, if_false, ite_true, ite_false, decide_true, decide_false, Bool.false_eq_true, Nat.zero_add, Nat.reduceAdd, Nat.reduceEqDiff, Nat.reduceLeDiff, reduceIte, List.map_append, List.map_cons, List.map_nil, List.replicate, List.cons_append, List.nil_append, t, f_through_e1, mVar, Ev.c]
  cases decide (1 < bK (tabS (oth S s) ps)) <;> rfl
 have hc6 := comp_l (n := 2) (js := []) (hz (some (.p (.list (S.map fun s => plD (s.1, s.2, hM (bS S ps s) (bS S ps (S.headD (0, 0))))))))) (by rw [List.length_map]; omega) (hm6 _)
 refine ret_p ?_
 simp only [mCallB, mCons, mNil, mVar, List.getElem?_cons_zero, List.getElem?_cons_succ, List.set_cons_zero, List.set_cons_succ, List.length_cons, List.length_nil, List.length_map, List.length_append, if_true, if_false, ite_true, ite_false, decide_true, decide_false, Bool.false_eq_true, Nat.zero_add, Nat.reduceAdd, Nat.reduceEqDiff, Nat.reduceLeDiff, reduceIte, List.map_append, List.map_cons, List.map_nil, Res.bind, Ev.c, hc6, tupR', pureL]
 unfold thD roofOf
 rw [List.map_map]
 rfl
theorem through_good (K : PySem.W.Frag) (c : Cls) {S : List (Int × Int)} {ps : List Pt} (h1 : OkS S) (h2 : ps.length + 1 = S.length) (h3 : ∀ p ∈ ps, PtG p) : m_through K c [.p (.list (S.map frD)), .p (.list (ps.map ptD))] = .ok (.p (thD (srt S) ps)) := mOf_at (a := (S, ps)) eSP_inj ⟨h1, h2, h3⟩
theorem can_fr (x : Int × Int) : PyData.canLay0 (frD x) = true := by simp [frD, PyData.canLay0, PyData.canLayAll0]
theorem dep_fr (x : Int × Int) : PyData.depth (frD x) ≤ 9 := by simp [frD, PyData.depth, PyData.depthAll]
theorem cnt_fr (p : Int × Int) (ps : List (Int × Int)) : decide (countIn (frD p) (ps.map frD) ≠ 0) = decide (p ∈ ps) := by
 rw [decide_eq_decide, countIn_ne_zero, List.mem_map]
 constructor
 ·rintro ⟨q, hq, e⟩
  rw [← frI e]
  exact hq
 ·intro h
  exact ⟨p, h, rfl⟩
theorem nin_fr (p : Int × Int) (ps : List (Int × Int)) : inPE true (.p (frD p)) (.b (.list (ps.map frD))) = .ok (.p (.bool (!decide (p ∈ ps)))) := by
 unfold inPE
 simp only [dat]
 rw [if_pos ⟨sh_fr p, sh_list frD can_fr dep_fr ps, fun z hz => by obtain ⟨q, _, rfl⟩ := List.mem_map.mp hz; simp [frD, SeqAt.noMix, SeqAt.noMixAll]⟩]
 rw [if_pos trivial, cnt_fr]
structure SlO (S : List (Int × Int)) (k : Nat) : Prop where
 n : S.Nodup
 b : ∀ s ∈ S, In8 s
 l : S.length ≤ k
theorem SlO.snoc {S : List (Int × Int)} {n : Nat} (h : SlO S n) {s : Int × Int} (hs : In8 s) (hn : s ∉ S) : SlO (S ++ [s]) (n + 1) := by
 refine ⟨List.nodup_append.mpr ⟨h.n, List.pairwise_singleton _ _, fun a ha b hb z => hn ?_⟩, fun x hx => ?_, by rw [List.length_append]; have := h.l; simp; omega⟩
 ·rw [List.mem_singleton.mp hb] at z
  exact z ▸ ha
 ·rcases List.mem_append.mp hx with z | z
  ·exact h.b x z
  ·rw [List.mem_singleton.mp z]; exact hs
noncomputable def f__law_slopes_b1 (K : PySem.W.Frag) (c : Cls) : MS := (mSeq (mSet 5 (mBin addE (mVar 4) (mBin mulE (mC (.int 7368787)) (mVar 3)))) (mSeq (mSet 6 (mCallB tupR' (mCons (mBin modE (mCall 2 (m__law_mix K c) (mCons (mVar 5) (mCons (mC (.int 31)) mNil))) (mBin addE (mVar 1) (mC (.int 1)))) (mCons (mBin modE (mCall 2 (m__law_mix K c) (mCons (mVar 5) (mCons (mC (.int 32)) mNil))) (mBin addE (mVar 1) (mC (.int 1)))) mNil)))) (mIfS (mTru (mBin (inPE true) (mVar 6) (mVar 2))) (mAppend 2 (mVar 6)) mNext)))
noncomputable def f__law_slopes (K : PySem.W.Frag) (c : Cls) : MS := (mSeq (mSet 2 (mCallB lstR' mNil)) (mSeq (mFor (mItA enumR (mCons (mVar 0) mNil)) (mgTup 2 (mgCons (mgName 3) (mgCons (mgName 4) mgNil))) (f__law_slopes_b1 K c)) (mRet (mVar 2))))
noncomputable def m__law_slopes (K : PySem.W.Frag) (c : Cls) (ls : List L) : Res L := runF 7 (f__law_slopes K c) ls
theorem eq__law_slopes (K : PySem.W.Frag) (c : Cls) : ∀ ls, m__law_slopes K c ls = .bad ∨ runF 7 (f__law_slopes K c) ls = m__law_slopes K c ls := fun _ => .inr rfl
theorem sl_b (K : PySem.W.Frag) (c : Cls) (A : Option L) {m : Int} (m0 : 0 ≤ m) (m8 : m ≤ 8) {k : Nat} (hk : k ≤ 100) (x : Int) {S : List (Int × Int)} {n : Nat} (hS : SlO S n) (hn : n ≤ 100) (r5 r6 : Option L) : ∃ (S' : List (Int × Int)) (q5 q6 : Option L), SlO S' (n + 1) ∧ f__law_slopes_b1 K c [A, some (.p (.int m)), some (.o (.list (S.map frD))), some (.p (.int (k : Int))), some (.p (.int x)), r5, r6] = some (.nx [A, some (.p (.int m)), some (.o (.list (S'.map frD))), some (.p (.int (k : Int))), some (.p (.int x)), q5, q6]) := by
 have q : CMulW 7368787 (k : Int) := ⟨(show Sz 30 (7368787 : Int) by unfold Sz; decide).mono (by decide), (show Sz 20 (k : Int) by unfold Sz; omega).mono (by decide)⟩
 obtain ⟨v1, a1, b1, e1⟩ := mix_ok K c (x + 7368787 * (k : Int)) (k := 31) (by decide) (by decide)
 obtain ⟨v2, a2, b2, e2⟩ := mix_ok K c (x + 7368787 * (k : Int)) (k := 32) (by decide) (by decide)
 have d : m + 1 ≠ 0 := by omega
 have f1 := fmod_pos (a := v1) (b := m + 1) (by omega)
 have f2 := fmod_pos (a := v2) (b := m + 1) (by omega)
 have s5 : (mBin addE (mVar 4) (mBin mulE (mC (.int 7368787)) (mVar 3))) [A, some (.p (.int m)), some (.o (.list (S.map frD))), some (.p (.int (k : Int))), some (.p (.int x)), r5, r6] = .ok (.p (.int (x + 7368787 * (k : Int)))) := by
  simp (disch := assumption) only [mSeq, mSet, mRet, mIfS, mVar, mC, mBin, mUn, mCons, mNil, mCall, callR, argsL, argL, argB, Res.bind, Ev.c, retL, retE, mCallB, tupR', lstR', pureL, mTru, truthR, mAnd, mOr, mNot, mAndV, mOrV, mNotV, mRaise, mNext, addE, intE0, negE, lstOf, dat, lenE, eqE, sh_int, eqv_ii, ix_pl2, ix_pl0, ix_pl1, ix_fr0, ix_fr1, ix_t0, ix_t1, ix_t2, mul_ok, fdiv_ok, mod_ok, pow_ok, List.getElem?_cons_zero, List.getElem?_cons_succ, List.set_cons_zero, List.set_cons_succ, List.length_cons, List.length_nil, List.length_map, List.length_append, if_true, if_false, ite_true, ite_false, decide_true, decide_false, Bool.false_eq_true, Nat.zero_add, Nat.reduceAdd, Nat.reduceEqDiff, Nat.reduceLeDiff, reduceIte, List.map_append, List.map_cons, List.map_nil]
 have s6 : (mCallB tupR' (mCons (mBin modE (mCall 2 (m__law_mix K c) (mCons (mVar 5) (mCons (mC (.int 31)) mNil))) (mBin addE (mVar 1) (mC (.int 1)))) (mCons (mBin modE (mCall 2 (m__law_mix K c) (mCons (mVar 5) (mCons (mC (.int 32)) mNil))) (mBin addE (mVar 1) (mC (.int 1)))) mNil))) [A, some (.p (.int m)), some (.o (.list (S.map frD))), some (.p (.int (k : Int))), some (.p (.int x)), some (.p (.int (x + 7368787 * (k : Int)))), r6] = .ok (.p (frD (v1.fmod (m + 1), v2.fmod (m + 1)))) := by
  simp (disch := assumption) only [mSeq, mSet, mRet, mIfS, mVar, mC, mBin, mUn, mCons, mNil, mCall, callR, argsL, argL, argB, Res.bind, Ev.c, retL, retE, mCallB, tupR', lstR', pureL, mTru, truthR, mAnd, mOr, mNot, mAndV, mOrV, mNotV, mRaise, mNext, addE, intE0, negE, lstOf, dat, lenE, eqE, sh_int, eqv_ii, ix_pl2, ix_pl0, ix_pl1, ix_fr0, ix_fr1, ix_t0, ix_t1, ix_t2, mul_ok, fdiv_ok, mod_ok, pow_ok, List.getElem?_cons_zero, List.getElem?_cons_succ, List.set_cons_zero, List.set_cons_succ, List.length_cons, List.length_nil, List.length_map, List.length_append, if_true, if_false, ite_true, ite_false, decide_true, decide_false, Bool.false_eq_true, Nat.zero_add, Nat.reduceAdd, Nat.reduceEqDiff, Nat.reduceLeDiff, reduceIte, List.map_append, List.map_cons, List.map_nil, e1, e2]
  rfl
 have i8 : In8 (v1.fmod (m + 1), v2.fmod (m + 1)) := ⟨⟨f1.1, by show v1.fmod (m + 1) ≤ 8; omega⟩, ⟨f2.1, by show v2.fmod (m + 1) ≤ 8; omega⟩⟩
 generalize (v1.fmod (m + 1), v2.fmod (m + 1)) = s at s6 i8
 have t : mTru (mBin (inPE true) (mVar 6) (mVar 2)) [A, some (.p (.int m)), some (.o (.list (S.map frD))), some (.p (.int (k : Int))), some (.p (.int x)), some (.p (.int (x + 7368787 * (k : Int)))), some (.p (frD s))] = .ok (!decide (s ∈ S)) := by
  simp only [mTru, mBin, mVar, List.getElem?_cons_zero, List.getElem?_cons_succ, List.set_cons_zero, List.set_cons_succ, List.length_cons, List.length_nil, List.length_map, List.length_append, if_true, if_false, ite_true, ite_false, decide_true, decide_false, Bool.false_eq_true, Nat.zero_add, Nat.reduceAdd, Nat.reduceEqDiff, Nat.reduceLeDiff, reduceIte, List.map_append, List.map_cons, List.map_nil, Res.bind, Ev.c, nin_fr, truthR]
 have hl := hS.l
 unfold f__law_slopes_b1
 by_cases z : s ∈ S
 ·rw [decide_eq_true z] at t
  exact ⟨S, _, _, ⟨hS.n, hS.b, by omega⟩, (seq_nx (set_p s5)).trans ((seq_nx (set_p s6)).trans (if_f t))⟩
 ·rw [decide_eq_false z] at t
  refine ⟨S ++ [s], some (.p (.int (x + 7368787 * (k : Int)))), some (.p (frD s)), hS.snoc i8 z, (seq_nx (set_p s5)).trans ((seq_nx (set_p s6)).trans ((if_t t).trans ?_))⟩
  rw [app_nx (i := 2) (ds := S.map frD) (d := frD s) rfl (.inr rfl) (by rw [List.length_map]; omega), List.map_append]
  rfl
theorem sl_loop (K : PySem.W.Frag) (c : Cls) (A : Option L) {m : Int} (m0 : 0 ≤ m) (m8 : m ≤ 8) : ∀ (xs : List Int) (k n : Nat) (S : List (Int × Int)) (r3 r4 r5 r6 : Option L), k + xs.length ≤ 100 → n + xs.length ≤ 100 → SlO S n → ∃ (S' : List (Int × Int)) (q3 q4 q5 q6 : Option L), SlO S' (n + xs.length) ∧ mLoop (mgTup 2 (mgCons (mgName 3) (mgCons (mgName 4) mgNil))) (f__law_slopes_b1 K c) (enumL k (xs.map .int)) [A, some (.p (.int m)), some (.o (.list (S.map frD))), r3, r4, r5, r6] = some (.nx [A, some (.p (.int m)), some (.o (.list (S'.map frD))), q3, q4, q5, q6])
 | [], k, n, S, r3, r4, r5, r6, _, _, hS => ⟨S, r3, r4, r5, r6, hS, rfl⟩
 | x :: xs, k, n, S, r3, r4, r5, r6, h1, h2, hS => by
  rw [List.length_cons] at h1 h2
  obtain ⟨S1, q5, q6, o1, hb⟩ := sl_b K c A m0 m8 (k := k) (by omega) x hS (by omega) r5 r6
  obtain ⟨S2, q3, q4, q5', q6', o2, ih⟩ := sl_loop K c A m0 m8 xs (k + 1) (n + 1) S1 (some (.p (.int (k : Int)))) (some (.p (.int x))) q5 q6 (by omega) (by omega) o1
  refine ⟨S2, q3, q4, q5', q6', by rw [List.length_cons]; exact ⟨o2.n, o2.b, by have := o2.l; omega⟩, ?_⟩
  rw [List.map_cons, show enumL k (.int x :: xs.map .int) = .tuple [.int (k : Int), .int x] :: enumL (k + 1) (xs.map .int) from rfl, lp_nx rfl hb]
  exact ih
theorem slopes_ok (K : PySem.W.Frag) (c : Cls) {m : Int} (m0 : 0 ≤ m) (m8 : m ≤ 8) (cs : List Int) (hc : cs.length ≤ 100) : ∃ S, SlO S cs.length ∧ m__law_slopes K c [.p (.list (cs.map .int)), .p (.int m)] = .ok (.o (.list (S.map frD))) := by
 obtain ⟨S, q3, q4, q5, q6, o, hlp⟩ := sl_loop K c (some (.p (.list (cs.map .int)))) m0 m8 cs 0 0 [] none none none none (by omega) (by omega) ⟨List.Pairwise.nil, (fun _ h => nomatch h), Nat.le_refl _⟩
 rw [Nat.zero_add] at o
 refine ⟨S, o, ?_⟩
 unfold m__law_slopes
 refine run_rt ?_
 rw [show startE 7 [.p (.list (cs.map .int)), .p (.int m)] = [some (.p (.list (cs.map .int))), some (.p (.int m)), none, none, none, none, none] from rfl]
 unfold f__law_slopes
 refine (seq_nx (set_f (d := .list []) rfl)).trans ?_
 simp only [List.set_cons_succ, List.set_cons_zero]
 refine (seq_nx ((for_l (ds := enumL 0 (cs.map .int)) rfl).trans hlp)).trans ?_
 rfl
theorem cut_ab (vs : List Int) (a b : Nat) : ∃ cs : List Int, M.cutD (vs.map .int) (some (a : Int)) (some (b : Int)) = cs.map .int ∧ cs.length ≤ b - a := by
 refine ⟨(vs.drop (HT.sIx vs.length 0 (some (a : Int)))).take (HT.sIx vs.length vs.length (some (b : Int)) - HT.sIx vs.length 0 (some (a : Int))), ?_, ?_⟩
 ·unfold M.cutD
  rw [List.length_map, List.map_take, List.map_drop]
 ·rw [List.length_take, List.length_drop, HT.sIx_nat, HT.sIx_nat]
  omega
noncomputable def f__law_drawn_slopes_b1 (K : PySem.W.Frag) (c : Cls) : MS := (mIfS (mAnd (mTru (mBin ltE (mCallB lenE (mCons (mVar 2) mNil)) (mC (.int 2)))) (mTru (mBin (inPE true) (mVar 3) (mVar 2)))) (mAppend 2 (mVar 3)) mNext)
noncomputable def f__law_drawn_slopes (K : PySem.W.Frag) (c : Cls) : MS := (mSeq (mSet 1 (mBin ixE (mCallB tupR' (mCons (mC (.int 2)) (mCons (mC (.int 4)) (mCons (mC (.int 8)) mNil)))) (mBin modE (mCall 2 (m__law_cell_at K c) (mCons (mVar 0) (mCons (mC (.int 0)) mNil))) (mC (.int 3))))) (mSeq (mSet 2 (mCall 2 (m__law_slopes K c) (mCons (mSl (mVar 0) (mPt (mC (.int 2))) (mPt (mBin addE (mC (.int 2)) (mBin ixE (mCallB tupR' (mCons (mC (.int 2)) (mCons (mC (.int 3)) (mCons (mC (.int 4)) (mCons (mC (.int 5)) (mCons (mC (.int 6)) (mCons (mC (.int 4)) mNil))))))) (mBin modE (mCall 2 (m__law_cell_at K c) (mCons (mVar 0) (mCons (mC (.int 1)) mNil))) (mC (.int 6))))))) (mCons (mVar 1) mNil)))) (mSeq (mFor (mItL (mCallB lstR' (mCons (mCallB tupR' (mCons (mC (.int 1)) (mCons (mC (.int 2)) mNil))) (mCons (mCallB tupR' (mCons (mC (.int 0)) (mCons (mC (.int 1)) mNil))) mNil)))) (mgName 3) (f__law_drawn_slopes_b1 K c)) (mRet (mVar 2)))))
noncomputable def m__law_drawn_slopes (K : PySem.W.Frag) (c : Cls) (ls : List L) : Res L := runF 4 (f__law_drawn_slopes K c) ls
theorem eq__law_drawn_slopes (K : PySem.W.Frag) (c : Cls) : ∀ ls, m__law_drawn_slopes K c ls = .bad ∨ runF 4 (f__law_drawn_slopes K c) ls = m__law_drawn_slopes K c ls := fun _ => .inr rfl
theorem ds_b (K : PySem.W.Frag) (c : Cls) (A B : Option L) {S : List (Int × Int)} {n : Nat} (hS : SlO S n) (hn : n ≤ 100) {s : Int × Int} (hs : In8 s) : f__law_drawn_slopes_b1 K c [A, B, some (.o (.list (S.map frD))), some (.p (frD s))] = some (.nx [A, B, some (.o (.list ((if S.length < 2 ∧ s ∉ S then S ++ [s] else S).map frD))), some (.p (frD s))]) := by
 have hl := hS.l
 have ln : lenE [.b (.list (S.map frD))] = .ok (.p (.int (S.length : Nat))) := by simp [lenE, seqOf]
 have t1 : mTru (mBin ltE (mCallB lenE (mCons (mVar 2) mNil)) (mC (.int 2))) [A, B, some (.o (.list (S.map frD))), some (.p (frD s))] = .ok (decide (S.length < 2)) := by
  have e : decide ((S.length : Int) < 2) = decide (S.length < 2) := by
   by_cases z : S.length < 2
   ·rw [decide_eq_true z, decide_eq_true (by omega)]
   ·rw [decide_eq_false z, decide_eq_false (by omega)]
  rw [← e]
  simp only [mTru, mBin, mVar, mC, mCallB, mCons, mNil, List.getElem?_cons_zero, List.getElem?_cons_succ, List.set_cons_zero, List.set_cons_succ, List.length_cons, List.length_nil, List.length_map, List.length_append, if_true, if_false, ite_true, ite_false, decide_true, decide_false, Bool.false_eq_true, Nat.zero_add, Nat.reduceAdd, Nat.reduceEqDiff, Nat.reduceLeDiff, reduceIte, List.map_append, List.map_cons, List.map_nil, Res.bind, Ev.c, ln, intE0, truthR]
 have t2 : mTru (mBin (inPE true) (mVar 3) (mVar 2)) [A, B, some (.o (.list (S.map frD))), some (.p (frD s))] = .ok (!decide (s ∈ S)) := by
  simp only [mTru, mBin, mVar, List.getElem?_cons_zero, List.getElem?_cons_succ, List.set_cons_zero, List.set_cons_succ, List.length_cons, List.length_nil, List.length_map, List.length_append, if_true, if_false, ite_true, ite_false, decide_true, decide_false, Bool.false_eq_true, Nat.zero_add, Nat.reduceAdd, Nat.reduceEqDiff, Nat.reduceLeDiff, reduceIte, List.map_append, List.map_cons, List.map_nil, Res.bind, Ev.c, nin_fr, truthR]
 have t : (mAnd (mTru (mBin ltE (mCallB lenE (mCons (mVar 2) mNil)) (mC (.int 2)))) (mTru (mBin (inPE true) (mVar 3) (mVar 2)))) [A, B, some (.o (.list (S.map frD))), some (.p (frD s))] = .ok (decide (S.length < 2) && !decide (s ∈ S)) := by
  unfold mAnd
  rw [t1, bind_ok]
  cases decide (S.length < 2)
  ·rfl
  ·exact t2
 unfold f__law_drawn_slopes_b1
 by_cases z : S.length < 2 ∧ s ∉ S
 ·rw [decide_eq_true z.1, decide_eq_false z.2] at t
  rw [if_t t, app_nx (i := 2) (ds := S.map frD) (d := frD s) rfl (.inr rfl) (by rw [List.length_map]; omega), if_pos z, List.map_append]
  rfl
 ·have : (decide (S.length < 2) && !decide (s ∈ S)) = false := by
   rw [Bool.eq_false_iff]
   intro w
   rw [Bool.and_eq_true, decide_eq_true_iff] at w
   exact z ⟨w.1, by simpa using w.2⟩
  rw [this] at t
  rw [if_f t, if_neg z]
  rfl
theorem drawn_ok (K : PySem.W.Frag) (c : Cls) (ns : List Int) : ∃ S, OkS S ∧ m__law_drawn_slopes K c [.p (.list (ns.map .int))] = .ok (.o (.list (S.map frD))) := by
 have c0 : m__law_cell_at K c [.p (.list (ns.map .int)), .p (.int 0)] = _ := cell_ok K c ns 0
 have c1 : m__law_cell_at K c [.p (.list (ns.map .int)), .p (.int 1)] = _ := cell_ok K c ns 1
 generalize ns.getD 0 0 = v0 at c0
 generalize ns.getD 1 0 = v1 at c1
 have d3 : (3 : Int) ≠ 0 := by decide
 have d6 : (6 : Int) ≠ 0 := by decide
 obtain ⟨m, m0, m8, hm⟩ : ∃ m : Int, 0 ≤ m ∧ m ≤ 8 ∧ ixE (.p (.tuple [.int 2, .int 4, .int 8])) (.p (.int (v0.fmod 3))) = .ok (.p (.int m)) := by
  have f := fmod_pos (a := v0) (b := 3) (by decide)
  rcases (show v0.fmod 3 = 0 ∨ v0.fmod 3 = 1 ∨ v0.fmod 3 = 2 by omega) with z | z | z <;> rw [z]
  ·exact ⟨2, by decide, by decide, rfl⟩
  ·exact ⟨4, by decide, by decide, rfl⟩
  ·exact ⟨8, by decide, by decide, rfl⟩
 obtain ⟨n, n6, hn⟩ : ∃ n : Nat, n ≤ 6 ∧ ixE (.p (.tuple [.int 2, .int 3, .int 4, .int 5, .int 6, .int 4])) (.p (.int (v1.fmod 6))) = .ok (.p (.int (n : Int))) := by
  have f := fmod_pos (a := v1) (b := 6) (by decide)
  rcases (show v1.fmod 6 = 0 ∨ v1.fmod 6 = 1 ∨ v1.fmod 6 = 2 ∨ v1.fmod 6 = 3 ∨ v1.fmod 6 = 4 ∨ v1.fmod 6 = 5 by omega) with z | z | z | z | z | z <;> rw [z]
  ·exact ⟨2, by decide, rfl⟩
  ·exact ⟨3, by decide, rfl⟩
  ·exact ⟨4, by decide, rfl⟩
  ·exact ⟨5, by decide, rfl⟩
  ·exact ⟨6, by decide, rfl⟩
  ·exact ⟨4, by decide, rfl⟩
 obtain ⟨cs, hcut, hcl⟩ := cut_ab ns 2 (2 + n)
 obtain ⟨S, oS, hS⟩ := slopes_ok K c m0 m8 cs (by omega)
 have oS : SlO S 6 := ⟨oS.n, oS.b, by have := oS.l; omega⟩
 have hcut' : M.cutD (ns.map .int) (some 2) (some (2 + (n : Int))) = cs.map .int := by
  rw [← hcut]
  rfl
 have i12 : In8 (1, 2) := by unfold In8; decide
 have i01 : In8 (0, 1) := by unfold In8; decide
 have b1 := fun A B => ds_b K c A B oS (by decide) i12
 have o1 : SlO (if S.length < 2 ∧ (1, 2) ∉ S then S ++ [(1, 2)] else S) 6 := by
  split
  ·rename_i z
   have := oS.snoc i12 z.2
   exact ⟨this.n, this.b, by rw [List.length_append]; simp; omega⟩
  ·exact oS
 have f1 : (if S.length < 2 ∧ (1, 2) ∉ S then S ++ [(1, 2)] else S).length < 2 → (0, 1) ∉ (if S.length < 2 ∧ (1, 2) ∉ S then S ++ [(1, 2)] else S) ∧ (if S.length < 2 ∧ (1, 2) ∉ S then S ++ [(1, 2)] else S).length = 1 := by
  split
  ·rename_i z
   intro h
   rw [List.length_append] at h
   have : S = [] := List.length_eq_zero_iff.mp (by simp at h; omega)
   subst this
   exact ⟨by decide, rfl⟩
  ·rename_i z
   intro h
   have h12 : (1, 2) ∈ S := Classical.byContradiction fun y => z ⟨h, y⟩
   match S, h, h12 with
   | [x], _, h12 =>
    have := List.mem_singleton.mp h12
    subst this
    exact ⟨by decide, rfl⟩
 generalize (if S.length < 2 ∧ (1, 2) ∉ S then S ++ [(1, 2)] else S) = S1 at b1 o1 f1
 have b2 := fun A B => ds_b K c A B o1 (by decide) i01
 refine ⟨if S1.length < 2 ∧ (0, 1) ∉ S1 then S1 ++ [(0, 1)] else S1, ?_, ?_⟩
 ·split
  ·rename_i z
   have := o1.snoc i01 z.2
   have l := (f1 z.1).2
   exact ⟨by rw [List.length_append, l]; decide, by rw [List.length_append, l]; decide, this.n, this.b⟩
  ·rename_i z
   refine ⟨?_, o1.l, o1.n, o1.b⟩
   rcases Nat.lt_or_ge S1.length 2 with y | y
   ·exact absurd ⟨y, (f1 y).1⟩ z
   ·exact y
 ·unfold m__law_drawn_slopes
  refine run_rt ?_
  rw [show startE 4 [.p (.list (ns.map .int))] = [some (.p (.list (ns.map .int))), none, none, none] from rfl]
  unfold f__law_drawn_slopes
  have e1 : (mBin ixE (mCallB tupR' (mCons (mC (.int 2)) (mCons (mC (.int 4)) (mCons (mC (.int 8)) mNil)))) (mBin modE (mCall 2 (m__law_cell_at K c) (mCons (mVar 0) (mCons (mC (.int 0)) mNil))) (mC (.int 3)))) [some (.p (.list (ns.map .int))), none, none, none] = .ok (.p (.int m)) := by
   simp (disch := assumption) only [mBin, mVar, mC, mCall, mCallB, tupR', pureL, mCons, mNil, callR, argsL, argL, retE, List.getElem?_cons_zero, List.getElem?_cons_succ, List.set_cons_zero, List.set_cons_succ, List.length_cons, List.length_nil, List.length_map, List.length_append, if_true, if_false, ite_true, ite_false, decide_true, decide_false, Bool.false_eq_true, Nat.zero_add, Nat.reduceAdd, Nat.reduceEqDiff, Nat.reduceLeDiff, reduceIte, List.map_append, List.map_cons, List.map_nil, Res.bind, Ev.c, c0, mod_ok, hm]
  have e2 : (mCall 2 (m__law_slopes K c) (mCons (mSl (mVar 0) (mPt (mC (.int 2))) (mPt (mBin addE (mC (.int 2)) (mBin ixE (mCallB tupR' (mCons (mC (.int 2)) (mCons (mC (.int 3)) (mCons (mC (.int 4)) (mCons (mC (.int 5)) (mCons (mC (.int 6)) (mCons (mC (.int 4)) mNil))))))) (mBin modE (mCall 2 (m__law_cell_at K c) (mCons (mVar 0) (mCons (mC (.int 1)) mNil))) (mC (.int 6))))))) (mCons (mVar 1) mNil))) [some (.p (.list (ns.map .int))), some (.p (.int m)), none, none] = .ok (.f (.list (S.map frD))) := by
   simp (disch := assumption) only [mBin, mVar, mC, mCall, mCallB, tupR', pureL, mCons, mNil, callR, argsL, argL, retE, List.getElem?_cons_zero, List.getElem?_cons_succ, List.set_cons_zero, List.set_cons_succ, List.length_cons, List.length_nil, List.length_map, List.length_append, if_true, if_false, ite_true, ite_false, decide_true, decide_false, Bool.false_eq_true, Nat.zero_add, Nat.reduceAdd, Nat.reduceEqDiff, Nat.reduceLeDiff, reduceIte, List.map_append, List.map_cons, List.map_nil, Res.bind, Ev.c, c1, mod_ok, hn, mSl, mPt, addE, lstOf, hcut', hS]
  refine (seq_nx (set_p e1)).trans ((seq_nx (set_f e2)).trans ?_)
  simp only [List.set_cons_succ, List.set_cons_zero]
  have lp : mLoop (mgName 3) (f__law_drawn_slopes_b1 K c) [frD (1, 2), frD (0, 1)] [some (.p (.list (ns.map .int))), some (.p (.int m)), some (.o (.list (S.map frD))), none] = some (.nx [some (.p (.list (ns.map .int))), some (.p (.int m)), some (.o (.list ((if S1.length < 2 ∧ (0, 1) ∉ S1 then S1 ++ [(0, 1)] else S1).map frD))), some (.p (frD (0, 1)))]) := by
   rw [lp_nx rfl (b1 _ _), lp_nx rfl (b2 _ _)]
   rfl
  refine (seq_nx ((for_l (ds := [frD (1, 2), frD (0, 1)]) rfl).trans lp)).trans ?_
  rfl
theorem mapO_exG {α : Type} {enc : α → D} {P : α → Prop} {g : D → Option (Option D)} : ∀ ds : List D, (∀ d ∈ ds, ∃ x, P x ∧ g d = some (some (enc x))) → ∃ xs : List α, xs.length = ds.length ∧ (∀ x ∈ xs, P x) ∧ mapO g ds = some (xs.map enc)
 | [], _ => ⟨[], rfl, (fun _ h => nomatch h), rfl⟩
 | d :: ds, h => by
  obtain ⟨v, hv, e⟩ := h d (.head _)
  obtain ⟨es, h1, h2, h3⟩ := mapO_exG ds fun x hx => h x (.tail _ hx)
  refine ⟨v :: es, by rw [List.length_cons, List.length_cons, h1], fun x hx => ?_, ?_⟩
  ·rcases List.mem_cons.mp hx with z | z
   ·rw [z]; exact hv
   ·exact h2 x z
  ·show (match g d with | none => none | some o => match mapO g ds with | none => none | some r => some (match o with | some y => y :: r | none => r)) = _
   rw [e, h3]
   rfl
theorem mem_enum : ∀ {ds : List D} {k : Nat} {d : D}, d ∈ enumL k ds → ∃ i x, i < ds.length ∧ x ∈ ds ∧ d = .tuple [.int ((k + i : Nat) : Int), x]
 | y :: ds, k, d, h => by
  rcases List.mem_cons.mp (show d ∈ .tuple [.int (k : Int), y] :: enumL (k + 1) ds from h) with z | z
  ·exact ⟨0, y, Nat.succ_pos _, .head _, z⟩
  ·obtain ⟨i, x, h1, h2, h3⟩ := mem_enum z
   refine ⟨i + 1, x, Nat.succ_lt_succ h1, .tail _ h2, ?_⟩
   rw [h3, show k + 1 + i = k + (i + 1) by omega]
structure PtN (p : Pt) : Prop where
 x : GN p.1
 y : GN p.2
theorem PtN.g {p : Pt} (h : PtN p) : PtG p := ⟨h.x.f, h.y.f, h.x.t.mono (by decide), h.x.b.mono (by decide), h.y.t.mono (by decide), h.y.b.mono (by decide)⟩
theorem PtN.mv {p f : Pt} (h : PtN p) (k : PtN f) : PtG (mvP f p) := by
 have a := sz_P (x := p.1) (y := f.1) ⟨h.x.f.pos, h.x.t, h.x.b⟩ ⟨k.x.f.pos, k.x.t, k.x.b⟩
 have b := sz_P (x := p.2) (y := f.2) ⟨h.y.f.pos, h.y.t, h.y.b⟩ ⟨k.y.f.pos, k.y.t, k.y.b⟩
 exact ⟨hP_fr h.x.f.pos k.x.f.pos, hP_fr h.y.f.pos k.y.f.pos, a.2.1.mono (by decide), a.2.2.mono (by decide), b.2.1.mono (by decide), b.2.2.mono (by decide)⟩
noncomputable def f__law_points_e1 (K : PySem.W.Frag) (c : Cls) : En → Res Ev := (mCallB tupR' (mCons (mCall 2 (m__law_number K c) (mCons (mBin addE (mVar 1) (mBin mulE (mC (.int 9)) (mVar 0))) (mCons (mC (.int 51)) mNil))) (mCons (mCall 2 (m__law_number K c) (mCons (mBin addE (mVar 1) (mBin mulE (mC (.int 9)) (mVar 0))) (mCons (mC (.int 56)) mNil))) mNil)))
noncomputable def f__law_points (K : PySem.W.Frag) (c : Cls) : MS := (mRet (mComp 2 [] (mItA enumR (mCons (mVar 0) mNil)) (mgTup 2 (mgCons (mgName 0) (mgCons (mgName 1) mgNil))) mYes (f__law_points_e1 K c)))
noncomputable def m__law_points (K : PySem.W.Frag) (c : Cls) (ls : List L) : Res L := runF 1 (f__law_points K c) ls
theorem eq__law_points (K : PySem.W.Frag) (c : Cls) : ∀ ls, m__law_points K c ls = .bad ∨ runF 1 (f__law_points K c) ls = m__law_points K c ls := fun _ => .inr rfl
theorem points_ok (K : PySem.W.Frag) (c : Cls) (cs : List Int) (hc : cs.length ≤ 100) : ∃ ps : List Pt, ps.length = cs.length ∧ (∀ p ∈ ps, PtN p) ∧ m__law_points K c [.p (.list (cs.map .int))] = .ok (.o (.list (ps.map ptD))) := by
 obtain ⟨ps, h1, h2, h3⟩ := mapO_exG (enc := ptD) (P := PtN) (g := compItem 2 [] (mgTup 2 (mgCons (mgName 0) (mgCons (mgName 1) mgNil))) mYes (f__law_points_e1 K c) [some (.p (.list (cs.map .int)))]) (enumL 0 (cs.map .int)) (fun d hd => by
  obtain ⟨i, x, hi, hx, rfl⟩ := mem_enum hd
  obtain ⟨n, _, rfl⟩ := List.mem_map.mp hx
  rw [List.length_map] at hi
  rw [Nat.zero_add]
  obtain ⟨a, ga, ea⟩ := number_ok K c (n + 9 * (i : Int)) (k := 51) (by decide) (by decide)
  obtain ⟨b, gb, eb⟩ := number_ok K c (n + 9 * (i : Int)) (k := 56) (by decide) (by decide)
  have q : CMulW 9 (i : Int) := ⟨(show Sz 20 (9 : Int) by unfold Sz; decide).mono (by decide), (show Sz 20 (i : Int) by unfold Sz; omega).mono (by decide)⟩
  have he : f__law_points_e1 K c [some (.p (.int (i : Int))), some (.p (.int n))] = .ok (.p (ptD (a, b))) := by
   simp (disch := assumption) only [f__law_points_e1, mSeq, mSet, mRet, mIfS, mVar, mC, mBin, mUn, mCons, mNil, mCall, callR, argsL, argL, argB, Res.bind, Ev.c, retL, retE, mCallB, tupR', lstR', pureL, mTru, truthR, mAnd, mOr, mNot, mAndV, mOrV, mNotV, mRaise, mNext, addE, intE0, negE, lstOf, dat, lenE, eqE, sh_int, eqv_ii, ix_pl2, ix_pl0, ix_pl1, ix_fr0, ix_fr1, ix_t0, ix_t1, ix_t2, mul_ok, fdiv_ok, mod_ok, pow_ok, List.getElem?_cons_zero, List.getElem?_cons_succ, List.set_cons_zero, List.set_cons_succ, List.length_cons, List.length_nil, List.length_map, List.length_append, if_true, if_false, ite_true, ite_false, decide_true, decide_false, Bool.false_eq_true, Nat.zero_add, Nat.reduceAdd, Nat.reduceEqDiff, Nat.reduceLeDiff, reduceIte, List.map_append, List.map_cons, List.map_nil, ea, eb]
   rfl
  refine ⟨(a, b), ⟨ga, gb⟩, ?_⟩
  unfold compItem
  simp only [mgTup, mgCons, mgNil, mgName, capE, mYes, List.getElem?_cons_zero, List.getElem?_cons_succ, List.set_cons_zero, List.set_cons_succ, List.length_cons, List.length_nil, List.length_map, List.length_append, if_true, if_false, ite_true, ite_false, decide_true, decide_false, Bool.false_eq_true, Nat.zero_add, Nat.reduceAdd, Nat.reduceEqDiff, Nat.reduceLeDiff, reduceIte, List.map_append, List.map_cons, List.map_nil, List.replicate, List.cons_append, List.nil_append, he, Ev.c])
 rw [enumL_len, List.length_map] at h1
 refine ⟨ps, h1, h2, ?_⟩
 unfold m__law_points
 refine run_rt ?_
 rw [show startE 1 [.p (.list (cs.map .int))] = [some (.p (.list (cs.map .int)))] from rfl]
 unfold f__law_points
 exact ret_f (comp_l (n := 2) (js := []) rfl (by rw [enumL_len, List.length_map]; omega) h3)
def eRs (ps : List Pl) : List L := [.p (.list (ps.map plD))]
theorem eRs_inj (a b : List Pl) (h : eRs a = eRs b) : a = b := by
 unfold eRs at h
 injection h with h _
 injection h with h
 injection h with h
 exact plsI h
noncomputable def m__law_is_roof (K : PySem.W.Frag) (c : Cls) : List L → Res L := mOf eRs (fun ps => ∀ p ∈ ps, FR.Fr p.2.2 ∧ Sz 8000 p.2.2.2) fun _ => .ok (.p (.bool true))
noncomputable def f__law_is_roof_b1 (K : PySem.W.Frag) (c : Cls) : MS := (mSeq (mIfS (mOr (mNot (mTru (mUn (isiE K (.type "tuple")) (mVar 1)))) (mOr (mTru (mBin (eqE true) (mCallB lenE (mCons (mVar 1) mNil)) (mC (.int 3)))) (mNot (mTru (mCall 1 (m__law_is_fraction K c) (mCons (mBin ixE (mVar 1) (mC (.int 2))) mNil)))))) (mRet (mC (.bool false))) mNext) (mIfS (mOr (mNot (mTru (mCall 1 (m__law_whole K c) (mCons (mBin ixE (mVar 1) (mC (.int 0))) mNil)))) (mNot (mTru (mCall 1 (m__law_whole K c) (mCons (mBin ixE (mVar 1) (mC (.int 1))) mNil))))) (mRet (mC (.bool false))) mNext))
noncomputable def f__law_is_roof (K : PySem.W.Frag) (c : Cls) : MS := (mSeq (mIfS (mNot (mTru (mUn (isiE K (.type "list")) (mVar 0)))) (mRet (mC (.bool false))) mNext) (mSeq (mFor (mItL (mVar 0)) (mgName 1) (f__law_is_roof_b1 K c)) (mRet (mC (.bool true)))))
theorem isr_loop (K : PySem.W.Frag) (c : Cls) (hk : KitF K c) (Z : Option L) : ∀ (xs : List Pl) (r : Option L), (∀ p ∈ xs, FR.Fr p.2.2 ∧ Sz 8000 p.2.2.2) → ∃ r', mLoop (mgName 1) (f__law_is_roof_b1 K c) (xs.map plD) [Z, r] = some (.nx [Z, r'])
 | [], r, _ => ⟨r, rfl⟩
 | x :: xs, r, h => by
  obtain ⟨r', ih⟩ := isr_loop K c hk Z xs (some (.p (plD x))) fun y hy => h y (.tail _ hy)
  have l := isf_ok K c (h x (.head _)).1 (h x (.head _)).2
  have wh := whole_ok K c
  have ty : tyD (plD x) = "tuple" := rfl
  have ln : lenE [.p (plD x)] = .ok (.p (.int 3)) := rfl
  have l3 : eqE true (.p (.int 3)) (.p (.int 3)) = .ok (.p (.bool false)) := eqE_same rfl rfl (sh_int 3) true
  have i0 : ixE (.p (plD x)) (.p (.int 0)) = .ok (.p (.int x.1)) := rfl
  have i1 : ixE (.p (plD x)) (.p (.int 1)) = .ok (.p (.int x.2.1)) := rfl
  have i2 : ixE (.p (plD x)) (.p (.int 2)) = .ok (.p (frD x.2.2)) := rfl
  have t1 : (mOr (mNot (mTru (mUn (isiE K (.type "tuple")) (mVar 1)))) (mOr (mTru (mBin (eqE true) (mCallB lenE (mCons (mVar 1) mNil)) (mC (.int 3)))) (mNot (mTru (mCall 1 (m__law_is_fraction K c) (mCons (mBin ixE (mVar 1) (mC (.int 2))) mNil)))))) [Z, some (.p (plD x))] = .ok false := by
   simp only [mOr, mNot, mTru, mBin, mUn, mVar, mC, mCall, mCallB, mCons, mNil, callR, argsL, argL, retE, List.getElem?_cons_zero, List.getElem?_cons_succ, List.set_cons_zero, List.set_cons_succ, List.length_cons, List.length_nil, List.length_map, List.length_append, if_true, if_false, ite_true, ite_false, decide_true, decide_false, Bool.false_eq_true, Nat.zero_add, Nat.reduceAdd, Nat.reduceEqDiff, Nat.reduceLeDiff, reduceIte, List.map_append, List.map_cons, List.map_nil, Res.bind, Ev.c, isiE, dat, ty, hk.tt, truthR, ln, l3, i2, l, Bool.not_true]
  have t2 : (mOr (mNot (mTru (mCall 1 (m__law_whole K c) (mCons (mBin ixE (mVar 1) (mC (.int 0))) mNil)))) (mNot (mTru (mCall 1 (m__law_whole K c) (mCons (mBin ixE (mVar 1) (mC (.int 1))) mNil))))) [Z, some (.p (plD x))] = .ok false := by
   simp only [mOr, mNot, mTru, mBin, mVar, mC, mCall, mCons, mNil, callR, argsL, argL, retE, List.getElem?_cons_zero, List.getElem?_cons_succ, List.set_cons_zero, List.set_cons_succ, List.length_cons, List.length_nil, List.length_map, List.length_append, if_true, if_false, ite_true, ite_false, decide_true, decide_false, Bool.false_eq_true, Nat.zero_add, Nat.reduceAdd, Nat.reduceEqDiff, Nat.reduceLeDiff, reduceIte, List.map_append, List.map_cons, List.map_nil, Res.bind, Ev.c, truthR, i0, i1, wh, Bool.not_true]
  have hb : f__law_is_roof_b1 K c [Z, some (.p (plD x))] = some (.nx [Z, some (.p (plD x))]) := (seq_nx (if_f t1)).trans (if_f t2)
  refine ⟨r', ?_⟩
  rw [List.map_cons, lp_nx rfl hb]
  exact ih
theorem eq__law_is_roof (K : PySem.W.Frag) (c : Cls) (hk : KitF K c) : ∀ ls, m__law_is_roof K c ls = .bad ∨ runF 2 (f__law_is_roof K c) ls = m__law_is_roof K c ls := mOf_eq fun ps h => by
 have i1 : isiE K (.type "list") (.p (.list (ps.map plD))) = .ok (.p (.bool true)) := by simp [isiE, dat, tyD, hk.ll]
 refine run_rt ?_
 rw [show startE 2 (eRs ps) = [some (.p (.list (ps.map plD))), none] from rfl]
 have t1 : (mNot (mTru (mUn (isiE K (.type "list")) (mVar 0)))) [some (.p (.list (ps.map plD))), none] = .ok false := by
  simp only [mNot, mTru, mUn, mVar, List.getElem?_cons_zero, List.getElem?_cons_succ, List.set_cons_zero, List.set_cons_succ, List.length_cons, List.length_nil, List.length_map, List.length_append, if_true, if_false, ite_true, ite_false, decide_true, decide_false, Bool.false_eq_true, Nat.zero_add, Nat.reduceAdd, Nat.reduceEqDiff, Nat.reduceLeDiff, reduceIte, List.map_append, List.map_cons, List.map_nil, Res.bind, Ev.c, i1, truthR, Bool.not_true]
 obtain ⟨r', hlp⟩ := isr_loop K c hk (some (.p (.list (ps.map plD)))) ps none h
 unfold f__law_is_roof
 exact (seq_nx (if_f t1)).trans ((seq_nx ((for_l (ds := ps.map plD) rfl).trans hlp)).trans (ret_p rfl))
theorem isr_ok (K : PySem.W.Frag) (c : Cls) {ps : List Pl} (h : ∀ p ∈ ps, FR.Fr p.2.2 ∧ Sz 8000 p.2.2.2) : m__law_is_roof K c [.p (.list (ps.map plD))] = .ok (.p (.bool true)) := mOf_at (a := ps) eRs_inj h
noncomputable def m__law_height (K : PySem.W.Frag) (c : Cls) : List L → Res L := mOf ePH (fun a => GoodQ a.1 a.2) fun a => .ok (.p (frD (hgt a.1 a.2)))
noncomputable def f__law_height (K : PySem.W.Frag) (c : Cls) : MS := (mSeq (mSet 2 (mCall 2 (m__law_sum K c) (mCons (mCall 2 (m__law_product K c) (mCons (mCallB tupR' (mCons (mBin ixE (mVar 0) (mC (.int 0))) (mCons (mC (.int 1)) mNil))) (mCons (mBin ixE (mVar 1) (mC (.int 0))) mNil))) (mCons (mCall 2 (m__law_product K c) (mCons (mCallB tupR' (mCons (mBin ixE (mVar 0) (mC (.int 1))) (mCons (mC (.int 1)) mNil))) (mCons (mBin ixE (mVar 1) (mC (.int 1))) mNil))) mNil)))) (mRet (mCall 2 (m__law_sum K c) (mCons (mVar 2) (mCons (mBin ixE (mVar 0) (mC (.int 2))) mNil)))))
theorem eq__law_height (K : PySem.W.Frag) (c : Cls) : ∀ ls, m__law_height K c ls = .bad ∨ runF 3 (f__law_height K c) ls = m__law_height K c ls := mOf_eq fun a g => by
 obtain ⟨p, pt⟩ := a
 dsimp only at g ⊢
 have t1 : m__law_product K c [.p (.tuple [.int p.1, .int 1]), .p (frD pt.1)] = .ok (.p (frD (hT p.1 pt.1))) := lprod_ok K c (g.i.mono (by decide)) g.x (by decide)
 have t2 : m__law_product K c [.p (.tuple [.int p.2.1, .int 1]), .p (frD pt.2)] = .ok (.p (frD (hT p.2.1 pt.2))) := lprod_ok K c (g.j.mono (by decide)) g.y (by decide)
 have p1 := lsum_ok K c (good_T g.i g.x) (good_T g.j g.y) (by decide) (by decide)
 have p2 := lsum_ok K c (good_P (good_T g.i g.x) (good_T g.j g.y)) g.h (by decide) (by decide)
 refine run_rt ?_
 rw [show startE 3 (ePH (p, pt)) = [some (.p (plD p)), some (.p (.tuple [frD pt.1, frD pt.2])), none] from rfl]
 unfold f__law_height
 have e1 : (mCall 2 (m__law_sum K c) (mCons (mCall 2 (m__law_product K c) (mCons (mCallB tupR' (mCons (mBin ixE (mVar 0) (mC (.int 0))) (mCons (mC (.int 1)) mNil))) (mCons (mBin ixE (mVar 1) (mC (.int 0))) mNil))) (mCons (mCall 2 (m__law_product K c) (mCons (mCallB tupR' (mCons (mBin ixE (mVar 0) (mC (.int 1))) (mCons (mC (.int 1)) mNil))) (mCons (mBin ixE (mVar 1) (mC (.int 1))) mNil))) mNil))) [some (.p (plD p)), some (.p (.tuple [frD pt.1, frD pt.2])), none] = .ok (.p (frD (hP (hT p.1 pt.1) (hT p.2.1 pt.2)))) := by
  simp only [mSeq, mSet, mRet, mIfS, mVar, mC, mBin, mUn, mCons, mNil, mCall, callR, argsL, argL, argB, Res.bind, Ev.c, retL, retE, mCallB, tupR', lstR', pureL, mTru, truthR, mAnd, mOr, mNot, mAndV, mOrV, mNotV, mRaise, mNext, addE, intE0, negE, lstOf, dat, lenE, eqE, sh_int, eqv_ii, ix_pl2, ix_pl0, ix_pl1, ix_fr0, ix_fr1, ix_t0, ix_t1, ix_t2, List.getElem?_cons_zero, List.getElem?_cons_succ, List.set_cons_zero, List.set_cons_succ, List.length_cons, List.length_nil, List.length_map, List.length_append, if_true, if_false, ite_true, ite_false, decide_true, decide_false, Bool.false_eq_true, Nat.zero_add, Nat.reduceAdd, Nat.reduceEqDiff, Nat.reduceLeDiff, reduceIte, List.map_append, List.map_cons, List.map_nil, t1, t2, p1]
 refine (seq_nx (set_p e1)).trans (ret_p ?_)
 simp only [mSeq, mSet, mRet, mIfS, mVar, mC, mBin, mUn, mCons, mNil, mCall, callR, argsL, argL, argB, Res.bind, Ev.c, retL, retE, mCallB, tupR', lstR', pureL, mTru, truthR, mAnd, mOr, mNot, mAndV, mOrV, mNotV, mRaise, mNext, addE, intE0, negE, lstOf, dat, lenE, eqE, sh_int, eqv_ii, ix_pl2, ix_pl0, ix_pl1, ix_fr0, ix_fr1, ix_t0, ix_t1, ix_t2, List.getElem?_cons_zero, List.getElem?_cons_succ, List.set_cons_zero, List.set_cons_succ, List.length_cons, List.length_nil, List.length_map, List.length_append, if_true, if_false, ite_true, ite_false, decide_true, decide_false, Bool.false_eq_true, Nat.zero_add, Nat.reduceAdd, Nat.reduceEqDiff, Nat.reduceLeDiff, reduceIte, List.map_append, List.map_cons, List.map_nil, p2]
 rfl
theorem height_ok (K : PySem.W.Frag) (c : Cls) {p : Pl} {pt : Pt} (g : GoodQ p pt) : m__law_height K c [.p (plD p), .p (.tuple [frD pt.1, frD pt.2])] = .ok (.p (frD (hgt p pt))) := mOf_at (a := (p, pt)) ePH_inj g
noncomputable def f__law_tops_b1 (K : PySem.W.Frag) (c : Cls) : MS := (mSeq (mSet 5 (mCall 2 (m__law_height K c) (mCons (mVar 4) (mCons (mVar 1) mNil)))) (mSeq (mIfS (mTru (mCall 2 (m__law_before K c) (mCons (mVar 3) (mCons (mVar 5) mNil)))) (mSeq (mSet 3 (mVar 5)) (mSet 2 (mCallB lstR' mNil))) mNext) (mIfS (mTru (mBin (eqE false) (mVar 5) (mVar 3))) (mAppend 2 (mCallB tupR' (mCons (mBin ixE (mVar 4) (mC (.int 0))) (mCons (mBin ixE (mVar 4) (mC (.int 1))) mNil)))) mNext)))
noncomputable def f__law_tops (K : PySem.W.Frag) (c : Cls) : MS := (mSeq (mSet 2 (mCallB lstR' mNil)) (mSeq (mSet 3 (mCall 2 (m__law_height K c) (mCons (mBin ixE (mVar 0) (mC (.int 0))) (mCons (mVar 1) mNil)))) (mSeq (mFor (mItL (mVar 0)) (mgName 4) (f__law_tops_b1 K c)) (mRet (mVar 2)))))
noncomputable def m__law_tops (K : PySem.W.Frag) (c : Cls) (ls : List L) : Res L := runF 6 (f__law_tops K c) ls
theorem eq__law_tops (K : PySem.W.Frag) (c : Cls) : ∀ ls, m__law_tops K c ls = .bad ∨ runF 6 (f__law_tops K c) ls = m__law_tops K c ls := fun _ => .inr rfl
theorem lt_wt {G : Int} {x y : Int × Int} (hG : 1 ≤ G) (hx : Gx G x) (hy : Gx G y) : ltF x y = decide (wt G x < wt G y) := by
 unfold ltF
 by_cases h : x.1 * y.2 < y.1 * x.2
 ·rw [decide_eq_true h]
  have l := wt_le hG hx.f.pos hy.f.pos hx.d hy.d (Int.le_of_lt h)
  have n : wt G x ≠ wt G y := fun e => by
   have := wt_inj hG hx.f hy.f hx.d hy.d e
   rw [this] at h
   omega
  exact (decide_eq_true (by omega)).symm
 ·rw [decide_eq_false h]
  have l := wt_le hG hy.f.pos hx.f.pos hy.d hx.d (Int.not_lt.mp h)
  exact (decide_eq_false (by omega)).symm
theorem eq_wt {G : Int} {x y : Int × Int} (hG : 1 ≤ G) (hx : Gx G x) (hy : Gx G y) : (x = y) ↔ wt G x = wt G y := ⟨fun e => by rw [e], fun e => wt_inj hG hx.f hy.f hx.d hy.d e⟩
theorem ix_pq (q : Pl) : ixE (.p (plD q)) (.p (.int 0)) = .ok (.p (.int q.1)) ∧ ixE (.p (plD q)) (.p (.int 1)) = .ok (.p (.int q.2.1)) ∧ ixE (.p (plD q)) (.p (.int 2)) = .ok (.p (frD q.2.2)) := ⟨rfl, rfl, rfl⟩
theorem tp_b (K : PySem.W.Frag) (c : Cls) (A : Option L) {G : Int} (hG : 1 ≤ G) {pt : Pt} {q : Pl} (gq : GoodQ q pt) (xq : Gx G (hgt q pt)) {h : Int × Int} (xh : Gx G h) (zh : FSz 2000 h) {fs : List D} (hl : fs.length ≤ 1000) (r5 : Option L) : ∃ fs' : List D, ∃ h' : Int × Int, Gx G h' ∧ FSz 2000 h' ∧ wt G h' = (if wt G h < wt G (hgt q pt) then wt G (hgt q pt) else wt G h) ∧ fs'.length = (if wt G h < wt G (hgt q pt) then 1 else fs.length + if wt G (hgt q pt) = wt G h then 1 else 0) ∧ f__law_tops_b1 K c [A, some (.p (ptD pt)), some (.o (.list fs)), some (.p (frD h)), some (.p (plD q)), r5] = some (.nx [A, some (.p (ptD pt)), some (.o (.list fs')), some (.p (frD h')), some (.p (plD q)), some (.p (frD (hgt q pt)))]) := by
 have v : m__law_height K c [.p (plD q), .p (ptD pt)] = _ := height_ok K c gq
 have zq : FSz 2000 (hgt q pt) := (gq.hgt.mono (by decide)).fsz
 have bf := before_ok K c zh zq
 have lw := lt_wt hG xh xq
 obtain ⟨i0, i1, _⟩ := ix_pq q
 have s5 : (mCall 2 (m__law_height K c) (mCons (mVar 4) (mCons (mVar 1) mNil))) [A, some (.p (ptD pt)), some (.o (.list fs)), some (.p (frD h)), some (.p (plD q)), r5] = .ok (.p (frD (hgt q pt))) := by
  simp only [mCall, mCons, mNil, mVar, List.getElem?_cons_zero, List.getElem?_cons_succ, List.set_cons_zero, List.set_cons_succ, List.length_cons, List.length_nil, List.length_map, List.length_append, if_true, if_false, ite_true, ite_false, decide_true, decide_false, Bool.false_eq_true, Nat.zero_add, Nat.reduceAdd, Nat.reduceEqDiff, Nat.reduceLeDiff, reduceIte, List.map_append, List.map_cons, List.map_nil, Res.bind, Ev.c, callR, argsL, argL, v, retE]
 have t1 : mTru (mCall 2 (m__law_before K c) (mCons (mVar 3) (mCons (mVar 5) mNil))) [A, some (.p (ptD pt)), some (.o (.list fs)), some (.p (frD h)), some (.p (plD q)), some (.p (frD (hgt q pt)))] = .ok (ltF h (hgt q pt)) := by
  simp only [mTru, mCall, mCons, mNil, mVar, List.getElem?_cons_zero, List.getElem?_cons_succ, List.set_cons_zero, List.set_cons_succ, List.length_cons, List.length_nil, List.length_map, List.length_append, if_true, if_false, ite_true, ite_false, decide_true, decide_false, Bool.false_eq_true, Nat.zero_add, Nat.reduceAdd, Nat.reduceEqDiff, Nat.reduceLeDiff, reduceIte, List.map_append, List.map_cons, List.map_nil, Res.bind, Ev.c, callR, argsL, argL, bf, retE, truthR]
 have ap : ∀ (gs : List D) (h2 : Int × Int), gs.length ≤ 1000 → (mAppend 2 (mCallB tupR' (mCons (mBin ixE (mVar 4) (mC (.int 0))) (mCons (mBin ixE (mVar 4) (mC (.int 1))) mNil)))) [A, some (.p (ptD pt)), some (.o (.list gs)), some (.p (frD h2)), some (.p (plD q)), some (.p (frD (hgt q pt)))] = some (.nx [A, some (.p (ptD pt)), some (.o (.list (gs ++ [frD (q.1, q.2.1)]))), some (.p (frD h2)), some (.p (plD q)), some (.p (frD (hgt q pt)))]) := fun gs h2 hg => by
  have e : (mCallB tupR' (mCons (mBin ixE (mVar 4) (mC (.int 0))) (mCons (mBin ixE (mVar 4) (mC (.int 1))) mNil))) [A, some (.p (ptD pt)), some (.o (.list gs)), some (.p (frD h2)), some (.p (plD q)), some (.p (frD (hgt q pt)))] = .ok (.p (frD (q.1, q.2.1))) := by
   simp only [mCallB, tupR', pureL, mCons, mNil, mBin, mVar, mC, List.getElem?_cons_zero, List.getElem?_cons_succ, List.set_cons_zero, List.set_cons_succ, List.length_cons, List.length_nil, List.length_map, List.length_append, if_true, if_false, ite_true, ite_false, decide_true, decide_false, Bool.false_eq_true, Nat.zero_add, Nat.reduceAdd, Nat.reduceEqDiff, Nat.reduceLeDiff, reduceIte, List.map_append, List.map_cons, List.map_nil, Res.bind, Ev.c, i0, i1]
   rfl
  exact app_nx (i := 2) rfl (.inr e) (by omega)
 have t2 : ∀ (gs : List D) (h2 : Int × Int), (mTru (mBin (eqE false) (mVar 5) (mVar 3))) [A, some (.p (ptD pt)), some (.o (.list gs)), some (.p (frD h2)), some (.p (plD q)), some (.p (frD (hgt q pt)))] = .ok (decide (hgt q pt = h2)) := fun gs h2 => by
  have := eq_frn false (hgt q pt) h2
  simp only [mTru, mBin, mVar, List.getElem?_cons_zero, List.getElem?_cons_succ, List.set_cons_zero, List.set_cons_succ, List.length_cons, List.length_nil, List.length_map, List.length_append, if_true, if_false, ite_true, ite_false, decide_true, decide_false, Bool.false_eq_true, Nat.zero_add, Nat.reduceAdd, Nat.reduceEqDiff, Nat.reduceLeDiff, reduceIte, List.map_append, List.map_cons, List.map_nil, Res.bind, Ev.c, this, truthR]
 unfold f__law_tops_b1
 by_cases z : wt G h < wt G (hgt q pt)
 ·rw [decide_eq_true z] at lw
  rw [lw] at t1
  have t3 := t2 [] (hgt q pt)
  rw [decide_eq_true rfl] at t3
  refine ⟨[frD (q.1, q.2.1)], hgt q pt, xq, zq, by rw [if_pos z], by rw [if_pos z]; rfl, ?_⟩
  refine (seq_nx (set_p s5)).trans ((seq_nx ((if_t t1).trans ((seq_nx (set_p (d := frD (hgt q pt)) rfl)).trans (set_f (d := .list []) rfl)))).trans ?_)
  exact (if_t t3).trans (ap [] (hgt q pt) (by decide))
 ·rw [decide_eq_false z] at lw
  rw [lw] at t1
  have ew := eq_wt hG xq xh
  have t3 := t2 fs h
  by_cases y : hgt q pt = h
  ·rw [decide_eq_true y] at t3
   refine ⟨fs ++ [frD (q.1, q.2.1)], h, xh, zh, by rw [if_neg z], by rw [if_neg z, if_pos (ew.mp y), List.length_append]; rfl, ?_⟩
   exact (seq_nx (set_p s5)).trans ((seq_nx (if_f t1)).trans ((if_t t3).trans (ap fs h hl)))
  ·rw [decide_eq_false y] at t3
   refine ⟨fs, h, xh, zh, by rw [if_neg z], by rw [if_neg z, if_neg (fun w => y (ew.mpr w))]; rfl, ?_⟩
   exact (seq_nx (set_p s5)).trans ((seq_nx (if_f t1)).trans (if_f t3))
theorem tp_loop (K : PySem.W.Frag) (c : Cls) (A : Option L) {G : Int} (hG : 1 ≤ G) {pt : Pt} : ∀ (qs done : List Pl) (h : Int × Int) (fs : List D) (r4 r5 : Option L), (∀ q ∈ qs, GoodQ q pt ∧ Gx G (hgt q pt)) → Gx G h → FSz 2000 h → fs.length + qs.length ≤ 1000 → (∀ q ∈ done, wt G (hgt q pt) ≤ wt G h) → fs.length = (done.map fun q => wt G (hgt q pt)).count (wt G h) → ∃ (fs' : List D) (h' : Int × Int) (q4 q5 : Option L), (∀ q ∈ done ++ qs, wt G (hgt q pt) ≤ wt G h') ∧ (wt G h' = wt G h ∨ ∃ q ∈ qs, wt G h' = wt G (hgt q pt)) ∧ fs'.length = ((done ++ qs).map fun q => wt G (hgt q pt)).count (wt G h') ∧ mLoop (mgName 4) (f__law_tops_b1 K c) (qs.map plD) [A, some (.p (ptD pt)), some (.o (.list fs)), some (.p (frD h)), r4, r5] = some (.nx [A, some (.p (ptD pt)), some (.o (.list fs')), some (.p (frD h')), q4, q5])
 | [], done, h, fs, r4, r5, _, _, _, _, hd, hf => ⟨fs, h, r4, r5, by rw [List.append_nil]; exact hd, .inl rfl, by rw [List.append_nil]; exact hf, rfl⟩
 | q :: qs, done, h, fs, r4, r5, hq, xh, zh, hl, hd, hf => by
  rw [List.length_cons] at hl
  obtain ⟨gq, xq⟩ := hq q (.head _)
  obtain ⟨fs1, h1, x1, z1, e1, l1, hb⟩ := tp_b K c A hG gq xq xh zh (fs := fs) (by omega) r5
  have hd1 : ∀ p ∈ done ++ [q], wt G (hgt p pt) ≤ wt G h1 := fun p hp => by
   rw [e1]
   rcases List.mem_append.mp hp with z | z
   ·have := hd p z
    split <;> omega
   ·rw [List.mem_singleton.mp z]
    split <;> omega
  have hf1 : fs1.length = ((done ++ [q]).map fun q => wt G (hgt q pt)).count (wt G h1) := by
   rw [l1, e1, List.map_append, List.count_append, List.map_cons, List.map_nil, List.count_singleton]
   by_cases z : wt G h < wt G (hgt q pt)
   ·rw [if_pos z, if_pos z, List.count_eq_zero.mpr (fun y => by
     obtain ⟨p, hp, w⟩ := List.mem_map.mp y
     have := hd p hp
     omega)]
    simp
   ·rw [if_neg z, if_neg z, ← hf]
    simp
  obtain ⟨fs', h', q4, q5, k1, k2, k3, ih⟩ := tp_loop K c A hG qs (done ++ [q]) h1 fs1 (some (.p (plD q))) (some (.p (frD (hgt q pt)))) (fun p hp => hq p (.tail _ hp)) x1 z1 (by rw [l1]; split <;> (try split) <;> omega) hd1 hf1
  rw [List.append_assoc] at k1 k3
  refine ⟨fs', h', q4, q5, k1, ?_, k3, ?_⟩
  ·rcases k2 with z | ⟨p, hp, z⟩
   ·rw [z, e1]
    split
    ·exact .inr ⟨q, .head _, rfl⟩
    ·exact .inl rfl
   ·exact .inr ⟨p, .tail _ hp, z⟩
  ·rw [List.map_cons, lp_nx rfl hb]
   exact ih
theorem cnt2 {α : Type} (W : α → Int) {m : Int} : ∀ {qs : List α} {a b : α}, a ∈ qs → b ∈ qs → a ≠ b → W a = m → W b = m → 2 ≤ (qs.map W).count m
 | x :: qs, a, b, ha, hb, n, ea, eb => by
  rw [List.map_cons, List.count_cons]
  have one : ∀ y ∈ qs, W y = m → 1 ≤ (qs.map W).count m := fun y hy e => List.count_pos_iff.mpr (List.mem_map.mpr ⟨y, hy, e⟩)
  rcases List.mem_cons.mp ha with z | z
  ·have hb' : b ∈ qs := (List.mem_cons.mp hb).resolve_left fun w => n (by rw [z, w])
   have := one b hb' eb
   rw [z] at ea
   rw [if_pos (by rw [beq_iff_eq]; exact ea)]
   omega
  ·rcases List.mem_cons.mp hb with y | y
   ·have := one a z ea
    rw [y] at eb
    rw [if_pos (by rw [beq_iff_eq]; exact eb)]
    omega
   ·have := cnt2 W z y n ea eb
    omega
theorem tops_ok (K : PySem.W.Frag) (c : Cls) {G : Int} (hG : 1 ≤ G) {pt : Pt} {qs : List Pl} (h0 : qs ≠ []) (hl : qs.length ≤ 100) (hq : ∀ q ∈ qs, GoodQ q pt ∧ Gx G (hgt q pt)) (two : ∀ q ∈ qs, ∃ q' ∈ qs, q' ≠ q ∧ wt G (hgt q pt) ≤ wt G (hgt q' pt)) : ∃ fs : List D, 2 ≤ fs.length ∧ m__law_tops K c [.p (.list (qs.map plD)), .p (ptD pt)] = .ok (.o (.list fs)) := by
 have hh := head_in (0, 0, (0, 1)) h0
 obtain ⟨g0, x0⟩ := hq _ hh
 have v : m__law_height K c [.p (plD (qs.headD (0, 0, (0, 1)))), .p (ptD pt)] = _ := height_ok K c g0
 have i0 : ixE (.p (.list (qs.map plD))) (.p (.int 0)) = .ok (.p (plD (qs.headD (0, 0, (0, 1))))) := by
  cases qs with
  | nil => exact absurd rfl h0
  | cons x r => simp only [List.map_cons, ixE, seqOf, at0, List.headD_cons]
 generalize qs.headD (0, 0, (0, 1)) = q0 at *
 obtain ⟨fs, h', q4, q5, k1, k2, k3, hlp⟩ := tp_loop K c (some (.p (.list (qs.map plD)))) hG qs [] (hgt q0 pt) [] none none hq x0 ((g0.hgt.mono (by decide)).fsz) (by simp; omega) (fun _ h => nomatch h) rfl
 rw [List.nil_append] at k1 k3
 obtain ⟨q, hqq, e⟩ : ∃ q ∈ qs, wt G h' = wt G (hgt q pt) := by
  rcases k2 with z | z
  ·exact ⟨q0, hh, z⟩
  ·exact z
 obtain ⟨q', hq', n, le⟩ := two q hqq
 have e' : wt G (hgt q' pt) = wt G h' := by
  have := k1 q' hq'
  omega
 refine ⟨fs, by rw [k3]; exact cnt2 (fun q => wt G (hgt q pt)) hqq hq' (Ne.symm n) e.symm e', ?_⟩
 unfold m__law_tops
 refine run_rt ?_
 rw [show startE 6 [.p (.list (qs.map plD)), .p (ptD pt)] = [some (.p (.list (qs.map plD))), some (.p (ptD pt)), none, none, none, none] from rfl]
 unfold f__law_tops
 refine (seq_nx (set_f (d := .list []) rfl)).trans ?_
 simp only [List.set_cons_succ, List.set_cons_zero]
 have e3 : (mCall 2 (m__law_height K c) (mCons (mBin ixE (mVar 0) (mC (.int 0))) (mCons (mVar 1) mNil))) [some (.p (.list (qs.map plD))), some (.p (ptD pt)), some (.o (.list [])), none, none, none] = .ok (.p (frD (hgt q0 pt))) := by
  simp only [mCall, mCons, mNil, mBin, mVar, mC, List.getElem?_cons_zero, List.getElem?_cons_succ, List.set_cons_zero, List.set_cons_succ, List.length_cons, List.length_nil, List.length_map, List.length_append, if_true, if_false, ite_true, ite_false, decide_true, decide_false, Bool.false_eq_true, Nat.zero_add, Nat.reduceAdd, Nat.reduceEqDiff, Nat.reduceLeDiff, reduceIte, List.map_append, List.map_cons, List.map_nil, Res.bind, Ev.c, callR, argsL, argL, i0, v, retE]
 refine (seq_nx (set_p e3)).trans ?_
 simp only [List.set_cons_succ, List.set_cons_zero]
 refine (seq_nx ((for_l (ds := qs.map plD) rfl).trans hlp)).trans ?_
 rfl
noncomputable def f__law_moved_b1 (K : PySem.W.Frag) (c : Cls) : MS := (mSeq (mSet 5 (mCall 2 (m__law_product K c) (mCons (mCallB tupR' (mCons (mBin subE (mBin ixE (mVar 3) (mC (.int 0))) (mBin ixE (mVar 4) (mC (.int 0)))) (mCons (mC (.int 1)) mNil))) (mCons (mBin ixE (mVar 1) (mC (.int 0))) mNil)))) (mSeq (mSet 5 (mCall 2 (m__law_sum K c) (mCons (mVar 5) (mCons (mCall 2 (m__law_product K c) (mCons (mCallB tupR' (mCons (mBin subE (mBin ixE (mVar 3) (mC (.int 1))) (mBin ixE (mVar 4) (mC (.int 1)))) (mCons (mC (.int 1)) mNil))) (mCons (mBin ixE (mVar 1) (mC (.int 1))) mNil))) mNil)))) (mAppend 2 (mCallB tupR' (mCons (mBin ixE (mVar 4) (mC (.int 0))) (mCons (mBin ixE (mVar 4) (mC (.int 1))) (mCons (mCall 2 (m__law_sum K c) (mCons (mBin ixE (mVar 4) (mC (.int 2))) (mCons (mVar 5) mNil))) mNil)))))))
noncomputable def f__law_moved (K : PySem.W.Frag) (c : Cls) : MS := (mSeq (mSet 2 (mCallB lstR' mNil)) (mSeq (mSet 3 (mBin ixE (mVar 0) (mC (.int 0)))) (mSeq (mFor (mItL (mVar 0)) (mgName 4) (f__law_moved_b1 K c)) (mRet (mVar 2)))))
noncomputable def m__law_moved (K : PySem.W.Frag) (c : Cls) (ls : List L) : Res L := runF 6 (f__law_moved K c) ls
theorem eq__law_moved (K : PySem.W.Frag) (c : Cls) : ∀ ls, m__law_moved K c ls = .bad ∨ runF 6 (f__law_moved K c) ls = m__law_moved K c ls := fun _ => .inr rfl
theorem mv_loop (K : PySem.W.Frag) (c : Cls) (A : Option L) {f : Pt} (hf : PtN f) {q0 : Pl} (h0 : In8 (q0.1, q0.2.1)) : ∀ (qs acc : List Pl) (r4 r5 : Option L), acc.length + qs.length ≤ 1000 → (∀ q ∈ qs, In8 (q.1, q.2.1) ∧ Good 691 q.2.2) → ∃ q4 q5, mLoop (mgName 4) (f__law_moved_b1 K c) (qs.map plD) [A, some (.p (ptD f)), some (.o (.list (acc.map plD))), some (.p (plD q0)), r4, r5] = some (.nx [A, some (.p (ptD f)), some (.o (.list ((acc ++ qs.map (mvL f q0)).map plD))), some (.p (plD q0)), q4, q5])
 | [], acc, r4, r5, _, _ => ⟨r4, r5, by rw [List.map_nil, List.map_nil, List.append_nil]; rfl⟩
 | q :: qs, acc, r4, r5, hl, hq => by
  rw [List.length_cons] at hl
  obtain ⟨b8, gq⟩ := hq q (.head _)
  obtain ⟨q4, q5, ih⟩ := mv_loop K c A hf h0 qs (acc ++ [mvL f q0 q]) (some (.p (plD q))) (some (.p (frD (hP (hT (q0.1 - q.1) f.1) (hT (q0.2.1 - q.2.1) f.2))))) (by rw [List.length_append]; simp; omega) fun p hp => hq p (.tail _ hp)
  unfold In8 at b8 h0
  dsimp only at b8 h0
  have s1 : Sz 10 (q0.1 - q.1) := by unfold Sz; omega
  have s2 : Sz 10 (q0.2.1 - q.2.1) := by unfold Sz; omega
  have t1 : m__law_product K c [.p (.tuple [.int (q0.1 - q.1), .int 1]), .p (frD f.1)] = .ok (.p (frD (hT (q0.1 - q.1) f.1))) := lprod_ok K c (s1.mono (by decide)) hf.x.good (by decide)
  have t2 : m__law_product K c [.p (.tuple [.int (q0.2.1 - q.2.1), .int 1]), .p (frD f.2)] = .ok (.p (frD (hT (q0.2.1 - q.2.1) f.2))) := lprod_ok K c (s2.mono (by decide)) hf.y.good (by decide)
  have g1 := good_T s1 hf.x.good
  have g2 := good_T s2 hf.y.good
  have p1 := lsum_ok K c g1 g2 (by decide) (by decide)
  have p2 : m__law_sum K c [.p (frD q.2.2), .p (frD (hP (hT (q0.1 - q.1) f.1) (hT (q0.2.1 - q.2.1) f.2)))] = .ok (.p (frD (mvL f q0 q).2.2)) := lsum_ok K c gq (good_P g1 g2) (by decide) (by decide)
  obtain ⟨i0, i1, i2⟩ := ix_pq q
  obtain ⟨j0, j1, _⟩ := ix_pq q0
  have f0 : ixE (.p (ptD f)) (.p (.int 0)) = .ok (.p (frD f.1)) := rfl
  have f1 : ixE (.p (ptD f)) (.p (.int 1)) = .ok (.p (frD f.2)) := rfl
  have e1 : (mCall 2 (m__law_product K c) (mCons (mCallB tupR' (mCons (mBin subE (mBin ixE (mVar 3) (mC (.int 0))) (mBin ixE (mVar 4) (mC (.int 0)))) (mCons (mC (.int 1)) mNil))) (mCons (mBin ixE (mVar 1) (mC (.int 0))) mNil))) [A, some (.p (ptD f)), some (.o (.list (acc.map plD))), some (.p (plD q0)), some (.p (plD q)), r5] = .ok (.p (frD (hT (q0.1 - q.1) f.1))) := by
   simp only [mCall, mCallB, tupR', pureL, mCons, mNil, mBin, mVar, mC, List.getElem?_cons_zero, List.getElem?_cons_succ, List.set_cons_zero, List.set_cons_succ, List.length_cons, List.length_nil, List.length_map, List.length_append, if_true, if_false, ite_true, ite_false, decide_true, decide_false, Bool.false_eq_true, Nat.zero_add, Nat.reduceAdd, Nat.reduceEqDiff, Nat.reduceLeDiff, reduceIte, List.map_append, List.map_cons, List.map_nil, Res.bind, Ev.c, callR, argsL, argL, retE, i0, j0, f0, intE0, t1]
  have e2 : (mCall 2 (m__law_sum K c) (mCons (mVar 5) (mCons (mCall 2 (m__law_product K c) (mCons (mCallB tupR' (mCons (mBin subE (mBin ixE (mVar 3) (mC (.int 1))) (mBin ixE (mVar 4) (mC (.int 1)))) (mCons (mC (.int 1)) mNil))) (mCons (mBin ixE (mVar 1) (mC (.int 1))) mNil))) mNil))) [A, some (.p (ptD f)), some (.o (.list (acc.map plD))), some (.p (plD q0)), some (.p (plD q)), some (.p (frD (hT (q0.1 - q.1) f.1)))] = .ok (.p (frD (hP (hT (q0.1 - q.1) f.1) (hT (q0.2.1 - q.2.1) f.2)))) := by
   simp only [mCall, mCallB, tupR', pureL, mCons, mNil, mBin, mVar, mC, List.getElem?_cons_zero, List.getElem?_cons_succ, List.set_cons_zero, List.set_cons_succ, List.length_cons, List.length_nil, List.length_map, List.length_append, if_true, if_false, ite_true, ite_false, decide_true, decide_false, Bool.false_eq_true, Nat.zero_add, Nat.reduceAdd, Nat.reduceEqDiff, Nat.reduceLeDiff, reduceIte, List.map_append, List.map_cons, List.map_nil, Res.bind, Ev.c, callR, argsL, argL, retE, i1, j1, f1, intE0, t2, p1]
  have e3 : (mCallB tupR' (mCons (mBin ixE (mVar 4) (mC (.int 0))) (mCons (mBin ixE (mVar 4) (mC (.int 1))) (mCons (mCall 2 (m__law_sum K c) (mCons (mBin ixE (mVar 4) (mC (.int 2))) (mCons (mVar 5) mNil))) mNil)))) [A, some (.p (ptD f)), some (.o (.list (acc.map plD))), some (.p (plD q0)), some (.p (plD q)), some (.p (frD (hP (hT (q0.1 - q.1) f.1) (hT (q0.2.1 - q.2.1) f.2))))] = .ok (.p (plD (mvL f q0 q))) := by
   simp only [mCall, mCallB, tupR', pureL, mCons, mNil, mBin, mVar, mC, List.getElem?_cons_zero, List.getElem?_cons_succ, List.set_cons_zero, List.set_cons_succ, List.length_cons, List.length_nil, List.length_map, List.length_append, if_true, if_false, ite_true, ite_false, decide_true, decide_false, Bool.false_eq_true, Nat.zero_add, Nat.reduceAdd, Nat.reduceEqDiff, Nat.reduceLeDiff, reduceIte, List.map_append, List.map_cons, List.map_nil, Res.bind, Ev.c, callR, argsL, argL, retE, i0, i1, i2, p2]
   rfl
  have hb : f__law_moved_b1 K c [A, some (.p (ptD f)), some (.o (.list (acc.map plD))), some (.p (plD q0)), some (.p (plD q)), r5] = some (.nx [A, some (.p (ptD f)), some (.o (.list ((acc ++ [mvL f q0 q]).map plD))), some (.p (plD q0)), some (.p (plD q)), some (.p (frD (hP (hT (q0.1 - q.1) f.1) (hT (q0.2.1 - q.2.1) f.2))))]) := by
   unfold f__law_moved_b1
   refine (seq_nx (set_p e1)).trans ((seq_nx (set_p e2)).trans ?_)
   simp only [List.set_cons_succ, List.set_cons_zero]
   rw [app_nx (i := 2) (ds := acc.map plD) rfl (.inr e3) (by rw [List.length_map]; omega), List.map_append]
   rfl
  refine ⟨q4, q5, ?_⟩
  rw [List.map_cons, lp_nx rfl hb]
  rw [List.append_assoc] at ih
  exact ih
theorem moved_ok (K : PySem.W.Frag) (c : Cls) {f : Pt} (hf : PtN f) {qs : List Pl} (h0 : qs ≠ []) (hl : qs.length ≤ 100) (hq : ∀ q ∈ qs, In8 (q.1, q.2.1) ∧ Good 691 q.2.2) : m__law_moved K c [.p (.list (qs.map plD)), .p (ptD f)] = .ok (.o (.list ((qs.map (mvL f (qs.headD (0, 0, (0, 1))))).map plD))) := by
 have hh := hq _ (head_in (0, 0, (0, 1)) h0)
 have i0 : ixE (.p (.list (qs.map plD))) (.p (.int 0)) = .ok (.p (plD (qs.headD (0, 0, (0, 1))))) := by
  cases qs with
  | nil => exact absurd rfl h0
  | cons x r => simp only [List.map_cons, ixE, seqOf, at0, List.headD_cons]
 generalize qs.headD (0, 0, (0, 1)) = q0 at *
 obtain ⟨q4, q5, hlp⟩ := mv_loop K c (some (.p (.list (qs.map plD)))) hf hh.1 qs [] none none (by rw [List.length_nil]; omega) hq
 rw [List.nil_append] at hlp
 unfold m__law_moved
 refine run_rt ?_
 rw [show startE 6 [.p (.list (qs.map plD)), .p (ptD f)] = [some (.p (.list (qs.map plD))), some (.p (ptD f)), none, none, none, none] from rfl]
 unfold f__law_moved
 refine (seq_nx (set_f (d := .list []) rfl)).trans ?_
 simp only [List.set_cons_succ, List.set_cons_zero]
 have e3 : (mBin ixE (mVar 0) (mC (.int 0))) [some (.p (.list (qs.map plD))), some (.p (ptD f)), some (.o (.list [])), none, none, none] = .ok (.p (plD q0)) := by
  simp only [mBin, mVar, mC, List.getElem?_cons_zero, List.getElem?_cons_succ, List.set_cons_zero, List.set_cons_succ, List.length_cons, List.length_nil, List.length_map, List.length_append, if_true, if_false, ite_true, ite_false, decide_true, decide_false, Bool.false_eq_true, Nat.zero_add, Nat.reduceAdd, Nat.reduceEqDiff, Nat.reduceLeDiff, reduceIte, List.map_append, List.map_cons, List.map_nil, Res.bind, Ev.c, i0]
 refine (seq_nx (set_p e3)).trans ?_
 simp only [List.set_cons_succ, List.set_cons_zero]
 refine (seq_nx ((for_l (ds := qs.map plD) rfl).trans hlp)).trans ?_
 rfl
noncomputable def f_law_e1 (K : PySem.W.Frag) (c : Cls) : En → Res Ev := (mCallB tupR' (mCons (mCall 2 (m__law_sum K c) (mCons (mBin ixE (mVar 0) (mC (.int 0))) (mCons (mBin ixE (mVar 1) (mC (.int 0))) mNil))) (mCons (mCall 2 (m__law_sum K c) (mCons (mBin ixE (mVar 0) (mC (.int 1))) (mCons (mBin ixE (mVar 1) (mC (.int 1))) mNil))) mNil)))
noncomputable def f_law_b2 (K : PySem.W.Frag) (c : Cls) : MS := (mIfS (mTru (mBin ltE (mCallB lenE (mCons (mCall 2 (m__law_tops K c) (mCons (mBin ixE (mVar 3) (mC (.int 0))) (mCons (mVar 4) mNil))) mNil)) (mC (.int 2)))) (mRet (mC (.bool false))) mNext)
noncomputable def f_law_e3 (K : PySem.W.Frag) (c : Cls) : En → Res Ev := (mCallB tupR' (mCons (mBin ixE (mVar 0) (mC (.int 0))) (mCons (mBin ixE (mVar 0) (mC (.int 1))) mNil)))
noncomputable def f_law_e4 (K : PySem.W.Frag) (c : Cls) : En → Res Ev := (mCall 2 (m__law_cell_at K c) (mCons (mVar 1) (mCons (mBin addE (mC (.int 8)) (mVar 0)) mNil)))
noncomputable def f_law (K : PySem.W.Frag) (c : Cls) : MS := (mSeq (mSet 1 (mCall 1 (m__law_drawn_slopes K c) (mCons (mVar 0) mNil))) (mSeq (mSet 2 (mCall 1 (m__law_points K c) (mCons (mComp 1 [0] (mItA rng1R (mCons (mBin subE (mCallB lenE (mCons (mVar 1) mNil)) (mC (.int 1))) mNil)) (mgName 0) mYes (f_law_e4 K c)) mNil))) (fun en => (fun en => (mSeq (mSet 3 (mCall 2 (m_through K c) (mCons (mCallB listE (mCons (mVar 1) mNil)) (mCons (mCallB listE (mCons (mVar 2) mNil)) mNil)))) (mSeq (mIfS (mOr (mNot (mTru (mUn (isiE K (.type "tuple")) (mVar 3)))) (mOr (mTru (mBin (eqE true) (mCallB lenE (mCons (mVar 3) mNil)) (mC (.int 2)))) (mNot (mTru (mCall 1 (m__law_is_roof K c) (mCons (mBin ixE (mVar 3) (mC (.int 0))) mNil)))))) (mRet (mC (.bool false))) mNext) (mSeq (mIfS (mTru (mBin (eqE true) (mComp 1 [] (mItL (mBin ixE (mVar 3) (mC (.int 0)))) (mgName 0) mYes (f_law_e3 K c)) (mCallB sortedE (mCons (mVar 1) mNil)))) (mRet (mC (.bool false))) mNext) (mSeq (mFor (mItL (mVar 2)) (mgName 4) (f_law_b2 K c)) (mSeq (mIfS (mTru (mBin (eqE true) (mCall 2 (m_through K c) (mCons (mCallB listE (mCons (mVar 1) mNil)) (mCons (mUn revE (mVar 2)) mNil))) (mVar 3))) (mRet (mC (.bool false))) mNext) (mSeq (mSet 5 (mCallB tupR' (mCons (mCall 2 (m__law_number K c) (mCons (mCall 2 (m__law_cell_at K c) (mCons (mVar 0) (mCons (mC (.int 14)) mNil))) (mCons (mC (.int 61)) mNil))) (mCons (mCall 2 (m__law_number K c) (mCons (mCall 2 (m__law_cell_at K c) (mCons (mVar 0) (mCons (mC (.int 14)) mNil))) (mCons (mC (.int 67)) mNil))) mNil)))) (mSeq (mSet 6 (mComp 1 [5] (mItL (mVar 2)) (mgName 0) mYes (f_law_e1 K c))) (fun en => (mRet (mBin (eqE false) (mCall 2 (m_through K c) (mCons (mCallB listE (mCons (mVar 1) mNil)) (mCons (mVar 6) mNil))) (mCallB tupR' (mCons (mCall 2 (m__law_moved K c) (mCons (mBin ixE (mVar 3) (mC (.int 0))) (mCons (mVar 5) mNil))) (mCons (mBin ixE (mVar 3) (mC (.int 1))) mNil))))) (frz 6 en))))))))) (frz 1 en)) (frz 2 en))))
noncomputable def m_law (K : PySem.W.Frag) (c : Cls) (ls : List L) : Res L := runF 7 (f_law K c) ls
theorem eq_law (K : PySem.W.Frag) (c : Cls) : ∀ ls, m_law K c ls = .bad ∨ runF 7 (f_law K c) ls = m_law K c ls := fun _ => .inr rfl
theorem sh_th (S : List (Int × Int)) (ps : List Pt) : SeqAt.shaped (thD S ps) = true := by
 have a1 : PyData.canLay0 (.list ((roofOf S ps).map plD)) = true := by rw [PyData.canLay0]; exact can_all plD can_pl _
 have a2 : PyData.canLay0 (.list ((dblOf S ps).map frD)) = true := by rw [PyData.canLay0]; exact can_all frD can_fr _
 have b1 : PyData.depth (.list ((roofOf S ps).map plD)) ≤ 10 := by
  rw [PyData.depth]
  have := dep_all plD 9 dep_pl (roofOf S ps)
  omega
 have b2 : PyData.depth (.list ((dblOf S ps).map frD)) ≤ 10 := by
  rw [PyData.depth]
  have := dep_all frD 9 dep_fr (dblOf S ps)
  omega
 unfold thD SeqAt.shaped
 generalize (.list ((roofOf S ps).map plD) : D) = x at a1 b1
 generalize (.list ((dblOf S ps).map frD) : D) = y at a2 b2
 rw [Bool.and_eq_true, decide_eq_true_iff]
 constructor
 ·simp [PyData.canLay0, PyData.canLayAll0, a1, a2]
 ·simp [PyData.depth, PyData.depthAll]
  omega
theorem tp_all (K : PySem.W.Frag) (c : Cls) (A B C Y Z : Option L) {d : D} {r : D} (hd : ixE (.p d) (.p (.int 0)) = .ok (.p r)) : ∀ (ps : List Pt) (r4 : Option L), (∀ p ∈ ps, ∃ fs : List D, 2 ≤ fs.length ∧ m__law_tops K c [.p r, .p (ptD p)] = .ok (.o (.list fs))) → ∃ q4, mLoop (mgName 4) (f_law_b2 K c) (ps.map ptD) [A, B, C, some (.p d), r4, Y, Z] = some (.nx [A, B, C, some (.p d), q4, Y, Z])
 | [], r4, _ => ⟨r4, rfl⟩
 | p :: ps, r4, h => by
  obtain ⟨fs, l2, ht⟩ := h p (.head _)
  obtain ⟨q4, ih⟩ := tp_all K c A B C Y Z hd ps (some (.p (ptD p))) fun q hq => h q (.tail _ hq)
  refine ⟨q4, ?_⟩
  have ln : lenE [.p (.list fs)] = .ok (.p (.int (fs.length : Nat))) := by simp [lenE, seqOf]
  have lt : decide ((fs.length : Int) < 2) = false := decide_eq_false (by omega)
  have t : (mTru (mBin ltE (mCallB lenE (mCons (mCall 2 (m__law_tops K c) (mCons (mBin ixE (mVar 3) (mC (.int 0))) (mCons (mVar 4) mNil))) mNil)) (mC (.int 2)))) [A, B, C, some (.p d), some (.p (ptD p)), Y, Z] = .ok false := by
   simp only [mTru, mBin, mVar, mC, mCall, mCallB, mCons, mNil, callR, argsL, argL, retE, List.getElem?_cons_zero, List.getElem?_cons_succ, List.set_cons_zero, List.set_cons_succ, List.length_cons, List.length_nil, List.length_map, List.length_append, if_true, if_false, ite_true, ite_false, decide_true, decide_false, Bool.false_eq_true, Nat.zero_add, Nat.reduceAdd, Nat.reduceEqDiff, Nat.reduceLeDiff, reduceIte, List.map_append, List.map_cons, List.map_nil, Res.bind, Ev.c, hd, ht, ln, intE0, truthR, lt]
  have hb : f_law_b2 K c [A, B, C, some (.p d), some (.p (ptD p)), Y, Z] = some (.nx [A, B, C, some (.p d), some (.p (ptD p)), Y, Z]) := if_f t
  rw [List.map_cons, lp_nx rfl hb]
  exact ih
theorem cells_ok (K : PySem.W.Frag) (c : Cls) (ns : List Int) {S : List (Int × Int)} (ok : OkS S) : ∃ cs : List Int, cs.length + 1 = S.length ∧ (mComp 1 [0] (mItA rng1R (mCons (mBin subE (mCallB lenE (mCons (mVar 1) mNil)) (mC (.int 1))) mNil)) (mgName 0) mYes (f_law_e4 K c)) [some (.p (.list (ns.map .int))), some (.o (.list (S.map frD))), none, none, none, none, none] = .ok (.f (.list (cs.map .int))) := by
 have h2 := ok.l
 have h6 := ok.m
 have ln : lenE [.b (.list (S.map frD))] = .ok (.p (.int (S.length : Nat))) := by simp [lenE, seqOf]
 obtain ⟨n, hn⟩ : ∃ n : Nat, n + 1 = S.length := ⟨S.length - 1, by omega⟩
 have e : ((S.length : Nat) : Int) - 1 = (n : Int) := by omega
 have hit : (mItA rng1R (mCons (mBin subE (mCallB lenE (mCons (mVar 1) mNil)) (mC (.int 1))) mNil)) [some (.p (.list (ns.map .int))), some (.o (.list (S.map frD))), none, none, none, none, none] = .ok ((cols n).map .int) := by
  rw [← rng_cols]
  exact ita1 (a := .int (n : Int)) (by simp only [mCallB, mCons, mNil, mBin, mVar, mC, List.getElem?_cons_zero, List.getElem?_cons_succ, List.set_cons_zero, List.set_cons_succ, List.length_cons, List.length_nil, List.length_map, List.length_append, if_true, if_false, ite_true, ite_false, decide_true, decide_false, Bool.false_eq_true, Nat.zero_add, Nat.reduceAdd, Nat.reduceEqDiff, Nat.reduceLeDiff, reduceIte, List.map_append, List.map_cons, List.map_nil, Res.bind, Ev.c, ln, intE0, e]) (rng1_lit n (by omega))
 have hm : mapO (compItem 1 [0] (mgName 0) mYes (f_law_e4 K c) [some (.p (.list (ns.map .int))), some (.o (.list (S.map frD))), none, none, none, none, none]) ((cols n).map .int) = some ((cols n).map fun k => .int (ns.getD (8 + k.toNat) 0)) := by
  refine mapO_map _ fun k hk => ?_
  have k0 := cols_mem.mp hk
  have hc := cell_ok K c ns (8 + k.toNat)
  rw [show ((8 + k.toNat : Nat) : Int) = 8 + k by omega] at hc
  have he : f_law_e4 K c [some (.p (.int k)), some (.p (.list (ns.map .int)))] = .ok (.p (.int (ns.getD (8 + k.toNat) 0))) := by
   simp only [f_law_e4, mCall, mCons, mNil, mBin, mVar, mC, addE, intE0, List.getElem?_cons_zero, List.getElem?_cons_succ, List.set_cons_zero, List.set_cons_succ, List.length_cons, List.length_nil, List.length_map, List.length_append, if_true, if_false, ite_true, ite_false, decide_true, decide_false, Bool.false_eq_true, Nat.zero_add, Nat.reduceAdd, Nat.reduceEqDiff, Nat.reduceLeDiff, reduceIte, List.map_append, List.map_cons, List.map_nil, Res.bind, Ev.c, callR, argsL, argL, hc, retE]
  unfold compItem
  simp only [mgName, capE, capO, mYes, List.getElem?_cons_zero, List.getElem?_cons_succ, List.set_cons_zero, List.set_cons_succ, List.length_cons, List.length_nil, List.length_map, List.length_append, if_true, if_false, ite_true, ite_false, decide_true, decide_false, Bool.false_eq_true, Nat.zero_add, Nat.reduceAdd, Nat.reduceEqDiff, Nat.reduceLeDiff, reduceIte, List.map_append, List.map_cons, List.map_nil, List.replicate, List.cons_append, List.nil_append, he, Ev.c]
 have hc := comp_l (n := 1) (js := [0]) hit (by rw [List.length_map, cols_len]; omega) hm
 refine ⟨(cols n).map fun k => ns.getD (8 + k.toNat) 0, by rw [List.length_map, cols_len]; exact hn, ?_⟩
 rw [List.map_map]
 exact hc
theorem law_ok (K : PySem.W.Frag) (c : Cls) (hk : KitF K c) (ns : List Int) (hn : ns.length ≤ 63) : m_law K c [.p (.list (ns.map .int))] = .ok (.p (.bool true)) := by
 have c14 : m__law_cell_at K c [.p (.list (ns.map .int)), .p (.int 14)] = _ := cell_ok K c ns 14
 generalize ns.getD 14 0 = v14 at c14
 obtain ⟨fx, gx, ex⟩ := number_ok K c v14 (k := 61) (by decide) (by decide)
 obtain ⟨fy, gy, ey⟩ := number_ok K c v14 (k := 67) (by decide) (by decide)
 have hf : PtN (fx, fy) := ⟨gx, gy⟩
 obtain ⟨S, ok, hS⟩ := drawn_ok K c ns
 obtain ⟨cs, hcs, hce⟩ := cells_ok K c ns ok
 have h6 := ok.m
 obtain ⟨ps, hp1, hp2, hps⟩ := points_ok K c cs (by omega)
 have hl : ps.length + 1 = S.length := by omega
 have pg : ∀ p ∈ ps, PtG p := fun p hp => (hp2 p hp).g
 have ok' := srt_ok ok
 have hl' : ps.length + 1 = (srt S).length := by rw [(srt_perm S).length_eq]; exact hl
 have rl : (roofOf (srt S) ps).length = S.length := by unfold roofOf; rw [List.length_map, (srt_perm S).length_eq]
 have rn : roofOf (srt S) ps ≠ [] := fun z => by rw [z] at rl; simp at rl; omega
 have rg := roof_good ok' hl' pg
 have th := thr_of ok' hl' pg
 have th1 := through_good K c ok hl pg
 have th2 := through_good K c (ps := ps.reverse) ok (by rw [List.length_reverse]; exact hl) (fun p hp => pg p (List.mem_reverse.mp hp))
 have pm : ∀ p ∈ ps.map (mvP (fx, fy)), PtG p := fun p hp => by
  obtain ⟨q, hq, rfl⟩ := List.mem_map.mp hp
  exact (hp2 q hq).mv hf
 have th3 := through_good K c (ps := ps.map (mvP (fx, fy))) ok (by rw [List.length_map]; exact hl) pm
 obtain ⟨G, g1, _, g3⟩ := ex_Gp (ps := (fx, fy) :: ps) (fun p hp => by
  rcases List.mem_cons.mp hp with z | z
  ·rw [z]; exact hf.g
  ·exact pg p z)
 have gp : ∀ p ∈ ps, Gp G p := fun p hp => g3 p (.tail _ hp)
 obtain ⟨rv1, rv2⟩ := thr_rev th (thr_of (ps := ps.reverse) ok' (by rw [List.length_reverse]; exact hl') (fun p hp => pg p (List.mem_reverse.mp hp))) g1 gp
 obtain ⟨mv1, mv2⟩ := thr_mv th (thr_of (ps := ps.map (mvP (fx, fy))) ok' (by rw [List.length_map]; exact hl') pm) g1 gp (g3 _ (.head _))
 have hmo := moved_ok K c hf rn (by omega) (fun q hq => ⟨(rg q hq).1, (rg q hq).2.1⟩)
 rw [← mv1] at hmo
 have xr : ∀ q ∈ roofOf (srt S) ps, ∀ p ∈ ps, Gx G (hgt q p) := fun q hq p hp => by
  obtain ⟨s, hs, rfl⟩ := List.mem_map.mp hq
  obtain ⟨a1, _, _⟩ := th.b g1 gp hs
  obtain ⟨b1, _, _⟩ := th.b g1 gp (head_in (0, 0) th.z)
  exact (hgt_wt (gp p hp) (a1.M b1).1 s.1 s.2).1
 have tops : ∀ p ∈ ps, ∃ fs : List D, 2 ≤ fs.length ∧ m__law_tops K c [.p (.list ((roofOf (srt S) ps).map plD)), .p (ptD p)] = .ok (.o (.list fs)) := fun p hp => by
  obtain ⟨k, hk', rfl⟩ := List.mem_iff_getElem.mp hp
  exact tops_ok K c g1 rn (by omega) (fun q hq => ⟨(pg _ hp).q (rg q hq).1 ((rg q hq).2.1.mono (by decide)), xr q hq _ hp⟩) (fun q hq => thr_top th g1 gp hk' hq)
 have isr := isr_ok K c (ps := roofOf (srt S) ps) (fun q hq => ⟨(rg q hq).2.2, (rg q hq).2.1.2.2.mono (by decide)⟩)
 have i0 : ixE (.p (thD (srt S) ps)) (.p (.int 0)) = .ok (.p (.list ((roofOf (srt S) ps).map plD))) := rfl
 have i1 : ixE (.p (thD (srt S) ps)) (.p (.int 1)) = .ok (.p (.list ((dblOf (srt S) ps).map frD))) := rfl
 show runF 7 (f_law K c) [.p (.list (ns.map .int))] = _
 refine run_rt ?_
 rw [show startE 7 [.p (.list (ns.map .int))] = [some (.p (.list (ns.map .int))), none, none, none, none, none, none] from rfl]
 unfold f_law
 have e0 : (mCall 1 (m__law_drawn_slopes K c) (mCons (mVar 0) mNil)) [some (.p (.list (ns.map .int))), none, none, none, none, none, none] = .ok (.f (.list (S.map frD))) := by
  simp only [mCall, mCons, mNil, mVar, List.getElem?_cons_zero, List.getElem?_cons_succ, List.set_cons_zero, List.set_cons_succ, List.length_cons, List.length_nil, List.length_map, List.length_append, if_true, if_false, ite_true, ite_false, decide_true, decide_false, Bool.false_eq_true, Nat.zero_add, Nat.reduceAdd, Nat.reduceEqDiff, Nat.reduceLeDiff, reduceIte, List.map_append, List.map_cons, List.map_nil, Res.bind, Ev.c, callR, argsL, argL, hS, retE]
 refine (seq_nx (set_f e0)).trans ?_
 simp only [List.set_cons_succ, List.set_cons_zero]
 have e1 : (mCall 1 (m__law_points K c) (mCons (mComp 1 [0] (mItA rng1R (mCons (mBin subE (mCallB lenE (mCons (mVar 1) mNil)) (mC (.int 1))) mNil)) (mgName 0) mYes (f_law_e4 K c)) mNil)) [some (.p (.list (ns.map .int))), some (.o (.list (S.map frD))), none, none, none, none, none] = .ok (.f (.list (ps.map ptD))) := by
  simp only [mCall, mCons, mNil, hce, List.getElem?_cons_zero, List.getElem?_cons_succ, List.set_cons_zero, List.set_cons_succ, List.length_cons, List.length_nil, List.length_map, List.length_append, if_true, if_false, ite_true, ite_false, decide_true, decide_false, Bool.false_eq_true, Nat.zero_add, Nat.reduceAdd, Nat.reduceEqDiff, Nat.reduceLeDiff, reduceIte, List.map_append, List.map_cons, List.map_nil, Res.bind, Ev.c, callR, argsL, argL, hps, retE]
 refine (seq_nx (set_f e1)).trans ?_
 simp only [List.set_cons_succ, List.set_cons_zero, frz, List.getElem?_cons_succ, List.getElem?_cons_zero]
 have l1 : listE [.p (.list (S.map frD))] = .ok (.f (.list (S.map frD))) := rfl
 have l2 : listE [.p (.list (ps.map ptD))] = .ok (.f (.list (ps.map ptD))) := rfl
 have e2 : (mCall 2 (m_through K c) (mCons (mCallB listE (mCons (mVar 1) mNil)) (mCons (mCallB listE (mCons (mVar 2) mNil)) mNil))) [some (.p (.list (ns.map .int))), some (.p (.list (S.map frD))), some (.p (.list (ps.map ptD))), none, none, none, none] = .ok (.p (thD (srt S) ps)) := by
  simp only [mCall, mCallB, mCons, mNil, mVar, List.getElem?_cons_zero, List.getElem?_cons_succ, List.set_cons_zero, List.set_cons_succ, List.length_cons, List.length_nil, List.length_map, List.length_append, if_true, if_false, ite_true, ite_false, decide_true, decide_false, Bool.false_eq_true, Nat.zero_add, Nat.reduceAdd, Nat.reduceEqDiff, Nat.reduceLeDiff, reduceIte, List.map_append, List.map_cons, List.map_nil, Res.bind, Ev.c, callR, argsL, argL, l1, l2, th1, retE]
 refine (seq_nx (set_p e2)).trans ?_
 simp only [List.set_cons_succ, List.set_cons_zero]
 have t3 : (mOr (mNot (mTru (mUn (isiE K (.type "tuple")) (mVar 3)))) (mOr (mTru (mBin (eqE true) (mCallB lenE (mCons (mVar 3) mNil)) (mC (.int 2)))) (mNot (mTru (mCall 1 (m__law_is_roof K c) (mCons (mBin ixE (mVar 3) (mC (.int 0))) mNil)))))) [some (.p (.list (ns.map .int))), some (.p (.list (S.map frD))), some (.p (.list (ps.map ptD))), some (.p (thD (srt S) ps)), none, none, none] = .ok false := by
  have ty : tyD (thD (srt S) ps) = "tuple" := rfl
  have ln : lenE [.p (thD (srt S) ps)] = .ok (.p (.int 2)) := rfl
  have l3 : eqE true (.p (.int 2)) (.p (.int 2)) = .ok (.p (.bool false)) := eqE_same rfl rfl (sh_int 2) true
  simp only [mOr, mNot, mTru, mBin, mUn, mVar, mC, mCall, mCallB, mCons, mNil, callR, argsL, argL, retE, List.getElem?_cons_zero, List.getElem?_cons_succ, List.set_cons_zero, List.set_cons_succ, List.length_cons, List.length_nil, List.length_map, List.length_append, if_true, if_false, ite_true, ite_false, decide_true, decide_false, Bool.false_eq_true, Nat.zero_add, Nat.reduceAdd, Nat.reduceEqDiff, Nat.reduceLeDiff, reduceIte, List.map_append, List.map_cons, List.map_nil, Res.bind, Ev.c, isiE, dat, ty, hk.tt, truthR, ln, l3, i0, isr, Bool.not_true]
 refine (seq_nx (if_f t3)).trans ?_
 have t4 : (mTru (mBin (eqE true) (mComp 1 [] (mItL (mBin ixE (mVar 3) (mC (.int 0)))) (mgName 0) mYes (f_law_e3 K c)) (mCallB sortedE (mCons (mVar 1) mNil)))) [some (.p (.list (ns.map .int))), some (.p (.list (S.map frD))), some (.p (.list (ps.map ptD))), some (.p (thD (srt S) ps)), none, none, none] = .ok false := by
  have hm : mapO (compItem 1 [] (mgName 0) mYes (f_law_e3 K c) [some (.p (.list (ns.map .int))), some (.p (.list (S.map frD))), some (.p (.list (ps.map ptD))), some (.p (thD (srt S) ps)), none, none, none]) ((roofOf (srt S) ps).map plD) = some ((roofOf (srt S) ps).map fun q => frD (q.1, q.2.1)) := by
   refine mapO_map _ fun q _ => ?_
   rfl
  have hc := comp_l (n := 1) (js := []) (fi := mItL (mBin ixE (mVar 3) (mC (.int 0)))) (tg := mgName 0) (ft := mYes) (fe := f_law_e3 K c) (en := [some (.p (.list (ns.map .int))), some (.p (.list (S.map frD))), some (.p (.list (ps.map ptD))), some (.p (thD (srt S) ps)), none, none, none]) (ds := (roofOf (srt S) ps).map plD) rfl (by rw [List.length_map, rl]; omega) hm
  have er : ((roofOf (srt S) ps).map fun q => frD (q.1, q.2.1)) = (srt S).map frD := by
   unfold roofOf
   rw [List.map_map]
   rfl
  rw [er] at hc
  have so := sorted_ok (S := S) (by omega) (e := .p (.list (S.map frD))) rfl
  have eq : eqE true (.p (.list ((srt S).map frD))) (.p (.list ((srt S).map frD))) = .ok (.p (.bool false)) := eqE_same rfl rfl (sh_list frD can_fr dep_fr _) true
  simp only [mTru, mBin, mCallB, mCons, mNil, mVar, List.getElem?_cons_zero, List.getElem?_cons_succ, List.set_cons_zero, List.set_cons_succ, List.length_cons, List.length_nil, List.length_map, List.length_append, if_true, if_false, ite_true, ite_false, decide_true, decide_false, Bool.false_eq_true, Nat.zero_add, Nat.reduceAdd, Nat.reduceEqDiff, Nat.reduceLeDiff, reduceIte, List.map_append, List.map_cons, List.map_nil, Res.bind, Ev.c, hc, so, eq, truthR]
 refine (seq_nx (if_f t4)).trans ?_
 obtain ⟨q4, hlp⟩ := tp_all K c (some (.p (.list (ns.map .int)))) (some (.p (.list (S.map frD)))) (some (.p (.list (ps.map ptD)))) none none i0 ps none tops
 refine (seq_nx ((for_l (ds := ps.map ptD) rfl).trans hlp)).trans ?_
 have t6 : (mTru (mBin (eqE true) (mCall 2 (m_through K c) (mCons (mCallB listE (mCons (mVar 1) mNil)) (mCons (mUn revE (mVar 2)) mNil))) (mVar 3))) [some (.p (.list (ns.map .int))), some (.p (.list (S.map frD))), some (.p (.list (ps.map ptD))), some (.p (thD (srt S) ps)), q4, none, none] = .ok false := by
  have rv : revE (.p (.list (ps.map ptD))) = .ok (.f (.list (ps.reverse.map ptD))) := by
   unfold revE
   simp only [lstOf]
   rw [List.map_reverse]
  have et : thD (srt S) ps.reverse = thD (srt S) ps := by
   unfold thD
   rw [rv1, rv2]
  rw [et] at th2
  have eq : eqE true (.p (thD (srt S) ps)) (.p (thD (srt S) ps)) = .ok (.p (.bool false)) := eqE_same rfl rfl (sh_th _ _) true
  simp only [mTru, mBin, mUn, mCall, mCallB, mCons, mNil, mVar, callR, argsL, argL, retE, List.getElem?_cons_zero, List.getElem?_cons_succ, List.set_cons_zero, List.set_cons_succ, List.length_cons, List.length_nil, List.length_map, List.length_append, if_true, if_false, ite_true, ite_false, decide_true, decide_false, Bool.false_eq_true, Nat.zero_add, Nat.reduceAdd, Nat.reduceEqDiff, Nat.reduceLeDiff, reduceIte, List.map_append, List.map_cons, List.map_nil, Res.bind, Ev.c, l1, rv, th2, eq, truthR]
 refine (seq_nx (if_f t6)).trans ?_
 have e7 : (mCallB tupR' (mCons (mCall 2 (m__law_number K c) (mCons (mCall 2 (m__law_cell_at K c) (mCons (mVar 0) (mCons (mC (.int 14)) mNil))) (mCons (mC (.int 61)) mNil))) (mCons (mCall 2 (m__law_number K c) (mCons (mCall 2 (m__law_cell_at K c) (mCons (mVar 0) (mCons (mC (.int 14)) mNil))) (mCons (mC (.int 67)) mNil))) mNil))) [some (.p (.list (ns.map .int))), some (.p (.list (S.map frD))), some (.p (.list (ps.map ptD))), some (.p (thD (srt S) ps)), q4, none, none] = .ok (.p (ptD (fx, fy))) := by
  simp only [mCallB, tupR', pureL, mCall, mCons, mNil, mVar, mC, callR, argsL, argL, retE, List.getElem?_cons_zero, List.getElem?_cons_succ, List.set_cons_zero, List.set_cons_succ, List.length_cons, List.length_nil, List.length_map, List.length_append, if_true, if_false, ite_true, ite_false, decide_true, decide_false, Bool.false_eq_true, Nat.zero_add, Nat.reduceAdd, Nat.reduceEqDiff, Nat.reduceLeDiff, reduceIte, List.map_append, List.map_cons, List.map_nil, Res.bind, Ev.c, c14, ex, ey]
  rfl
 refine (seq_nx (set_p e7)).trans ?_
 simp only [List.set_cons_succ, List.set_cons_zero]
 have hm8 : mapO (compItem 1 [5] (mgName 0) mYes (f_law_e1 K c) [some (.p (.list (ns.map .int))), some (.p (.list (S.map frD))), some (.p (.list (ps.map ptD))), some (.p (thD (srt S) ps)), q4, some (.p (ptD (fx, fy))), none]) (ps.map ptD) = some (ps.map fun p => ptD (mvP (fx, fy) p)) := by
  refine mapO_map _ fun p hp => ?_
  have a := lsum_ok K c (hp2 p hp).x.good gx.good (by decide) (by decide)
  have b := lsum_ok K c (hp2 p hp).y.good gy.good (by decide) (by decide)
  have j0 : ∀ p : Pt, ixE (.p (ptD p)) (.p (.int 0)) = .ok (.p (frD p.1)) := fun _ => rfl
  have j1 : ∀ p : Pt, ixE (.p (ptD p)) (.p (.int 1)) = .ok (.p (frD p.2)) := fun _ => rfl
  have he : f_law_e1 K c [some (.p (ptD p)), some (.p (ptD (fx, fy)))] = .ok (.p (ptD (mvP (fx, fy) p))) := by
   simp only [f_law_e1, mCallB, tupR', pureL, mCall, mCons, mNil, mBin, mVar, mC, callR, argsL, argL, retE, List.getElem?_cons_zero, List.getElem?_cons_succ, List.set_cons_zero, List.set_cons_succ, List.length_cons, List.length_nil, List.length_map, List.length_append, if_true, if_false, ite_true, ite_false, decide_true, decide_false, Bool.false_eq_true, Nat.zero_add, Nat.reduceAdd, Nat.reduceEqDiff, Nat.reduceLeDiff, reduceIte, List.map_append, List.map_cons, List.map_nil, Res.bind, Ev.c, j0, j1, a, b]
   rfl
  unfold compItem
  simp only [mgName, capE, capO, mYes, List.getElem?_cons_zero, List.getElem?_cons_succ, List.set_cons_zero, List.set_cons_succ, List.length_cons, List.length_nil, List.length_map, List.length_append, if_true, if_false, ite_true, ite_false, decide_true, decide_false, Bool.false_eq_true, Nat.zero_add, Nat.reduceAdd, Nat.reduceEqDiff, Nat.reduceLeDiff, reduceIte, List.map_append, List.map_cons, List.map_nil, List.replicate, List.cons_append, List.nil_append, he, Ev.c]
 have hc8 := comp_l (n := 1) (js := [5]) (fi := mItL (mVar 2)) (tg := mgName 0) (ft := mYes) (fe := f_law_e1 K c) (en := [some (.p (.list (ns.map .int))), some (.p (.list (S.map frD))), some (.p (.list (ps.map ptD))), some (.p (thD (srt S) ps)), q4, some (.p (ptD (fx, fy))), none]) (ds := ps.map ptD) rfl (by rw [List.length_map]; omega) hm8
 rw [show (ps.map fun p => ptD (mvP (fx, fy) p)) = (ps.map (mvP (fx, fy))).map ptD by rw [List.map_map]; rfl] at hc8
 refine (seq_nx (set_f hc8)).trans ?_
 simp only [List.set_cons_succ, List.set_cons_zero, frz, List.getElem?_cons_succ, List.getElem?_cons_zero]
 refine ret_p ?_
 have eq : eqE false (.p (thD (srt S) (ps.map (mvP (fx, fy))))) (.p (.tuple [.list ((roofOf (srt S) (ps.map (mvP (fx, fy)))).map plD), .list ((dblOf (srt S) ps).map frD)])) = .ok (.p (.bool true)) := by
  rw [← mv2]
  exact eqE_same rfl rfl (sh_th _ _) false
 simp only [mBin, mCall, mCallB, tupR', pureL, mCons, mNil, mVar, mC, callR, argsL, argL, retE, List.getElem?_cons_zero, List.getElem?_cons_succ, List.set_cons_zero, List.set_cons_succ, List.length_cons, List.length_nil, List.length_map, List.length_append, if_true, if_false, ite_true, ite_false, decide_true, decide_false, Bool.false_eq_true, Nat.zero_add, Nat.reduceAdd, Nat.reduceEqDiff, Nat.reduceLeDiff, reduceIte, List.map_append, List.map_cons, List.map_nil, Res.bind, Ev.c, l1, th3, i0, i1, hmo, eq]
section
variable {P : Program} {w : World} {K : PySem.W.Frag} {mg : Str → Option Value} {base : Heap}
theorem sc_law : FnScope ["_law_script", "_law_slopes_here", "_law_points_here", "_law_found", "_law_point", "_law_far", "_law_shifted"] ["_law_script"] (defScope s_law) := ⟨rfl, rfl, rfl, by decide +kernel, rfl, by decide +kernel, by decide +kernel⟩
theorem ok_law {c : Cls} {f : Addr} {fd : FuncData} (F : Fun K "law" "law" s_law f fd) (B : Blt mg) (C : ClsM mg c) (O : ClsO mg base c) (hk : KitF K c) (c_through : Cal P w K mg base 6 "through" 2 (m_through K c)) (c__law_moved : Cal P w K mg base 3 "_law_moved" 2 (m__law_moved K c)) (c__law_sum : Cal P w K mg base 2 "_law_sum" 2 (m__law_sum K c)) (c__law_number : Cal P w K mg base 2 "_law_number" 2 (m__law_number K c)) (c__law_cell_at : Cal P w K mg base 1 "_law_cell_at" 2 (m__law_cell_at K c)) (c__law_tops : Cal P w K mg base 4 "_law_tops" 2 (m__law_tops K c)) (c__law_is_roof : Cal P w K mg base 3 "_law_is_roof" 1 (m__law_is_roof K c)) (c__law_points : Cal P w K mg base 3 "_law_points" 1 (m__law_points K c)) (c__law_drawn_slopes : Cal P w K mg base 3 "_law_drawn_slopes" 1 (m__law_drawn_slopes K c)) : FnOk P w K mg base (CXr P w) 7 f fd ["_law_script"] (spM K 1 (m_law K c)) := by
 refine fnM (k := 6) F sc_law rfl (fun cdv A outer s H E hr => ⟨f_law K c, ?_, eq_law K c⟩)
 exact (dss_cons (ds_set (i := 1) sc_law.nd rfl (Or.inl rfl) (de_callC c__law_drawn_slopes hr passS (da_cons (dv 0) da_nil))) (dss_cons (ds_set (i := 2) sc_law.nd rfl (Or.inl rfl) (de_callC c__law_points hr passS (da_cons (de_comp (xs := ["_law_k"]) (ys := ["_law_script"]) (js := [0]) (cl := [("_law_script", s.heap.objs.size + 1)]) rfl (di_range1 rfl B.range_ (da_cons (de_op op_sub om_sub noX_intE0 (de_callB call_len_seq cm_len noX_len rfl B.len_ PySem.boot_len (da_cons (dv 1) da_nil)) de_int) da_nil)) (cl_ok (ys := ["_law_script"]) (js := [0]) rfl (List.forall_mem_cons.mpr ⟨rfl, (fun _ h => nomatch h)⟩) (cap_cons ⟨rfl, .inl rfl, .inl rfl, rfl, rfl⟩ cap_nil) (by decide +kernel) (by decide +kernel)) (cap_cons ⟨rfl, .inl rfl, .inl rfl, rfl, rfl⟩ cap_nil) (by decide +kernel) rfl (by decide +kernel) rfl (by decide) (fun C s₀ H₀ ex pn => (dg_name (i := 0) (show (["_law_k", "_law_script"] : List Str).Nodup by decide +kernel) rfl (Or.inl rfl))) (fun C s₀ H₀ ex pn => dts_nil) (fun C s₀ H₀ ex pn => (de_callC c__law_cell_at hr passF (da_cons (dv 1) (da_cons (de_op op_addA om_add noX_add de_int (dv 0)) da_nil))))) da_nil))) (dss_frz (f := (fun en => (mSeq (mSet 3 (mCall 2 (m_through K c) (mCons (mCallB listE (mCons (mVar 1) mNil)) (mCons (mCallB listE (mCons (mVar 2) mNil)) mNil)))) (mSeq (mIfS (mOr (mNot (mTru (mUn (isiE K (.type "tuple")) (mVar 3)))) (mOr (mTru (mBin (eqE true) (mCallB lenE (mCons (mVar 3) mNil)) (mC (.int 2)))) (mNot (mTru (mCall 1 (m__law_is_roof K c) (mCons (mBin ixE (mVar 3) (mC (.int 0))) mNil)))))) (mRet (mC (.bool false))) mNext) (mSeq (mIfS (mTru (mBin (eqE true) (mComp 1 [] (mItL (mBin ixE (mVar 3) (mC (.int 0)))) (mgName 0) mYes (f_law_e3 K c)) (mCallB sortedE (mCons (mVar 1) mNil)))) (mRet (mC (.bool false))) mNext) (mSeq (mFor (mItL (mVar 2)) (mgName 4) (f_law_b2 K c)) (mSeq (mIfS (mTru (mBin (eqE true) (mCall 2 (m_through K c) (mCons (mCallB listE (mCons (mVar 1) mNil)) (mCons (mUn revE (mVar 2)) mNil))) (mVar 3))) (mRet (mC (.bool false))) mNext) (mSeq (mSet 5 (mCallB tupR' (mCons (mCall 2 (m__law_number K c) (mCons (mCall 2 (m__law_cell_at K c) (mCons (mVar 0) (mCons (mC (.int 14)) mNil))) (mCons (mC (.int 61)) mNil))) (mCons (mCall 2 (m__law_number K c) (mCons (mCall 2 (m__law_cell_at K c) (mCons (mVar 0) (mCons (mC (.int 14)) mNil))) (mCons (mC (.int 67)) mNil))) mNil)))) (mSeq (mSet 6 (mComp 1 [5] (mItL (mVar 2)) (mgName 0) mYes (f_law_e1 K c))) (fun en => (mRet (mBin (eqE false) (mCall 2 (m_through K c) (mCons (mCallB listE (mCons (mVar 1) mNil)) (mCons (mVar 6) mNil))) (mCallB tupR' (mCons (mCall 2 (m__law_moved K c) (mCons (mBin ixE (mVar 3) (mC (.int 0))) (mCons (mVar 5) mNil))) (mCons (mBin ixE (mVar 3) (mC (.int 1))) mNil))))) (frz 6 en))))))))) (frz 1 en))) 2 (dss_frz (f := (mSeq (mSet 3 (mCall 2 (m_through K c) (mCons (mCallB listE (mCons (mVar 1) mNil)) (mCons (mCallB listE (mCons (mVar 2) mNil)) mNil)))) (mSeq (mIfS (mOr (mNot (mTru (mUn (isiE K (.type "tuple")) (mVar 3)))) (mOr (mTru (mBin (eqE true) (mCallB lenE (mCons (mVar 3) mNil)) (mC (.int 2)))) (mNot (mTru (mCall 1 (m__law_is_roof K c) (mCons (mBin ixE (mVar 3) (mC (.int 0))) mNil)))))) (mRet (mC (.bool false))) mNext) (mSeq (mIfS (mTru (mBin (eqE true) (mComp 1 [] (mItL (mBin ixE (mVar 3) (mC (.int 0)))) (mgName 0) mYes (f_law_e3 K c)) (mCallB sortedE (mCons (mVar 1) mNil)))) (mRet (mC (.bool false))) mNext) (mSeq (mFor (mItL (mVar 2)) (mgName 4) (f_law_b2 K c)) (mSeq (mIfS (mTru (mBin (eqE true) (mCall 2 (m_through K c) (mCons (mCallB listE (mCons (mVar 1) mNil)) (mCons (mUn revE (mVar 2)) mNil))) (mVar 3))) (mRet (mC (.bool false))) mNext) (mSeq (mSet 5 (mCallB tupR' (mCons (mCall 2 (m__law_number K c) (mCons (mCall 2 (m__law_cell_at K c) (mCons (mVar 0) (mCons (mC (.int 14)) mNil))) (mCons (mC (.int 61)) mNil))) (mCons (mCall 2 (m__law_number K c) (mCons (mCall 2 (m__law_cell_at K c) (mCons (mVar 0) (mCons (mC (.int 14)) mNil))) (mCons (mC (.int 67)) mNil))) mNil)))) (mSeq (mSet 6 (mComp 1 [5] (mItL (mVar 2)) (mgName 0) mYes (f_law_e1 K c))) (fun en => (mRet (mBin (eqE false) (mCall 2 (m_through K c) (mCons (mCallB listE (mCons (mVar 1) mNil)) (mCons (mVar 6) mNil))) (mCallB tupR' (mCons (mCall 2 (m__law_moved K c) (mCons (mBin ixE (mVar 3) (mC (.int 0))) (mCons (mVar 5) mNil))) (mCons (mBin ixE (mVar 3) (mC (.int 1))) mNil))))) (frz 6 en)))))))))) 1 (dss_cons (ds_set (i := 3) sc_law.nd rfl (Or.inl rfl) (de_callC c_through hr passS (da_cons (de_callTy call_list_of cm_list noX_list rfl B.list_ bT_list (da_cons (dv 1) da_nil)) (da_cons (de_callTy call_list_of cm_list noX_list rfl B.list_ bT_list (da_cons (dv 2) da_nil)) da_nil)))) (dss_cons (ds_if (DW.t (dw_or (dt_not (dt_val (de_isi (cv := .type "tuple") rfl B.isinstance_ (.inl ⟨_, rfl⟩) rfl (dv 3) (pe_bltn (v := .ty "tuple") rfl B.tuple_ bT_tuple rfl)))) (dw_or (dt_cmp (op_neP (u64 hr)) om_eq noX_eq (de_callB call_len_seq cm_len noX_len rfl B.len_ PySem.boot_len (da_cons (dv 3) da_nil)) de_int (nomark _)) (dw_or1 (dt_not (dt_val (de_callC c__law_is_roof hr passS (da_cons (de_ix (dv 3) de_int (fun _ _ => rfl)) da_nil)))))))) (dss_one (ds_ret de_bl)) dss_nil) (dss_cons (ds_if (dt_cmp (op_neP (u64 hr)) om_eq noX_eq (de_comp (xs := ["_law_plane"]) (ys := []) (js := []) (cl := []) rfl (di_list (de_ix (dv 3) de_int (fun _ _ => rfl))) (cl_ok (ys := []) (js := []) rfl (fun _ h => nomatch h) cap_nil (by decide +kernel) (by decide +kernel)) cap_nil (by decide +kernel) rfl (by decide +kernel) rfl (by decide) (fun C s₀ H₀ ex pn => (dg_name (i := 0) (show (["_law_plane"] : List Str).Nodup by decide +kernel) rfl (Or.inl rfl))) (fun C s₀ H₀ ex pn => dts_nil) (fun C s₀ H₀ ex pn => (de_tup (da_cons (de_ix (dv 0) de_int (fun _ _ => rfl)) (da_cons (de_ix (dv 0) de_int (fun _ _ => rfl)) da_nil))))) (de_callB (SRT.call_sortL rfl) cm_sorted noX_sorted rfl B.sorted_ bB_sorted (da_cons (dv 1) da_nil)) (nomark _)) (dss_one (ds_ret de_bl)) dss_nil) (dss_cons (ds_for PassesOwn.leaving rfl (di_list (dv 2)) (dg_name (i := 4) sc_law.nd rfl (Or.inl rfl)) (dss_one (ds_if (dt_cmp op_lt om_cmp noX_intE0 (de_callB call_len_seq cm_len noX_len rfl B.len_ PySem.boot_len (da_cons (de_callC c__law_tops hr passS (da_cons (de_ix (dv 3) de_int (fun _ _ => rfl)) (da_cons (dv 4) da_nil))) da_nil)) de_int (nomark _)) (dss_one (ds_ret de_bl)) dss_nil))) (dss_cons (ds_if (dt_cmp (op_neP (u64 hr)) om_eq noX_eq (de_callC c_through hr passS (da_cons (de_callTy call_list_of cm_list noX_list rfl B.list_ bT_list (da_cons (dv 1) da_nil)) (da_cons (de_listrev rfl rfl B.list_ rfl B.reversed_ (dv 2)) da_nil))) (dv 3) (nomark _)) (dss_one (ds_ret de_bl)) dss_nil) (dss_cons (ds_set (i := 5) sc_law.nd rfl (Or.inr rfl) (de_tup (da_cons (de_callC c__law_number hr passS (da_cons (de_callC c__law_cell_at hr passS (da_cons (dv 0) (da_cons de_int da_nil))) (da_cons de_int da_nil))) (da_cons (de_callC c__law_number hr passS (da_cons (de_callC c__law_cell_at hr passS (da_cons (dv 0) (da_cons de_int da_nil))) (da_cons de_int da_nil))) da_nil)))) (dss_cons (ds_setC (i := 6) sc_law.nd rfl (Or.inl rfl) (xs := ["_law_point"]) (ys := ["_law_far"]) (js := [5]) (cl := [("_law_far", s.heap.objs.size + 1 + 1)]) rfl (di_list (dv 2)) (cl_ok (ys := ["_law_far"]) (js := [5]) rfl (List.forall_mem_cons.mpr ⟨rfl, (fun _ h => nomatch h)⟩) (cap_cons ⟨rfl, .inl rfl, .inl rfl, rfl, rfl⟩ cap_nil) (by decide +kernel) (by decide +kernel)) (cap_cons ⟨rfl, .inl rfl, .inl rfl, rfl, rfl⟩ cap_nil) (by decide +kernel) rfl (by decide +kernel) rfl (by decide) (fun C s₀ H₀ ex pn => (dg_name (i := 0) (show (["_law_point", "_law_far"] : List Str).Nodup by decide +kernel) rfl (Or.inl rfl))) (fun C s₀ H₀ ex pn => dts_nil) (fun C s₀ H₀ ex pn => (de_tup (da_cons (de_callC c__law_sum hr passF (da_cons (de_ix (dv 0) de_int (fun _ _ => rfl)) (da_cons (de_ix (dv 1) de_int (fun _ _ => rfl)) da_nil))) (da_cons (de_callC c__law_sum hr passF (da_cons (de_ix (dv 0) de_int (fun _ _ => rfl)) (da_cons (de_ix (dv 1) de_int (fun _ _ => rfl)) da_nil))) da_nil))))) (dss_frz 6 (dss_one (ds_ret (de_cmp (op_eqP (u64 hr)) om_eq noX_eq (de_callC c_through hr passS (da_cons (de_callTy call_list_of cm_list noX_list rfl B.list_ bT_list (da_cons (dv 1) da_nil)) (da_cons (dv 6) da_nil))) (de_tup (da_cons (de_callC c__law_moved hr passS (da_cons (de_ix (dv 3) de_int (fun _ _ => rfl)) (da_cons (dv 5) da_nil))) (da_cons (de_ix (dv 3) de_int (fun _ _ => rfl)) da_nil))) (nomark _))))))))))))))))
end
section
variable {P : Program} {w : World} {K : PySem.W.Frag} {mg : Str → Option Value} {base : Heap}
theorem sc_fraction : FnScope ["top", "bottom", "divisor"] ["top", "bottom"] (defScope s_fraction) := ⟨rfl, rfl, rfl, by decide +kernel, rfl, by decide +kernel, by decide +kernel⟩
theorem ok_fraction {c : Cls} (Df : Def K mg "fraction" ["top", "bottom"] s_fraction) (B : Blt mg) (C : ClsM mg c) (O : ClsO mg base c) (hk : KitF K c) (c_greatest_divisor : Cal P w K mg base 1 "greatest_divisor" 2 (m_greatest_divisor K c)) : Cal P w K mg base 2 "fraction" 2 (m_fraction K c) := by
 refine calM (k := 1) Df sc_fraction rfl (fun f cdv A outer s H E hr => ⟨f_fraction K c, ?_, eq_fraction K c⟩)
 exact (dss_cons (ds_if (dt_cmp (op_eqP (u64 hr)) om_eq noX_eq (dv 1) de_int (nomark _)) (dss_one (ds_raise raisesR rfl rfl O.NoFraction PySem.F.excBase_ValueError (da_cons de_str da_nil))) dss_nil) (dss_cons (ds_set (i := 2) sc_fraction.nd rfl (Or.inl rfl) (de_callC c_greatest_divisor hr passS (da_cons (dv 0) (da_cons (dv 1) da_nil)))) (dss_cons (ds_if (dt_cmp op_lt om_cmp noX_intE0 (dv 1) de_int (nomark _)) (dss_one (ds_set (i := 2) sc_fraction.nd rfl (Or.inl rfl) (de_neg (dv 2)))) dss_nil) (dss_one (ds_ret (de_tup (da_cons (de_op op_fdivW om_fdiv noX_intE (dv 0) (dv 2)) (da_cons (de_op op_fdivW om_fdiv noX_intE (dv 1) (dv 2)) da_nil))))))))
theorem sc_whole_rows : FnScope ["table", "factor", "rows", "row"] ["table", "factor"] (defScope s_whole_rows) := ⟨rfl, rfl, rfl, by decide +kernel, rfl, by decide +kernel, by decide +kernel⟩
theorem ok_whole_rows {c : Cls} (Df : Def K mg "whole_rows" ["table", "factor"] s_whole_rows) (B : Blt mg) (C : ClsM mg c) (O : ClsO mg base c) (hk : KitF K c) (c_whole : Cal P w K mg base 1 "whole" 2 (m_whole K c)) : Cal P w K mg base 2 "whole_rows" 2 (m_whole_rows K c) := by
 refine calM (k := 1) Df sc_whole_rows rfl (fun f cdv A outer s H E hr => ⟨f_whole_rows K c, ?_, eq_whole_rows K c⟩)
 exact (dss_cons (ds_set (i := 2) sc_whole_rows.nd rfl (Or.inl rfl) (de_lst da_nil)) (dss_cons (ds_for PassesOwn.leaving rfl (di_list (dv 0)) (dg_name (i := 3) sc_whole_rows.nd rfl (Or.inl rfl)) (dss_one (ds_append (i := 2) (de_comp (xs := ["number"]) (ys := ["factor"]) (js := [1]) (cl := [("factor", s.heap.objs.size + 1)]) rfl (di_list (dv 3)) (cl_ok (ys := ["factor"]) (js := [1]) rfl (List.forall_mem_cons.mpr ⟨rfl, (fun _ h => nomatch h)⟩) (cap_cons ⟨rfl, .inl rfl, .inl rfl, rfl, rfl⟩ cap_nil) (by decide +kernel) (by decide +kernel)) (cap_cons ⟨rfl, .inl rfl, .inl rfl, rfl, rfl⟩ cap_nil) (by decide +kernel) rfl (by decide +kernel) rfl (by decide) (fun C s₀ H₀ ex pn => (dg_name (i := 0) (show (["number", "factor"] : List Str).Nodup by decide +kernel) rfl (Or.inl rfl))) (fun C s₀ H₀ ex pn => dts_nil) (fun C s₀ H₀ ex pn => (de_callC c_whole hr passF (da_cons (dv 0) (da_cons (dv 1) da_nil))))) (fun t q => ps_expr (pe_bm PySem.F.plainAttrs_list PySem.F.slot_list_append PySem.F.type_list_append mt_append (pv 2) (pa_cons q pa_nil)))))) (dss_one (ds_ret (dv 2)))))
theorem sc_through : FnScope ["slopes", "points", "in_order", "told", "least", "roof"] ["slopes", "points"] (defScope s_through) := ⟨rfl, rfl, rfl, by decide +kernel, rfl, by decide +kernel, by decide +kernel⟩
theorem ok_through {c : Cls} (Df : Def K mg "through" ["slopes", "points"] s_through) (B : Blt mg) (C : ClsM mg c) (O : ClsO mg base c) (hk : KitF K c) (c_minus : Cal P w K mg base 3 "minus" 2 (m_minus K c)) (c_best : Cal P w K mg base 3 "best" 1 (m_best K c)) (c_table_without : Cal P w K mg base 5 "table_without" 3 (m_table_without K c)) (c_check_numbers : Cal P w K mg base 1 "check_numbers" 2 (m_check_numbers K c)) : Cal P w K mg base 6 "through" 2 (m_through K c) := by
 refine calM (k := 5) Df sc_through rfl (fun f cdv A outer s H E hr => ⟨f_through K c, ?_, eq_through K c⟩)
 exact (dss_cons (ds_expr (de_callC c_check_numbers hr passS (da_cons (dv 0) (da_cons (dv 1) da_nil)))) (dss_cons (ds_set (i := 2) sc_through.nd rfl (Or.inr rfl) (de_callB (SRT.call_sortL rfl) cm_sorted noX_sorted rfl B.sorted_ bB_sorted (da_cons (dv 0) da_nil))) (dss_frz 2 (dss_cons (ds_setC (i := 3) sc_through.nd rfl (Or.inl rfl) (xs := ["slope"]) (ys := ["in_order", "points"]) (js := [2, 1]) (cl := [("points", s.heap.objs.size + 1), ("in_order", s.heap.objs.size + 1 + 1)]) rfl (di_list (dv 2)) (cl_ok (ys := ["in_order", "points"]) (js := [2, 1]) rfl (List.forall_mem_cons.mpr ⟨rfl, (List.forall_mem_cons.mpr ⟨rfl, (fun _ h => nomatch h)⟩)⟩) (cap_cons ⟨rfl, .inl rfl, .inl rfl, rfl, rfl⟩ (cap_cons ⟨rfl, .inl rfl, .inl rfl, rfl, rfl⟩ cap_nil)) (by decide +kernel) (by decide +kernel)) (cap_cons ⟨rfl, .inl rfl, .inl rfl, rfl, rfl⟩ (cap_cons ⟨rfl, .inl rfl, .inl rfl, rfl, rfl⟩ cap_nil)) (by decide +kernel) rfl (by decide +kernel) rfl (by decide) (fun C s₀ H₀ ex pn => (dg_name (i := 0) (show (["slope", "in_order", "points"] : List Str).Nodup by decide +kernel) rfl (Or.inl rfl))) (fun C s₀ H₀ ex pn => dts_nil) (fun C s₀ H₀ ex pn => (de_callC c_best hr passF (da_cons (de_callC c_table_without hr passF (da_cons (dv 0) (da_cons (dv 1) (da_cons (dv 2) da_nil)))) da_nil)))) (dss_frz 3 (dss_cons (ds_set (i := 4) sc_through.nd rfl (Or.inr rfl) (de_ix (de_ix (dv 3) de_int (fun _ _ => rfl)) de_int (fun _ _ => rfl))) (dss_cons (ds_setC (i := 5) sc_through.nd rfl (Or.inl rfl) (xs := ["slope", "row"]) (ys := ["least"]) (js := [4]) (cl := [("least", s.heap.objs.size + 1 + 1 + 1)]) rfl (di_zip rfl B.zip_ (da_cons (dv 2) (da_cons (dv 3) da_nil))) (cl_ok (ys := ["least"]) (js := [4]) rfl (List.forall_mem_cons.mpr ⟨rfl, (fun _ h => nomatch h)⟩) (cap_cons ⟨rfl, .inl rfl, .inl rfl, rfl, rfl⟩ cap_nil) (by decide +kernel) (by decide +kernel)) (cap_cons ⟨rfl, .inl rfl, .inl rfl, rfl, rfl⟩ cap_nil) (by decide +kernel) rfl (by decide +kernel) rfl (by decide) (fun C s₀ H₀ ex pn => (dg_tup (n := 2) rfl (dgs_cons (dg_name (i := 0) (show (["slope", "row", "least"] : List Str).Nodup by decide +kernel) rfl (Or.inl rfl)) (dgs_cons (dg_name (i := 1) (show (["slope", "row", "least"] : List Str).Nodup by decide +kernel) rfl (Or.inl rfl)) dgs_nil)))) (fun C s₀ H₀ ex pn => dts_nil) (fun C s₀ H₀ ex pn => (de_tup (da_cons (de_ix (dv 0) de_int (fun _ _ => rfl)) (da_cons (de_ix (dv 0) de_int (fun _ _ => rfl)) (da_cons (de_callC c_minus hr passF (da_cons (de_ix (dv 1) de_int (fun _ _ => rfl)) (da_cons (dv 2) da_nil))) da_nil)))))) (dss_frz 5 (dss_one (ds_ret (de_tup (da_cons (dv 5) (da_cons (de_comp (xs := ["slope", "row"]) (ys := []) (js := []) (cl := []) rfl (di_zip rfl B.zip_ (da_cons (dv 2) (da_cons (dv 3) da_nil))) (cl_ok (ys := []) (js := []) rfl (fun _ h => nomatch h) cap_nil (by decide +kernel) (by decide +kernel)) cap_nil (by decide +kernel) rfl (by decide +kernel) rfl (by decide) (fun C s₀ H₀ ex pn => (dg_tup (n := 2) rfl (dgs_cons (dg_name (i := 0) (show (["slope", "row"] : List Str).Nodup by decide +kernel) rfl (Or.inl rfl)) (dgs_cons (dg_name (i := 1) (show (["slope", "row"] : List Str).Nodup by decide +kernel) rfl (Or.inl rfl)) dgs_nil)))) (fun C s₀ H₀ ex pn => (dts_one (dt_cmp op_gt om_cmp noX_intE0 (de_ix (dv 1) de_int (fun _ _ => rfl)) de_int (nomark _)))) (fun C s₀ H₀ ex pn => (dv 0))) da_nil)))))))))))))
theorem sc__law_product : FnScope ["_law_a", "_law_b"] ["_law_a", "_law_b"] (defScope s__law_product) := ⟨rfl, rfl, rfl, by decide +kernel, rfl, by decide +kernel, by decide +kernel⟩
theorem ok__law_product {c : Cls} (Df : Def K mg "_law_product" ["_law_a", "_law_b"] s__law_product) (B : Blt mg) (C : ClsM mg c) (O : ClsO mg base c) (hk : KitF K c) (c__law_lowest : Cal P w K mg base 1 "_law_lowest" 2 (m__law_lowest K c)) : Cal P w K mg base 2 "_law_product" 2 (m__law_product K c) := by
 refine calM (k := 1) Df sc__law_product rfl (fun f cdv A outer s H E hr => ⟨f__law_product K c, ?_, eq__law_product K c⟩)
 exact (dss_one (ds_ret (de_callC c__law_lowest hr passS (da_cons (de_op op_mulW om_mul noX_intE (de_ix (dv 0) de_int (fun _ _ => rfl)) (de_ix (dv 1) de_int (fun _ _ => rfl))) (da_cons (de_op op_mulW om_mul noX_intE (de_ix (dv 0) de_int (fun _ _ => rfl)) (de_ix (dv 1) de_int (fun _ _ => rfl))) da_nil)))))
end
section
variable {P : Program} {w : World} {K : PySem.W.Frag} {mg : Str → Option Value} {base : Heap}
theorem sc_times : FnScope ["a", "b"] ["a", "b"] (defScope s_times) := ⟨rfl, rfl, rfl, by decide +kernel, rfl, by decide +kernel, by decide +kernel⟩
theorem ok_times {c : Cls} (Df : Def K mg "times" ["a", "b"] s_times) (B : Blt mg) (C : ClsM mg c) (O : ClsO mg base c) (hk : KitF K c) (c_fraction : Cal P w K mg base 2 "fraction" 2 (m_fraction K c)) : Cal P w K mg base 3 "times" 2 (m_times K c) := by
 refine calM (k := 2) Df sc_times rfl (fun f cdv A outer s H E hr => ⟨f_times K c, ?_, eq_times K c⟩)
 exact (dss_one (ds_ret (de_callC c_fraction hr passS (da_cons (de_op op_mulW om_mul noX_intE (de_ix (dv 0) de_int (fun _ _ => rfl)) (de_ix (dv 1) de_int (fun _ _ => rfl))) (da_cons (de_op op_mulW om_mul noX_intE (de_ix (dv 0) de_int (fun _ _ => rfl)) (de_ix (dv 1) de_int (fun _ _ => rfl))) da_nil)))))
theorem sc_best : FnScope ["table", "numbers", "row", "factor", "rows", "dealings", "worths", "top"] ["table"] (defScope s_best) := ⟨rfl, rfl, rfl, by decide +kernel, rfl, by decide +kernel, by decide +kernel⟩
theorem ok_best {c : Cls} (Df : Def K mg "best" ["table"] s_best) (B : Blt mg) (C : ClsM mg c) (O : ClsO mg base c) (hk : KitF K c) (c_fraction : Cal P w K mg base 2 "fraction" 2 (m_fraction K c)) (c_worth_of : Cal P w K mg base 1 "worth_of" 2 (m_worth_of K c)) (c_dealings_of : Cal P w K mg base 1 "dealings_of" 1 (m_dealings_of K c)) (c_whole_rows : Cal P w K mg base 2 "whole_rows" 2 (m_whole_rows K c)) (c_common_bottom : Cal P w K mg base 2 "common_bottom" 1 (m_common_bottom K c)) : Cal P w K mg base 3 "best" 1 (m_best K c) := by
 refine calM (k := 2) Df sc_best rfl (fun f cdv A outer s H E hr => ⟨f_best K c, ?_, eq_best K c⟩)
 exact (dss_cons (ds_set (i := 1) sc_best.nd rfl (Or.inl rfl) (de_lst da_nil)) (dss_cons (ds_for PassesOwn.leaving rfl (di_list (dv 0)) (dg_name (i := 2) sc_best.nd rfl (Or.inl rfl)) (dss_one (ds_extP (i := 1) (dv 2) (fun t q => ps_expr (pe_bm PySem.F.plainAttrs_list PySem.F.slot_list_extend PySem.F.type_list_extend mt_extR (pv 1) (pa_cons q pa_nil)))))) (dss_cons (ds_set (i := 3) sc_best.nd rfl (Or.inl rfl) (de_callC c_common_bottom hr passS (da_cons (dv 1) da_nil))) (dss_cons (ds_set (i := 4) sc_best.nd rfl (Or.inr rfl) (de_callC c_whole_rows hr passS (da_cons (dv 0) (da_cons (dv 3) da_nil)))) (dss_cons (ds_set (i := 5) sc_best.nd rfl (Or.inl rfl) (de_callC c_dealings_of hr passS (da_cons (de_callB call_len_seq cm_len noX_len rfl B.len_ PySem.boot_len (da_cons (dv 4) da_nil)) da_nil))) (dss_frz 4 (dss_cons (ds_setC (i := 6) sc_best.nd rfl (Or.inl rfl) (xs := ["dealing"]) (ys := ["rows"]) (js := [4]) (cl := [("rows", s.heap.objs.size + 1)]) rfl (di_list (dv 5)) (cl_ok (ys := ["rows"]) (js := [4]) rfl (List.forall_mem_cons.mpr ⟨rfl, (fun _ h => nomatch h)⟩) (cap_cons ⟨rfl, .inl rfl, .inl rfl, rfl, rfl⟩ cap_nil) (by decide +kernel) (by decide +kernel)) (cap_cons ⟨rfl, .inl rfl, .inl rfl, rfl, rfl⟩ cap_nil) (by decide +kernel) rfl (by decide +kernel) rfl (by decide) (fun C s₀ H₀ ex pn => (dg_name (i := 0) (show (["dealing", "rows"] : List Str).Nodup by decide +kernel) rfl (Or.inl rfl))) (fun C s₀ H₀ ex pn => dts_nil) (fun C s₀ H₀ ex pn => (de_callC c_worth_of hr passF (da_cons (dv 1) (da_cons (dv 0) da_nil))))) (dss_cons (ds_set (i := 7) sc_best.nd rfl (Or.inl rfl) (de_callB (call_maxL rfl rfl) cm_maxL noX_max rfl B.max_ bB_max (da_cons (dv 6) da_nil))) (dss_one (ds_ret (de_tup (da_cons (de_callC c_fraction hr passS (da_cons (dv 7) (da_cons (dv 3) da_nil))) (da_cons (de_mt PySem.F.slot_list_count PySem.F.type_list_count (mt_count rfl) om_count noX_count (dv 6) (dv 7)) (da_cons (de_ix (dv 5) (de_mt PySem.F.slot_list_index PySem.F.type_list_index (mt_index rfl) om_index noX_index (dv 6) (dv 7)) (fun _ _ => rfl)) da_nil))))))))))))))
theorem sc__law_sum : FnScope ["_law_a", "_law_b"] ["_law_a", "_law_b"] (defScope s__law_sum) := ⟨rfl, rfl, rfl, by decide +kernel, rfl, by decide +kernel, by decide +kernel⟩
theorem ok__law_sum {c : Cls} (Df : Def K mg "_law_sum" ["_law_a", "_law_b"] s__law_sum) (B : Blt mg) (C : ClsM mg c) (O : ClsO mg base c) (hk : KitF K c) (c__law_lowest : Cal P w K mg base 1 "_law_lowest" 2 (m__law_lowest K c)) : Cal P w K mg base 2 "_law_sum" 2 (m__law_sum K c) := by
 refine calM (k := 1) Df sc__law_sum rfl (fun f cdv A outer s H E hr => ⟨f__law_sum K c, ?_, eq__law_sum K c⟩)
 exact (dss_one (ds_ret (de_callC c__law_lowest hr passS (da_cons (de_op op_addA om_add noX_add (de_op op_mulW om_mul noX_intE (de_ix (dv 0) de_int (fun _ _ => rfl)) (de_ix (dv 1) de_int (fun _ _ => rfl))) (de_op op_mulW om_mul noX_intE (de_ix (dv 1) de_int (fun _ _ => rfl)) (de_ix (dv 0) de_int (fun _ _ => rfl)))) (da_cons (de_op op_mulW om_mul noX_intE (de_ix (dv 0) de_int (fun _ _ => rfl)) (de_ix (dv 1) de_int (fun _ _ => rfl))) da_nil)))))
theorem sc__law_is_roof : FnScope ["_law_found", "_law_plane"] ["_law_found"] (defScope s__law_is_roof) := ⟨rfl, rfl, rfl, by decide +kernel, rfl, by decide +kernel, by decide +kernel⟩
theorem ok__law_is_roof {c : Cls} (Df : Def K mg "_law_is_roof" ["_law_found"] s__law_is_roof) (B : Blt mg) (C : ClsM mg c) (O : ClsO mg base c) (hk : KitF K c) (c__law_whole : Cal P w K mg base 1 "_law_whole" 1 (m__law_whole K c)) (c__law_is_fraction : Cal P w K mg base 2 "_law_is_fraction" 1 (m__law_is_fraction K c)) : Cal P w K mg base 3 "_law_is_roof" 1 (m__law_is_roof K c) := by
 refine calM (k := 2) Df sc__law_is_roof rfl (fun f cdv A outer s H E hr => ⟨f__law_is_roof K c, ?_, eq__law_is_roof K c hk⟩)
 exact (dss_cons (ds_if (dt_not (dt_val (de_isi (cv := .type "list") rfl B.isinstance_ (.inl ⟨_, rfl⟩) rfl (dv 0) (pe_bltn (v := .ty "list") rfl B.list_ bT_list rfl)))) (dss_one (ds_ret de_bl)) dss_nil) (dss_cons (ds_for PassesOwn.leaving rfl (di_list (dv 0)) (dg_name (i := 1) sc__law_is_roof.nd rfl (Or.inl rfl)) (dss_cons (ds_if (DW.t (dw_or (dt_not (dt_val (de_isi (cv := .type "tuple") rfl B.isinstance_ (.inl ⟨_, rfl⟩) rfl (dv 1) (pe_bltn (v := .ty "tuple") rfl B.tuple_ bT_tuple rfl)))) (dw_or (dt_cmp (op_neP (u64 hr)) om_eq noX_eq (de_callB call_len_seq cm_len noX_len rfl B.len_ PySem.boot_len (da_cons (dv 1) da_nil)) de_int (nomark _)) (dw_or1 (dt_not (dt_val (de_callC c__law_is_fraction hr passS (da_cons (de_ix (dv 1) de_int (fun _ _ => rfl)) da_nil)))))))) (dss_one (ds_ret de_bl)) dss_nil) (dss_one (ds_if (DW.t (dw_or (dt_not (dt_val (de_callC c__law_whole hr passS (da_cons (de_ix (dv 1) de_int (fun _ _ => rfl)) da_nil)))) (dw_or1 (dt_not (dt_val (de_callC c__law_whole hr passS (da_cons (de_ix (dv 1) de_int (fun _ _ => rfl)) da_nil))))))) (dss_one (ds_ret de_bl)) dss_nil)))) (dss_one (ds_ret de_bl))))
theorem sc__law_height : FnScope ["_law_plane", "_law_point", "_law_sides"] ["_law_plane", "_law_point"] (defScope s__law_height) := ⟨rfl, rfl, rfl, by decide +kernel, rfl, by decide +kernel, by decide +kernel⟩
theorem ok__law_height {c : Cls} (Df : Def K mg "_law_height" ["_law_plane", "_law_point"] s__law_height) (B : Blt mg) (C : ClsM mg c) (O : ClsO mg base c) (hk : KitF K c) (c__law_sum : Cal P w K mg base 2 "_law_sum" 2 (m__law_sum K c)) (c__law_product : Cal P w K mg base 2 "_law_product" 2 (m__law_product K c)) : Cal P w K mg base 3 "_law_height" 2 (m__law_height K c) := by
 refine calM (k := 2) Df sc__law_height rfl (fun f cdv A outer s H E hr => ⟨f__law_height K c, ?_, eq__law_height K c⟩)
 exact (dss_cons (ds_set (i := 2) sc__law_height.nd rfl (Or.inl rfl) (de_callC c__law_sum hr passS (da_cons (de_callC c__law_product hr passS (da_cons (de_tup (da_cons (de_ix (dv 0) de_int (fun _ _ => rfl)) (da_cons de_int da_nil))) (da_cons (de_ix (dv 1) de_int (fun _ _ => rfl)) da_nil))) (da_cons (de_callC c__law_product hr passS (da_cons (de_tup (da_cons (de_ix (dv 0) de_int (fun _ _ => rfl)) (da_cons de_int da_nil))) (da_cons (de_ix (dv 1) de_int (fun _ _ => rfl)) da_nil))) da_nil)))) (dss_one (ds_ret (de_callC c__law_sum hr passS (da_cons (dv 2) (da_cons (de_ix (dv 0) de_int (fun _ _ => rfl)) da_nil))))))
end
section
variable {P : Program} {w : World} {K : PySem.W.Frag} {mg : Str → Option Value} {base : Heap}
theorem sc_plus : FnScope ["a", "b"] ["a", "b"] (defScope s_plus) := ⟨rfl, rfl, rfl, by decide +kernel, rfl, by decide +kernel, by decide +kernel⟩
theorem ok_plus {c : Cls} (Df : Def K mg "plus" ["a", "b"] s_plus) (B : Blt mg) (C : ClsM mg c) (O : ClsO mg base c) (hk : KitF K c) (c_fraction : Cal P w K mg base 2 "fraction" 2 (m_fraction K c)) : Cal P w K mg base 3 "plus" 2 (m_plus K c) := by
 refine calM (k := 2) Df sc_plus rfl (fun f cdv A outer s H E hr => ⟨f_plus K c, ?_, eq_plus K c⟩)
 exact (dss_one (ds_ret (de_callC c_fraction hr passS (da_cons (de_op op_addA om_add noX_add (de_op op_mulW om_mul noX_intE (de_ix (dv 0) de_int (fun _ _ => rfl)) (de_ix (dv 1) de_int (fun _ _ => rfl))) (de_op op_mulW om_mul noX_intE (de_ix (dv 1) de_int (fun _ _ => rfl)) (de_ix (dv 0) de_int (fun _ _ => rfl)))) (da_cons (de_op op_mulW om_mul noX_intE (de_ix (dv 0) de_int (fun _ _ => rfl)) (de_ix (dv 1) de_int (fun _ _ => rfl))) da_nil)))))
theorem sc_plane_height : FnScope ["plane", "point", "along_x", "along_y"] ["plane", "point"] (defScope s_plane_height) := ⟨rfl, rfl, rfl, by decide +kernel, rfl, by decide +kernel, by decide +kernel⟩
theorem ok_plane_height {c : Cls} (Df : Def K mg "plane_height" ["plane", "point"] s_plane_height) (B : Blt mg) (C : ClsM mg c) (O : ClsO mg base c) (hk : KitF K c) (c_plus : Cal P w K mg base 3 "plus" 2 (m_plus K c)) (c_times : Cal P w K mg base 3 "times" 2 (m_times K c)) : Cal P w K mg base 4 "plane_height" 2 (m_plane_height K c) := by
 refine calM (k := 3) Df sc_plane_height rfl (fun f cdv A outer s H E hr => ⟨f_plane_height K c, ?_, eq_plane_height K c⟩)
 exact (dss_cons (ds_set (i := 2) sc_plane_height.nd rfl (Or.inl rfl) (de_callC c_times hr passS (da_cons (de_tup (da_cons (de_ix (dv 0) de_int (fun _ _ => rfl)) (da_cons de_int da_nil))) (da_cons (de_ix (dv 1) de_int (fun _ _ => rfl)) da_nil)))) (dss_cons (ds_set (i := 3) sc_plane_height.nd rfl (Or.inl rfl) (de_callC c_times hr passS (da_cons (de_tup (da_cons (de_ix (dv 0) de_int (fun _ _ => rfl)) (da_cons de_int da_nil))) (da_cons (de_ix (dv 1) de_int (fun _ _ => rfl)) da_nil)))) (dss_one (ds_ret (de_callC c_plus hr passS (da_cons (de_callC c_plus hr passS (da_cons (dv 2) (da_cons (dv 3) da_nil))) (da_cons (de_ix (dv 0) de_int (fun _ _ => rfl)) da_nil)))))))
theorem sc_table_without : FnScope ["slope", "slopes", "points", "level", "table", "point"] ["slope", "slopes", "points"] (defScope s_table_without) := ⟨rfl, rfl, rfl, by decide +kernel, rfl, by decide +kernel, by decide +kernel⟩
theorem ok_table_without {c : Cls} (Df : Def K mg "table_without" ["slope", "slopes", "points"] s_table_without) (B : Blt mg) (C : ClsM mg c) (O : ClsO mg base c) (hk : KitF K c) (c_plane_height : Cal P w K mg base 4 "plane_height" 2 (m_plane_height K c)) : Cal P w K mg base 5 "table_without" 3 (m_table_without K c) := by
 refine calM (k := 4) Df sc_table_without rfl (fun f cdv A outer s H E hr => ⟨f_table_without K c, ?_, eq_table_without K c⟩)
 exact (dss_cons (ds_setC (i := 3) sc_table_without.nd rfl (Or.inl rfl) (xs := ["other"]) (ys := ["slope"]) (js := [0]) (cl := [("slope", s.heap.objs.size + 1)]) rfl (di_list (dv 1)) (cl_ok (ys := ["slope"]) (js := [0]) rfl (List.forall_mem_cons.mpr ⟨rfl, (fun _ h => nomatch h)⟩) (cap_cons ⟨rfl, .inl rfl, .inl rfl, rfl, rfl⟩ cap_nil) (by decide +kernel) (by decide +kernel)) (cap_cons ⟨rfl, .inl rfl, .inl rfl, rfl, rfl⟩ cap_nil) (by decide +kernel) rfl (by decide +kernel) rfl (by decide) (fun C s₀ H₀ ex pn => (dg_name (i := 0) (show (["other", "slope"] : List Str).Nodup by decide +kernel) rfl (Or.inl rfl))) (fun C s₀ H₀ ex pn => (dts_one (dt_cmp (op_neP (u64 hr)) om_eq noX_eq (dv 0) (dv 1) (nomark _)))) (fun C s₀ H₀ ex pn => (de_tup (da_cons (de_ix (dv 0) de_int (fun _ _ => rfl)) (da_cons (de_ix (dv 0) de_int (fun _ _ => rfl)) (da_cons (de_tup (da_cons de_int (da_cons de_int da_nil))) da_nil)))))) (dss_cons (ds_set (i := 4) sc_table_without.nd rfl (Or.inl rfl) (de_lst da_nil)) (dss_frz 3 (dss_cons (ds_for PassesOwn.leaving rfl (di_list (dv 2)) (dg_name (i := 5) sc_table_without.nd rfl (Or.inr rfl)) (dss_one (ds_append (i := 4) (de_comp (xs := ["plane"]) (ys := ["point"]) (js := [5]) (cl := [("point", s.heap.objs.size + 1 + 1)]) rfl (di_list (dv 3)) (cl_ok (ys := ["point"]) (js := [5]) rfl (List.forall_mem_cons.mpr ⟨rfl, (fun _ h => nomatch h)⟩) (cap_cons ⟨rfl, .inl rfl, .inl rfl, rfl, rfl⟩ cap_nil) (by decide +kernel) (by decide +kernel)) (cap_cons ⟨rfl, .inl rfl, .inl rfl, rfl, rfl⟩ cap_nil) (by decide +kernel) rfl (by decide +kernel) rfl (by decide) (fun C s₀ H₀ ex pn => (dg_name (i := 0) (show (["plane", "point"] : List Str).Nodup by decide +kernel) rfl (Or.inl rfl))) (fun C s₀ H₀ ex pn => dts_nil) (fun C s₀ H₀ ex pn => (de_callC c_plane_height hr passF (da_cons (dv 0) (da_cons (dv 1) da_nil))))) (fun t q => ps_expr (pe_bm PySem.F.plainAttrs_list PySem.F.slot_list_append PySem.F.type_list_append mt_append (pv 4) (pa_cons q pa_nil)))))) (dss_one (ds_ret (dv 4)))))))
theorem sc__law_mix : FnScope ["_law_cell", "_law_k", "_law_blend"] ["_law_cell", "_law_k"] (defScope s__law_mix) := ⟨rfl, rfl, rfl, by decide +kernel, rfl, by decide +kernel, by decide +kernel⟩
theorem ok__law_mix {c : Cls} (Df : Def K mg "_law_mix" ["_law_cell", "_law_k"] s__law_mix) (B : Blt mg) (C : ClsM mg c) (O : ClsO mg base c) (hk : KitF K c) : Cal P w K mg base 1 "_law_mix" 2 (m__law_mix K c) := by
 refine calM (k := 0) Df sc__law_mix rfl (fun f cdv A outer s H E hr => ⟨f__law_mix K c, ?_, eq__law_mix K c⟩)
 exact (dss_cons (ds_set (i := 2) sc__law_mix.nd rfl (Or.inl rfl) (de_op op_addA om_add noX_add (de_op op_addA om_add noX_add (de_op op_mulW om_mul noX_intE (de_op op_modN om_mod noX_intE (dv 0) (de_op op_pow om_pow noX_intE de_int de_int)) (de_op op_addA om_add noX_add (de_op op_mulW om_mul noX_intE de_int (dv 1)) de_int)) (de_op op_mulW om_mul noX_intE (de_op op_mulW om_mul noX_intE de_int (dv 1)) (dv 1))) (dv 1))) (dss_one (ds_ret (de_op op_modN om_mod noX_intE (de_op op_mulW om_mul noX_intE (de_op op_modN om_mod noX_intE (dv 2) de_int) de_int) de_int))))
theorem sc__law_slopes : FnScope ["_law_cells", "_law_most", "_law_found", "_law_k", "_law_number_here", "_law_cell", "_law_slope"] ["_law_cells", "_law_most"] (defScope s__law_slopes) := ⟨rfl, rfl, rfl, by decide +kernel, rfl, by decide +kernel, by decide +kernel⟩
theorem ok__law_slopes {c : Cls} (Df : Def K mg "_law_slopes" ["_law_cells", "_law_most"] s__law_slopes) (B : Blt mg) (C : ClsM mg c) (O : ClsO mg base c) (hk : KitF K c) (c__law_mix : Cal P w K mg base 1 "_law_mix" 2 (m__law_mix K c)) : Cal P w K mg base 2 "_law_slopes" 2 (m__law_slopes K c) := by
 refine calM (k := 1) Df sc__law_slopes rfl (fun f cdv A outer s H E hr => ⟨f__law_slopes K c, ?_, eq__law_slopes K c⟩)
 exact (dss_cons (ds_set (i := 2) sc__law_slopes.nd rfl (Or.inl rfl) (de_lst da_nil)) (dss_cons (ds_for PassesOwn.leaving rfl (di_enum rfl B.enumerate_ (da_cons (dv 0) da_nil)) (dg_tup (n := 2) rfl (dgs_cons (dg_name (i := 3) sc__law_slopes.nd rfl (Or.inl rfl)) (dgs_cons (dg_name (i := 4) sc__law_slopes.nd rfl (Or.inl rfl)) dgs_nil))) (dss_cons (ds_set (i := 5) sc__law_slopes.nd rfl (Or.inl rfl) (de_op op_addA om_add noX_add (dv 4) (de_op op_mulW om_mul noX_intE de_int (dv 3)))) (dss_cons (ds_set (i := 6) sc__law_slopes.nd rfl (Or.inl rfl) (de_tup (da_cons (de_op op_modN om_mod noX_intE (de_callC c__law_mix hr passS (da_cons (dv 5) (da_cons de_int da_nil))) (de_op op_addA om_add noX_add (dv 1) de_int)) (da_cons (de_op op_modN om_mod noX_intE (de_callC c__law_mix hr passS (da_cons (dv 5) (da_cons de_int da_nil))) (de_op op_addA om_add noX_add (dv 1) de_int)) da_nil)))) (dss_one (ds_if (dt_cmp (op_ninP (u65 hr)) om_inP noX_inP (dv 6) (dv 2) (by with_unfolding_all rfl)) (dss_one (ds_append (i := 2) (dv 6) (fun t q => ps_expr (pe_bm PySem.F.plainAttrs_list PySem.F.slot_list_append PySem.F.type_list_append mt_append (pv 2) (pa_cons q pa_nil))))) dss_nil))))) (dss_one (ds_ret (dv 2)))))
end
section
variable {P : Program} {w : World} {K : PySem.W.Frag} {mg : Str → Option Value} {base : Heap}
theorem sc_greatest_divisor : FnScope ["a", "b", "larger", "smaller", "rest"] ["a", "b"] (defScope s_greatest_divisor) := ⟨rfl, rfl, rfl, by decide +kernel, rfl, by decide +kernel, by decide +kernel⟩
theorem ok_greatest_divisor {c : Cls} (Df : Def K mg "greatest_divisor" ["a", "b"] s_greatest_divisor) (B : Blt mg) (C : ClsM mg c) (O : ClsO mg base c) (hk : KitF K c) : Cal P w K mg base 1 "greatest_divisor" 2 (m_greatest_divisor K c) := by
 refine calM (k := 0) Df sc_greatest_divisor rfl (fun f cdv A outer s H E hr => ⟨f_greatest_divisor K c, ?_, eq_greatest_divisor K c⟩)
 exact (dss_cons (ds_set (i := 2) sc_greatest_divisor.nd rfl (Or.inl rfl) (de_callB call_abs cm_abs noX_abs rfl B.abs_ bB_abs (da_cons (dv 0) da_nil))) (dss_cons (ds_set (i := 3) sc_greatest_divisor.nd rfl (Or.inl rfl) (de_callB call_abs cm_abs noX_abs rfl B.abs_ bB_abs (da_cons (dv 1) da_nil))) (dss_cons (ds_while PassesOwn.leaving (dt_cmp (op_neP (u64 hr)) om_eq noX_eq (dv 3) de_int (nomark _)) (dss_cons (ds_set (i := 4) sc_greatest_divisor.nd rfl (Or.inl rfl) (de_op op_modN om_mod noX_intE (dv 2) (dv 3))) (dss_cons (ds_set (i := 2) sc_greatest_divisor.nd rfl (Or.inl rfl) (dv 3)) (dss_one (ds_set (i := 3) sc_greatest_divisor.nd rfl (Or.inl rfl) (dv 4)))))) (dss_one (ds_ret (dv 2))))))
theorem sc__law_whole : FnScope ["_law_found"] ["_law_found"] (defScope s__law_whole) := ⟨rfl, rfl, rfl, by decide +kernel, rfl, by decide +kernel, by decide +kernel⟩
theorem ok__law_whole {c : Cls} (Df : Def K mg "_law_whole" ["_law_found"] s__law_whole) (B : Blt mg) (C : ClsM mg c) (O : ClsO mg base c) (hk : KitF K c) : Cal P w K mg base 1 "_law_whole" 1 (m__law_whole K c) := by
 refine calM (k := 0) Df sc__law_whole rfl (fun f cdv A outer s H E hr => ⟨f__law_whole K c, ?_, eq__law_whole K c hk⟩)
 exact (dss_one (ds_ret (de_and (de_isi (cv := .type "int") rfl B.isinstance_ (.inl ⟨_, rfl⟩) rfl (dv 0) (pe_bltn (v := .ty "int") rfl B.int_ bT_int rfl)) (de_one (de_not (de_isi (cv := .type "bool") rfl B.isinstance_ (.inl ⟨_, rfl⟩) rfl (dv 0) (pe_bltn (v := .ty "bool") rfl B.bool_ bT_bool rfl)))))))
theorem sc__law_lowest : FnScope ["_law_top", "_law_bottom", "_law_one", "_law_other", "_law_rest"] ["_law_top", "_law_bottom"] (defScope s__law_lowest) := ⟨rfl, rfl, rfl, by decide +kernel, rfl, by decide +kernel, by decide +kernel⟩
theorem ok__law_lowest {c : Cls} (Df : Def K mg "_law_lowest" ["_law_top", "_law_bottom"] s__law_lowest) (B : Blt mg) (C : ClsM mg c) (O : ClsO mg base c) (hk : KitF K c) : Cal P w K mg base 1 "_law_lowest" 2 (m__law_lowest K c) := by
 refine calM (k := 0) Df sc__law_lowest rfl (fun f cdv A outer s H E hr => ⟨f__law_lowest K c, ?_, eq__law_lowest K c⟩)
 exact (dss_cons (ds_set (i := 2) sc__law_lowest.nd rfl (Or.inl rfl) (de_callB call_abs cm_abs noX_abs rfl B.abs_ bB_abs (da_cons (dv 0) da_nil))) (dss_cons (ds_set (i := 3) sc__law_lowest.nd rfl (Or.inl rfl) (de_callB call_abs cm_abs noX_abs rfl B.abs_ bB_abs (da_cons (dv 1) da_nil))) (dss_cons (ds_while PassesOwn.leaving (dt_cmp (op_neP (u64 hr)) om_eq noX_eq (dv 3) de_int (nomark _)) (dss_cons (ds_set (i := 4) sc__law_lowest.nd rfl (Or.inl rfl) (de_op op_modN om_mod noX_intE (dv 2) (dv 3))) (dss_cons (ds_set (i := 2) sc__law_lowest.nd rfl (Or.inl rfl) (dv 3)) (dss_one (ds_set (i := 3) sc__law_lowest.nd rfl (Or.inl rfl) (dv 4)))))) (dss_cons (ds_if (dt_cmp op_lt om_cmp noX_intE0 (dv 1) de_int (nomark _)) (dss_one (ds_set (i := 2) sc__law_lowest.nd rfl (Or.inl rfl) (de_neg (dv 2)))) dss_nil) (dss_one (ds_ret (de_tup (da_cons (de_op op_fdivW om_fdiv noX_intE (dv 0) (dv 2)) (da_cons (de_op op_fdivW om_fdiv noX_intE (dv 1) (dv 2)) da_nil)))))))))
theorem sc__law_before : FnScope ["_law_a", "_law_b"] ["_law_a", "_law_b"] (defScope s__law_before) := ⟨rfl, rfl, rfl, by decide +kernel, rfl, by decide +kernel, by decide +kernel⟩
theorem ok__law_before {c : Cls} (Df : Def K mg "_law_before" ["_law_a", "_law_b"] s__law_before) (B : Blt mg) (C : ClsM mg c) (O : ClsO mg base c) (hk : KitF K c) : Cal P w K mg base 1 "_law_before" 2 (m__law_before K c) := by
 refine calM (k := 0) Df sc__law_before rfl (fun f cdv A outer s H E hr => ⟨f__law_before K c, ?_, eq__law_before K c⟩)
 exact (dss_one (ds_ret (de_cmp op_lt om_cmp noX_intE0 (de_op op_mulW om_mul noX_intE (de_ix (dv 0) de_int (fun _ _ => rfl)) (de_ix (dv 1) de_int (fun _ _ => rfl))) (de_op op_mulW om_mul noX_intE (de_ix (dv 1) de_int (fun _ _ => rfl)) (de_ix (dv 0) de_int (fun _ _ => rfl))) (nomark _))))
theorem sc__law_number : FnScope ["_law_cell", "_law_k", "_law_way"] ["_law_cell", "_law_k"] (defScope s__law_number) := ⟨rfl, rfl, rfl, by decide +kernel, rfl, by decide +kernel, by decide +kernel⟩
theorem ok__law_number {c : Cls} (Df : Def K mg "_law_number" ["_law_cell", "_law_k"] s__law_number) (B : Blt mg) (C : ClsM mg c) (O : ClsO mg base c) (hk : KitF K c) (c__law_mix : Cal P w K mg base 1 "_law_mix" 2 (m__law_mix K c)) (c__law_lowest : Cal P w K mg base 1 "_law_lowest" 2 (m__law_lowest K c)) : Cal P w K mg base 2 "_law_number" 2 (m__law_number K c) := by
 refine calM (k := 1) Df sc__law_number rfl (fun f cdv A outer s H E hr => ⟨f__law_number K c, ?_, eq__law_number K c⟩)
 exact (dss_cons (ds_set (i := 2) sc__law_number.nd rfl (Or.inl rfl) (de_op op_modN om_mod noX_intE (de_callC c__law_mix hr passS (da_cons (dv 0) (da_cons (dv 1) da_nil))) de_int)) (dss_cons (ds_if (dt_cmp (op_eqP (u64 hr)) om_eq noX_eq (dv 2) de_int (nomark _)) (dss_one (ds_ret (de_callC c__law_lowest hr passS (da_cons (de_op op_sub om_sub noX_intE0 (de_op op_modN om_mod noX_intE (de_op op_addA om_add noX_add (de_op op_mulX om_mulX noX_intE (dv 0) de_int) (dv 1)) (de_op op_addA om_add noX_add (de_op op_mulX om_mulX noX_intE de_int (de_op op_pow om_pow noX_intE de_int de_int)) de_int)) (de_op op_pow om_pow noX_intE de_int de_int)) (da_cons (de_op op_addA om_add noX_add de_int (de_op op_modN om_mod noX_intE (de_callC c__law_mix hr passS (da_cons (dv 0) (da_cons (de_op op_addA om_add noX_add (dv 1) de_int) da_nil))) de_int)) da_nil))))) dss_nil) (dss_cons (ds_if (dt_cmp (op_eqP (u64 hr)) om_eq noX_eq (dv 2) de_int (nomark _)) (dss_one (ds_ret (de_callC c__law_lowest hr passS (da_cons (de_op op_sub om_sub noX_intE0 (de_op op_modN om_mod noX_intE (de_callC c__law_mix hr passS (da_cons (dv 0) (da_cons (de_op op_addA om_add noX_add (dv 1) de_int) da_nil))) de_int) de_int) (da_cons (de_op op_addA om_add noX_add de_int (de_op op_modN om_mod noX_intE (de_callC c__law_mix hr passS (da_cons (dv 0) (da_cons (de_op op_addA om_add noX_add (dv 1) de_int) da_nil))) de_int)) da_nil))))) dss_nil) (dss_one (ds_ret (de_tup (da_cons (de_op op_sub om_sub noX_intE0 (de_op op_modN om_mod noX_intE (de_callC c__law_mix hr passS (da_cons (dv 0) (da_cons (de_op op_addA om_add noX_add (dv 1) de_int) da_nil))) de_int) de_int) (da_cons de_int da_nil))))))))
theorem sc__law_tops : FnScope ["_law_roof", "_law_point", "_law_found", "_law_high", "_law_plane", "_law_here"] ["_law_roof", "_law_point"] (defScope s__law_tops) := ⟨rfl, rfl, rfl, by decide +kernel, rfl, by decide +kernel, by decide +kernel⟩
theorem ok__law_tops {c : Cls} (Df : Def K mg "_law_tops" ["_law_roof", "_law_point"] s__law_tops) (B : Blt mg) (C : ClsM mg c) (O : ClsO mg base c) (hk : KitF K c) (c__law_before : Cal P w K mg base 1 "_law_before" 2 (m__law_before K c)) (c__law_height : Cal P w K mg base 3 "_law_height" 2 (m__law_height K c)) : Cal P w K mg base 4 "_law_tops" 2 (m__law_tops K c) := by
 refine calM (k := 3) Df sc__law_tops rfl (fun f cdv A outer s H E hr => ⟨f__law_tops K c, ?_, eq__law_tops K c⟩)
 exact (dss_cons (ds_set (i := 2) sc__law_tops.nd rfl (Or.inl rfl) (de_lst da_nil)) (dss_cons (ds_set (i := 3) sc__law_tops.nd rfl (Or.inl rfl) (de_callC c__law_height hr passS (da_cons (de_ix (dv 0) de_int (fun _ _ => rfl)) (da_cons (dv 1) da_nil)))) (dss_cons (ds_for PassesOwn.leaving rfl (di_list (dv 0)) (dg_name (i := 4) sc__law_tops.nd rfl (Or.inl rfl)) (dss_cons (ds_set (i := 5) sc__law_tops.nd rfl (Or.inl rfl) (de_callC c__law_height hr passS (da_cons (dv 4) (da_cons (dv 1) da_nil)))) (dss_cons (ds_if (dt_val (de_callC c__law_before hr passS (da_cons (dv 3) (da_cons (dv 5) da_nil)))) (dss_cons (ds_set (i := 3) sc__law_tops.nd rfl (Or.inl rfl) (dv 5)) (dss_one (ds_set (i := 2) sc__law_tops.nd rfl (Or.inl rfl) (de_lst da_nil)))) dss_nil) (dss_one (ds_if (dt_cmp (op_eqP (u64 hr)) om_eq noX_eq (dv 5) (dv 3) (nomark _)) (dss_one (ds_append (i := 2) (de_tup (da_cons (de_ix (dv 4) de_int (fun _ _ => rfl)) (da_cons (de_ix (dv 4) de_int (fun _ _ => rfl)) da_nil))) (fun t q => ps_expr (pe_bm PySem.F.plainAttrs_list PySem.F.slot_list_append PySem.F.type_list_append mt_append (pv 2) (pa_cons q pa_nil))))) dss_nil))))) (dss_one (ds_ret (dv 2))))))
end
section
variable {P : Program} {w : World} {K : PySem.W.Frag} {mg : Str → Option Value} {base : Heap}
theorem sc_minus : FnScope ["a", "b"] ["a", "b"] (defScope s_minus) := ⟨rfl, rfl, rfl, by decide +kernel, rfl, by decide +kernel, by decide +kernel⟩
theorem ok_minus {c : Cls} (Df : Def K mg "minus" ["a", "b"] s_minus) (B : Blt mg) (C : ClsM mg c) (O : ClsO mg base c) (hk : KitF K c) (c_fraction : Cal P w K mg base 2 "fraction" 2 (m_fraction K c)) : Cal P w K mg base 3 "minus" 2 (m_minus K c) := by
 refine calM (k := 2) Df sc_minus rfl (fun f cdv A outer s H E hr => ⟨f_minus K c, ?_, eq_minus K c⟩)
 exact (dss_one (ds_ret (de_callC c_fraction hr passS (da_cons (de_op op_sub om_sub noX_intE0 (de_op op_mulW om_mul noX_intE (de_ix (dv 0) de_int (fun _ _ => rfl)) (de_ix (dv 1) de_int (fun _ _ => rfl))) (de_op op_mulW om_mul noX_intE (de_ix (dv 1) de_int (fun _ _ => rfl)) (de_ix (dv 0) de_int (fun _ _ => rfl)))) (da_cons (de_op op_mulW om_mul noX_intE (de_ix (dv 0) de_int (fun _ _ => rfl)) (de_ix (dv 1) de_int (fun _ _ => rfl))) da_nil)))))
theorem sc_common_bottom : FnScope ["numbers", "common", "number"] ["numbers"] (defScope s_common_bottom) := ⟨rfl, rfl, rfl, by decide +kernel, rfl, by decide +kernel, by decide +kernel⟩
theorem ok_common_bottom {c : Cls} (Df : Def K mg "common_bottom" ["numbers"] s_common_bottom) (B : Blt mg) (C : ClsM mg c) (O : ClsO mg base c) (hk : KitF K c) (c_greatest_divisor : Cal P w K mg base 1 "greatest_divisor" 2 (m_greatest_divisor K c)) : Cal P w K mg base 2 "common_bottom" 1 (m_common_bottom K c) := by
 refine calM (k := 1) Df sc_common_bottom rfl (fun f cdv A outer s H E hr => ⟨f_common_bottom K c, ?_, eq_common_bottom K c⟩)
 exact (dss_cons (ds_set (i := 1) sc_common_bottom.nd rfl (Or.inl rfl) de_int) (dss_cons (ds_for PassesOwn.leaving rfl (di_list (dv 0)) (dg_name (i := 2) sc_common_bottom.nd rfl (Or.inl rfl)) (dss_one (ds_set (i := 1) sc_common_bottom.nd rfl (Or.inl rfl) (de_op op_fdivW om_fdiv noX_intE (de_op op_mulW om_mul noX_intE (dv 1) (de_ix (dv 2) de_int (fun _ _ => rfl))) (de_callC c_greatest_divisor hr passS (da_cons (dv 1) (da_cons (de_ix (dv 2) de_int (fun _ _ => rfl)) da_nil))))))) (dss_one (ds_ret (dv 1)))))
theorem sc_check_numbers : FnScope ["slopes", "points"] ["slopes", "points"] (defScope s_check_numbers) := ⟨rfl, rfl, rfl, by decide +kernel, rfl, by decide +kernel, by decide +kernel⟩
theorem ok_check_numbers {c : Cls} (Df : Def K mg "check_numbers" ["slopes", "points"] s_check_numbers) (B : Blt mg) (C : ClsM mg c) (O : ClsO mg base c) (hk : KitF K c) {t_FEWEST_SLOPES : Tok} (c_FEWEST_SLOPES : mg "FEWEST_SLOPES" = some (.int 2 t_FEWEST_SLOPES)) {t_MOST_SLOPES : Tok} (c_MOST_SLOPES : mg "MOST_SLOPES" = some (.int 6 t_MOST_SLOPES)) : Cal P w K mg base 1 "check_numbers" 2 (m_check_numbers K c) := by
 refine calM (k := 0) Df sc_check_numbers rfl (fun f cdv A outer s H E hr => ⟨f_check_numbers K c, ?_, eq_check_numbers K c⟩)
 exact (dss_cons (ds_if (DW.t (dw_or (dt_cmp op_lt om_cmp noX_intE0 (de_callB call_len_seq cm_len noX_len rfl B.len_ PySem.boot_len (da_cons (dv 0) da_nil)) (de_globI rfl c_FEWEST_SLOPES) (nomark _)) (dw_or1 (dt_cmp op_gt om_cmp noX_intE0 (de_callB call_len_seq cm_len noX_len rfl B.len_ PySem.boot_len (da_cons (dv 0) da_nil)) (de_globI rfl c_MOST_SLOPES) (nomark _))))) (dss_one (ds_raise raisesR rfl rfl O.NoDealing PySem.F.excBase_ValueError (da_cons de_str da_nil))) dss_nil) (dss_cons (ds_if (dt_cmp (op_neP (u64 hr)) om_eq noX_eq (de_lenset rfl (u64 hr) rfl B.len_ rfl B.set_ (dv 0)) (de_callB call_len_seq cm_len noX_len rfl B.len_ PySem.boot_len (da_cons (dv 0) da_nil)) (nomark _)) (dss_one (ds_raise raisesR rfl rfl O.NoDealing PySem.F.excBase_ValueError (da_cons de_str da_nil))) dss_nil) (dss_one (ds_if (dt_cmp (op_neP (u64 hr)) om_eq noX_eq (de_callB call_len_seq cm_len noX_len rfl B.len_ PySem.boot_len (da_cons (dv 1) da_nil)) (de_op op_sub om_sub noX_intE0 (de_callB call_len_seq cm_len noX_len rfl B.len_ PySem.boot_len (da_cons (dv 0) da_nil)) de_int) (nomark _)) (dss_one (ds_raise raisesR rfl rfl O.NoDealing PySem.F.excBase_ValueError (da_cons de_str da_nil))) dss_nil))))
theorem sc__law_is_fraction : FnScope ["_law_found"] ["_law_found"] (defScope s__law_is_fraction) := ⟨rfl, rfl, rfl, by decide +kernel, rfl, by decide +kernel, by decide +kernel⟩
theorem ok__law_is_fraction {c : Cls} (Df : Def K mg "_law_is_fraction" ["_law_found"] s__law_is_fraction) (B : Blt mg) (C : ClsM mg c) (O : ClsO mg base c) (hk : KitF K c) (c__law_lowest : Cal P w K mg base 1 "_law_lowest" 2 (m__law_lowest K c)) (c__law_whole : Cal P w K mg base 1 "_law_whole" 1 (m__law_whole K c)) : Cal P w K mg base 2 "_law_is_fraction" 1 (m__law_is_fraction K c) := by
 refine calM (k := 1) Df sc__law_is_fraction rfl (fun f cdv A outer s H E hr => ⟨f__law_is_fraction K c, ?_, eq__law_is_fraction K c hk⟩)
 exact (dss_cons (ds_if (DW.t (dw_or (dt_not (dt_val (de_isi (cv := .type "tuple") rfl B.isinstance_ (.inl ⟨_, rfl⟩) rfl (dv 0) (pe_bltn (v := .ty "tuple") rfl B.tuple_ bT_tuple rfl)))) (dw_or (dt_cmp (op_neP (u64 hr)) om_eq noX_eq (de_callB call_len_seq cm_len noX_len rfl B.len_ PySem.boot_len (da_cons (dv 0) da_nil)) de_int (nomark _)) (dw_or (dt_not (dt_val (de_callC c__law_whole hr passS (da_cons (de_ix (dv 0) de_int (fun _ _ => rfl)) da_nil)))) (dw_or1 (dt_not (dt_val (de_callC c__law_whole hr passS (da_cons (de_ix (dv 0) de_int (fun _ _ => rfl)) da_nil))))))))) (dss_one (ds_ret de_bl)) dss_nil) (dss_one (ds_ret (de_and (de_cmp op_gt om_cmp noX_intE0 (de_ix (dv 0) de_int (fun _ _ => rfl)) de_int (nomark _)) (de_one (de_cmp (op_eqP (u64 hr)) om_eq noX_eq (de_callC c__law_lowest hr passS (da_cons (de_ix (dv 0) de_int (fun _ _ => rfl)) (da_cons (de_ix (dv 0) de_int (fun _ _ => rfl)) da_nil))) (dv 0) (nomark _)))))))
theorem sc__law_drawn_slopes : FnScope ["_law_script", "_law_most", "_law_found", "_law_slope"] ["_law_script"] (defScope s__law_drawn_slopes) := ⟨rfl, rfl, rfl, by decide +kernel, rfl, by decide +kernel, by decide +kernel⟩
theorem ok__law_drawn_slopes {c : Cls} (Df : Def K mg "_law_drawn_slopes" ["_law_script"] s__law_drawn_slopes) (B : Blt mg) (C : ClsM mg c) (O : ClsO mg base c) (hk : KitF K c) (c__law_slopes : Cal P w K mg base 2 "_law_slopes" 2 (m__law_slopes K c)) (c__law_cell_at : Cal P w K mg base 1 "_law_cell_at" 2 (m__law_cell_at K c)) : Cal P w K mg base 3 "_law_drawn_slopes" 1 (m__law_drawn_slopes K c) := by
 refine calM (k := 2) Df sc__law_drawn_slopes rfl (fun f cdv A outer s H E hr => ⟨f__law_drawn_slopes K c, ?_, eq__law_drawn_slopes K c⟩)
 exact (dss_cons (ds_set (i := 1) sc__law_drawn_slopes.nd rfl (Or.inl rfl) (de_ix (de_tup (da_cons de_int (da_cons de_int (da_cons de_int da_nil)))) (de_op op_modN om_mod noX_intE (de_callC c__law_cell_at hr passS (da_cons (dv 0) (da_cons de_int da_nil))) de_int) (fun _ _ => rfl))) (dss_cons (ds_set (i := 2) sc__law_drawn_slopes.nd rfl (Or.inl rfl) (de_callC c__law_slopes hr passS (da_cons (de_sl (dv 0) (dp_some de_int) (dp_some (de_op op_addA om_add noX_add de_int (de_ix (de_tup (da_cons de_int (da_cons de_int (da_cons de_int (da_cons de_int (da_cons de_int (da_cons de_int da_nil))))))) (de_op op_modN om_mod noX_intE (de_callC c__law_cell_at hr passS (da_cons (dv 0) (da_cons de_int da_nil))) de_int) (fun _ _ => rfl))))) (da_cons (dv 1) da_nil)))) (dss_cons (ds_for PassesOwn.leaving rfl (di_list (de_lst (da_cons (de_tup (da_cons de_int (da_cons de_int da_nil))) (da_cons (de_tup (da_cons de_int (da_cons de_int da_nil))) da_nil)))) (dg_name (i := 3) sc__law_drawn_slopes.nd rfl (Or.inl rfl)) (dss_one (ds_if (DW.t (dw_and (dt_cmp op_lt om_cmp noX_intE0 (de_callB call_len_seq cm_len noX_len rfl B.len_ PySem.boot_len (da_cons (dv 2) da_nil)) de_int (nomark _)) (dw_and1 (dt_cmp (op_ninP (u65 hr)) om_inP noX_inP (dv 3) (dv 2) (by with_unfolding_all rfl))))) (dss_one (ds_append (i := 2) (dv 3) (fun t q => ps_expr (pe_bm PySem.F.plainAttrs_list PySem.F.slot_list_append PySem.F.type_list_append mt_append (pv 2) (pa_cons q pa_nil))))) dss_nil))) (dss_one (ds_ret (dv 2))))))
end
section
variable {P : Program} {w : World} {K : PySem.W.Frag} {mg : Str → Option Value} {base : Heap}
theorem sc_whole : FnScope ["number", "factor"] ["number", "factor"] (defScope s_whole) := ⟨rfl, rfl, rfl, by decide +kernel, rfl, by decide +kernel, by decide +kernel⟩
theorem ok_whole {c : Cls} (Df : Def K mg "whole" ["number", "factor"] s_whole) (B : Blt mg) (C : ClsM mg c) (O : ClsO mg base c) (hk : KitF K c) : Cal P w K mg base 1 "whole" 2 (m_whole K c) := by
 refine calM (k := 0) Df sc_whole rfl (fun f cdv A outer s H E hr => ⟨f_whole K c, ?_, eq_whole K c⟩)
 exact (dss_one (ds_ret (de_op op_mulW om_mul noX_intE (de_ix (dv 0) de_int (fun _ _ => rfl)) (de_op op_fdivW om_fdiv noX_intE (dv 1) (de_ix (dv 0) de_int (fun _ _ => rfl))))))
theorem sc_dealings_of : FnScope ["n", "made", "row", "longer", "start"] ["n"] (defScope s_dealings_of) := ⟨rfl, rfl, rfl, by decide +kernel, rfl, by decide +kernel, by decide +kernel⟩
theorem ok_dealings_of {c : Cls} (Df : Def K mg "dealings_of" ["n"] s_dealings_of) (B : Blt mg) (C : ClsM mg c) (O : ClsO mg base c) (hk : KitF K c) : Cal P w K mg base 1 "dealings_of" 1 (m_dealings_of K c) := by
 refine calM (k := 0) Df sc_dealings_of rfl (fun f cdv A outer s H E hr => ⟨f_dealings_of K c, ?_, eq_dealings_of K c⟩)
 exact (dss_cons (ds_set (i := 1) sc_dealings_of.nd rfl (Or.inl rfl) (de_lst (da_cons (de_lst da_nil) da_nil))) (dss_frz 1 (dss_cons (ds_for PassesOwn.leaving rfl (di_range1 rfl B.range_ (da_cons (dv 0) da_nil)) (dg_name (i := 2) sc_dealings_of.nd rfl (Or.inl rfl)) (dss_cons (ds_set (i := 3) sc_dealings_of.nd rfl (Or.inl rfl) (de_lst da_nil)) (dss_cons (ds_for PassesOwn.leaving rfl (di_list (dv 1)) (dg_name (i := 4) sc_dealings_of.nd rfl (Or.inr rfl)) (dss_one (ds_extend (i := 3) (de_comp (xs := ["column"]) (ys := ["start"]) (js := [4]) (cl := [("start", s.heap.objs.size + 1)]) rfl (di_range1 rfl B.range_ (da_cons (dv 0) da_nil)) (cl_ok (ys := ["start"]) (js := [4]) rfl (List.forall_mem_cons.mpr ⟨rfl, (fun _ h => nomatch h)⟩) (cap_cons ⟨rfl, .inl rfl, .inl rfl, rfl, rfl⟩ cap_nil) (by decide +kernel) (by decide +kernel)) (cap_cons ⟨rfl, .inl rfl, .inl rfl, rfl, rfl⟩ cap_nil) (by decide +kernel) rfl (by decide +kernel) rfl (by decide) (fun C s₀ H₀ ex pn => (dg_name (i := 0) (show (["column", "start"] : List Str).Nodup by decide +kernel) rfl (Or.inl rfl))) (fun C s₀ H₀ ex pn => (dts_one (dt_cmp (op_ninE rfl) om_in noX_in (dv 0) (dv 1) (by with_unfolding_all rfl)))) (fun C s₀ H₀ ex pn => (de_op op_addA om_add noX_add (dv 1) (de_lst (da_cons (dv 0) da_nil))))) (fun t q => ps_expr (pe_bm PySem.F.plainAttrs_list PySem.F.slot_list_extend PySem.F.type_list_extend mt_extend (pv 3) (pa_cons q pa_nil)))))) (dss_frz 3 (dss_one (ds_set (i := 1) sc_dealings_of.nd rfl (Or.inl rfl) (dv 3))))))) (dss_one (ds_ret (dv 1))))))
theorem sc_worth_of : FnScope ["rows", "dealing"] ["rows", "dealing"] (defScope s_worth_of) := ⟨rfl, rfl, rfl, by decide +kernel, rfl, by decide +kernel, by decide +kernel⟩
theorem ok_worth_of {c : Cls} (Df : Def K mg "worth_of" ["rows", "dealing"] s_worth_of) (B : Blt mg) (C : ClsM mg c) (O : ClsO mg base c) (hk : KitF K c) : Cal P w K mg base 1 "worth_of" 2 (m_worth_of K c) := by
 refine calM (k := 0) Df sc_worth_of rfl (fun f cdv A outer s H E hr => ⟨f_worth_of K c, ?_, eq_worth_of K c⟩)
 exact (dss_one (ds_ret (de_callB (call_sumL rfl rfl) cm_sum noX_sum rfl B.sum_ bB_sum (da_cons (de_comp (xs := ["row", "column"]) (ys := []) (js := []) (cl := []) rfl (di_zip rfl B.zip_ (da_cons (dv 0) (da_cons (dv 1) da_nil))) (cl_ok (ys := []) (js := []) rfl (fun _ h => nomatch h) cap_nil (by decide +kernel) (by decide +kernel)) cap_nil (by decide +kernel) rfl (by decide +kernel) rfl (by decide) (fun C s₀ H₀ ex pn => (dg_tup (n := 2) rfl (dgs_cons (dg_name (i := 0) (show (["row", "column"] : List Str).Nodup by decide +kernel) rfl (Or.inl rfl)) (dgs_cons (dg_name (i := 1) (show (["row", "column"] : List Str).Nodup by decide +kernel) rfl (Or.inl rfl)) dgs_nil)))) (fun C s₀ H₀ ex pn => dts_nil) (fun C s₀ H₀ ex pn => (de_ix (dv 0) (dv 1) (fun _ _ => rfl)))) da_nil))))
theorem sc__law_cell_at : FnScope ["_law_script", "_law_k"] ["_law_script", "_law_k"] (defScope s__law_cell_at) := ⟨rfl, rfl, rfl, by decide +kernel, rfl, by decide +kernel, by decide +kernel⟩
theorem ok__law_cell_at {c : Cls} (Df : Def K mg "_law_cell_at" ["_law_script", "_law_k"] s__law_cell_at) (B : Blt mg) (C : ClsM mg c) (O : ClsO mg base c) (hk : KitF K c) : Cal P w K mg base 1 "_law_cell_at" 2 (m__law_cell_at K c) := by
 refine calM (k := 0) Df sc__law_cell_at rfl (fun f cdv A outer s H E hr => ⟨f__law_cell_at K c, ?_, eq__law_cell_at K c⟩)
 exact (dss_cons (ds_if (dt_cmp op_lt om_cmp noX_intE0 (dv 1) (de_callB call_len_seq cm_len noX_len rfl B.len_ PySem.boot_len (da_cons (dv 0) da_nil)) (nomark _)) (dss_one (ds_ret (de_ix (dv 0) (dv 1) (fun _ _ => rfl)))) dss_nil) (dss_one (ds_ret de_int)))
theorem sc__law_points : FnScope ["_law_cells"] ["_law_cells"] (defScope s__law_points) := ⟨rfl, rfl, rfl, by decide +kernel, rfl, by decide +kernel, by decide +kernel⟩
theorem ok__law_points {c : Cls} (Df : Def K mg "_law_points" ["_law_cells"] s__law_points) (B : Blt mg) (C : ClsM mg c) (O : ClsO mg base c) (hk : KitF K c) (c__law_number : Cal P w K mg base 2 "_law_number" 2 (m__law_number K c)) : Cal P w K mg base 3 "_law_points" 1 (m__law_points K c) := by
 refine calM (k := 2) Df sc__law_points rfl (fun f cdv A outer s H E hr => ⟨f__law_points K c, ?_, eq__law_points K c⟩)
 exact (dss_one (ds_ret (de_comp (xs := ["_law_k", "_law_cell"]) (ys := []) (js := []) (cl := []) rfl (di_enum rfl B.enumerate_ (da_cons (dv 0) da_nil)) (cl_ok (ys := []) (js := []) rfl (fun _ h => nomatch h) cap_nil (by decide +kernel) (by decide +kernel)) cap_nil (by decide +kernel) rfl (by decide +kernel) rfl (by decide) (fun C s₀ H₀ ex pn => (dg_tup (n := 2) rfl (dgs_cons (dg_name (i := 0) (show (["_law_k", "_law_cell"] : List Str).Nodup by decide +kernel) rfl (Or.inl rfl)) (dgs_cons (dg_name (i := 1) (show (["_law_k", "_law_cell"] : List Str).Nodup by decide +kernel) rfl (Or.inl rfl)) dgs_nil)))) (fun C s₀ H₀ ex pn => dts_nil) (fun C s₀ H₀ ex pn => (de_tup (da_cons (de_callC c__law_number hr passF (da_cons (de_op op_addA om_add noX_add (dv 1) (de_op op_mulW om_mul noX_intE de_int (dv 0))) (da_cons de_int da_nil))) (da_cons (de_callC c__law_number hr passF (da_cons (de_op op_addA om_add noX_add (dv 1) (de_op op_mulW om_mul noX_intE de_int (dv 0))) (da_cons de_int da_nil))) da_nil)))))))
theorem sc__law_moved : FnScope ["_law_roof", "_law_far", "_law_due", "_law_first", "_law_plane", "_law_sides"] ["_law_roof", "_law_far"] (defScope s__law_moved) := ⟨rfl, rfl, rfl, by decide +kernel, rfl, by decide +kernel, by decide +kernel⟩
theorem ok__law_moved {c : Cls} (Df : Def K mg "_law_moved" ["_law_roof", "_law_far"] s__law_moved) (B : Blt mg) (C : ClsM mg c) (O : ClsO mg base c) (hk : KitF K c) (c__law_sum : Cal P w K mg base 2 "_law_sum" 2 (m__law_sum K c)) (c__law_product : Cal P w K mg base 2 "_law_product" 2 (m__law_product K c)) : Cal P w K mg base 3 "_law_moved" 2 (m__law_moved K c) := by
 refine calM (k := 2) Df sc__law_moved rfl (fun f cdv A outer s H E hr => ⟨f__law_moved K c, ?_, eq__law_moved K c⟩)
 exact (dss_cons (ds_set (i := 2) sc__law_moved.nd rfl (Or.inl rfl) (de_lst da_nil)) (dss_cons (ds_set (i := 3) sc__law_moved.nd rfl (Or.inl rfl) (de_ix (dv 0) de_int (fun _ _ => rfl))) (dss_cons (ds_for PassesOwn.leaving rfl (di_list (dv 0)) (dg_name (i := 4) sc__law_moved.nd rfl (Or.inl rfl)) (dss_cons (ds_set (i := 5) sc__law_moved.nd rfl (Or.inl rfl) (de_callC c__law_product hr passS (da_cons (de_tup (da_cons (de_op op_sub om_sub noX_intE0 (de_ix (dv 3) de_int (fun _ _ => rfl)) (de_ix (dv 4) de_int (fun _ _ => rfl))) (da_cons de_int da_nil))) (da_cons (de_ix (dv 1) de_int (fun _ _ => rfl)) da_nil)))) (dss_cons (ds_set (i := 5) sc__law_moved.nd rfl (Or.inl rfl) (de_callC c__law_sum hr passS (da_cons (dv 5) (da_cons (de_callC c__law_product hr passS (da_cons (de_tup (da_cons (de_op op_sub om_sub noX_intE0 (de_ix (dv 3) de_int (fun _ _ => rfl)) (de_ix (dv 4) de_int (fun _ _ => rfl))) (da_cons de_int da_nil))) (da_cons (de_ix (dv 1) de_int (fun _ _ => rfl)) da_nil))) da_nil)))) (dss_one (ds_append (i := 2) (de_tup (da_cons (de_ix (dv 4) de_int (fun _ _ => rfl)) (da_cons (de_ix (dv 4) de_int (fun _ _ => rfl)) (da_cons (de_callC c__law_sum hr passS (da_cons (de_ix (dv 4) de_int (fun _ _ => rfl)) (da_cons (dv 5) da_nil))) da_nil)))) (fun t q => ps_expr (pe_bm PySem.F.plainAttrs_list PySem.F.slot_list_append PySem.F.type_list_append mt_append (pv 2) (pa_cons q pa_nil)))))))) (dss_one (ds_ret (dv 2))))))
end
theorem own_at {K : PySem.W.Frag} {h₀ : Heap} {mg : Str → Option Value} {x : Str} {C : Addr} {bmB : List Value} {newId : String} (X : K.In h₀) (G : h₀.Ns mainGlobals mg) (e : PySem.W.nsIn K mainGlobals x = some (some (.ref C))) (q : PySem.W.excIn K C bmB newId = true) : PyProof.Rows.OwnCls x C bmB newId mg h₀ := by
 refine ⟨PySem.W.mg_of X G e, ?_⟩
 unfold PySem.W.excIn at q
 split at q
 ·rename_i d1 cd1 sl1 ho1
  split at q
  ·rename_i C1 bm1 s0 s1 s2 s3 n1 s5 hm1 hs1
   simp only [Bool.and_eq_true, beq_iff_eq, Bool.not_eq_true'] at q
   obtain ⟨⟨⟨⟨⟨rfl, rfl⟩, hdl⟩, htl⟩, hnok⟩, hini⟩ := q
   obtain ⟨c1, c2, c3, c4, c5, c6, c7, c8, c9, c10, c11⟩ := cd1
   dsimp only at hm1 hdl hnok hini
   subst hm1 hdl
   obtain ⟨sll⟩ := sl1
   simp only at hs1
   subst hs1
   exact ⟨bm1, c4, c1, c5, c2, c6, c7, c8, c9, c10, d1, s0, s1, s2, s3, s5, _, X _ _ ho1, .of_isNs (PySem.W.isNs_of_in X hnok), PySem.W.nsMap_none_of_in X hnok hini, PySem.W.tail_of_in X htl⟩
  ·cases q
 ·cases q
theorem len_1 {α : Type} {us : List α} (h : us.length = 1) : ∃ a, us = [a] := List.length_eq_one_iff.mp h
theorem len_2 {α : Type} {us : List α} (h : us.length = 2) : ∃ a b, us = [a, b] := by
 cases us with
 | nil => cases h
 | cons a r => obtain ⟨b, rfl⟩ := len_1 (Nat.succ.inj h); exact ⟨a, b, rfl⟩
theorem len_3 {α : Type} {us : List α} (h : us.length = 3) : ∃ a b c, us = [a, b, c] := by
 cases us with
 | nil => cases h
 | cons a r => obtain ⟨b, c, rfl⟩ := len_2 (Nat.succ.inj h); exact ⟨a, b, c, rfl⟩
def noLists (K : PySem.W.Frag) : Bool := K.all fun p => match p.2.cls with
 | .type n => !(n == "list")
 | _ => true
theorem lookup_mem {a : Addr} {o : Obj} : ∀ {l : List (Addr × Obj)}, l.lookup a = some o → (a, o) ∈ l
 | (k, v) :: r, h => by
  unfold List.lookup at h
  split at h
  ·rename_i z
   have e : a = k := by simpa using z
   cases h
   rw [e]
   exact .head _
  ·exact .tail _ (lookup_mem h)
theorem noLists_no {K : PySem.W.Frag} (h : noLists K = true) {a : Addr} {o : Obj} (e : K.lookup a = some o) (hc : o.cls = .type "list") : False := by
 have := List.all_eq_true.mp h (a, o) (lookup_mem e)
 dsimp only at this
 rw [hc] at this
 cases this
def spLaw : Sp := fun vs H Q _ => ∃ (a : Addr) (ns : List Int), vs = [.ref a] ∧ Rd H a (.lst (ns.map V.int)) ∧ ns.length ≤ 63 ∧ ∀ H', Q (.bl true) H'
theorem reps_ints {K : PySem.W.Frag} {G : Hp} : ∀ ns : List Int, Reps K G (ns.map V.int) (ns.map PyData.int)
 | [] => .nil
 | i :: r => .cons (.int i) (reps_ints r)
theorem law_sp {P : Program} {w : World} {K : PySem.W.Frag} {mg : Str → Option Value} {base : Heap} {f : Addr} {fd : FuncData} {c : Cls} (hk : KitF K c) (F : FnOk P w K mg base (CXr P w) 7 f fd ["_law_script"] (spM K 1 (m_law K c))) : FnOk P w K mg base (CXr P w) 7 f fd ["_law_script"] spLaw :=
 F.imp fun vs H Q E h => by
  obtain ⟨a, ns, rfl, rd, hl, hq⟩ := h
  refine ⟨rfl, H, [.p (.list (ns.map .int))], Same.refl _, ⟨.lst rd (reps_ints ns), trivial⟩, ?_⟩
  rw [law_ok K c hk ns hl]
  intro G' H' v st r
  cases r
  exact hq H'
theorem all_mk {l : PySem.W.OpenLaw} {w : World} {K : PySem.W.Frag} {h : Heap} {mg : Str → Option Value} {fa : Addr} {f1 f2 f3 f4 f5 f6 f7 f8 f9 f10 f11 f12 f13 f14 f15 f16 f17 f18 f19 f20 f21 f22 f23 f24 f25 f26 f27 f28 f29 f30 f31 f32 CRoofError CNoFraction CNoDealing : Addr} {tFEWEST_SLOPES tMOST_SLOPES : Tok} (X : K.In h) (G : h.Ns mainGlobals mg) (hfa : mg "law" = some (.ref fa))
  {od1 an1 od2 an2 od3 an3 od4 an4 od5 an5 od6 an6 od7 an7 od8 an8 od9 an9 od10 an10 od11 an11 od12 an12 od13 an13 od14 an14 od15 an15 od16 an16 od17 an17 od18 an18 od19 an19 od20 an20 od21 an21 od22 an22 od23 an23 od24 an24 od25 an25 od26 an26 od27 an27 od28 an28 od29 an29 od30 an30 od31 an31 od32 an32 : Option Addr} {sl1 sl2 sl3 sl4 sl5 sl6 sl7 sl8 sl9 sl10 sl11 sl12 sl13 sl14 sl15 sl16 sl17 sl18 sl19 sl20 sl21 sl22 sl23 sl24 sl25 sl26 sl27 sl28 sl29 sl30 sl31 sl32 : Array (Option Value)} {oc1 kV1 dc1 pm1 cd1 ct1 oc2 kV2 dc2 pm2 cd2 ct2 oc3 kV3 dc3 pm3 cd3 ct3 oc4 kV4 dc4 pm4 cd4 ct4 oc5 kV5 dc5 pm5 cd5 ct5 oc6 kV6 dc6 pm6 cd6 ct6 oc7 kV7 dc7 pm7 cd7 ct7 oc8 kV8 dc8 pm8 cd8 ct8 oc9 kV9 dc9 pm9 cd9 ct9 oc10 kV10 dc10 pm10 cd10 ct10 oc11 kV11 dc11 pm11 cd11 ct11 oc12 kV12 dc12 pm12 cd12 ct12 oc13 kV13 dc13 pm13 cd13 ct13 oc14 kV14 dc14 pm14 cd14 ct14 oc15 kV15 dc15 pm15 cd15 ct15 oc16 kV16 dc16 pm16 cd16 ct16 oc17 kV17 dc17 pm17 cd17 ct17 oc18 kV18 dc18 pm18 cd18 ct18 oc19 kV19 dc19 pm19 cd19 ct19 oc20 kV20 dc20 pm20 cd20 ct20 oc21 kV21 dc21 pm21 cd21 ct21 oc22 kV22 dc22 pm22 cd22 ct22 oc23 kV23 dc23 pm23 cd23 ct23 oc24 kV24 dc24 pm24 cd24 ct24 oc25 kV25 dc25 pm25 cd25 ct25 oc26 kV26 dc26 pm26 cd26 ct26 oc27 kV27 dc27 pm27 cd27 ct27 oc28 kV28 dc28 pm28 cd28 ct28 oc29 kV29 dc29 pm29 cd29 ct29 oc30 kV30 dc30 pm30 cd30 ct30 oc31 kV31 dc31 pm31 cd31 ct31 oc32 kV32 dc32 pm32 cd32 ct32 : Value}
  (a1 : PySem.W.nsIn K mainGlobals "greatest_divisor" = some (some (.ref f1)))
  (l1 : K.lookup f1 = some ⟨oc1, od1, .func (PySem.W.fnOf "greatest_divisor" "greatest_divisor" (defArgs s_greatest_divisor) (defBody s_greatest_divisor) (defScope s_greatest_divisor) .none kV1 dc1 pm1 an1 cd1 ct1), sl1⟩)
  (c1 : PySem.W.codeIn K cd1 "greatest_divisor" = true)
  (k1 : PySem.W.keepIn K (.ref f1) = true)
  (a2 : PySem.W.nsIn K mainGlobals "fraction" = some (some (.ref f2)))
  (l2 : K.lookup f2 = some ⟨oc2, od2, .func (PySem.W.fnOf "fraction" "fraction" (defArgs s_fraction) (defBody s_fraction) (defScope s_fraction) .none kV2 dc2 pm2 an2 cd2 ct2), sl2⟩)
  (c2 : PySem.W.codeIn K cd2 "fraction" = true)
  (k2 : PySem.W.keepIn K (.ref f2) = true)
  (a3 : PySem.W.nsIn K mainGlobals "plus" = some (some (.ref f3)))
  (l3 : K.lookup f3 = some ⟨oc3, od3, .func (PySem.W.fnOf "plus" "plus" (defArgs s_plus) (defBody s_plus) (defScope s_plus) .none kV3 dc3 pm3 an3 cd3 ct3), sl3⟩)
  (c3 : PySem.W.codeIn K cd3 "plus" = true)
  (k3 : PySem.W.keepIn K (.ref f3) = true)
  (a4 : PySem.W.nsIn K mainGlobals "minus" = some (some (.ref f4)))
  (l4 : K.lookup f4 = some ⟨oc4, od4, .func (PySem.W.fnOf "minus" "minus" (defArgs s_minus) (defBody s_minus) (defScope s_minus) .none kV4 dc4 pm4 an4 cd4 ct4), sl4⟩)
  (c4 : PySem.W.codeIn K cd4 "minus" = true)
  (k4 : PySem.W.keepIn K (.ref f4) = true)
  (a5 : PySem.W.nsIn K mainGlobals "times" = some (some (.ref f5)))
  (l5 : K.lookup f5 = some ⟨oc5, od5, .func (PySem.W.fnOf "times" "times" (defArgs s_times) (defBody s_times) (defScope s_times) .none kV5 dc5 pm5 an5 cd5 ct5), sl5⟩)
  (c5 : PySem.W.codeIn K cd5 "times" = true)
  (k5 : PySem.W.keepIn K (.ref f5) = true)
  (a6 : PySem.W.nsIn K mainGlobals "common_bottom" = some (some (.ref f6)))
  (l6 : K.lookup f6 = some ⟨oc6, od6, .func (PySem.W.fnOf "common_bottom" "common_bottom" (defArgs s_common_bottom) (defBody s_common_bottom) (defScope s_common_bottom) .none kV6 dc6 pm6 an6 cd6 ct6), sl6⟩)
  (c6 : PySem.W.codeIn K cd6 "common_bottom" = true)
  (k6 : PySem.W.keepIn K (.ref f6) = true)
  (a7 : PySem.W.nsIn K mainGlobals "whole" = some (some (.ref f7)))
  (l7 : K.lookup f7 = some ⟨oc7, od7, .func (PySem.W.fnOf "whole" "whole" (defArgs s_whole) (defBody s_whole) (defScope s_whole) .none kV7 dc7 pm7 an7 cd7 ct7), sl7⟩)
  (c7 : PySem.W.codeIn K cd7 "whole" = true)
  (k7 : PySem.W.keepIn K (.ref f7) = true)
  (a8 : PySem.W.nsIn K mainGlobals "dealings_of" = some (some (.ref f8)))
  (l8 : K.lookup f8 = some ⟨oc8, od8, .func (PySem.W.fnOf "dealings_of" "dealings_of" (defArgs s_dealings_of) (defBody s_dealings_of) (defScope s_dealings_of) .none kV8 dc8 pm8 an8 cd8 ct8), sl8⟩)
  (c8 : PySem.W.codeIn K cd8 "dealings_of" = true)
  (k8 : PySem.W.keepIn K (.ref f8) = true)
  (a9 : PySem.W.nsIn K mainGlobals "whole_rows" = some (some (.ref f9)))
  (l9 : K.lookup f9 = some ⟨oc9, od9, .func (PySem.W.fnOf "whole_rows" "whole_rows" (defArgs s_whole_rows) (defBody s_whole_rows) (defScope s_whole_rows) .none kV9 dc9 pm9 an9 cd9 ct9), sl9⟩)
  (c9 : PySem.W.codeIn K cd9 "whole_rows" = true)
  (k9 : PySem.W.keepIn K (.ref f9) = true)
  (a10 : PySem.W.nsIn K mainGlobals "worth_of" = some (some (.ref f10)))
  (l10 : K.lookup f10 = some ⟨oc10, od10, .func (PySem.W.fnOf "worth_of" "worth_of" (defArgs s_worth_of) (defBody s_worth_of) (defScope s_worth_of) .none kV10 dc10 pm10 an10 cd10 ct10), sl10⟩)
  (c10 : PySem.W.codeIn K cd10 "worth_of" = true)
  (k10 : PySem.W.keepIn K (.ref f10) = true)
  (a11 : PySem.W.nsIn K mainGlobals "best" = some (some (.ref f11)))
  (l11 : K.lookup f11 = some ⟨oc11, od11, .func (PySem.W.fnOf "best" "best" (defArgs s_best) (defBody s_best) (defScope s_best) .none kV11 dc11 pm11 an11 cd11 ct11), sl11⟩)
  (c11 : PySem.W.codeIn K cd11 "best" = true)
  (k11 : PySem.W.keepIn K (.ref f11) = true)
  (a12 : PySem.W.nsIn K mainGlobals "plane_height" = some (some (.ref f12)))
  (l12 : K.lookup f12 = some ⟨oc12, od12, .func (PySem.W.fnOf "plane_height" "plane_height" (defArgs s_plane_height) (defBody s_plane_height) (defScope s_plane_height) .none kV12 dc12 pm12 an12 cd12 ct12), sl12⟩)
  (c12 : PySem.W.codeIn K cd12 "plane_height" = true)
  (k12 : PySem.W.keepIn K (.ref f12) = true)
  (a13 : PySem.W.nsIn K mainGlobals "check_numbers" = some (some (.ref f13)))
  (l13 : K.lookup f13 = some ⟨oc13, od13, .func (PySem.W.fnOf "check_numbers" "check_numbers" (defArgs s_check_numbers) (defBody s_check_numbers) (defScope s_check_numbers) .none kV13 dc13 pm13 an13 cd13 ct13), sl13⟩)
  (c13 : PySem.W.codeIn K cd13 "check_numbers" = true)
  (k13 : PySem.W.keepIn K (.ref f13) = true)
  (a14 : PySem.W.nsIn K mainGlobals "table_without" = some (some (.ref f14)))
  (l14 : K.lookup f14 = some ⟨oc14, od14, .func (PySem.W.fnOf "table_without" "table_without" (defArgs s_table_without) (defBody s_table_without) (defScope s_table_without) .none kV14 dc14 pm14 an14 cd14 ct14), sl14⟩)
  (c14 : PySem.W.codeIn K cd14 "table_without" = true)
  (k14 : PySem.W.keepIn K (.ref f14) = true)
  (a15 : PySem.W.nsIn K mainGlobals "through" = some (some (.ref f15)))
  (l15 : K.lookup f15 = some ⟨oc15, od15, .func (PySem.W.fnOf "through" "through" (defArgs s_through) (defBody s_through) (defScope s_through) .none kV15 dc15 pm15 an15 cd15 ct15), sl15⟩)
  (c15 : PySem.W.codeIn K cd15 "through" = true)
  (k15 : PySem.W.keepIn K (.ref f15) = true)
  (a16 : PySem.W.nsIn K mainGlobals "_law_whole" = some (some (.ref f16)))
  (l16 : K.lookup f16 = some ⟨oc16, od16, .func (PySem.W.fnOf "_law_whole" "_law_whole" (defArgs s__law_whole) (defBody s__law_whole) (defScope s__law_whole) .none kV16 dc16 pm16 an16 cd16 ct16), sl16⟩)
  (c16 : PySem.W.codeIn K cd16 "_law_whole" = true)
  (k16 : PySem.W.keepIn K (.ref f16) = true)
  (a17 : PySem.W.nsIn K mainGlobals "_law_cell_at" = some (some (.ref f17)))
  (l17 : K.lookup f17 = some ⟨oc17, od17, .func (PySem.W.fnOf "_law_cell_at" "_law_cell_at" (defArgs s__law_cell_at) (defBody s__law_cell_at) (defScope s__law_cell_at) .none kV17 dc17 pm17 an17 cd17 ct17), sl17⟩)
  (c17 : PySem.W.codeIn K cd17 "_law_cell_at" = true)
  (k17 : PySem.W.keepIn K (.ref f17) = true)
  (a18 : PySem.W.nsIn K mainGlobals "_law_mix" = some (some (.ref f18)))
  (l18 : K.lookup f18 = some ⟨oc18, od18, .func (PySem.W.fnOf "_law_mix" "_law_mix" (defArgs s__law_mix) (defBody s__law_mix) (defScope s__law_mix) .none kV18 dc18 pm18 an18 cd18 ct18), sl18⟩)
  (c18 : PySem.W.codeIn K cd18 "_law_mix" = true)
  (k18 : PySem.W.keepIn K (.ref f18) = true)
  (a19 : PySem.W.nsIn K mainGlobals "_law_lowest" = some (some (.ref f19)))
  (l19 : K.lookup f19 = some ⟨oc19, od19, .func (PySem.W.fnOf "_law_lowest" "_law_lowest" (defArgs s__law_lowest) (defBody s__law_lowest) (defScope s__law_lowest) .none kV19 dc19 pm19 an19 cd19 ct19), sl19⟩)
  (c19 : PySem.W.codeIn K cd19 "_law_lowest" = true)
  (k19 : PySem.W.keepIn K (.ref f19) = true)
  (a20 : PySem.W.nsIn K mainGlobals "_law_sum" = some (some (.ref f20)))
  (l20 : K.lookup f20 = some ⟨oc20, od20, .func (PySem.W.fnOf "_law_sum" "_law_sum" (defArgs s__law_sum) (defBody s__law_sum) (defScope s__law_sum) .none kV20 dc20 pm20 an20 cd20 ct20), sl20⟩)
  (c20 : PySem.W.codeIn K cd20 "_law_sum" = true)
  (k20 : PySem.W.keepIn K (.ref f20) = true)
  (a21 : PySem.W.nsIn K mainGlobals "_law_product" = some (some (.ref f21)))
  (l21 : K.lookup f21 = some ⟨oc21, od21, .func (PySem.W.fnOf "_law_product" "_law_product" (defArgs s__law_product) (defBody s__law_product) (defScope s__law_product) .none kV21 dc21 pm21 an21 cd21 ct21), sl21⟩)
  (c21 : PySem.W.codeIn K cd21 "_law_product" = true)
  (k21 : PySem.W.keepIn K (.ref f21) = true)
  (a22 : PySem.W.nsIn K mainGlobals "_law_before" = some (some (.ref f22)))
  (l22 : K.lookup f22 = some ⟨oc22, od22, .func (PySem.W.fnOf "_law_before" "_law_before" (defArgs s__law_before) (defBody s__law_before) (defScope s__law_before) .none kV22 dc22 pm22 an22 cd22 ct22), sl22⟩)
  (c22 : PySem.W.codeIn K cd22 "_law_before" = true)
  (k22 : PySem.W.keepIn K (.ref f22) = true)
  (a23 : PySem.W.nsIn K mainGlobals "_law_is_fraction" = some (some (.ref f23)))
  (l23 : K.lookup f23 = some ⟨oc23, od23, .func (PySem.W.fnOf "_law_is_fraction" "_law_is_fraction" (defArgs s__law_is_fraction) (defBody s__law_is_fraction) (defScope s__law_is_fraction) .none kV23 dc23 pm23 an23 cd23 ct23), sl23⟩)
  (c23 : PySem.W.codeIn K cd23 "_law_is_fraction" = true)
  (k23 : PySem.W.keepIn K (.ref f23) = true)
  (a24 : PySem.W.nsIn K mainGlobals "_law_number" = some (some (.ref f24)))
  (l24 : K.lookup f24 = some ⟨oc24, od24, .func (PySem.W.fnOf "_law_number" "_law_number" (defArgs s__law_number) (defBody s__law_number) (defScope s__law_number) .none kV24 dc24 pm24 an24 cd24 ct24), sl24⟩)
  (c24 : PySem.W.codeIn K cd24 "_law_number" = true)
  (k24 : PySem.W.keepIn K (.ref f24) = true)
  (a25 : PySem.W.nsIn K mainGlobals "_law_slopes" = some (some (.ref f25)))
  (l25 : K.lookup f25 = some ⟨oc25, od25, .func (PySem.W.fnOf "_law_slopes" "_law_slopes" (defArgs s__law_slopes) (defBody s__law_slopes) (defScope s__law_slopes) .none kV25 dc25 pm25 an25 cd25 ct25), sl25⟩)
  (c25 : PySem.W.codeIn K cd25 "_law_slopes" = true)
  (k25 : PySem.W.keepIn K (.ref f25) = true)
  (a26 : PySem.W.nsIn K mainGlobals "_law_points" = some (some (.ref f26)))
  (l26 : K.lookup f26 = some ⟨oc26, od26, .func (PySem.W.fnOf "_law_points" "_law_points" (defArgs s__law_points) (defBody s__law_points) (defScope s__law_points) .none kV26 dc26 pm26 an26 cd26 ct26), sl26⟩)
  (c26 : PySem.W.codeIn K cd26 "_law_points" = true)
  (k26 : PySem.W.keepIn K (.ref f26) = true)
  (a27 : PySem.W.nsIn K mainGlobals "_law_is_roof" = some (some (.ref f27)))
  (l27 : K.lookup f27 = some ⟨oc27, od27, .func (PySem.W.fnOf "_law_is_roof" "_law_is_roof" (defArgs s__law_is_roof) (defBody s__law_is_roof) (defScope s__law_is_roof) .none kV27 dc27 pm27 an27 cd27 ct27), sl27⟩)
  (c27 : PySem.W.codeIn K cd27 "_law_is_roof" = true)
  (k27 : PySem.W.keepIn K (.ref f27) = true)
  (a28 : PySem.W.nsIn K mainGlobals "_law_height" = some (some (.ref f28)))
  (l28 : K.lookup f28 = some ⟨oc28, od28, .func (PySem.W.fnOf "_law_height" "_law_height" (defArgs s__law_height) (defBody s__law_height) (defScope s__law_height) .none kV28 dc28 pm28 an28 cd28 ct28), sl28⟩)
  (c28 : PySem.W.codeIn K cd28 "_law_height" = true)
  (k28 : PySem.W.keepIn K (.ref f28) = true)
  (a29 : PySem.W.nsIn K mainGlobals "_law_tops" = some (some (.ref f29)))
  (l29 : K.lookup f29 = some ⟨oc29, od29, .func (PySem.W.fnOf "_law_tops" "_law_tops" (defArgs s__law_tops) (defBody s__law_tops) (defScope s__law_tops) .none kV29 dc29 pm29 an29 cd29 ct29), sl29⟩)
  (c29 : PySem.W.codeIn K cd29 "_law_tops" = true)
  (k29 : PySem.W.keepIn K (.ref f29) = true)
  (a30 : PySem.W.nsIn K mainGlobals "_law_drawn_slopes" = some (some (.ref f30)))
  (l30 : K.lookup f30 = some ⟨oc30, od30, .func (PySem.W.fnOf "_law_drawn_slopes" "_law_drawn_slopes" (defArgs s__law_drawn_slopes) (defBody s__law_drawn_slopes) (defScope s__law_drawn_slopes) .none kV30 dc30 pm30 an30 cd30 ct30), sl30⟩)
  (c30 : PySem.W.codeIn K cd30 "_law_drawn_slopes" = true)
  (k30 : PySem.W.keepIn K (.ref f30) = true)
  (a31 : PySem.W.nsIn K mainGlobals "_law_moved" = some (some (.ref f31)))
  (l31 : K.lookup f31 = some ⟨oc31, od31, .func (PySem.W.fnOf "_law_moved" "_law_moved" (defArgs s__law_moved) (defBody s__law_moved) (defScope s__law_moved) .none kV31 dc31 pm31 an31 cd31 ct31), sl31⟩)
  (c31 : PySem.W.codeIn K cd31 "_law_moved" = true)
  (k31 : PySem.W.keepIn K (.ref f31) = true)
  (a32 : PySem.W.nsIn K mainGlobals "law" = some (some (.ref f32)))
  (l32 : K.lookup f32 = some ⟨oc32, od32, .func (PySem.W.fnOf "law" "law" (defArgs s_law) (defBody s_law) (defScope s_law) .none kV32 dc32 pm32 an32 cd32 ct32), sl32⟩)
  (c32 : PySem.W.codeIn K cd32 "law" = true)
  (k32 : PySem.W.keepIn K (.ref f32) = true)
  (z0 : PySem.W.nsIn K mainGlobals "abs" = some none)
  (z1 : PySem.W.nsIn K mainGlobals "bool" = some none)
  (z2 : PySem.W.nsIn K mainGlobals "enumerate" = some none)
  (z3 : PySem.W.nsIn K mainGlobals "int" = some none)
  (z4 : PySem.W.nsIn K mainGlobals "isinstance" = some none)
  (z5 : PySem.W.nsIn K mainGlobals "len" = some none)
  (z6 : PySem.W.nsIn K mainGlobals "list" = some none)
  (z7 : PySem.W.nsIn K mainGlobals "max" = some none)
  (z8 : PySem.W.nsIn K mainGlobals "range" = some none)
  (z9 : PySem.W.nsIn K mainGlobals "reversed" = some none)
  (z10 : PySem.W.nsIn K mainGlobals "set" = some none)
  (z11 : PySem.W.nsIn K mainGlobals "sorted" = some none)
  (z12 : PySem.W.nsIn K mainGlobals "sum" = some none)
  (z13 : PySem.W.nsIn K mainGlobals "tuple" = some none)
  (z14 : PySem.W.nsIn K mainGlobals "zip" = some none)
  (vFEWEST_SLOPES : PySem.W.nsIn K mainGlobals "FEWEST_SLOPES" = some (some (.int 2 tFEWEST_SLOPES)))
  (vMOST_SLOPES : PySem.W.nsIn K mainGlobals "MOST_SLOPES" = some (some (.int 6 tMOST_SLOPES)))
  (nRoofError : PySem.W.nsIn K mainGlobals "RoofError" = some (some (.ref CRoofError)))
  (nNoFraction : PySem.W.nsIn K mainGlobals "NoFraction" = some (some (.ref CNoFraction)))
  (nNoDealing : PySem.W.nsIn K mainGlobals "NoDealing" = some (some (.ref CNoDealing)))
  (eNoDealing : PySem.W.excIn K CNoDealing [.type "ValueError", .type "Exception", .type "BaseException", .type "object"] "ValueError.__new__" = true)
  (eNoFraction : PySem.W.excIn K CNoFraction [.type "ValueError", .type "Exception", .type "BaseException", .type "object"] "ValueError.__new__" = true)
  (xii : PySem.W.kitOne K (.type "int") (.type "int") = some true)
  (xib : PySem.W.kitOne K (.type "int") (.type "bool") = some false)
  (xtt : PySem.W.kitOne K (.type "tuple") (.type "tuple") = some true)
  (xll : PySem.W.kitOne K (.type "list") (.type "list") = some true)
  : ∃ fd : FuncData, (∀ (s : Shared) (v : Value), BindsTo s fd ⟨[v], []⟩ [("_law_script", v)]) ∧ ∀ base : Heap, K.In base → base.Ns mainGlobals mg → FnOk l.prog w K mg base (CXr l.prog w) 7 fa fd ["_law_script"] spLaw := by
 have e := hfa.symm.trans (PySem.W.mg_of X G a32)
 cases e
 have F1 := fun_mk (st := s_greatest_divisor) l1 c1 k1
 have D1 : Def K mg "greatest_divisor" ["a", "b"] s_greatest_divisor := ⟨_, _, F1, F1.binds (ps := ["a", "b"]) (fun _ _ _ _ _ _ us hl => by obtain ⟨_, _, rfl⟩ := len_2 hl; rfl), k1, PySem.W.mg_of X G a1⟩
 have F2 := fun_mk (st := s_fraction) l2 c2 k2
 have D2 : Def K mg "fraction" ["top", "bottom"] s_fraction := ⟨_, _, F2, F2.binds (ps := ["top", "bottom"]) (fun _ _ _ _ _ _ us hl => by obtain ⟨_, _, rfl⟩ := len_2 hl; rfl), k2, PySem.W.mg_of X G a2⟩
 have F3 := fun_mk (st := s_plus) l3 c3 k3
 have D3 : Def K mg "plus" ["a", "b"] s_plus := ⟨_, _, F3, F3.binds (ps := ["a", "b"]) (fun _ _ _ _ _ _ us hl => by obtain ⟨_, _, rfl⟩ := len_2 hl; rfl), k3, PySem.W.mg_of X G a3⟩
 have F4 := fun_mk (st := s_minus) l4 c4 k4
 have D4 : Def K mg "minus" ["a", "b"] s_minus := ⟨_, _, F4, F4.binds (ps := ["a", "b"]) (fun _ _ _ _ _ _ us hl => by obtain ⟨_, _, rfl⟩ := len_2 hl; rfl), k4, PySem.W.mg_of X G a4⟩
 have F5 := fun_mk (st := s_times) l5 c5 k5
 have D5 : Def K mg "times" ["a", "b"] s_times := ⟨_, _, F5, F5.binds (ps := ["a", "b"]) (fun _ _ _ _ _ _ us hl => by obtain ⟨_, _, rfl⟩ := len_2 hl; rfl), k5, PySem.W.mg_of X G a5⟩
 have F6 := fun_mk (st := s_common_bottom) l6 c6 k6
 have D6 : Def K mg "common_bottom" ["numbers"] s_common_bottom := ⟨_, _, F6, F6.binds (ps := ["numbers"]) (fun _ _ _ _ _ _ us hl => by obtain ⟨_, rfl⟩ := len_1 hl; rfl), k6, PySem.W.mg_of X G a6⟩
 have F7 := fun_mk (st := s_whole) l7 c7 k7
 have D7 : Def K mg "whole" ["number", "factor"] s_whole := ⟨_, _, F7, F7.binds (ps := ["number", "factor"]) (fun _ _ _ _ _ _ us hl => by obtain ⟨_, _, rfl⟩ := len_2 hl; rfl), k7, PySem.W.mg_of X G a7⟩
 have F8 := fun_mk (st := s_dealings_of) l8 c8 k8
 have D8 : Def K mg "dealings_of" ["n"] s_dealings_of := ⟨_, _, F8, F8.binds (ps := ["n"]) (fun _ _ _ _ _ _ us hl => by obtain ⟨_, rfl⟩ := len_1 hl; rfl), k8, PySem.W.mg_of X G a8⟩
 have F9 := fun_mk (st := s_whole_rows) l9 c9 k9
 have D9 : Def K mg "whole_rows" ["table", "factor"] s_whole_rows := ⟨_, _, F9, F9.binds (ps := ["table", "factor"]) (fun _ _ _ _ _ _ us hl => by obtain ⟨_, _, rfl⟩ := len_2 hl; rfl), k9, PySem.W.mg_of X G a9⟩
 have F10 := fun_mk (st := s_worth_of) l10 c10 k10
 have D10 : Def K mg "worth_of" ["rows", "dealing"] s_worth_of := ⟨_, _, F10, F10.binds (ps := ["rows", "dealing"]) (fun _ _ _ _ _ _ us hl => by obtain ⟨_, _, rfl⟩ := len_2 hl; rfl), k10, PySem.W.mg_of X G a10⟩
 have F11 := fun_mk (st := s_best) l11 c11 k11
 have D11 : Def K mg "best" ["table"] s_best := ⟨_, _, F11, F11.binds (ps := ["table"]) (fun _ _ _ _ _ _ us hl => by obtain ⟨_, rfl⟩ := len_1 hl; rfl), k11, PySem.W.mg_of X G a11⟩
 have F12 := fun_mk (st := s_plane_height) l12 c12 k12
 have D12 : Def K mg "plane_height" ["plane", "point"] s_plane_height := ⟨_, _, F12, F12.binds (ps := ["plane", "point"]) (fun _ _ _ _ _ _ us hl => by obtain ⟨_, _, rfl⟩ := len_2 hl; rfl), k12, PySem.W.mg_of X G a12⟩
 have F13 := fun_mk (st := s_check_numbers) l13 c13 k13
 have D13 : Def K mg "check_numbers" ["slopes", "points"] s_check_numbers := ⟨_, _, F13, F13.binds (ps := ["slopes", "points"]) (fun _ _ _ _ _ _ us hl => by obtain ⟨_, _, rfl⟩ := len_2 hl; rfl), k13, PySem.W.mg_of X G a13⟩
 have F14 := fun_mk (st := s_table_without) l14 c14 k14
 have D14 : Def K mg "table_without" ["slope", "slopes", "points"] s_table_without := ⟨_, _, F14, F14.binds (ps := ["slope", "slopes", "points"]) (fun _ _ _ _ _ _ us hl => by obtain ⟨_, _, _, rfl⟩ := len_3 hl; rfl), k14, PySem.W.mg_of X G a14⟩
 have F15 := fun_mk (st := s_through) l15 c15 k15
 have D15 : Def K mg "through" ["slopes", "points"] s_through := ⟨_, _, F15, F15.binds (ps := ["slopes", "points"]) (fun _ _ _ _ _ _ us hl => by obtain ⟨_, _, rfl⟩ := len_2 hl; rfl), k15, PySem.W.mg_of X G a15⟩
 have F16 := fun_mk (st := s__law_whole) l16 c16 k16
 have D16 : Def K mg "_law_whole" ["_law_found"] s__law_whole := ⟨_, _, F16, F16.binds (ps := ["_law_found"]) (fun _ _ _ _ _ _ us hl => by obtain ⟨_, rfl⟩ := len_1 hl; rfl), k16, PySem.W.mg_of X G a16⟩
 have F17 := fun_mk (st := s__law_cell_at) l17 c17 k17
 have D17 : Def K mg "_law_cell_at" ["_law_script", "_law_k"] s__law_cell_at := ⟨_, _, F17, F17.binds (ps := ["_law_script", "_law_k"]) (fun _ _ _ _ _ _ us hl => by obtain ⟨_, _, rfl⟩ := len_2 hl; rfl), k17, PySem.W.mg_of X G a17⟩
 have F18 := fun_mk (st := s__law_mix) l18 c18 k18
 have D18 : Def K mg "_law_mix" ["_law_cell", "_law_k"] s__law_mix := ⟨_, _, F18, F18.binds (ps := ["_law_cell", "_law_k"]) (fun _ _ _ _ _ _ us hl => by obtain ⟨_, _, rfl⟩ := len_2 hl; rfl), k18, PySem.W.mg_of X G a18⟩
 have F19 := fun_mk (st := s__law_lowest) l19 c19 k19
 have D19 : Def K mg "_law_lowest" ["_law_top", "_law_bottom"] s__law_lowest := ⟨_, _, F19, F19.binds (ps := ["_law_top", "_law_bottom"]) (fun _ _ _ _ _ _ us hl => by obtain ⟨_, _, rfl⟩ := len_2 hl; rfl), k19, PySem.W.mg_of X G a19⟩
 have F20 := fun_mk (st := s__law_sum) l20 c20 k20
 have D20 : Def K mg "_law_sum" ["_law_a", "_law_b"] s__law_sum := ⟨_, _, F20, F20.binds (ps := ["_law_a", "_law_b"]) (fun _ _ _ _ _ _ us hl => by obtain ⟨_, _, rfl⟩ := len_2 hl; rfl), k20, PySem.W.mg_of X G a20⟩
 have F21 := fun_mk (st := s__law_product) l21 c21 k21
 have D21 : Def K mg "_law_product" ["_law_a", "_law_b"] s__law_product := ⟨_, _, F21, F21.binds (ps := ["_law_a", "_law_b"]) (fun _ _ _ _ _ _ us hl => by obtain ⟨_, _, rfl⟩ := len_2 hl; rfl), k21, PySem.W.mg_of X G a21⟩
 have F22 := fun_mk (st := s__law_before) l22 c22 k22
 have D22 : Def K mg "_law_before" ["_law_a", "_law_b"] s__law_before := ⟨_, _, F22, F22.binds (ps := ["_law_a", "_law_b"]) (fun _ _ _ _ _ _ us hl => by obtain ⟨_, _, rfl⟩ := len_2 hl; rfl), k22, PySem.W.mg_of X G a22⟩
 have F23 := fun_mk (st := s__law_is_fraction) l23 c23 k23
 have D23 : Def K mg "_law_is_fraction" ["_law_found"] s__law_is_fraction := ⟨_, _, F23, F23.binds (ps := ["_law_found"]) (fun _ _ _ _ _ _ us hl => by obtain ⟨_, rfl⟩ := len_1 hl; rfl), k23, PySem.W.mg_of X G a23⟩
 have F24 := fun_mk (st := s__law_number) l24 c24 k24
 have D24 : Def K mg "_law_number" ["_law_cell", "_law_k"] s__law_number := ⟨_, _, F24, F24.binds (ps := ["_law_cell", "_law_k"]) (fun _ _ _ _ _ _ us hl => by obtain ⟨_, _, rfl⟩ := len_2 hl; rfl), k24, PySem.W.mg_of X G a24⟩
 have F25 := fun_mk (st := s__law_slopes) l25 c25 k25
 have D25 : Def K mg "_law_slopes" ["_law_cells", "_law_most"] s__law_slopes := ⟨_, _, F25, F25.binds (ps := ["_law_cells", "_law_most"]) (fun _ _ _ _ _ _ us hl => by obtain ⟨_, _, rfl⟩ := len_2 hl; rfl), k25, PySem.W.mg_of X G a25⟩
 have F26 := fun_mk (st := s__law_points) l26 c26 k26
 have D26 : Def K mg "_law_points" ["_law_cells"] s__law_points := ⟨_, _, F26, F26.binds (ps := ["_law_cells"]) (fun _ _ _ _ _ _ us hl => by obtain ⟨_, rfl⟩ := len_1 hl; rfl), k26, PySem.W.mg_of X G a26⟩
 have F27 := fun_mk (st := s__law_is_roof) l27 c27 k27
 have D27 : Def K mg "_law_is_roof" ["_law_found"] s__law_is_roof := ⟨_, _, F27, F27.binds (ps := ["_law_found"]) (fun _ _ _ _ _ _ us hl => by obtain ⟨_, rfl⟩ := len_1 hl; rfl), k27, PySem.W.mg_of X G a27⟩
 have F28 := fun_mk (st := s__law_height) l28 c28 k28
 have D28 : Def K mg "_law_height" ["_law_plane", "_law_point"] s__law_height := ⟨_, _, F28, F28.binds (ps := ["_law_plane", "_law_point"]) (fun _ _ _ _ _ _ us hl => by obtain ⟨_, _, rfl⟩ := len_2 hl; rfl), k28, PySem.W.mg_of X G a28⟩
 have F29 := fun_mk (st := s__law_tops) l29 c29 k29
 have D29 : Def K mg "_law_tops" ["_law_roof", "_law_point"] s__law_tops := ⟨_, _, F29, F29.binds (ps := ["_law_roof", "_law_point"]) (fun _ _ _ _ _ _ us hl => by obtain ⟨_, _, rfl⟩ := len_2 hl; rfl), k29, PySem.W.mg_of X G a29⟩
 have F30 := fun_mk (st := s__law_drawn_slopes) l30 c30 k30
 have D30 : Def K mg "_law_drawn_slopes" ["_law_script"] s__law_drawn_slopes := ⟨_, _, F30, F30.binds (ps := ["_law_script"]) (fun _ _ _ _ _ _ us hl => by obtain ⟨_, rfl⟩ := len_1 hl; rfl), k30, PySem.W.mg_of X G a30⟩
 have F31 := fun_mk (st := s__law_moved) l31 c31 k31
 have D31 : Def K mg "_law_moved" ["_law_roof", "_law_far"] s__law_moved := ⟨_, _, F31, F31.binds (ps := ["_law_roof", "_law_far"]) (fun _ _ _ _ _ _ us hl => by obtain ⟨_, _, rfl⟩ := len_2 hl; rfl), k31, PySem.W.mg_of X G a31⟩
 have F32 := fun_mk (st := s_law) l32 c32 k32
 have B : Blt mg := ⟨PySem.W.mg_none_of X G z0, PySem.W.mg_none_of X G z1, PySem.W.mg_none_of X G z2, PySem.W.mg_none_of X G z3, PySem.W.mg_none_of X G z4, PySem.W.mg_none_of X G z5, PySem.W.mg_none_of X G z6, PySem.W.mg_none_of X G z7, PySem.W.mg_none_of X G z8, PySem.W.mg_none_of X G z9, PySem.W.mg_none_of X G z10, PySem.W.mg_none_of X G z11, PySem.W.mg_none_of X G z12, PySem.W.mg_none_of X G z13, PySem.W.mg_none_of X G z14⟩
 let c : Cls := ⟨CRoofError, CNoFraction, CNoDealing⟩
 have C : ClsM mg c := ⟨PySem.W.mg_of X G nRoofError, PySem.W.mg_of X G nNoFraction, PySem.W.mg_of X G nNoDealing⟩
 have hk : KitF K c := ⟨xii, xib, xtt, xll⟩
 refine ⟨PySem.W.fnOf "law" "law" (defArgs s_law) (defBody s_law) (defScope s_law) .none kV32 dc32 pm32 an32 cd32 ct32, fun s v => .of_eq rfl, fun base kb nb => ?_⟩
 have O : ClsO mg base c := ⟨own_at kb nb nNoDealing eNoDealing, own_at kb nb nNoFraction eNoFraction⟩
 have G1 : Cal l.prog w K mg base 1 "greatest_divisor" 2 (m_greatest_divisor K c) := ok_greatest_divisor D1 B C O hk
 have G7 : Cal l.prog w K mg base 1 "whole" 2 (m_whole K c) := ok_whole D7 B C O hk
 have G8 : Cal l.prog w K mg base 1 "dealings_of" 1 (m_dealings_of K c) := ok_dealings_of D8 B C O hk
 have G10 : Cal l.prog w K mg base 1 "worth_of" 2 (m_worth_of K c) := ok_worth_of D10 B C O hk
 have G13 : Cal l.prog w K mg base 1 "check_numbers" 2 (m_check_numbers K c) := ok_check_numbers D13 B C O hk (PySem.W.mg_of X G vFEWEST_SLOPES) (PySem.W.mg_of X G vMOST_SLOPES)
 have G16 : Cal l.prog w K mg base 1 "_law_whole" 1 (m__law_whole K c) := ok__law_whole D16 B C O hk
 have G17 : Cal l.prog w K mg base 1 "_law_cell_at" 2 (m__law_cell_at K c) := ok__law_cell_at D17 B C O hk
 have G18 : Cal l.prog w K mg base 1 "_law_mix" 2 (m__law_mix K c) := ok__law_mix D18 B C O hk
 have G19 : Cal l.prog w K mg base 1 "_law_lowest" 2 (m__law_lowest K c) := ok__law_lowest D19 B C O hk
 have G22 : Cal l.prog w K mg base 1 "_law_before" 2 (m__law_before K c) := ok__law_before D22 B C O hk
 have G2 : Cal l.prog w K mg base 2 "fraction" 2 (m_fraction K c) := ok_fraction D2 B C O hk G1
 have G6 : Cal l.prog w K mg base 2 "common_bottom" 1 (m_common_bottom K c) := ok_common_bottom D6 B C O hk G1
 have G9 : Cal l.prog w K mg base 2 "whole_rows" 2 (m_whole_rows K c) := ok_whole_rows D9 B C O hk G7
 have G20 : Cal l.prog w K mg base 2 "_law_sum" 2 (m__law_sum K c) := ok__law_sum D20 B C O hk G19
 have G21 : Cal l.prog w K mg base 2 "_law_product" 2 (m__law_product K c) := ok__law_product D21 B C O hk G19
 have G23 : Cal l.prog w K mg base 2 "_law_is_fraction" 1 (m__law_is_fraction K c) := ok__law_is_fraction D23 B C O hk G19 G16
 have G24 : Cal l.prog w K mg base 2 "_law_number" 2 (m__law_number K c) := ok__law_number D24 B C O hk G18 G19
 have G25 : Cal l.prog w K mg base 2 "_law_slopes" 2 (m__law_slopes K c) := ok__law_slopes D25 B C O hk G18
 have G3 : Cal l.prog w K mg base 3 "plus" 2 (m_plus K c) := ok_plus D3 B C O hk G2
 have G4 : Cal l.prog w K mg base 3 "minus" 2 (m_minus K c) := ok_minus D4 B C O hk G2
 have G5 : Cal l.prog w K mg base 3 "times" 2 (m_times K c) := ok_times D5 B C O hk G2
 have G11 : Cal l.prog w K mg base 3 "best" 1 (m_best K c) := ok_best D11 B C O hk G2 G10 G8 G9 G6
 have G26 : Cal l.prog w K mg base 3 "_law_points" 1 (m__law_points K c) := ok__law_points D26 B C O hk G24
 have G27 : Cal l.prog w K mg base 3 "_law_is_roof" 1 (m__law_is_roof K c) := ok__law_is_roof D27 B C O hk G16 G23
 have G28 : Cal l.prog w K mg base 3 "_law_height" 2 (m__law_height K c) := ok__law_height D28 B C O hk G20 G21
 have G30 : Cal l.prog w K mg base 3 "_law_drawn_slopes" 1 (m__law_drawn_slopes K c) := ok__law_drawn_slopes D30 B C O hk G25 G17
 have G31 : Cal l.prog w K mg base 3 "_law_moved" 2 (m__law_moved K c) := ok__law_moved D31 B C O hk G20 G21
 have G12 : Cal l.prog w K mg base 4 "plane_height" 2 (m_plane_height K c) := ok_plane_height D12 B C O hk G3 G5
 have G29 : Cal l.prog w K mg base 4 "_law_tops" 2 (m__law_tops K c) := ok__law_tops D29 B C O hk G22 G28
 have G14 : Cal l.prog w K mg base 5 "table_without" 3 (m_table_without K c) := ok_table_without D14 B C O hk G12
 have G15 : Cal l.prog w K mg base 6 "through" 2 (m_through K c) := ok_through D15 B C O hk G4 G11 G14 G13
 exact law_sp hk (ok_law F32 B C O hk G15 G31 G20 G24 G17 G29 G27 G26 G30)
theorem walk {l : PySem.W.OpenLaw} {q : Program} {loose : List Str} {XP : (Str → Option Value) → Heap → Prop} {YP : World → Heap → Prop} {d : DefRec} {K : Params → PySem.W.Frag} (hn : l.most = some 63) (hdf : d.params.defaults = [])
  (hY : ∀ (w : World) (h : Heap), YP w h → (K w.params).In h) (hK : ∀ w : World, noLists (K w.params) = true)
  (F : ∀ (w : World) (mg : Str → Option Value) (fa : Addr) (h : Heap), (K w.params).In h → h.Ns mainGlobals mg → mg d.name = some (.ref fa) →
   ∃ fd : FuncData, (∀ (s : Shared) (u : Value), BindsTo s fd ⟨[u], []⟩ [("_law_script", u)]) ∧ ∀ base : Heap, (K w.params).In base → base.Ns mainGlobals mg → FnOk l.prog w (K w.params) mg base (CXr l.prog w) 7 fa fd ["_law_script"] spLaw) :
  PySem.W.WalkO q loose XP YP l.row.toRowW d [] (fun f vs => PySem.call f vs) :=
 L2.walk_of (n := 63) (k := 7) (x := "_law_script") (CX := fun w => CXr l.prog w) (sp := fun _ => spLaw) hn (by decide) hdf ⟨rfl, by decide, by decide⟩ hY F (fun w _ a ns hl _ hS => ⟨a, ns, rfl, hS.elim id (fun ⟨_, _, _, e, hc, _⟩ => (noLists_no (hK w) e hc).elim), hl, fun _ => rfl⟩) fun _ _ _ _ _ ⟨_, _, _, _, _, _, _, z⟩ => z
end My
open PySem PySem.W PyProof.Rows
set_option maxRecDepth 100000 in
set_option maxHeartbeats 0 in
theorem PySem.Challenge.cw_creasecurve_k44_two_on_top_at_each_point_holds : PySem.Challenge.rw_creasecurve_k44_two_on_top_at_each_point.Holds := by
 w_on; o_law; k_head; (case hw => w_witness2)
 k_fill
 refine My.walk (l := PySem.Challenge.rw_creasecurve_k44_two_on_top_at_each_point) rfl rfl (fun w h Y => PySem.W.kIn_of Y) ?noL ?F
 case noL => intro w; rfl
 case F =>
  intro w mg fa h KX G hmg
  refine' My.all_mk KX G hmg ?a1 ?l1 ?c1 ?k1 ?a2 ?l2 ?c2 ?k2 ?a3 ?l3 ?c3 ?k3 ?a4 ?l4 ?c4 ?k4 ?a5 ?l5 ?c5 ?k5 ?a6 ?l6 ?c6 ?k6 ?a7 ?l7 ?c7 ?k7 ?a8 ?l8 ?c8 ?k8 ?a9 ?l9 ?c9 ?k9 ?a10 ?l10 ?c10 ?k10 ?a11 ?l11 ?c11 ?k11 ?a12 ?l12 ?c12 ?k12 ?a13 ?l13 ?c13 ?k13 ?a14 ?l14 ?c14 ?k14 ?a15 ?l15 ?c15 ?k15 ?a16 ?l16 ?c16 ?k16 ?a17 ?l17 ?c17 ?k17 ?a18 ?l18 ?c18 ?k18 ?a19 ?l19 ?c19 ?k19 ?a20 ?l20 ?c20 ?k20 ?a21 ?l21 ?c21 ?k21 ?a22 ?l22 ?c22 ?k22 ?a23 ?l23 ?c23 ?k23 ?a24 ?l24 ?c24 ?k24 ?a25 ?l25 ?c25 ?k25 ?a26 ?l26 ?c26 ?k26 ?a27 ?l27 ?c27 ?k27 ?a28 ?l28 ?c28 ?k28 ?a29 ?l29 ?c29 ?k29 ?a30 ?l30 ?c30 ?k30 ?a31 ?l31 ?c31 ?k31 ?a32 ?l32 ?c32 ?k32 ?z0 ?z1 ?z2 ?z3 ?z4 ?z5 ?z6 ?z7 ?z8 ?z9 ?z10 ?z11 ?z12 ?z13 ?z14 ?vFEWEST_SLOPES ?vMOST_SLOPES ?nRoofError ?nNoFraction ?nNoDealing ?eNoDealing ?eNoFraction ?xii ?xib ?xtt ?xll
  (case a1 => k_is)
  (case l1 => k_is)
  (case c1 => k_is)
  (case k1 => k_is)
  (case a2 => k_is)
  (case l2 => k_is)
  (case c2 => k_is)
  (case k2 => k_is)
  (case a3 => k_is)
  (case l3 => k_is)
  (case c3 => k_is)
  (case k3 => k_is)
  (case a4 => k_is)
  (case l4 => k_is)
  (case c4 => k_is)
  (case k4 => k_is)
  (case a5 => k_is)
  (case l5 => k_is)
  (case c5 => k_is)
  (case k5 => k_is)
  (case a6 => k_is)
  (case l6 => k_is)
  (case c6 => k_is)
  (case k6 => k_is)
  (case a7 => k_is)
  (case l7 => k_is)
  (case c7 => k_is)
  (case k7 => k_is)
  (case a8 => k_is)
  (case l8 => k_is)
  (case c8 => k_is)
  (case k8 => k_is)
  (case a9 => k_is)
  (case l9 => k_is)
  (case c9 => k_is)
  (case k9 => k_is)
  (case a10 => k_is)
  (case l10 => k_is)
  (case c10 => k_is)
  (case k10 => k_is)
  (case a11 => k_is)
  (case l11 => k_is)
  (case c11 => k_is)
  (case k11 => k_is)
  (case a12 => k_is)
  (case l12 => k_is)
  (case c12 => k_is)
  (case k12 => k_is)
  (case a13 => k_is)
  (case l13 => k_is)
  (case c13 => k_is)
  (case k13 => k_is)
  (case a14 => k_is)
  (case l14 => k_is)
  (case c14 => k_is)
  (case k14 => k_is)
  (case a15 => k_is)
  (case l15 => k_is)
  (case c15 => k_is)
  (case k15 => k_is)
  (case a16 => k_is)
  (case l16 => k_is)
  (case c16 => k_is)
  (case k16 => k_is)
  (case a17 => k_is)
  (case l17 => k_is)
  (case c17 => k_is)
  (case k17 => k_is)
  (case a18 => k_is)
  (case l18 => k_is)
  (case c18 => k_is)
  (case k18 => k_is)
  (case a19 => k_is)
  (case l19 => k_is)
  (case c19 => k_is)
  (case k19 => k_is)
  (case a20 => k_is)
  (case l20 => k_is)
  (case c20 => k_is)
  (case k20 => k_is)
  (case a21 => k_is)
  (case l21 => k_is)
  (case c21 => k_is)
  (case k21 => k_is)
  (case a22 => k_is)
  (case l22 => k_is)
  (case c22 => k_is)
  (case k22 => k_is)
  (case a23 => k_is)
  (case l23 => k_is)
  (case c23 => k_is)
  (case k23 => k_is)
  (case a24 => k_is)
  (case l24 => k_is)
  (case c24 => k_is)
  (case k24 => k_is)
  (case a25 => k_is)
  (case l25 => k_is)
  (case c25 => k_is)
  (case k25 => k_is)
  (case a26 => k_is)
  (case l26 => k_is)
  (case c26 => k_is)
  (case k26 => k_is)
  (case a27 => k_is)
  (case l27 => k_is)
  (case c27 => k_is)
  (case k27 => k_is)
  (case a28 => k_is)
  (case l28 => k_is)
  (case c28 => k_is)
  (case k28 => k_is)
  (case a29 => k_is)
  (case l29 => k_is)
  (case c29 => k_is)
  (case k29 => k_is)
  (case a30 => k_is)
  (case l30 => k_is)
  (case c30 => k_is)
  (case k30 => k_is)
  (case a31 => k_is)
  (case l31 => k_is)
  (case c31 => k_is)
  (case k31 => k_is)
  (case a32 => k_is)
  (case l32 => k_is)
  (case c32 => k_is)
  (case k32 => k_is)
  (case z0 => k_is)
  (case z1 => k_is)
  (case z2 => k_is)
  (case z3 => k_is)
  (case z4 => k_is)
  (case z5 => k_is)
  (case z6 => k_is)
  (case z7 => k_is)
  (case z8 => k_is)
  (case z9 => k_is)
  (case z10 => k_is)
  (case z11 => k_is)
  (case z12 => k_is)
  (case z13 => k_is)
  (case z14 => k_is)
  (case vFEWEST_SLOPES => k_is)
  (case vMOST_SLOPES => k_is)
  (case nRoofError => k_is)
  (case nNoFraction => k_is)
  (case nNoDealing => k_is)
  (case eNoDealing => k_exc)
  (case eNoFraction => k_exc)
  (case xii => kit_is)
  (case xib => kit_is)
  (case xtt => kit_is)
  (case xll => kit_is)

import PyProof.Rows.All
import Wide.All
import OpenK.AllK
import Wide.FinOn
import Lean
import PyProof.EqAt
import PyProof.EqKinds
import PyProof.TupleCall
import PySem.Challenge.RW_creasecurve_k41_best_dealings
set_option Elab.async false
set_option linter.all false
set_option maxRecDepth 100000
namespace L2
open PySem PySem.Spec PyProof.Rows
abbrev Key := Sum Int Str
def keyIs : Key → Value → Bool
 | .inl k, v => Value.isInt k v
 | .inr x, v => Value.isStrOf x v
def keyH (w : World) : Key → Int
 | .inl k => hashInt k
 | .inr x => hashStr w x
theorem keyIs_shape : ∀ {k : Key} {v : Value}, keyIs k v = true → (∃ i t, k = Sum.inl i ∧ v = Value.int i t) ∨ (∃ x t, k = Sum.inr x ∧ v = Value.str x t)
 | .inl i, v, h => by
  obtain ⟨t, e⟩ := Value.isInt_shape (k := i) (v := v) h
  exact .inl ⟨i, t, rfl, e⟩
 | .inr x, v, h => by
  obtain ⟨t, e⟩ := Value.isStrOf_shape (x := x) (v := v) h
  exact .inr ⟨x, t, rfl, e⟩
theorem key_ll (a b : Int) : decide ((Sum.inl a : Key) = Sum.inl b) = (a == b) := by
 by_cases e : a = b
 ·subst e; simp
 ·have h : ¬ (Sum.inl a : Key) = Sum.inl b := fun q => e (Sum.inl.inj q)
  rw [decide_eq_false h]
  exact (beq_eq_false_iff_ne.mpr e).symm
theorem key_rr (a b : Str) : decide ((Sum.inr a : Key) = Sum.inr b) = decide (a = b) := by
 by_cases e : a = b
 ·subst e; simp
 ·have h : ¬ (Sum.inr a : Key) = Sum.inr b := fun q => e (Sum.inr.inj q)
  rw [decide_eq_false h, decide_eq_false e]
theorem key_lr (a : Int) (b : Str) : decide ((Sum.inl a : Key) = Sum.inr b) = false := decide_eq_false (fun q => nomatch q)
theorem key_rl (a : Str) (b : Int) : decide ((Sum.inr a : Key) = Sum.inl b) = false := decide_eq_false (fun q => nomatch q)
def mixKind (prog : Program) (w : World) : PySem.KeyKind prog w Key where
 is := keyIs
 hash := keyH w
 inj := fun v a b ha hb => by
  rcases keyIs_shape ha with ⟨i, t, rfl, rfl⟩ | ⟨x, t, rfl, rfl⟩
  ·rcases keyIs_shape hb with ⟨j, u, rfl, e⟩ | ⟨y, u, rfl, e⟩
   ·injection e with e1 _; rw [e1]
   ·exact nomatch e
  ·rcases keyIs_shape hb with ⟨j, u, rfl, e⟩ | ⟨y, u, rfl, e⟩
   ·exact nomatch e
   ·injection e with e1 _; rw [e1]
 byValue := fun k v h => by
  rcases keyIs_shape h with ⟨i, t, rfl, rfl⟩ | ⟨x, t, rfl, rfl⟩ <;> rfl
 pyHash := fun hv h => by
  rcases keyIs_shape hv with ⟨i, t, rfl, rfl⟩ | ⟨x, t, rfl, rfl⟩
  ·exact wpAny_pyHash_int h
  ·exact wpAny_pyHash_str h
 eqBool := fun hu hv h => by
  rcases keyIs_shape hu with ⟨i, t, rfl, rfl⟩ | ⟨x, t, rfl, rfl⟩
  ·rcases keyIs_shape hv with ⟨j, u, rfl, rfl⟩ | ⟨y, u, rfl, rfl⟩
   ·rw [key_ll] at h; exact wpAny_eqBool_int h
   ·rw [key_lr] at h; exact SeqAt.EqAt.int_str i t y u _ _ _ _ h
  ·rcases keyIs_shape hv with ⟨j, u, rfl, rfl⟩ | ⟨y, u, rfl, rfl⟩
   ·rw [key_rl] at h; exact SeqAt.EqAt.str_int x t j u _ _ _ _ h
   ·rw [key_rr] at h; exact wpAny_eqBool_str h
 «strs» := fun k x t v h => by
  rcases keyIs_shape h with ⟨i, u, rfl, e⟩ | ⟨y, u, rfl, e⟩
  ·exact nomatch e
  ·injection e with e1 _
   subst e1
   cases v <;> rfl
inductive V where
 | non | bl (b : Bool) | int (i : Int) | str (x : Str) | byt (b : Array UInt8) | flt (b : UInt64) | ref (a : Addr) | ty (n : String)
 deriving DecidableEq
def RelV : V → Value → Prop
 | .non, u => u = Value.none
 | .bl b, u => u = Value.bool b
 | .int i, u => ∃ t, u = Value.int i t
 | .str x, u => ∃ t, u = Value.str x t
 | .byt b, u => ∃ t, u = Value.bytes b t
 | .flt b, u => ∃ t, u = Value.float b t
 | .ref a, u => u = Value.ref a
 | .ty n, u => u = Value.type n
abbrev Vals : List V → List Value → Prop := Paired RelV
theorem Vals.length {xs : List V} {us : List Value} (r : Vals xs us) : xs.length = us.length := Paired.length r
theorem Vals.get : ∀ {xs : List V} {us : List Value} {i : Nat} {x : V}, Vals xs us → xs[i]? = some x → ∃ u, us[i]? = some u ∧ RelV x u
 | _, _, _, _, .nil, e => by simp at e
 | _, _, 0, _, .cons r _, e => by simp at e; subst e; exact ⟨_, rfl, r⟩
 | _, _, i + 1, x, .cons _ t, e => by
  obtain ⟨u, h1, h2⟩ := Vals.get (i := i) (x := x) t (by simpa using e)
  exact ⟨u, by simpa using h1, h2⟩
theorem Vals.append : ∀ {xs ys : List V} {us ws : List Value}, Vals xs us → Vals ys ws → Vals (xs ++ ys) (us ++ ws)
 | _, _, _, _, .nil, s => s
 | _, _, _, _, .cons r t, s => .cons r (Vals.append t s)
def RelO : Option V → Option Value → Prop
 | some v, some u => RelV v u
 | none, none => True
 | _, _ => False
def KV {κ : Type} : List (κ × V) → List (κ × Value) → Prop := Paired fun (p : κ × V) (q : κ × Value) => p.1 = q.1 ∧ RelV p.2 q.2
def kV : Key → V
 | .inl i => .int i
 | .inr x => .str x
inductive HO where
 /-- a list -/
 | lst (xs : List V)
 /-- a tuple (never changes) -/
 | tup (xs : List V)
 /-- a dict whose keys are ints and texts; one whose keys are tuples of ints and texts (the empty one is both) -/
 | dK (kvs : List (Key × V)) | dT (kvs : List (List Key × V))
 /-- a set of ints: its members, its size -/
 | set (S : Int → Bool) (n : Nat)
 /-- an instance of the class at C, its dict at dx, its attributes -/
 | ins (C dx : Addr) (fs : List (Str × V))
 /-- the dict of the instance at x -/
 | own (x : Addr)
 /-- the dict of an exception -/
 | xd (fs : List (Str × V))
 /-- a bound method, f of x -/
 | met (f x : Addr)
 /-- a range object lo, lo + 1, .. below hi -/
 | rng (lo hi : Int)
 /-- a thing that is known to the object (the script; a dict while a loop walks it): read, never written while it is so -/
 | frz (o : Obj) (u : HO)
 /-- a code object's table -/
 | tbl (ps : Array Value)
 /-- any other thing, by what is true of its one object (a def of one's own: SetO a S n := HO.ext fun h => ..) -/
 | ext (φ : Heap → Prop)
abbrev Hp := Addr → Option HO
def upd (H : Hp) (a : Addr) (o : HO) : Hp := fun b => if b = a then some o else H b
theorem upd_same {H : Hp} {a : Addr} {o : HO} : upd H a o a = some o := by unfold upd; rw [if_pos rfl]
theorem upd_ne {H : Hp} {a b : Addr} {o : HO} (h : b ≠ a) : upd H a o b = H b := by unfold upd; rw [if_neg h]
theorem upd_upd {H : Hp} {a : Addr} {o u : HO} : upd (upd H a o) a u = upd H a u := by
 funext b; unfold upd; split <;> rfl
theorem ne_of_none {H : Hp} {a b : Addr} {o : HO} (h : H a = some o) (h' : H b = none) : a ≠ b := by
 intro e; subst e; rw [h] at h'; cases h'
section
variable (P : Program) (w : World)
def ObjOk (H : Hp) (h : Heap) (a : Addr) : HO → Prop
 | .lst xs => xs.length ≤ sizeLine ∧ ∃ (its : List Value) (n : Nat), Vals xs its ∧ h.get? a = some { cls := .type "list", data := .seq its.toArray n }
 | .tup xs => xs.length ≤ sizeLine ∧ ∃ its : List Value, Vals xs its ∧ IsTup h a its.toArray
 | .dK kvs => kvs.length ≤ sizeLine ∧ (a == sysModules) = false ∧ ∃ vs, KV kvs vs ∧ h.DictOf (mixKind P w) a vs
 | .dT kvs => kvs.length ≤ sizeLine ∧ (a == sysModules) = false ∧ ∃ xs : List (List Key × Addr × Value),
   Paired (fun (p : List Key × V) (q : List Key × Addr × Value) => p.1 = q.1 ∧ H q.2.1 = some (.tup (p.1.map kV)) ∧ RelV p.2 q.2.2) kvs xs ∧
   ∃ o es ep, h.get? a = some o ∧ o.ExactDict ∧ o.data = .dict es ep ∧ es.toList = xs.map (entryOfKey (tupleKind (mixKind P w))) ∧ (xs.map (·.1)).Nodup
 | .set S n => h.SetOf (intKind P w) a S n
 | .ins C dx fs => H dx = some (.own a) ∧ fs.length ≤ 1000 ∧ dx ≠ a ∧ h.get? a = some (PySem.W.instObj C dx) ∧
   ∃ mA, h.Ns1 dx mA ∧ (∀ f, RelO (fs.lookup f) (mA f)) ∧ PySem.Within mA (fs.map (·.1))
 | .own _ => ∃ o, h.get? a = some o
 | .xd fs => ∃ mA, h.Ns1 a mA ∧ ∀ f, RelO (fs.lookup f) (mA f)
 | .rng lo hi => ∃ t u v, h.get? a = some { cls := .type "range", data := .fields #[.int lo t, .int hi u, .int 1 v] }
 | .frz o u => h.get? a = some o ∧ ObjOk H h a u
 | .tbl ps => h.get? a = some { cls := .none, data := .fields ps }
 | .met f x => h.get? a = some (PySem.W.methodObj (.ref f) (.ref x))
 | .ext φ => φ h ∧ (∃ o, h.get? a = some o) ∧ ∀ h1 h2 : Heap, φ h1 → (∀ o, h1.get? a = some o → h2.get? a = some o) → φ h2
def HOk (H : Hp) (h : Heap) : Prop := ∀ a o, H a = some o → ObjOk P w H h a o
end
section
variable {P : Program} {w : World} {H H' : Hp} {h h' : Heap} {a : Addr} {o : HO}
theorem ObjOk.lt (x : ObjOk P w H h a o) : a < h.objs.size := by
 cases o with
 | lst xs => obtain ⟨_, _, _, _, e⟩ := x; exact Heap.lt_size e
 | tup xs => obtain ⟨_, _, _, p⟩ := x; exact p.lt
 | dK kvs => obtain ⟨_, _, _, _, o, _, _, e, _⟩ := x; exact Heap.lt_size e
 | dT kvs => obtain ⟨_, _, _, _, o, _, _, e, _⟩ := x; exact Heap.lt_size e
 | set S n => obtain ⟨o, _, _, _, e, _⟩ := x; exact Heap.lt_size e
 | ins C dx fs => obtain ⟨_, _, _, e, _⟩ := x; exact Heap.lt_size e
 | own y => obtain ⟨_, e⟩ := x; exact Heap.lt_size e
 | xd fs => obtain ⟨_, ⟨_, _, _, e, _⟩, _⟩ := x; exact Heap.lt_size e
 | rng lo hi => obtain ⟨_, _, _, e⟩ := x; exact Heap.lt_size e
 | frz ob u => obtain ⟨e, _⟩ := x; exact Heap.lt_size e
 | tbl ps => exact Heap.lt_size (show h.get? a = some _ from x)
 | met f y => exact Heap.lt_size (show h.get? a = some _ from x)
 | ext φ => obtain ⟨_, ⟨_, e⟩, _⟩ := x; exact Heap.lt_size e
theorem Paired.mapP {α β : Type} {F G : α → β → Prop} : ∀ {l₁ : List α} {l₂ : List β}, Paired F l₁ l₂ → (∀ a b, F a b → G a b) → Paired G l₁ l₂
 | _, _, .nil, _ => .nil
 | _, _, .cons r t, f => .cons (f _ _ r) (Paired.mapP t f)
theorem ObjOk.stay (x : ObjOk P w H h a o) (k : ∀ b u, (b = a ∨ H b = some (.own a)) → h.get? b = some u → h'.get? b = some u)
  (ho : ∀ b, H b = some (.own a) → H' b = some (.own a)) (ht : ∀ b xs, H b = some (.tup xs) → H' b = some (.tup xs)) : ObjOk P w H' h' a o := by
 induction o with
 | lst xs => obtain ⟨z, its, n, r, e⟩ := x; exact ⟨z, its, n, r, k _ _ (.inl rfl) e⟩
 | tup xs => obtain ⟨z, its, r, ob, e, c⟩ := x; exact ⟨z, its, r, ob, k _ _ (.inl rfl) e, c⟩
 | dK kvs => obtain ⟨z, y, vs, r, ob, es, ep, e, c⟩ := x; exact ⟨z, y, vs, r, ob, es, ep, k _ _ (.inl rfl) e, c⟩
 | dT kvs =>
  obtain ⟨z, y, xs, r, ob, es, ep, e, c⟩ := x
  exact ⟨z, y, xs, Paired.mapP r fun p q z => ⟨z.1, ht _ _ z.2.1, z.2.2⟩, ob, es, ep, k _ _ (.inl rfl) e, c⟩
 | set S n => obtain ⟨ob, es, ep, t, e, c⟩ := x; exact ⟨ob, es, ep, t, k _ _ (.inl rfl) e, c⟩
 | ins C dx fs =>
  obtain ⟨d, z, ne, e, mA, ⟨od, es, ep, e2, c⟩, r⟩ := x
  exact ⟨ho _ d, z, ne, k _ _ (.inl rfl) e, mA, ⟨od, es, ep, k _ _ (.inr d) e2, c⟩, r⟩
 | own y => obtain ⟨ob, e⟩ := x; exact ⟨ob, k _ _ (.inl rfl) e⟩
 | xd fs => obtain ⟨mA, ⟨od, es, ep, e, c⟩, r⟩ := x; exact ⟨mA, ⟨od, es, ep, k _ _ (.inl rfl) e, c⟩, r⟩
 | rng lo hi => obtain ⟨t, u, v, e⟩ := x; exact ⟨t, u, v, k _ _ (.inl rfl) e⟩
 | frz ob u ih => obtain ⟨e, q⟩ := x; exact ⟨k _ _ (.inl rfl) e, ih q⟩
 | tbl ps =>
  have e : h.get? a = some { cls := .none, data := .fields ps } := x
  show h'.get? a = some { cls := .none, data := .fields ps }
  exact k a _ (.inl rfl) e
 | met f y =>
  have e : h.get? a = some (PySem.W.methodObj (.ref f) (.ref y)) := x
  show h'.get? a = some (PySem.W.methodObj (.ref f) (.ref y))
  exact k a _ (.inl rfl) e
 | ext φ => obtain ⟨p, ⟨o, e⟩, st⟩ := x; exact ⟨st _ _ p fun o q => k _ _ (.inl rfl) q, ⟨o, k _ _ (.inl rfl) e⟩, st⟩
theorem HOk.lt (x : HOk P w H h) (e : H a = some o) : a < h.objs.size := (x a o e).lt
theorem HOk.fresh (x : HOk P w H h) (e : h.objs.size ≤ a) : H a = none := by
 cases q : H a with
 | none => rfl
 | some u => exact absurd (Nat.lt_of_lt_of_le (x.lt q) e) (Nat.lt_irrefl _)
theorem HOk.kept (x : HOk P w H h) (k : ∀ b u, h.get? b = some u → h'.get? b = some u) : HOk P w H h' := fun a o e =>
 (x a o e).stay (fun b u _ q => k b u q) (fun _ q => q) fun _ _ q => q
theorem HOk.laid (x : HOk P w H h) (k : ∀ b u, h.get? b = some u → h'.get? b = some u) (hp : h.objs.size ≤ a) (new : ObjOk P w (upd H a o) h' a o) : HOk P w (upd H a o) h' := fun b u e => by
 have hn := x.fresh hp
 by_cases hb : b = a
 ·subst hb; rw [upd_same] at e; cases e; exact new
 ·rw [upd_ne hb] at e
  exact (x b u e).stay (fun c v _ q => k c v q) (fun c q => by rw [upd_ne (ne_of_none q hn)]; exact q) fun c xs q => by rw [upd_ne (ne_of_none q hn)]; exact q
end
def Rd (H : Hp) (a : Addr) (u : HO) : Prop := H a = some u ∨ ∃ o, H a = some (.frz o u)
theorem Rd.ok {P : Program} {w : World} {H : Hp} {h : Heap} {a : Addr} {u : HO} (r : Rd H a u) (x : HOk P w H h) : ObjOk P w H h a u := by
 rcases r with r | ⟨o, r⟩
 ·exact x a u r
 ·obtain ⟨_, q⟩ := x a _ r
  exact q
def Mut : Option HO → Prop
 | some (.lst _) => True
 | some (.dK _) => True
 | some (.dT _) => True
 | some (.set _ _) => True
 | some (.ins _ _ _) => True
 | some (.ext _) => True
 | _ => False
section
variable {P : Program} {w : World} {H : Hp} {h h' : Heap} {x e : Addr} {o' : HO}
theorem HOk.write (ok : HOk P w H h) (mu : Mut (H x)) (he : e = x ∨ H e = some (.own x)) (k : ∀ b u, b ≠ e → h.get? b = some u → h'.get? b = some u) (heo : ∃ u, h'.get? e = some u)
  (new : ObjOk P w (upd H x o') h' x o') : HOk P w (upd H x o') h' := fun b u q => by
 have nown : ∀ c y, H c = some (.own y) → c ≠ x := fun c y r z => by subst z; rw [r] at mu; exact mu
 have ntup : ∀ c xs, H c = some (.tup xs) → c ≠ x := fun c xs r z => by subst z; rw [r] at mu; exact mu
 by_cases hb : b = x
 ·subst hb; rw [upd_same] at q; cases q; exact new
 ·rw [upd_ne hb] at q
  by_cases hbe : b = e
  ·have q' : H b = some (.own x) := by
    rcases he with z | z
    ·exact absurd (hbe.trans z) hb
    ·rw [hbe]; exact z
   rw [q] at q'; cases q'
   obtain ⟨v, hv⟩ := heo
   exact ⟨v, by rw [hbe]; exact hv⟩
  ·refine (ok b u q).stay (fun c v hc r => k c v ?_ r) (fun c r => by rw [upd_ne (nown c b r)]; exact r) fun c xs r => by rw [upd_ne (ntup c xs r)]; exact r
   rcases hc with rfl | hc
   ·exact hbe
   ·rintro rfl
    rcases he with z | z
    ·exact nown c b hc z
    ·rw [hc] at z; cases z; exact hb rfl
end
structure Un (fs ex : List Addr) (H H' : Hp) (h h' : Heap) : Prop where
 keep : ∀ b o, h.get? b = some o → H b = none → b ∉ fs → b ∉ ex → h'.get? b = some o
 slot : ∀ b o, h.get? b = some o → H b = none → b ∈ fs → b ∉ ex → ∃ sl, h'.get? b = some { o with slots := sl }
 free : ∀ b o, h.get? b = some o → H b = none → b ∉ ex → H' b = none
 there : ∀ b o, h.get? b = some o → b ∉ ex → ∃ o', h'.get? b = some o'
 tups : ∀ b xs, H b = some (.tup xs) → H' b = some (.tup xs)
 frzs : ∀ b o u, H b = some (.frz o u) → H' b = some (.frz o u)
 tbls : ∀ b ps, H b = some (.tbl ps) → ∃ more, H' b = some (.tbl (ps ++ more))
section
variable {fs fs' ex ex' : List Addr} {H H1 H2 : Hp} {h h1 h2 h' : Heap} {a x e : Addr} {o : HO}
theorem Un.any (u : Un fs ex H H1 h h1) {b : Addr} {ob : Obj} (q : h.get? b = some ob) (n : H b = none) (hx : b ∉ ex) : ∃ sl, h1.get? b = some { ob with slots := sl } := by
 by_cases hb : b ∈ fs
 ·exact u.slot b ob q n hb hx
 ·exact ⟨ob.slots, u.keep b ob q n hb hx⟩
theorem Un.kept (k : ∀ b u, h.get? b = some u → h'.get? b = some u) : Un fs ex H H h h' :=
 ⟨fun b ob q _ _ _ => k b ob q, fun b ob q _ _ _ => ⟨ob.slots, k b ob q⟩, fun _ _ _ n _ => n, fun b ob q _ => ⟨ob, k b ob q⟩, fun _ _ q => q, fun _ _ _ q => q, fun _ ps q => ⟨#[], by rw [q]; simp⟩⟩
theorem Un.refl : Un fs ex H H h h := Un.kept fun _ _ q => q
theorem Un.laid (k : ∀ b u, h.get? b = some u → h'.get? b = some u) (hp : h.objs.size ≤ a) (hn : H a = none) : Un fs ex H (upd H a o) h h' where
 keep := fun b u q _ _ _ => k b u q
 slot := fun b u q _ _ _ => ⟨u.slots, k b u q⟩
 free := fun b u q n _ => by rw [upd_ne (Nat.ne_of_lt (Nat.lt_of_lt_of_le (Heap.lt_size q) hp))]; exact n
 there := fun b u q _ => ⟨u, k b u q⟩
 tups := fun b xs q => by rw [upd_ne (ne_of_none q hn)]; exact q
 frzs := fun b u xs q => by rw [upd_ne (ne_of_none q hn)]; exact q
 tbls := fun b ps q => ⟨#[], by rw [upd_ne (ne_of_none q hn), q]; simp⟩
theorem Un.write (mu : Mut (H x)) (he : e = x ∨ H e = some (.own x)) (k : ∀ b u, b ≠ e → h.get? b = some u → h'.get? b = some u) (heo : ∃ u, h'.get? e = some u) : Un fs ex H (upd H x o) h h' := by
 have hx : ∀ b, H b = none → b ≠ x := fun b n z => by subst z; rw [n] at mu; exact mu
 have hb : ∀ b, H b = none → b ≠ e := fun b n z => by
  subst z
  rcases he with r | r
  ·exact hx b n r
  ·rw [n] at r; cases r
 have hm : ∀ b u, H b = some u → ¬ Mut (some u) → b ≠ x := fun b u q nm z => by subst z; rw [q] at mu; exact nm mu
 refine ⟨fun b u q n _ _ => k b u (hb b n) q, fun b u q n _ _ => ⟨u.slots, k b u (hb b n) q⟩, fun b u q n _ => by rw [upd_ne (hx b n)]; exact n, fun b u q _ => ?_,
  fun b xs q => by rw [upd_ne (hm b _ q fun z => z)]; exact q, fun b u xs q => by rw [upd_ne (hm b _ q fun z => z)]; exact q, fun b ps q => ⟨#[], by rw [upd_ne (hm b _ q fun z => z), q]; simp⟩⟩
 by_cases hbe : b = e
 ·subst hbe; exact heo
 ·exact ⟨u, k b u hbe q⟩
end
def trk (h : Heap) (H : Hp) : List Addr := (List.range h.objs.size).filter fun a => (H a).isSome
def hidT (h : Heap) (H : Hp) : Heap := PySem.W.hideAll h (trk h H)
theorem hidT_size (h : Heap) (H : Hp) : (hidT h H).objs.size = h.objs.size := PySem.W.hideAll_size _ _
theorem hidT_get {h : Heap} {H : Hp} {b : Addr} {o : Obj} (e : h.get? b = some o) (n : H b = none) : (hidT h H).get? b = some o :=
 PySem.W.hideAll_get _ e fun hm => by
  have q : (H b).isSome = true := (List.mem_filter.mp hm).2
  rw [n] at q; simp at q
theorem of_hidT {h : Heap} {H : Hp} {b : Addr} {o : Obj} (e : (hidT h H).get? b = some o) : h.get? b = some o ∧ H b = none := by
 have e' : h.get? b = some o := PySem.W.of_hideAll (trk h H) e
 refine ⟨e', ?_⟩
 cases q : H b with
 | none => rfl
 | some x =>
  have hm : b ∈ trk h H := List.mem_filter.mpr ⟨List.mem_range.mpr (Heap.lt_size e'), by simp [q]⟩
  have z : (hidT h H).get? b = none := PySem.W.hideAll_none (trk h H) hm
  rw [z] at e; cases e
def allNews (g h : Heap) (L : Addr) : List (Addr × Obj) := (List.range h.objs.size).filterMap fun a => if a = L ∨ (g.get? a).isSome = true then none else (h.get? a).map fun o => (a, o)
def rest (g h : Heap) (L d : Addr) : List (Addr × Obj) := (allNews g h L).filter fun p => decide (p.1 ≠ d)
structure Mod (K : PySem.W.Frag) (mg : Str → Option Value) (base : Heap) : Prop where
 kin : K.In base
 glob : base.Ns mainGlobals mg
 blt : ∃ mb, base.Ns builtinsNs mb ∧ ∀ x : Str, x ≠ "__name__" → mb x = bootBuiltins x
 nolimit : base.NoLimit
structure Cx where
 prog : Program
 w : World
 K : PySem.W.Frag
 mg : Str → Option Value
 base : Heap
 A : Around
 N : List Str
 s₀ : Shared
 H₀ : Hp
 env : Env
 outer : List Env
 stack : List Env
 ex : List Addr
 fn : Str → Bool
 calm : Bool
 pn : List (Addr × Obj)
 xe : Value → Shared → Prop
def frs (l : List Env) : List Addr := l.filterMap (·.frame)
abbrev Cx.fs (X : Cx) : List Addr := frs X.outer
def Vis (sc : Scope) (x : Str) : Prop := sc.names.lookup x = some .local ∨ sc.names.lookup x = some .cell ∨ sc.names.lookup x = some .free
def Loc (sc : Scope) (x : Str) : Prop := sc.names.lookup x = some .local ∨ sc.names.lookup x = some .cell
def Look (env : Env) (h : Heap) (m : Str → Option Value) (x : Str) (u : Value) : Prop :=
 (env.kindOf x = some .local ∧ m x = some u) ∨ ((env.kindOf x = some .cell ∨ env.kindOf x = some .free) ∧ ∃ c, env.cells.lookup x = some c ∧ h.IsCell c (some u))
structure Cx.Ok (X : Cx) : Prop where
 mod : Mod X.K X.mg X.base
 kind : X.env.scope.kind = .function
 glob : X.env.globals = mainGlobals
 blt : X.env.builtins = builtinsNs
 above : X.s₀.heap.objs.size ≤ X.env.locals
 inj : ∀ x y c, X.env.cells.lookup x = some c → X.env.cells.lookup y = some c → x = y
 has : ∀ x, (X.env.kindOf x = some .cell ∨ X.env.kindOf x = some .free) → ∃ c, X.env.cells.lookup x = some c
 cab : ∀ x c, X.fn x = true → X.env.cells.lookup x = some c → X.s₀.heap.objs.size ≤ c
 hd : X.calm = true → X.A.handled = none
 frames : X.A.frames = some X.stack
 stk : X.stack = X.outer ∨ (X.stack = X.env :: X.outer ∧ X.env.frame = some X.env.locals)
 exf : ∀ b ∈ X.ex, b ≠ X.env.locals ∧ ∀ x c, X.env.cells.lookup x = some c → c ≠ b
 bs : ∀ b o, X.base.get? b = some o → X.s₀.heap.get? b = some o ∧ X.H₀ b = none
 bsz : X.base.objs.size ≤ X.s₀.heap.objs.size
 noex : ∀ b o, X.base.get? b = some o → b ∉ X.ex
 exfs : ∀ b ∈ X.ex, b ∉ X.fs
 funs : X.s₀.heap.FunFrames X.base X.outer
 frf : ∀ b ∈ X.fs, X.H₀ b = none
structure Inv (X : Cx) (pins : List (Addr × Obj)) (σ : List (Option V)) (H : Hp) (s : Shared) : Prop where
 ok : X.Ok
 os : s.os = X.s₀.os
 bare : AllBare s.gens
 base : Un X.fs X.ex X.H₀ H X.s₀.heap s.heap
 loc : ∃ m, s.heap.Ns X.env.locals m ∧ ∀ (i : Nat) (x : Str) (v : V), X.N[i]? = some x → σ[i]? = some (some v) → Vis X.env.scope x → ∃ u, RelV v u ∧ Look X.env s.heap m x u
 cell : ∀ x c, X.env.cells.lookup x = some c → ∃ v, s.heap.IsCell c v
 free : H X.env.locals = none
 freeC : ∀ x c, X.env.cells.lookup x = some c → H c = none
 pin : ∀ p ∈ X.pn ++ pins, s.heap.get? p.1 = some p.2 ∧ H p.1 = none ∧ p.1 ≠ X.env.locals ∧ p.1 ∉ X.fs ∧ ∀ v, p.2.data ≠ .cell v
 hok : HOk X.prog X.w H s.heap
 len : σ.length = X.N.length
section
variable {X : Cx} {pins : List (Addr × Obj)} {σ : List (Option V)} {H H' : Hp} {s : Shared} {h' : Heap}
theorem Cx.Ok.nofr (ok : X.Ok) {b : Addr} {o : Obj} (e : X.base.get? b = some o) : b ∉ X.fs := fun hb => by
 have := (ok.funs.mem hb).1
 rw [e] at this; cases this
theorem Inv.bs (I : Inv X pins σ H s) : ∀ b o, X.base.get? b = some o → s.heap.get? b = some o ∧ H b = none := fun b o e =>
 ⟨I.base.keep b o (I.ok.bs b o e).1 (I.ok.bs b o e).2 (I.ok.nofr e) (I.ok.noex b o e), I.base.free b o (I.ok.bs b o e).1 (I.ok.bs b o e).2 (I.ok.noex b o e)⟩
theorem Inv.bk (I : Inv X pins σ H s) : ∀ b o, X.base.get? b = some o → s.heap.get? b = some o := fun b o e => (I.bs b o e).1
theorem Inv.mod (I : Inv X pins σ H s) : Mod X.K X.mg X.base := I.ok.mod
theorem Inv.kIn (I : Inv X pins σ H s) : X.K.In s.heap := I.ok.mod.kin.keeps I.bk
theorem Inv.lt (I : Inv X pins σ H s) : X.env.locals < s.heap.objs.size := let ⟨_, hn, _⟩ := I.loc; hn.lt
theorem Inv.sz (I : Inv X pins σ H s) : X.s₀.heap.objs.size ≤ s.heap.objs.size := Nat.le_trans I.ok.above (Nat.le_of_lt I.lt)
theorem Inv.nofs (I : Inv X pins σ H s) {a : Addr} (h : s.heap.objs.size ≤ a) : a ∉ X.fs := fun hb => by
 obtain ⟨_, o, ho, _⟩ := I.ok.funs.mem hb
 exact absurd (Nat.lt_of_lt_of_le (Heap.lt_size ho) (Nat.le_trans I.sz h)) (Nat.lt_irrefl _)
theorem Inv.cne (I : Inv X pins σ H s) : ∀ x c, X.env.cells.lookup x = some c → c ≠ X.env.locals := fun x c e z => by
 obtain ⟨v, o, ho, hd⟩ := I.cell x c e
 obtain ⟨m, ⟨o', es, ep, ho', hd', _⟩, _⟩ := I.loc
 rw [z, ho'] at ho; cases ho; rw [hd'] at hd; cases hd
theorem Inv.funs (I : Inv X pins σ H s) : s.heap.FunFrames X.base X.outer := by
 have all : ∀ (l : List Env), (∀ b ∈ frs l, b ∈ X.fs) → X.s₀.heap.FunFrames X.base l → s.heap.FunFrames X.base l := by
  intro l
  induction l with
  | nil => intro _ _; trivial
  | cons env r ih =>
   intro hs hl
   obtain ⟨hk, ⟨L, o, hf, hn, ho, hd⟩, hr⟩ := hl
   have hL : L ∈ X.fs := hs L (by unfold frs; rw [List.filterMap_cons, hf]; exact List.mem_cons_self)
   obtain ⟨sl, e⟩ := I.base.slot L o ho (I.ok.frf L hL) hL fun z => I.ok.exfs L z hL
   exact ⟨hk, ⟨L, _, hf, hn, e, hd⟩, ih (fun b hb => hs b (by unfold frs; rw [List.filterMap_cons, hf]; exact List.mem_cons_of_mem _ hb)) hr⟩
 exact all X.outer (fun _ hb => hb) I.ok.funs
theorem Inv.stack (I : Inv X pins σ H s) : s.heap.FunFrames X.base X.stack := by
 rcases I.ok.stk with e | ⟨e, hf⟩
 ·rw [e]; exact I.funs
 ·rw [e]
  obtain ⟨m, hn, _⟩ := I.loc
  refine .cons (by rw [I.ok.kind]; decide) hf hn ?_ I.funs
  exact Heap.get?_none_of_le (Nat.le_trans I.ok.bsz I.ok.above)
theorem Inv.stkSub (I : Inv X pins σ H s) : ∀ b ∈ frs X.stack, b ∈ X.env.locals :: X.fs := fun b hb => by
 rcases I.ok.stk with e | ⟨e, hf⟩
 ·rw [e] at hb; exact List.mem_cons_of_mem _ hb
 ·rw [e] at hb
  unfold frs at hb
  rw [List.filterMap_cons, hf] at hb
  exact hb
theorem Inv.stkFree (I : Inv X pins σ H s) : ∀ b ∈ frs X.stack, H b = none := fun b hb => by
 rcases List.mem_cons.mp (I.stkSub b hb) with e | hb
 ·rw [e]; exact I.free
 ·obtain ⟨_, o, ho, _⟩ := I.ok.funs.mem hb
  exact I.base.free b o ho (I.ok.frf b hb) fun z => I.ok.exfs b z hb
theorem Inv.step {g' : Array GenState} {t' : Nat} {d' : Drawn} {ch : List Addr} (I : Inv X pins σ H s)
  (hch : ∀ b ∈ ch, (b ∈ X.ex ∨ X.s₀.heap.objs.size ≤ b) ∧ b ≠ X.env.locals ∧ (∀ x c, X.env.cells.lookup x = some c → c ≠ b) ∧ ∀ p ∈ X.pn ++ pins, p.1 ≠ b)
  (keep : ∀ b o, b ≠ X.env.locals → b ∉ X.fs → b ∉ ch → s.heap.get? b = some o → H b = none → h'.get? b = some o)
  (slot : ∀ b o, b ≠ X.env.locals → b ∈ X.fs → b ∉ ch → s.heap.get? b = some o → H b = none → ∃ sl, h'.get? b = some { o with slots := sl }) (free : ∀ b o, b ∉ ch → s.heap.get? b = some o → H b = none → H' b = none)
  (there : ∀ b o, b ∉ ch → s.heap.get? b = some o → ∃ o', h'.get? b = some o')
  (tups : ∀ b xs, H b = some (.tup xs) → H' b = some (.tup xs)) (frzs : ∀ b o u, H b = some (.frz o u) → H' b = some (.frz o u)) (tbls : ∀ b ps, H b = some (.tbl ps) → ∃ more, H' b = some (.tbl (ps ++ more)))
  (ns : ∀ m, s.heap.Ns X.env.locals m → h'.Ns X.env.locals m) (hok : HOk X.prog X.w H' h') (hg : AllBare g') :
  Inv X pins σ H' { s with heap := h', gens := g', drawn := d', toks := t' } := by
 have neL : ∀ b o, X.s₀.heap.get? b = some o → b ≠ X.env.locals := fun b o e => Nat.ne_of_lt (Nat.lt_of_lt_of_le (Heap.lt_size e) I.ok.above)
 have neC : ∀ b o, X.s₀.heap.get? b = some o → b ∉ X.ex → b ∉ ch := fun b o e hx hb => by
  rcases (hch b hb).1 with z | z
  ·exact hx z
  ·exact absurd (Nat.lt_of_lt_of_le (Heap.lt_size e) z) (Nat.lt_irrefl _)
 have cellK : ∀ x c, X.env.cells.lookup x = some c → ∀ v, s.heap.IsCell c v → h'.IsCell c v := fun x c e v ⟨o, ho, hd⟩ => by
  have nch : c ∉ ch := fun z => (hch c z).2.2.1 x c e rfl
  by_cases hc : c ∈ X.fs
  ·obtain ⟨sl, q⟩ := slot c o (I.cne x c e) hc nch ho (I.freeC x c e)
   exact ⟨_, q, hd⟩
  ·exact ⟨o, keep c o (I.cne x c e) hc nch ho (I.freeC x c e), hd⟩
 refine ⟨I.ok, I.os, hg, ⟨fun b o e n hb hx => ?_, fun b o e n hb hx => ?_, fun b o e n hx => ?_, fun b o e hx => ?_, fun b xs e => tups b xs (I.base.tups b xs e), fun b o xs e => frzs b o xs (I.base.frzs b o xs e), fun b ps e => ?_⟩, ?_, fun x c e => ?_, ?_, fun x c e => ?_, fun p hp => ?_, hok, I.len⟩
 ·exact keep b o (neL b o e) hb (neC b o e hx) (I.base.keep b o e n hb hx) (I.base.free b o e n hx)
 ·obtain ⟨sl, e1⟩ := I.base.slot b o e n hb hx
  obtain ⟨sl', e2⟩ := slot b _ (neL b o e) hb (neC b o e hx) e1 (I.base.free b o e n hx)
  exact ⟨sl', e2⟩
 ·obtain ⟨o', e1⟩ := I.base.there b o e hx
  exact free b o' (neC b o e hx) e1 (I.base.free b o e n hx)
 ·obtain ⟨o', e1⟩ := I.base.there b o e hx
  exact there b o' (neC b o e hx) e1
 ·obtain ⟨m1, e1⟩ := I.base.tbls b ps e
  obtain ⟨m2, e2⟩ := tbls b _ e1
  exact ⟨m1 ++ m2, by rw [e2, Array.append_assoc]⟩
 ·obtain ⟨m, hn, hl⟩ := I.loc
  refine ⟨m, ns m hn, fun i x v e1 e2 e3 => ?_⟩
  obtain ⟨u, r, l⟩ := hl i x v e1 e2 e3
  refine ⟨u, r, ?_⟩
  rcases l with l | ⟨k, c, e, z⟩
  ·exact .inl l
  ·exact .inr ⟨k, c, e, cellK x c e _ z⟩
 ·obtain ⟨v, z⟩ := I.cell x c e
  exact ⟨v, cellK x c e v z⟩
 ·obtain ⟨m, ⟨o, _, _, ho, _⟩, _⟩ := I.loc
  exact free _ o (fun z => (hch _ z).2.1 rfl) ho I.free
 ·obtain ⟨v, o, ho, hd⟩ := I.cell x c e
  exact free c o (fun z => (hch c z).2.2.1 x c e rfl) ho (I.freeC x c e)
 ·obtain ⟨e, n, ne, nf, d⟩ := I.pin p hp
  have nch : p.1 ∉ ch := fun z => (hch p.1 z).2.2.2 p hp rfl
  exact ⟨keep p.1 p.2 ne nf nch e n, free p.1 p.2 nch e n, ne, nf, d⟩
theorem Inv.un {t' : Nat} (I : Inv X pins σ H s) (u : Un X.fs [] H H' s.heap h') (hok : HOk X.prog X.w H' h') : Inv X pins σ H' { s with heap := h', toks := t' } := by
 obtain ⟨m, ⟨o, es, ep, ho, r⟩, _⟩ := id I.loc
 obtain ⟨sl, hL⟩ := u.any ho I.free (by simp)
 exact I.step (g' := s.gens) (d' := s.drawn) (ch := []) (fun _ z => nomatch z) (fun b o _ hb _ e n => u.keep b o e n hb (by simp)) (fun b o _ hb _ e n => u.slot b o e n hb (by simp)) (fun b o _ e n => u.free b o e n (by simp)) (fun b o _ e => u.there b o e (by simp)) u.tups u.frzs u.tbls (fun m' hm => by
  obtain ⟨o', es', ep', ho', r'⟩ := hm
  rw [ho] at ho'; cases ho'
  exact ⟨_, es', ep', hL, r'⟩) hok I.bare
theorem Inv.call {g' : Array GenState} {t' : Nat} {d' : Drawn} {ch : List Addr} (I : Inv X pins σ H s) (u : Un (frs X.stack) ch H H' s.heap h') (hok : HOk X.prog X.w H' h') (hg : AllBare g')
  (hch : ∀ b ∈ ch, (b ∈ X.ex ∨ X.s₀.heap.objs.size ≤ b) ∧ b ≠ X.env.locals ∧ (∀ x c, X.env.cells.lookup x = some c → c ≠ b) ∧ ∀ p ∈ X.pn ++ pins, p.1 ≠ b) :
  Inv X pins σ H' { s with heap := h', gens := g', drawn := d', toks := t' } := by
 obtain ⟨m, ⟨o, es, ep, ho, r⟩, _⟩ := id I.loc
 obtain ⟨sl, hL⟩ := u.any ho I.free fun z => (hch _ z).2.1 rfl
 exact I.step (ch := ch) hch (fun b o hL hb hc e n => u.keep b o e n (fun z => (List.mem_cons.mp (I.stkSub b z)).elim hL hb) hc) (fun b o _ _ hc e n => u.any e n hc) (fun b o hc e n => u.free b o e n hc) (fun b o hc e => u.there b o e hc) u.tups u.frzs u.tbls (fun m' hm => by
  obtain ⟨o', es', ep', ho', r'⟩ := hm
  rw [ho] at ho'; cases ho'
  exact ⟨_, es', ep', hL, r'⟩) hok hg
theorem Inv.turned {t' : Nat} {it : Addr} (I : Inv X pins σ H s) (k : ∀ b o, b ≠ it → s.heap.get? b = some o → h'.get? b = some o) (hn : H it = none) (hL : it ≠ X.env.locals)
  (h1 : it ∈ X.ex ∨ X.s₀.heap.objs.size ≤ it) (h2 : ∀ x c, X.env.cells.lookup x = some c → c ≠ it) (h3 : ∀ p ∈ X.pn ++ pins, p.1 ≠ it) : Inv X pins σ H { s with heap := h', toks := t' } := by
 have nit : ∀ b u, H b = some u → b ≠ it := fun b u e z => by rw [z, hn] at e; cases e
 refine I.step (g' := s.gens) (d' := s.drawn) (ch := [it]) (fun b hb => ?_) (fun b o _ _ hc e _ => k b o (fun z => hc (by simp [z])) e) (fun b o _ _ hc e _ => ⟨o.slots, k b o (fun z => hc (by simp [z])) e⟩) (fun _ _ _ _ n => n)
  (fun b o hc e => ⟨o, k b o (fun z => hc (by simp [z])) e⟩) (fun _ _ e => e) (fun _ _ _ e => e) (fun b ps e => ⟨#[], by rw [e]; simp⟩) (fun m hm => ?_) (fun b u e => ?_) I.bare
 ·have e : b = it := by simpa using hb
  subst e
  exact ⟨h1, hL, h2, h3⟩
 ·obtain ⟨o, es, ep, ho, r⟩ := hm
  exact ⟨o, es, ep, k _ o (Ne.symm hL) ho, r⟩
 ·refine (I.hok b u e).stay (fun c v hc q => k c v ?_ q) (fun _ q => q) fun _ _ q => q
  rcases hc with z | z
  ·rw [z]; exact nit b u e
  ·exact nit c _ z
theorem Inv.tok (I : Inv X pins σ H s) (t : Nat) : Inv X pins σ H { s with toks := t } := I.un (h' := s.heap) (t' := t) Un.refl I.hok
theorem Inv.kept {t' : Nat} (I : Inv X pins σ H s) (k : ∀ b u, s.heap.get? b = some u → h'.get? b = some u) : Inv X pins σ H { s with heap := h', toks := t' } := I.un (Un.kept k) (I.hok.kept k)
theorem Inv.laid {a : Addr} {o : HO} {t' : Nat} (I : Inv X pins σ H s) (k : ∀ b u, s.heap.get? b = some u → h'.get? b = some u) (hp : s.heap.objs.size ≤ a) (new : ObjOk X.prog X.w (upd H a o) h' a o) :
  Inv X pins σ (upd H a o) { s with heap := h', toks := t' } := I.un (Un.laid k hp (I.hok.fresh hp)) (I.hok.laid k hp new)
theorem Inv.write {x e : Addr} {o : HO} {t' : Nat} (I : Inv X pins σ H s) (mu : Mut (H x)) (he : e = x ∨ H e = some (.own x)) (k : ∀ b u, b ≠ e → s.heap.get? b = some u → h'.get? b = some u) (heo : ∃ u, h'.get? e = some u)
  (new : ObjOk X.prog X.w (upd H x o) h' x o) : Inv X pins σ (upd H x o) { s with heap := h', toks := t' } := I.un (Un.write mu he k heo) (I.hok.write mu he k heo new)
theorem Inv.weak {σ' : List (Option V)} (I : Inv X pins σ H s) (hl : σ'.length = σ.length) (w : ∀ (i : Nat) v, σ'[i]? = some (some v) → σ[i]? = some (some v)) : Inv X pins σ' H s :=
 ⟨I.ok, I.os, I.bare, I.base, let ⟨m, hn, hl'⟩ := I.loc; ⟨m, hn, fun i x v e1 e2 e3 => hl' i x v e1 (w i v e2) e3⟩, I.cell, I.free, I.freeC, I.pin, I.hok, hl.trans I.len⟩
theorem Inv.pins_of {pins' : List (Addr × Obj)} (I : Inv X pins σ H s) (h : ∀ p ∈ pins', s.heap.get? p.1 = some p.2 ∧ H p.1 = none ∧ p.1 ≠ X.env.locals ∧ p.1 ∉ X.fs ∧ ∀ v, p.2.data ≠ .cell v) : Inv X pins' σ H s :=
 ⟨I.ok, I.os, I.bare, I.base, I.loc, I.cell, I.free, I.freeC, fun p hp => (List.mem_append.mp hp).elim (fun z => I.pin p (List.mem_append_left _ z)) (h p), I.hok, I.len⟩
theorem nodup_ix {N : List Str} (hN : N.Nodup) {i j : Nat} {x : Str} (a : N[i]? = some x) (b : N[j]? = some x) : i = j := by
 obtain ⟨h1, e1⟩ := List.getElem?_eq_some_iff.mp a
 obtain ⟨h2, e2⟩ := List.getElem?_eq_some_iff.mp b
 exact (List.getElem_inj hN).mp (e1.trans e2.symm)
theorem store_ok2 {M : Model} {A : Around} {E : Value → Shared → Prop} {i : Nat} {x : Str} {v : V} {u : Value} {Q : Unit → Shared → Prop} (I : Inv X pins σ H s) (hN : X.N.Nodup) (hi : X.N[i]? = some x) (hx : Loc X.env.scope x) (r : RelV v u)
  (h : ∀ s', Inv X pins (σ.set i (some v)) H s' → (∃ a, Heap.SameBut a s.heap s'.heap ∧ (a = X.env.locals ∨ X.env.cells.lookup x = some a)) → Q () s') (hf : X.fn x = true ∨ X.env.scope.names.lookup x = some .local := by first | exact .inl rfl | exact .inr rfl | assumption) : wpAny M A (storeName X.env x u) Q E s := by
 obtain ⟨m, hn, hl⟩ := id I.loc
 have hcls : (X.env.scope.kind == .class || (X.env.scope.kind == .module && X.env.locals != X.env.globals)) = false := by rw [I.ok.kind]; rfl
 have hiσ : i < σ.length := by rw [I.len]; exact (List.getElem?_eq_some_iff.mp hi).1
 have cne := I.cne
 have tracked : ∀ {a : Addr} {h' : Heap}, (∃ o, s.heap.get? a = some o ∧ H a = none) → Heap.SameBut a s.heap h' → HOk X.prog X.w H h' := fun {a h'} ha hs b ob e => by
  obtain ⟨_, _, hfree⟩ := ha
  refine (I.hok b ob e).stay (fun c w' hc q => (hs.2 c ?_).trans q) (fun _ q => q) fun _ _ q => q
  rintro rfl
  rcases hc with rfl | hc
  ·rw [hfree] at e; cases e
  ·rw [hfree] at hc; cases hc
 rcases hx with hk | hk
 ·refine wpAny_storeName_local hk hn (fun h' hn' hs => ?_) hcls
  obtain ⟨oL, _, _, hoL, _⟩ := id hn
  refine h _ ⟨I.ok, I.os, I.bare, ⟨fun b o e n hb hx => ?_, fun b o e n hb hx => ?_, I.base.free, fun b o e hx => ?_, I.base.tups, I.base.frzs, I.base.tbls⟩, ⟨_, hn', fun j y v' e1 e2 e3 => ?_⟩, fun y c e => ?_, I.free, I.freeC, fun p hp => ?_, tracked ⟨oL, hoL, I.free⟩ hs, by simpa using I.len⟩ ⟨_, hs, .inl rfl⟩
  ·exact (hs.2 b (Nat.ne_of_lt (Nat.lt_of_lt_of_le (Heap.lt_size e) I.ok.above))).trans (I.base.keep b o e n hb hx)
  ·obtain ⟨sl, e1⟩ := I.base.slot b o e n hb hx
   exact ⟨sl, (hs.2 b (Nat.ne_of_lt (Nat.lt_of_lt_of_le (Heap.lt_size e) I.ok.above))).trans e1⟩
  ·obtain ⟨o', e1⟩ := I.base.there b o e hx
   exact ⟨o', (hs.2 b (Nat.ne_of_lt (Nat.lt_of_lt_of_le (Heap.lt_size e) I.ok.above))).trans e1⟩
  ·by_cases hj : j = i
   ·subst hj
    rw [hi] at e1; cases e1
    rw [List.getElem?_set_self hiσ] at e2
    cases e2
    exact ⟨u, r, .inl ⟨hk, by simp⟩⟩
   ·rw [List.getElem?_set_ne (Ne.symm hj)] at e2
    obtain ⟨u', r', q⟩ := hl j y v' e1 e2 e3
    refine ⟨u', r', ?_⟩
    rcases q with ⟨k, e⟩ | ⟨k, c, e, z⟩
    ·refine .inl ⟨k, ?_⟩
     have : y ≠ x := fun e => hj (nodup_ix hN e1 (e ▸ hi))
     simp [this, e]
    ·exact .inr ⟨k, c, e, z.sameBut hs (cne y c e)⟩
  ·obtain ⟨w', z⟩ := I.cell y c e
   exact ⟨w', z.sameBut hs (cne y c e)⟩
  ·obtain ⟨e, n, ne, nf, d⟩ := I.pin p hp
   exact ⟨(hs.2 p.1 ne).trans e, n, ne, nf, d⟩
 ·have hfn : X.fn x = true := by
   rcases hf with z | z
   ·exact z
   ·rw [z] at hk; cases hk
  obtain ⟨c, hc⟩ := I.ok.has x (.inl hk)
  obtain ⟨w', z⟩ := I.cell x c hc
  refine wpAny_storeName_cell I.ok.kind hk hc z (fun h' hc' hs => ?_)
  obtain ⟨oc, hoc, hocd⟩ := id z
  refine h { s with heap := h' } ⟨I.ok, I.os, I.bare, ⟨fun b o e n hb hx => ?_, fun b o e n hb hx => ?_, I.base.free, fun b o e hx => ?_, I.base.tups, I.base.frzs, I.base.tbls⟩, ⟨m, hn.sameBut hs (Ne.symm (cne x c hc)), fun j y v' e1 e2 e3 => ?_⟩, fun y c' e => ?_, I.free, I.freeC, fun p hp => ?_, tracked ⟨oc, hoc, I.freeC x c hc⟩ hs, by simpa using I.len⟩ ⟨c, hs, .inr hc⟩
  ·exact (hs.2 b (Nat.ne_of_lt (Nat.lt_of_lt_of_le (Heap.lt_size e) (I.ok.cab x c hfn hc)))).trans (I.base.keep b o e n hb hx)
  ·obtain ⟨sl, e1⟩ := I.base.slot b o e n hb hx
   exact ⟨sl, (hs.2 b (Nat.ne_of_lt (Nat.lt_of_lt_of_le (Heap.lt_size e) (I.ok.cab x c hfn hc)))).trans e1⟩
  ·obtain ⟨o', e1⟩ := I.base.there b o e hx
   exact ⟨o', (hs.2 b (Nat.ne_of_lt (Nat.lt_of_lt_of_le (Heap.lt_size e) (I.ok.cab x c hfn hc)))).trans e1⟩
  ·by_cases hj : j = i
   ·subst hj
    rw [hi] at e1; cases e1
    rw [List.getElem?_set_self hiσ] at e2
    cases e2
    exact ⟨u, r, .inr ⟨.inl hk, c, hc, hc'⟩⟩
   ·rw [List.getElem?_set_ne (Ne.symm hj)] at e2
    obtain ⟨u', r', q⟩ := hl j y v' e1 e2 e3
    refine ⟨u', r', ?_⟩
    rcases q with q | ⟨k, c', e, z'⟩
    ·exact .inl q
    ·refine .inr ⟨k, c', e, z'.sameBut hs ?_⟩
     rintro rfl
     exact hj (nodup_ix hN e1 (I.ok.inj _ _ _ e hc ▸ hi))
  ·by_cases hcc : c' = c
   ·subst hcc; exact ⟨_, hc'⟩
   ·obtain ⟨w2, z2⟩ := I.cell y c' e
    exact ⟨w2, z2.sameBut hs hcc⟩
  ·obtain ⟨e, n, ne, nf, d⟩ := I.pin p hp
   refine ⟨(hs.2 p.1 ?_).trans e, n, ne, nf, d⟩
   intro q
   rw [q, hoc] at e
   have q' : oc = p.2 := Option.some.inj e
   exact d w' (by rw [← q']; exact hocd)
theorem store_ok {M : Model} {A : Around} {E : Value → Shared → Prop} {i : Nat} {x : Str} {v : V} {u : Value} {Q : Unit → Shared → Prop} (I : Inv X pins σ H s) (hN : X.N.Nodup) (hi : X.N[i]? = some x) (hx : Loc X.env.scope x) (r : RelV v u)
  (h : ∀ s', Inv X pins (σ.set i (some v)) H s' → Q () s') (hf : X.fn x = true ∨ X.env.scope.names.lookup x = some .local := by first | exact .inl rfl | exact .inr rfl | assumption) : wpAny M A (storeName X.env x u) Q E s :=
 store_ok2 I hN hi hx r (fun s' I' _ => h s' I') hf
theorem Inv.call' {s' : Shared} {ch : List Addr} (I : Inv X pins σ H s) (ho : s'.os = s.os) (u : Un (frs X.stack) ch H H' s.heap s'.heap) (hok : HOk X.prog X.w H' s'.heap) (hg : AllBare s'.gens)
  (hch : ∀ b ∈ ch, (b ∈ X.ex ∨ X.s₀.heap.objs.size ≤ b) ∧ b ≠ X.env.locals ∧ (∀ x c, X.env.cells.lookup x = some c → c ≠ b) ∧ ∀ p ∈ X.pn ++ pins, p.1 ≠ b) : Inv X pins σ H' s' := by
 obtain ⟨h', g', d', t', o'⟩ := s'
 have e : o' = s.os := ho
 subst e
 exact I.call (g' := g') (t' := t') (d' := d') u hok hg hch
end
abbrev XK := Value → Option Addr → Hp → Prop
abbrev St := List (Option V)
abbrev VK := V → Hp → Prop
abbrev TE := St → Hp → VK → Prop
abbrev TT := St → Hp → (Bool → Hp → Prop) → Prop
abbrev TA := St → Hp → (List V → Hp → Prop) → Prop
structure Ends where
 nx : St → Hp → Prop
 rt : VK
 bk : St → Hp → Prop := fun _ _ => False
 ct : St → Hp → Prop := fun _ _ => False
abbrev TS := Ends → St → Hp → Prop
def EP (X : Cx) (pins : List (Addr × Obj)) (σ : St) (Q : VK) (u : Value) (s' : Shared) : Prop := ∃ v H', Inv X pins σ H' s' ∧ RelV v u ∧ Q v H'
def TP (X : Cx) (pins : List (Addr × Obj)) (σ : St) (Q : Bool → Hp → Prop) (b : Bool) (s' : Shared) : Prop := ∃ H', Inv X pins σ H' s' ∧ Q b H'
def AP (X : Cx) (pins : List (Addr × Obj)) (σ : St) (Q : List V → Hp → Prop) (us : List Value) (s' : Shared) : Prop := ∃ vs H', Inv X pins σ H' s' ∧ Vals vs us ∧ Q vs H'
def SP (X : Cx) (pins : List (Addr × Obj)) (D : Ends) (f : Flow) (s' : Shared) : Prop :=
 match f with
 | .next => ∃ σ' H', Inv X pins σ' H' s' ∧ D.nx σ' H'
 | .brk => ∃ σ' H', Inv X pins σ' H' s' ∧ D.bk σ' H'
 | .cont => ∃ σ' H', Inv X pins σ' H' s' ∧ D.ct σ' H'
 | .ret u => ∃ v σ' H', Inv X pins σ' H' s' ∧ RelV v u ∧ D.rt v H'
def PE (X : Cx) (e : Expr) (t : TE) : Prop :=
 ∀ (pins : List (Addr × Obj)) (s : Shared) (σ : St) (H : Hp) (Q : VK), Inv X pins σ H s → t σ H Q → wpAny (model X.prog X.w) X.A (eval e X.env) (EP X pins σ Q) X.xe s
def PT (X : Cx) (e : Expr) (t : TT) : Prop :=
 ∀ (pins : List (Addr × Obj)) (s : Shared) (σ : St) (H : Hp) (Q : Bool → Hp → Prop), Inv X pins σ H s → t σ H Q → wpAny (model X.prog X.w) X.A (isTrue e X.env (eval e X.env)) (TP X pins σ Q) X.xe s
def PW (X : Cx) (e : Expr) (t : TT) : Prop :=
 ∀ (whole : Sem Value) (pins : List (Addr × Obj)) (s : Shared) (σ : St) (H : Hp) (Q : Bool → Hp → Prop), Inv X pins σ H s → t σ H Q → wpAny (model X.prog X.w) X.A (isTrue e X.env whole) (TP X pins σ Q) X.xe s
def PA (X : Cx) (es : List Expr) (t : TA) : Prop :=
 ∀ (pos : Pos) (pins : List (Addr × Obj)) (s : Shared) (σ : St) (H : Hp) (Q : List V → Hp → Prop), Inv X pins σ H s → t σ H Q → wpAny (model X.prog X.w) X.A (spliced (backTo pos (starEach es X.env))) (AP X pins σ Q) X.xe s
def PS (X : Cx) (st : Stmt) (t : TS) : Prop :=
 ∀ (pins : List (Addr × Obj)) (s : Shared) (σ : St) (H : Hp) (D : Ends), Inv X pins σ H s → t D σ H → wpAny (model X.prog X.w) X.A (exec st X.env) (SP X pins D) X.xe s
def PSs (X : Cx) (st : List Stmt) (t : TS) : Prop :=
 ∀ (pins : List (Addr × Obj)) (s : Shared) (σ : St) (H : Hp) (D : Ends), Inv X pins σ H s → t D σ H → wpAny (model X.prog X.w) X.A (execs st X.env) (SP X pins D) X.xe s
theorem thn {α : Type} {t : Sem α} {Q Q' : α → Shared → Prop} {M : Model} {A : Around} {E : Value → Shared → Prop} {s : Shared} (h : wpAny M A t Q E s) (hQ : ∀ a s, Q a s → Q' a s) : wpAny M A t Q' E s := wpAny_mono h hQ fun _ _ x => x
section
variable {X : Cx}
def tVar (i : Nat) : TE := fun σ H Q => ∃ v, σ[i]? = some (some v) ∧ Q v H
def tC (v : V) : TE := fun _ H Q => Q v H
theorem pe_var {i : Nat} {x : Str} {pos : Pos} (hN : X.N[i]? = some x) (hv : Vis X.env.scope x) (hd : (x == ("__debug__" : Str)) = false := by decide) (hcd : (x == ("__classdict__" : Str)) = false := by decide) : PE X (.Name x pos) (tVar i) := by
 intro pins s σ H Q I h
 obtain ⟨v, e, h⟩ := h
 obtain ⟨m, hn, hl⟩ := I.loc
 obtain ⟨u, r, l⟩ := hl i x v hN e hv
 have fin : EP X pins σ Q u s := ⟨v, H, I, r, h⟩
 rcases l with ⟨hk, hm⟩ | ⟨hk, c, hc, hcell⟩
 ·exact wpAny_Name (wpAny_loadName_local I.ok.kind hk hn hm fin) hd
 ·rcases hk with hk | hk
  ·exact wpAny_Name (wpAny_loadName_cell I.ok.kind hk hc hcell fin) hd
  ·exact wpAny_Name (wpAny_loadName_free I.ok.kind hk hc hcell fin hcd) hd
theorem pe_int {i j pos} : PE X (.Constant (.int i) j pos) (tC (.int i)) := fun _ _ _ H _ I h => wpAny_Constant_int ⟨.int i, H, I.tok _, ⟨_, rfl⟩, h⟩
theorem pe_bl {b j pos} : PE X (.Constant (.bool b) j pos) (tC (.bl b)) := fun _ _ _ H _ I h => Constant_bool ⟨.bl b, H, I, rfl, h⟩
theorem pe_non {j pos} : PE X (.Constant .none j pos) (tC .non) := fun _ _ _ H _ I h => Constant_none ⟨.non, H, I, rfl, h⟩
theorem pe_str {x j pos} : PE X (.Constant (.str x) j pos) (tC (.str x)) := fun _ _ _ H _ I h => Calls.Constant_str ⟨.str x, H, I.tok _, ⟨_, rfl⟩, h⟩
def Gl (X : Cx) (x : Str) : Prop := X.env.kindOf x = some .globalImplicit
theorem ld_glob {E : Value → Shared → Prop} {pins : List (Addr × Obj)} {s : Shared} {σ : St} {H : Hp} {x : Str} {u : Value} {pos : Pos} {Q : Value → Shared → Prop} (I : Inv X pins σ H s) (hg : Gl X x) (hm : X.mg x = some u) (h : Q u s)
  (hd : (x == ("__debug__" : Str)) = false := by decide) : wpAny (model X.prog X.w) X.A (eval (.Name x pos) X.env) Q E s :=
 Calls.Name_function_global I.ok.kind hg (Calls.loadGlobal_global (by rw [I.ok.glob]; exact I.mod.glob.keeps I.bk) hm h) hd
theorem ld_blt {E : Value → Shared → Prop} {pins : List (Addr × Obj)} {s : Shared} {σ : St} {H : Hp} {x : Str} {u : Value} {pos : Pos} {Q : Value → Shared → Prop} (I : Inv X pins σ H s) (hg : Gl X x) (hm : X.mg x = none) (hv : bootBuiltins x = some u) (h : Q u s)
  (hn : x ≠ "__name__" := by decide) (hd : (x == ("__debug__" : Str)) = false := by decide) : wpAny (model X.prog X.w) X.A (eval (.Name x pos) X.env) Q E s := by
 obtain ⟨mb, h1, h2⟩ := I.mod.blt
 exact Calls.Name_function_global I.ok.kind hg (Calls.loadGlobal_builtin (by rw [I.ok.glob]; exact I.mod.glob.keeps I.bk) hm (by rw [I.ok.blt]; exact h1.keeps I.bk) ((h2 x hn).trans hv) h) hd
theorem pe_bltn {x : Str} {v : V} {u : Value} {pos : Pos} (hg : Gl X x) (hm : X.mg x = none) (hv : bootBuiltins x = some u) (r : RelV v u) (hn : x ≠ "__name__" := by decide) (hd : (x == ("__debug__" : Str)) = false := by decide) : PE X (.Name x pos) (tC v) :=
 fun _ _ _ H _ I h => ld_blt I hg hm hv ⟨v, H, I, r, h⟩ hn hd
variable {a b : Expr} {ta tb : TE} {pos : Pos}
def PC (X : Cx) (op : CmpOp) (a b : Expr) (t : TE) : Prop :=
 ∀ (pins : List (Addr × Obj)) (s : Shared) (σ : St) (H : Hp) (Q : VK), Inv X pins σ H s → t σ H Q →
  wpAny (model X.prog X.w) X.A (eval a X.env) (fun v s₁ => wpAny (model X.prog X.w) X.A (eval b X.env) (fun u s₂ => wpAny (model X.prog X.w) X.A (compareOp op v u) (EP X pins σ Q) X.xe s₂) X.xe s₁) X.xe s
theorem nobehind (b : Expr) {op : CmpOp} (h : op ≠ .In) (h2 : op ≠ .NotIn) : behindInMarks op b = false := by
 have e1 : (op == CmpOp.In) = false := by cases op <;> first | rfl | exact absurd rfl h
 have e2 : (op == CmpOp.NotIn) = false := by cases op <;> first | rfl | exact absurd rfl h2
 cases b <;> simp [behindInMarks, e1, e2]
def tIsN (ta : TE) : TE := fun σ H Q => ta σ H fun x H1 => Q (.bl (decide (x = .non))) H1
theorem RelV.none_iff {x : V} {v : Value} (r : RelV x v) : (v == Value.none) = decide (x = .non) := by
 cases x with
 | non => cases r; rfl
 | bl _ => cases r; rfl
 | int _ => obtain ⟨t, rfl⟩ := r; rfl
 | str _ => obtain ⟨t, rfl⟩ := r; rfl
 | byt _ => obtain ⟨t, rfl⟩ := r; rfl
 | flt _ => obtain ⟨t, rfl⟩ := r; rfl
 | ref _ => cases r; rfl
 | ty _ => cases r; rfl
theorem pc_isN {j pos'} (ha : PE X a ta) : PC X .Is a (.Constant .none j pos') (tIsN ta) := by
 intro pins s σ H Q I h
 refine thn (ha pins s σ H _ I h) fun v s1 ⟨x, H1, I1, r1, q1⟩ => ?_
 exact Constant_none (is_none_gen ⟨.bl _, H1, I1, by rw [r1.none_iff]; rfl, q1⟩)
def tB (t : TE) : TT := fun σ H Q => t σ H fun x H1 => ∃ c, x = .bl c ∧ Q c H1
theorem pe_cmp {op : CmpOp} {t : TE} (h : PC X op a b t) (h1 : behindInMarks op b = false := by first | exact nobehind _ (by decide) (by decide) | rfl) : PE X (.Compare a [op] [b] pos) t := fun pins s σ H Q I hw => wpAny_Compare1 (h pins s σ H Q I hw) h1
theorem pt_cmp {op : CmpOp} {t : TE} (h : PC X op a b t) (h1 : behindInMarks op b = false := by first | exact nobehind _ (by decide) (by decide) | rfl) : PT X (.Compare a [op] [b] pos) (tB t) := by
 intro pins s σ H Q I hw
 refine wpAny_isTrue_Compare1 (thn (h pins s σ H _ I hw) fun v s1 h1 => thn h1 fun u s2 h2 => thn h2 fun c s3 ⟨x, H1, I1, r1, q1⟩ => ?_) h1
 obtain ⟨d, rfl, q⟩ := q1
 cases r1
 exact wpAny_truthy_bool ⟨H1, I1, q⟩
theorem pt_val {e : Expr} {t : TE} (h : PE X e t) (he : ∀ whole, isTrue e X.env whole = (do let v ← whole; standAt e.pos; holding [v] (truthy v)) := by intro _; rfl) : PT X e (tB t) := by
 intro pins s σ H Q I hw
 refine isTrue_plain (thn (h pins s σ H _ I hw) fun v s1 ⟨x, H1, I1, r1, q1⟩ => ?_) (he _)
 obtain ⟨d, rfl, q⟩ := q1
 cases r1
 exact wpAny_truthy_bool ⟨H1, I1, q⟩
variable {tA tB' : TT} {rest : List Expr}
def tAnd (t u : TT) : TT := fun σ H Q => t σ H fun c H1 => if c = true then u σ H1 Q else Q false H1
def tOr (t u : TT) : TT := fun σ H Q => t σ H fun c H1 => if c = true then Q true H1 else u σ H1 Q
def tNot (t : TT) : TT := fun σ H Q => t σ H fun c H1 => Q (!c) H1
theorem pw_and1 (ha : PT X a tA) : PW X (.BoolOp .And [a] pos) tA := by
 intro wh pins s σ H Q I h
 refine isTrue_and (thn (ha pins s σ H Q I h) fun c s1 e => ?_)
 cases c with
 | true => exact isTrue_and_nil e
 | false => exact e
theorem pw_or1 (ha : PT X a tA) : PW X (.BoolOp .Or [a] pos) tA := by
 intro wh pins s σ H Q I h
 refine isTrue_or (thn (ha pins s σ H Q I h) fun c s1 e => ?_)
 cases c with
 | false => exact isTrue_or_nil e
 | true => exact e
theorem pw_and (ha : PT X a tA) (hb : PW X (.BoolOp .And (b :: rest) pos) tB') : PW X (.BoolOp .And (a :: b :: rest) pos) (tAnd tA tB') := by
 intro wh pins s σ H Q I h
 refine isTrue_and (thn (ha pins s σ H _ I h) fun c s1 ⟨H1, I1, q1⟩ => ?_)
 cases c with
 | true => exact hb wh pins s1 σ H1 Q I1 q1
 | false => exact ⟨H1, I1, q1⟩
theorem pw_or (ha : PT X a tA) (hb : PW X (.BoolOp .Or (b :: rest) pos) tB') : PW X (.BoolOp .Or (a :: b :: rest) pos) (tOr tA tB') := by
 intro wh pins s σ H Q I h
 refine isTrue_or (thn (ha pins s σ H _ I h) fun c s1 ⟨H1, I1, q1⟩ => ?_)
 cases c with
 | true => exact ⟨H1, I1, q1⟩
 | false => exact hb wh pins s1 σ H1 Q I1 q1
theorem pt_not (ha : PT X a tA) : PT X (.UnaryOp .Not a pos) (tNot tA) := by
 intro pins s σ H Q I h
 exact isTrue_not (ha pins s σ H (fun c H1 => Q (!c) H1) I h)
def tAndV (ta tb : TE) : TE := fun σ H Q => ta σ H fun x H1 => ∃ c, x = .bl c ∧ if c = true then tb σ H1 Q else Q (.bl false) H1
def tNotV (ta : TE) : TE := fun σ H Q => ta σ H fun x H1 => ∃ c, x = .bl c ∧ Q (.bl (!c)) H1
theorem pe_one {op} {t : TE} (h : PE X a t) : PE X (.BoolOp op [a] pos) t := fun pins s σ H Q I hw => BoolOp_one (h pins s σ H Q I hw)
theorem pe_and (ha : PE X a ta) (hb : PE X (.BoolOp .And (b :: rest) pos) tb) : PE X (.BoolOp .And (a :: b :: rest) pos) (tAndV ta tb) := by
 intro pins s σ H Q I h
 refine BoolOp_and (thn (ha pins s σ H _ I h) fun v s1 ⟨x, H1, I1, r1, q1⟩ => ?_)
 obtain ⟨c, rfl, q1⟩ := q1
 cases r1
 refine wpAny_truthy_bool ?_
 cases c with
 | true => exact hb pins s1 σ H1 Q I1 q1
 | false => exact ⟨.bl false, H1, I1, rfl, q1⟩
theorem pe_not (ha : PE X a ta) : PE X (.UnaryOp .Not a pos) (tNotV ta) := by
 intro pins s σ H Q I h
 refine UnaryOp_ (thn (ha pins s σ H _ I h) fun v s1 ⟨x, H1, I1, r1, q1⟩ => ?_)
 obtain ⟨c, rfl, q1⟩ := q1
 cases r1
 exact not_of (wpAny_truthy_bool ⟨.bl (!c), H1, I1, rfl, q1⟩)
end
def SqL (K : PySem.W.Frag) (H : Hp) (a : Addr) (xs : List V) : Prop :=
 Rd H a (.lst xs) ∨
  ∃ (o : Obj) (its : Array Value) (n : Nat), K.lookup a = some o ∧ o.cls = .type "list" ∧ o.dict = none ∧ o.data = .seq its n ∧ its.size ≤ sizeLine ∧ Vals xs its.toList
def SqT (K : PySem.W.Frag) (H : Hp) (a : Addr) (xs : List V) : Prop :=
 Rd H a (.tup xs) ∨
  ∃ (o : Obj) (its : Array Value) (n : Nat), K.lookup a = some o ∧ o.cls = .type "tuple" ∧ o.data = .seq its n ∧ its.size ≤ sizeLine ∧ Vals xs its.toList
def absV : Value → Option V
 | .none => some .non
 | .bool b => some (.bl b)
 | .int i _ => some (.int i)
 | .str x _ => some (.str x)
 | .bytes b _ => some (.byt b)
 | .float b _ => some (.flt b)
 | .ref a => some (.ref a)
 | .type n => some (.ty n)
 | _ => none
theorem RelV.abs {x : V} {u : Value} (r : RelV x u) : absV u = some x := by
 cases x with
 | non => cases r; rfl
 | bl _ => cases r; rfl
 | int _ => obtain ⟨t, rfl⟩ := r; rfl
 | str _ => obtain ⟨t, rfl⟩ := r; rfl
 | byt _ => obtain ⟨t, rfl⟩ := r; rfl
 | flt _ => obtain ⟨t, rfl⟩ := r; rfl
 | ref _ => cases r; rfl
 | ty _ => cases r; rfl
theorem RelV.inj {x y : V} {u : Value} (r : RelV x u) (q : RelV y u) : x = y := Option.some.inj (r.abs.symm.trans q.abs)
theorem Vals.inj : ∀ {xs ys : List V} {us : List Value}, Vals xs us → Vals ys us → xs = ys
 | _, _, _, .nil, .nil => rfl
 | _, _, _, .cons r t, .cons r' t' => by rw [r.inj r', Vals.inj t t']
section
variable {X : Cx} {pins : List (Addr × Obj)} {σ : St} {H : Hp} {s : Shared} {a : Addr} {xs ys : List V}
theorem SqL.of {K : PySem.W.Frag} (h : H a = some (.lst xs)) : SqL K H a xs := .inl (.inl h)
theorem SqT.of {K : PySem.W.Frag} (h : H a = some (.tup xs)) : SqT K H a xs := .inl (.inl h)
theorem Inv.list (I : Inv X pins σ H s) (h : SqL X.K H a xs) : ∃ its : List Value, Vals xs its ∧ PlainL s.heap a its.toArray ∧ xs.length ≤ sizeLine := by
 rcases h with h | ⟨o, its, n, hk, hc, hd, hs, hz, r⟩
 ·obtain ⟨z, its, n, r, e⟩ := h.ok I.hok
  exact ⟨its, r, ⟨_, n, e, rfl, rfl, rfl⟩, z⟩
 ·refine ⟨its.toList, r, ⟨o, n, I.kIn a o hk, hc, hd, by simpa using hs⟩, ?_⟩
  have e := r.length
  simp only [Array.length_toList] at e
  omega
theorem Inv.tuple (I : Inv X pins σ H s) (h : SqT X.K H a xs) : ∃ its : List Value, Vals xs its ∧ IsTup s.heap a its.toArray ∧ xs.length ≤ sizeLine := by
 rcases h with h | ⟨o, its, n, hk, hc, hs, hz, r⟩
 ·obtain ⟨z, its, r, p⟩ := h.ok I.hok
  exact ⟨its, r, p, z⟩
 ·refine ⟨its.toList, r, ⟨o, I.kIn a o hk, hc, n, by simpa using hs⟩, ?_⟩
  have e := r.length
  simp only [Array.length_toList] at e
  omega
theorem Inv.list_inj (I : Inv X pins σ H s) (h : SqL X.K H a xs) (h' : SqL X.K H a ys) : xs = ys := by
 obtain ⟨its, r, ⟨o, n, e, _, _, d⟩, _⟩ := I.list h
 obtain ⟨its', r', ⟨o', n', e', _, _, d'⟩, _⟩ := I.list h'
 rw [e] at e'; cases e'
 rw [d] at d'
 injection d' with d1 _
 have : its = its' := by simpa using congrArg Array.toList d1
 subst this
 exact r.inj r'
end
section
variable {X : Cx} {pins : List (Addr × Obj)} {σ : St} {H : Hp} {s : Shared} {E : Value → Shared → Prop}
end
section
variable {X : Cx} {st : Stmt} {rest : List Stmt} {t u : TS} {e : Expr} {te : TE} {pos : Pos}
def tNext : TS := fun D σ H => D.nx σ H
def tSeq (t u : TS) : TS := fun D σ H => t { D with nx := u D } σ H
theorem pss_nil : PSs X [] tNext := fun _ _ σ H _ I h => wpAny_execs_nil ⟨σ, H, I, h⟩
theorem pss_cons (h1 : PS X st t) (h2 : PSs X rest u) : PSs X (st :: rest) (tSeq t u) := by
 intro pins s σ H D I h
 refine wpAny_execs_cons (thn (h1 pins s σ H { D with nx := u D } I h) fun f s1 q => ?_)
 cases f with
 | next =>
  obtain ⟨σ', H', I', q⟩ := q
  exact h2 pins s1 σ' H' D I' q
 | ret v => exact q
 | brk => exact q
 | cont => exact q
theorem pss_one (h1 : PS X st t) : PSs X [st] t := by
 intro pins s σ H D I h
 refine wpAny_execs_cons (thn (h1 pins s σ H D I h) fun f s1 q => ?_)
 cases f with
 | next => exact wpAny_execs_nil q
 | ret v => exact q
 | brk => exact q
 | cont => exact q
theorem Inv.quiet {pins : List (Addr × Obj)} {σ : St} {H : Hp} {s : Shared} (I : Inv X pins σ H s) : interactive X.env = false := by simp [interactive, I.ok.kind]
def tDrop (te : TE) : TS := fun D σ H => te σ H fun _ H1 => D.nx σ H1
theorem ps_expr (he : PE X e te) (hs : swapsWith e none pos.line X.env = pure false := by rfl) : PS X (.Expr e pos) (tDrop te) := by
 intro pins s σ H D I h
 exact wpAny_Expr_any (thn (he pins s σ H _ I h) fun v s1 ⟨x, H1, I1, r1, q1⟩ => ⟨σ, H1, I1, q1⟩) I.quiet hs
def tRet (te : TE) : TS := fun D σ H => te σ H D.rt
theorem ps_ret (he : PE X e te) : PS X (.Return (some e) pos) (tRet te) := by
 intro pins s σ H D I h
 exact wpAny_Return_some (thn (he pins s σ H _ I h) fun v s1 ⟨x, H1, I1, r1, q1⟩ => ⟨x, σ, H1, I1, r1, q1⟩)
def tIfS (c : TT) (t u : TS) : TS := fun D σ H => c σ H fun b H1 => if b = true then t D σ H1 else u D σ H1
theorem ps_if {c : Expr} {a b : List Stmt} {tc : TT} (hc : PT X c tc) (ha : PSs X a t) (hb : PSs X b u) : PS X (.If c a b pos) (tIfS tc t u) := by
 intro pins s σ H D I h
 refine wpAny_If (thn (hc pins s σ H _ I h) fun d s1 ⟨H1, I1, q1⟩ => ?_)
 cases d with
 | true => exact ha pins s1 σ H1 D I1 q1
 | false => exact hb pins s1 σ H1 D I1 q1
end
abbrev TG := V → St → Hp → (St → Hp → Prop) → Prop
abbrev TGs := List V → St → Hp → (St → Hp → Prop) → Prop
def PG (X : Cx) (target : Expr) (t : TG) : Prop :=
 ∀ (pins : List (Addr × Obj)) (s : Shared) (σ : St) (H : Hp) (v : V) (u : Value) (Q : St → Hp → Prop), Inv X pins σ H s → RelV v u → t v σ H Q →
  wpAny (model X.prog X.w) X.A (assign target X.env u) (fun _ s' => ∃ σ' H', Inv X pins σ' H' s' ∧ Q σ' H') X.xe s
def PGs (X : Cx) (ts : List Expr) (t : TGs) : Prop :=
 ∀ (pins : List (Addr × Obj)) (s : Shared) (σ : St) (H : Hp) (vs : List V) (us : List Value) (Q : St → Hp → Prop), Inv X pins σ H s → Vals vs us → t vs σ H Q →
  wpAny (model X.prog X.w) X.A (assignInOrder ((assignEach ts X.env).map (·.2)) us) (fun _ s' => ∃ σ' H', Inv X pins σ' H' s' ∧ Q σ' H') X.xe s
abbrev TIp := V → V → Hp → VK → Prop
def PIp (X : Cx) (op : Operator) (t : TIp) : Prop :=
 ∀ (pins : List (Addr × Obj)) (s : Shared) (σ : St) (H : Hp) (x y : V) (v u : Value) (Q : VK), Inv X pins σ H s → RelV x v → RelV y u → t x y H Q →
  wpAny (model X.prog X.w) X.A (inplaceOp op v u) (EP X pins σ Q) X.xe s
section
variable {X : Cx} {pos : Pos}
def gName (i : Nat) : TG := fun v σ H Q => Q (σ.set i (some v)) H
theorem pg_name {i : Nat} {x : Str} (hN : X.N.Nodup) (hi : X.N[i]? = some x) (hx : Loc X.env.scope x) (hf : X.fn x = true ∨ X.env.scope.names.lookup x = some .local := by first | exact .inl rfl | exact .inr rfl | assumption) : PG X (.Name x pos) (gName i) := by
 intro pins s σ H v u Q I r h
 exact wpAny_assign_Name (store_ok I hN hi hx r (fun s' I' => ⟨_, H, I', h⟩) hf)
def gNil : TGs := fun vs σ H Q => vs = [] ∧ Q σ H
def gCons (t : TG) (u : TGs) : TGs := fun vs σ H Q => ∃ v r, vs = v :: r ∧ t v σ H fun σ' H' => u r σ' H' Q
theorem pgs_nil : PGs X [] gNil := by
 intro pins s σ H vs us Q I r h
 obtain ⟨e, h⟩ := h
 subst e
 cases r
 exact assignInOrder_nil ⟨σ, H, I, h⟩
theorem pgs_cons {e : Expr} {es : List Expr} {t : TG} {u : TGs} (h1 : PG X e t) (h2 : PGs X es u)
  (hs : (assignEach (e :: es) X.env).map (·.2) = assign e X.env :: (assignEach es X.env).map (·.2) := by rfl) : PGs X (e :: es) (gCons t u) := by
 intro pins s σ H vs us Q I r h
 obtain ⟨v, vr, e1, h⟩ := h
 subst e1
 cases r with
 | cons r rr =>
  rw [hs]
  refine assignInOrder_cons (thn (h1 pins s σ H _ _ _ I r h) fun _ s1 ⟨σ1, H1, I1, q1⟩ => ?_)
  exact h2 pins s1 σ1 H1 _ _ Q I1 rr q1
def gTup (K : PySem.W.Frag) (n : Nat) (t : TGs) : TG := fun v σ H Q => ∃ a xs, v = .ref a ∧ SqT K H a xs ∧ xs.length = n ∧ t xs σ H Q
theorem pg_tup {es : List Expr} {k : Nat} {t : TGs} {n : Nat} (hc : X.calm = true) (h : PGs X es t)
  (hn : (assignEach es X.env).length = n := by rfl) (hst : (assignEach es X.env).findIdx? (·.1) = none := by rfl) : PG X (.Tuple es k pos) (gTup X.K n t) := by
 intro pins s σ H v u Q I r hw
 obtain ⟨a, xs, e1, hq, hl, hw⟩ := hw
 subst e1
 cases r
 obtain ⟨its, rv, ht, hz⟩ := I.tuple hq
 refine assign_Tuple_tuple (I.ok.hd hc) ht (by simp [hn, ← hl, rv.length]) hst fun h' hx => ?_
 have I1 : Inv X pins σ H { s with heap := h' } := I.kept (t' := s.toks) fun b o e => hx b o (Nat.ne_of_lt (Heap.lt_size e)) e
 exact h pins _ σ H xs _ Q I1 (by simpa using rv) hw
def tAsg (te : TE) (g : TG) : TS := fun D σ H => te σ H fun x H1 => g x σ H1 D.nx
theorem ps_set {i : Nat} {x : Str} {e : Expr} {te : TE} {pos' : Pos} (hN : X.N.Nodup) (hi : X.N[i]? = some x) (hx : Loc X.env.scope x) (he : PE X e te) (hs : swapsWith e (some (.Name x pos')) pos.line X.env = pure false := by rfl) (hf : X.fn x = true ∨ X.env.scope.names.lookup x = some .local := by first | exact .inl rfl | exact .inr rfl | assumption) :
  PS X (.Assign [.Name x pos'] e pos) (tAsg te (gName i)) := by
 intro pins s σ H D I h
 refine wpAny_Assign_Name (thn (he pins s σ H _ I h) fun v s1 ⟨y, H1, I1, r1, q1⟩ => ?_) hs
 exact store_ok I1 hN hi hx r1 (fun s2 I2 => ⟨_, H1, I2, q1⟩) hf
def tAug (i : Nat) (te : TE) (ti : TIp) : TS := fun D σ H => ∃ x, σ[i]? = some (some x) ∧ te σ H fun y H1 => ti x y H1 fun z H2 => D.nx (σ.set i (some z)) H2
theorem ps_aug {i : Nat} {x : Str} {e : Expr} {te : TE} {op : Operator} {ti : TIp} {pos' : Pos} (hN : X.N.Nodup) (hi : X.N[i]? = some x) (hx : Loc X.env.scope x) (he : PE X e te) (ho : PIp X op ti) (hf : X.fn x = true ∨ X.env.scope.names.lookup x = some .local := by first | exact .inl rfl | exact .inr rfl | assumption) :
  PS X (.AugAssign (.Name x pos') op e pos) (tAug i te ti) := by
 intro pins s σ H D I h
 obtain ⟨v, e1, h⟩ := h
 obtain ⟨m, hn, hl⟩ := I.loc
 have vis : Vis X.env.scope x := by rcases hx with k | k; exact .inl k; exact .inr (.inl k)
 obtain ⟨u, r, l⟩ := hl i x v hi e1 vis
 refine wpAny_AugAssign_Name ?_
 have go : wpAny (model X.prog X.w) X.A (eval e X.env) (fun w s₂ => wpAny (model X.prog X.w) X.A (inplaceOp op u w) (fun r s₃ => wpAny (model X.prog X.w) X.A (storeName X.env x r) (fun _ => SP X pins D .next) X.xe s₃) X.xe s₂) X.xe s := by
  refine thn (he pins s σ H _ I h) fun w s1 ⟨y, H1, I1, r1, q1⟩ => ?_
  refine thn (ho pins s1 σ H1 v y u w _ I1 r r1 q1) fun z s2 ⟨zv, H2, I2, r2, q2⟩ => ?_
  exact store_ok I2 hN hi hx r2 (fun s3 I3 => ⟨_, H2, I3, q2⟩) hf
 rcases l with ⟨hk, hm⟩ | ⟨hk, c, hc, hcell⟩
 ·exact wpAny_loadName_local I.ok.kind hk hn hm go
 ·rcases hk with hk | hk
  ·exact wpAny_loadName_cell I.ok.kind hk hc hcell go
  ·rcases hx with k | k
   ·have : X.env.scope.names.lookup x = some .free := hk
    rw [k] at this; cases this
   ·have : X.env.scope.names.lookup x = some .free := hk
    rw [k] at this; cases this
def ipI (f : Int → Int → Int) : TIp := fun x y H Q => ∃ i j, x = .int i ∧ y = .int j ∧ Q (.int (f i j)) H
theorem ip_add : PIp X .Add (ipI fun i j => i + j) := by
 intro pins s σ H x y v u Q I r1 r2 h
 obtain ⟨i, j, e1, e2, q⟩ := h
 subst e1; subst e2
 obtain ⟨t, rfl⟩ := r1
 obtain ⟨t', rfl⟩ := r2
 exact iadd_int ⟨.int _, H, I.tok _, ⟨_, rfl⟩, q⟩
end
section
variable {X : Cx} {pos : Pos}
def tWhile (c : TT) (tb : TS) : TS := fun D σ H => ∃ W : Nat → St → Hp → Prop, (∃ m, W m σ H) ∧ ∀ m σ H, W m σ H →
 c σ H fun b H1 => if b = true then ∃ N : St → Hp → Prop, (∀ σ' H', N σ' H' → ∃ m', m' < m ∧ W m' σ' H') ∧ tb { D with nx := N, ct := N, bk := D.nx } σ H1 else D.nx σ H1
theorem ps_while {c : Expr} {body : List Stmt} {tc : TT} {tb : TS} (hp : PassesOwn (model X.prog X.w) X.A X.env X.xe) (hc : PT X c tc) (hb : PSs X body tb) : PS X (.While c body [] pos) (tWhile tc tb) := by
 intro pins s σ H D I h
 obtain ⟨W, ⟨m0, w0⟩, turn⟩ := h
 refine wpAny_While (codeAny_whileLoop (fun n s' => ∃ σ' H', Inv X pins σ' H' s' ∧ W n σ' H') ?_ m0 ⟨σ, H, I, w0⟩)
 rintro n s1 ⟨σ1, H1, I1, w1⟩
 refine wpAny_passesOwn hp (thn (hc pins s1 σ1 H1 _ I1 (turn n σ1 H1 w1)) fun b s2 ⟨H2, I2, q2⟩ => ?_)
 cases b with
 | true =>
  obtain ⟨N, hN, q2⟩ := q2
  rw [if_pos rfl]
  refine wpAny_passesOwn hp (thn (hb pins s2 σ1 H2 _ I2 q2) fun f s3 q3 => ?_)
  cases f with
  | next =>
   obtain ⟨σ3, H3, I3, n3⟩ := q3
   obtain ⟨m', hm, w3⟩ := hN σ3 H3 n3
   exact ⟨m', hm, σ3, H3, I3, w3⟩
  | cont =>
   obtain ⟨σ3, H3, I3, n3⟩ := q3
   obtain ⟨m', hm, w3⟩ := hN σ3 H3 n3
   exact ⟨m', hm, σ3, H3, I3, w3⟩
  | brk => exact q3
  | ret v => exact q3
 | false =>
  rw [if_neg Bool.false_ne_true]
  exact wpAny_execs_nil ⟨σ1, H2, I2, q2⟩
end
structure It where
 go : Nat → Hp → Prop
 yld : Nat → Hp → V → Hp → Prop
 stop : Nat → Hp → Prop
def FpOk (X : Cx) (pins : List (Addr × Obj)) (H : Hp) (b : Addr) : Prop :=
 H b = none ∧ b ≠ X.env.locals ∧ b ∉ X.fs ∧ (b ∈ X.ex ∨ X.s₀.heap.objs.size ≤ b) ∧ (∀ x c, X.env.cells.lookup x = some c → c ≠ b) ∧ ∀ p ∈ X.pn ++ pins, p.1 ≠ b
theorem Inv.fpOk {X : Cx} {pins : List (Addr × Obj)} {σ : St} {H H' : Hp} {s : Shared} {b : Addr} (I : Inv X pins σ H s) (hb : s.heap.objs.size ≤ b) (hn : H' b = none) : FpOk X pins H' b := by
 refine ⟨hn, Nat.ne_of_gt (Nat.lt_of_lt_of_le I.lt hb), I.nofs hb, .inr (Nat.le_trans I.sz hb), fun x c e z => ?_, fun p hp z => ?_⟩
 ·obtain ⟨v, q⟩ := I.cell x c e
  exact absurd (Nat.lt_of_lt_of_le q.lt (by rw [z]; exact hb)) (Nat.lt_irrefl _)
 ·exact absurd (Nat.lt_of_lt_of_le (Heap.lt_size (I.pin p hp).1) (by rw [z]; exact hb)) (Nat.lt_irrefl _)
structure Turn (P : Program) (w : World) (K : PySem.W.Frag) (tg : Expr) (J : It) (fp : List Addr) (it : Addr) (tn : Nat → Heap → Prop) : Prop where
 mem : it ∈ fp
 obj : ∀ i h, tn i h → ∀ b ∈ fp, ∃ o, h.get? b = some o ∧ ∀ v, o.data ≠ .cell v
 keep : ∀ i h h', tn i h → (∀ b ∈ fp, ∀ o, h.get? b = some o → h'.get? b = some o) → tn i h'
 item : ∀ (X : Cx), X.prog = P → X.w = w → X.K = K → X.calm = true → ∀ (i : Nat) (pins : List (Addr × Obj)) (s : Shared) (σ : St) (H : Hp) (E : Value → Shared → Prop), Inv X pins σ H s → (∀ b ∈ fp, FpOk X pins H b) → tn i s.heap → J.go i H →
  wpAny (model P w) X.A (pyNext (.ref it)) (fun r s1 => ∃ u, r = some u ∧
   wpAny (model P w) X.A (letOwnedTupleGo tg (.ref it) u) (fun _ s2 => ∃ x H', Inv X pins σ H' s2 ∧ RelV x u ∧ J.yld i H x H' ∧ tn (i + 1) s2.heap ∧ ∀ b ∈ fp, H' b = none) E s1) E s
 done : ∀ (X : Cx), X.prog = P → X.w = w → X.K = K → X.calm = true → ∀ (i : Nat) (pins : List (Addr × Obj)) (s : Shared) (σ : St) (H : Hp) (E : Value → Shared → Prop), Inv X pins σ H s → (∀ b ∈ fp, FpOk X pins H b) → tn i s.heap → J.stop i H →
  wpAny (model P w) X.A (pyNext (.ref it)) (fun r s1 => r = none ∧ Inv X pins σ H s1) E s
 self : ∀ (A : Around) (i : Nat) (s : Shared) (Q : Value → Shared → Prop) (E : Value → Shared → Prop), tn i s.heap → Q (.ref it) s → wpAny (model P w) A (pyIter (.ref it)) Q E s
abbrev TI := St → Hp → (It → Hp → Prop) → Prop
def PIE (X : Cx) (pins : List (Addr × Obj)) (σ : St) (tg : Expr) (R : It → Hp → Prop) (itv : Value) (s2 : Shared) : Prop :=
 ∃ (it : Addr) (fp : List Addr) (tn : Nat → Heap → Prop) (J : It) (H' : Hp), itv = .ref it ∧ Inv X pins σ H' s2 ∧ Turn X.prog X.w X.K tg J fp it tn ∧ tn 0 s2.heap ∧ (∀ b ∈ fp, FpOk X pins H' b) ∧ R J H'
def PI (X : Cx) (tg iter : Expr) (wi : TI) : Prop :=
 ∀ (pins : List (Addr × Obj)) (s : Shared) (σ : St) (H : Hp) (R : It → Hp → Prop), Inv X pins σ H s → wi σ H R →
  wpAny (model X.prog X.w) X.A (eval iter X.env) (fun v s1 => wpAny (model X.prog X.w) X.A (pyIter v) (PIE X pins σ tg R) X.xe s1) X.xe s
theorem go_of {M : Model} {A : Around} {E : Value → Shared → Prop} {s : Shared} {tg : Expr} {it : Addr} {u : Value} {o : Obj} {n : String} {vs : Array Value} {Q : Unit → Shared → Prop} (ho : s.heap.get? it = some o) (hc : o.cls = .type n) (hd : o.data = .fields vs)
  (hn : ["enumerate", "zip", "dict_itemiterator", "dict_reverseitemiterator", "odict_iterator", "itertools.zip_longest", "itertools.pairwise"].contains n = false) (hQ : Q () s) : wpAny M A (letOwnedTupleGo tg (.ref it) u) Q E s := by
 unfold letOwnedTupleGo
 cases tg <;> first
  | exact wpAny_pure hQ
  | (cases u <;> first
    | exact wpAny_pure hQ
    | (refine wpAny_bind (wpAny_load ho ?_)
       rw [hc, hd]
       show wpAny M A (if (["enumerate", "zip", "dict_itemiterator", "dict_reverseitemiterator", "odict_iterator", "itertools.zip_longest", "itertools.pairwise"].contains n && vs[0]? == some (rawInt _)) = true then _ else _) Q E s
       rw [if_neg (by intro h; rw [hn, Bool.false_and] at h; cases h)]
       exact wpAny_pure hQ))
def Itl (K : PySem.W.Frag) (a : Addr) : It :=
 ⟨fun i H => ∃ xs x, SqL K H a xs ∧ xs[i]? = some x, fun i H x H' => H' = H ∧ ∀ xs, SqL K H a xs → xs[i]? = some x, fun i H => ∃ xs, SqL K H a xs ∧ xs.length ≤ i⟩
def Itr (lo : Int) (n : Nat) : It := ⟨fun i _ => i < n, fun i H x H' => H' = H ∧ x = .int (lo + i), fun i _ => n ≤ i⟩
theorem turn_list {P : Program} {w : World} {K : PySem.W.Frag} {tg : Expr} (a it : Addr) : Turn P w K tg (Itl K a) [it] it (fun i h => h.IsListIter it a i) where
 mem := by simp
 obj := fun i h st b hb => by
  have e : b = it := by simpa using hb
  subst e
  obtain ⟨o, e, c, d⟩ := st
  exact ⟨o, e, fun v z => by rw [d] at z; cases z⟩
 keep := fun i h h' st k => st.at fun o e => k it (by simp) o e
 item := by
  intro X hP hw hK hc i pins s σ H E I hf st hg
  subst hP hw hK
  obtain ⟨xs, x, hq, hx⟩ := hg
  obtain ⟨its, rv, p, hz⟩ := I.list hq
  obtain ⟨u, hu, ru⟩ := rv.get hx
  obtain ⟨f0, f1, f2, f3, f4, f5⟩ := hf it (by simp)
  refine wpAny_pyNext_list_item st p.isList (x := u) (by simpa using hu) fun h' st' sb => ?_
  have I1 : Inv X pins σ H { s with heap := h' } := I.turned (t' := s.toks) (fun b o hb e => (sb.2 b hb).trans e) f0 f1 f3 f4 f5
  obtain ⟨o, e, c, d⟩ := id st'
  exact ⟨u, rfl, go_of (s := { s with heap := h' }) e c d (by decide) ⟨x, H, I1, ru, ⟨rfl, fun ys hy => by rw [I.list_inj hy hq]; exact hx⟩, st', fun b hb => (hf b hb).1⟩⟩
 done := by
  intro X hP hw hK hc i pins s σ H E I hf st hg
  subst hP hw hK
  obtain ⟨xs, hq, hx⟩ := hg
  obtain ⟨its, rv, p, hz⟩ := I.list hq
  obtain ⟨f0, f1, f2, f3, f4, f5⟩ := hf it (by simp)
  have hl := rv.length
  exact wpAny_pyNext_list_end (I.ok.hd hc) st p.isList (by simp; omega) fun h' eb => ⟨rfl, I.turned (t' := s.toks) (fun b o hb e => eb b o hb e) f0 f1 f3 f4 f5⟩
 self := fun _ _ _ _ _ st h => wpAny_pyIter_listiter st h
theorem turn_range {P : Program} {w : World} {K : PySem.W.Frag} {tg : Expr} (it : Addr) (lo : Int) (n : Nat) : Turn P w K tg (Itr lo n) [it] it (fun i h => IsRangeIter h it (lo + (i : Nat) * 1) ((n : Int) - (i : Nat)) 1) where
 mem := by simp
 obj := fun i h st b hb => by
  have e : b = it := by simpa using hb
  subst e
  exact ⟨_, st, fun v z => by
   have z' : Data.fields _ = Data.cell v := z
   cases z'⟩
 keep := fun i h h' st k => k it (by simp) _ st
 item := by
  intro X hP hw hK hc i pins s σ H E I hf st hg
  subst hP hw hK
  obtain ⟨f0, f1, f2, f3, f4, f5⟩ := hf it (by simp)
  have W := Walks.range (prog := X.prog) (w := X.w) (I.ok.hd hc) it lo 1 n
  refine W.item i s _ _ hg st fun v h' tk hv st' kk => ?_
  obtain ⟨t, rfl⟩ := hv
  have I1 : Inv X pins σ H { s with heap := h', toks := tk } := I.turned (fun b o hb e => kk b o (by simpa using hb) e) f0 f1 f3 f4 f5
  refine ⟨_, rfl, go_of (s := { s with heap := h', toks := tk }) (n := "range_iterator") st' rfl rfl (by decide) ⟨.int (lo + i), H, I1, ⟨t, ?_⟩, ⟨rfl, rfl⟩, st', fun b hb => (hf b hb).1⟩⟩
  rw [Int.mul_one]
 done := by
  intro X hP hw hK hc i pins s σ H E I hf st hg
  subst hP hw hK
  obtain ⟨f0, f1, f2, f3, f4, f5⟩ := hf it (by simp)
  exact wpAny_pyNext_range_end (I.ok.hd hc) st (by have : n ≤ i := hg; omega) fun h' eb => ⟨rfl, I.turned (t' := s.toks) (fun b o hb e => eb b o hb e) f0 f1 f3 f4 f5⟩
 self := fun _ _ _ _ _ st h => wpAny_pyIter_rangeiter st h
section
variable {X : Cx} {tg : Expr}
def iList (K : PySem.W.Frag) (tl : TE) : TI := fun σ H R => tl σ H fun x H1 => ∃ a, x = .ref a ∧ (∃ xs, SqL K H1 a xs) ∧ R (Itl K a) H1
theorem pi_list {l : Expr} {tl : TE} (hl : PE X l tl) : PI X tg l (iList X.K tl) := by
 intro pins s σ H R I h
 refine thn (hl pins s σ H _ I h) fun v s1 ⟨x, H1, I1, r1, q1⟩ => ?_
 obtain ⟨a, e, ⟨xs, hq⟩, q⟩ := q1
 subst e
 cases r1
 obtain ⟨its, rv, p, hz⟩ := I1.list hq
 refine wpAny_pyIter_list p.isList ?_
 refine ⟨s1.heap.objs.size, [s1.heap.objs.size], _, _, H1, rfl, I1.kept (t' := s1.toks) fun b o e => Heap.get?_push_of_some _ e, turn_list a _, ⟨_, Heap.get?_push_size _ rfl, rfl, rfl⟩, fun b hb => ?_, q⟩
 have e : b = s1.heap.objs.size := by simpa using hb
 subst e
 exact I1.fpOk (Nat.le_refl _) (I1.hok.fresh (Nat.le_refl _))
theorem range_it {pins : List (Addr × Obj)} {σ : St} {H : Hp} {s : Shared} {R : It → Hp → Prop} {E : Value → Shared → Prop} {lo hi : Int} {t u v : Tok} {tk : Nat} (I : Inv X pins σ H s) (h1 : -(2 ^ 62) ≤ lo) (h2 : lo < 2 ^ 62) (h3 : -(2 ^ 62) ≤ hi) (h4 : hi < 2 ^ 62)
  (q : R (Itr lo (hi - lo).toNat) H) : wpAny (model X.prog X.w) X.A (pyIter (.ref s.heap.objs.size)) (PIE X pins σ tg R) E { s with heap := s.heap.push { cls := .type "range", data := .fields #[.int lo t, .int hi u, .int 1 v] }, toks := tk } := by
 refine wpAny_pyIter_range (IsRange.new ..) (small_one h1 h2 h3 h4) ?_
 have I1 : Inv X pins σ H { s with heap := s.heap.push { cls := .type "range", data := .fields #[.int lo t, .int hi u, .int 1 v] }, toks := tk } := I.kept fun b o e => Heap.get?_push_of_some _ e
 refine ⟨(s.heap.push { cls := .type "range", data := .fields #[.int lo t, .int hi u, .int 1 v] }).objs.size, [(s.heap.push { cls := .type "range", data := .fields #[.int lo t, .int hi u, .int 1 v] }).objs.size], _, _, H, rfl,
  I1.kept (t' := tk) fun b o e => Heap.get?_push_of_some _ e, turn_range _ lo (hi - lo).toNat, ?_, fun b hb => ?_, q⟩
 ·have e1 : lo + ((0 : Nat) : Int) * 1 = lo := by simp
  have e2 : (((hi - lo).toNat : Nat) : Int) - ((0 : Nat) : Int) = Builtin.Range.rangeSize lo hi 1 := by rw [rangeSize_one]; split <;> omega
  show IsRangeIter _ _ (lo + ((0 : Nat) : Int) * 1) ((((hi - lo).toNat : Nat) : Int) - ((0 : Nat) : Int)) 1
  rw [e1, e2]
  exact Heap.get?_push_size _ rfl
 ·have e : b = (s.heap.push { cls := .type "range", data := .fields #[.int lo t, .int hi u, .int 1 v] }).objs.size := by simpa using hb
  subst e
  exact I1.fpOk (Nat.le_refl _) (I1.hok.fresh (Nat.le_refl _))
def iRng1 (ta : TA) : TI := fun σ H R => ta σ H fun vs H1 => ∃ j : Int, vs = [.int j] ∧ -(2 ^ 62) ≤ j ∧ j < 2 ^ 62 ∧ R (Itr 0 j.toNat) H1
theorem pi_range1 {a : Expr} {ta : TA} {p pos : Pos} (hg : Gl X "range") (hm : X.mg "range" = none) (ha : PA X [a] ta) (hs : starEach [a] X.env = [(false, eval a X.env)] := by rfl) : PI X tg (.Call (.Name "range" p) [a] [] pos) (iRng1 ta) := by
 intro pins s σ H R I h
 refine Call_ (ld_blt I hg hm boot_range (PyProof.Rows.callWith_type1 (thn (ha pos pins s σ H _ I h) fun us s1 ⟨vs, H1, I1, r1, q1⟩ => ?_) hs rfl))
 obtain ⟨j, e, q1, q2, q⟩ := q1
 subst e
 cases r1 with
 | cons r rr =>
  cases rr
  obtain ⟨t, rfl⟩ := r
  exact call_range_1 (range_it I1 (by omega) (by omega) q1 q2 (by simpa using q))
def tFor (wi : TI) (g : TG) (tb : TS) : TS := fun D σ H => wi σ H fun J H1 => ∃ W : Nat → Nat → St → Hp → Prop, (∃ m, W 0 m σ H1) ∧ ∀ i m σ H, W i m σ H →
 (J.stop i H ∧ D.nx σ H) ∨ (J.go i H ∧ ∃ N : St → Hp → Prop, (∀ σ' H', N σ' H' → ∃ m', m' < m ∧ W (i + 1) m' σ' H') ∧ ∀ x H', J.yld i H x H' → g x σ H' fun σ2 H2 => tb { D with nx := N, ct := N, bk := D.nx } σ2 H2)
def pinsAt (fp : List Addr) (h : Heap) : List (Addr × Obj) := fp.filterMap fun b => (h.get? b).map fun o => (b, o)
theorem mem_pinsAt {fp : List Addr} {h : Heap} {b : Addr} {o : Obj} (hb : b ∈ fp) (e : h.get? b = some o) : (b, o) ∈ pinsAt fp h := List.mem_filterMap.mpr ⟨b, hb, by rw [e]; rfl⟩
theorem of_pinsAt {fp : List Addr} {h : Heap} {p : Addr × Obj} (hp : p ∈ pinsAt fp h) : p.1 ∈ fp ∧ h.get? p.1 = some p.2 := by
 obtain ⟨b, hb, e⟩ := List.mem_filterMap.mp hp
 cases q : h.get? b with
 | none => rw [q] at e; cases e
 | some o =>
  rw [q] at e
  have e' : (b, o) = p := Option.some.inj e
  subst e'
  exact ⟨hb, q⟩
theorem Inv.pinned {pins : List (Addr × Obj)} {σ : St} {H : Hp} {s : Shared} {fp : List Addr} (I : Inv X pins σ H s) (hf : ∀ b ∈ fp, FpOk X pins H b) (ho : ∀ b ∈ fp, ∃ o, s.heap.get? b = some o ∧ ∀ v, o.data ≠ .cell v) : Inv X (pins ++ pinsAt fp s.heap) σ H s :=
 I.pins_of fun p hp => (List.mem_append.mp hp).elim (fun z => I.pin p (List.mem_append_right _ z)) fun z => by
  obtain ⟨hb, e⟩ := of_pinsAt z
  obtain ⟨f0, f1, f2, _⟩ := hf p.1 hb
  obtain ⟨o, e', d⟩ := ho p.1 hb
  rw [e] at e'; cases e'
  exact ⟨e, f0, f1, f2, d⟩
theorem Inv.unpinned {pins pl : List (Addr × Obj)} {σ : St} {H : Hp} {s : Shared} (I : Inv X (pins ++ pl) σ H s) : Inv X pins σ H s := I.pins_of fun p hp => I.pin p (List.mem_append_right _ (List.mem_append_left _ hp))
theorem ps_for {iter : Expr} {body : List Stmt} {wi : TI} {g : TG} {tb : TS} {pos : Pos} (hp : PassesOwn (model X.prog X.w) X.A X.env X.xe) (hc : X.calm = true) (hi : PI X tg iter wi) (hg : PG X tg g) (hb : PSs X body tb)
  (hs : ∀ x, foldedSetIterable iter X.env x = pure x := by intro _; rfl) : PS X (.For tg iter body [] pos) (tFor wi g tb) := by
 intro pins s σ H D I h
 refine wpAny_For (thn (hi pins s σ H _ I h) fun v s1 h1 => thn h1 fun itv s2 h2 => ?_) hs
 obtain ⟨it, fp, tn, J, H2, e, I2, T, st2, f2, W, ⟨m0, w0⟩, turn⟩ := h2
 subst e
 have stat : ∀ {H' : Hp}, (∀ b ∈ fp, H' b = none) → ∀ b ∈ fp, FpOk X pins H' b := fun hn b hb => ⟨hn b hb, (f2 b hb).2⟩
 refine codeAny_forLoop_any (fun n s' => ∃ i σ' H', Inv X pins σ' H' s' ∧ tn i s'.heap ∧ (∀ b ∈ fp, H' b = none) ∧ W i n σ' H') ?_ m0 ⟨0, σ, H2, I2, st2, fun b hb => (f2 b hb).1, w0⟩
 rintro n s3 ⟨i, σ3, H3, I3, st3, fr3, w3⟩
 rcases turn i n σ3 H3 w3 with ⟨stop, qn⟩ | ⟨go, N, hN, step⟩
 ·refine wpAny_passesOwn hp (thn (T.done X rfl rfl rfl hc i pins s3 σ3 H3 X.xe I3 (stat fr3) st3 stop) fun r s4 ⟨hr, I4⟩ => ?_)
  subst hr
  exact wpAny_execs_nil ⟨σ3, H3, I4, qn⟩
 ·refine wpAny_passesOwn hp (thn (T.item X rfl rfl rfl hc i pins s3 σ3 H3 X.xe I3 (stat fr3) st3 go) fun r s4 ⟨u, hr, h4⟩ => ?_)
  subst hr
  refine wpAny_passesOwn hp (thn h4 fun _ s5 ⟨x, H5, I5, r5, y5, st5, fr5⟩ => ?_)
  have I5' := I5.pinned (stat fr5) (T.obj _ _ st5)
  refine wpAny_passesOwn hp (thn (hg _ s5 σ3 H5 x u _ I5' r5 (step x H5 y5)) fun _ s6 ⟨σ6, H6, I6, q6⟩ => ?_)
  refine wpAny_passesOwn hp (thn (hb _ s6 σ6 H6 _ I6 q6) fun f s7 q7 => ?_)
  have again : ∀ {σ7 : St} {H7 : Hp}, Inv X (pins ++ pinsAt fp s5.heap) σ7 H7 s7 → N σ7 H7 → ∃ m, m < n ∧ ∃ i σ' H', Inv X pins σ' H' s7 ∧ tn i s7.heap ∧ (∀ b ∈ fp, H' b = none) ∧ W i m σ' H' := fun {σ7 H7} I7 n7 => by
   obtain ⟨m', hm, w7⟩ := hN σ7 H7 n7
   refine ⟨m', hm, i + 1, σ7, H7, I7.unpinned, T.keep _ _ _ st5 fun b hb o e => (I7.pin (b, o) (List.mem_append_right _ (List.mem_append_right _ (mem_pinsAt hb e)))).1, fun b hb => ?_, w7⟩
   obtain ⟨o, e, d⟩ := T.obj _ _ st5 b hb
   exact (I7.pin (b, o) (List.mem_append_right _ (List.mem_append_right _ (mem_pinsAt hb e)))).2.1
  cases f with
  | next => obtain ⟨σ7, H7, I7, n7⟩ := q7; exact again I7 n7
  | cont => obtain ⟨σ7, H7, I7, n7⟩ := q7; exact again I7 n7
  | brk => obtain ⟨σ7, H7, I7, q7⟩ := q7; exact ⟨σ7, H7, I7.unpinned, q7⟩
  | ret v => obtain ⟨x7, σ7, H7, I7, r7, q7⟩ := q7; exact ⟨x7, σ7, H7, I7.unpinned, r7, q7⟩
end
abbrev R2 := V → V → Hp → VK → Prop
def OpR (X : Cx) (f : Value → Value → Sem Value) (r : R2) : Prop :=
 ∀ (pins : List (Addr × Obj)) (s : Shared) (σ : St) (H : Hp) (x y : V) (v u : Value) (Q : VK), Inv X pins σ H s → RelV x v → RelV y u → r x y H Q →
  wpAny (model X.prog X.w) X.A (f v u) (EP X pins σ Q) X.xe s
def UnR (X : Cx) (f : Value → Sem Value) (r : V → Hp → VK → Prop) : Prop :=
 ∀ (pins : List (Addr × Obj)) (s : Shared) (σ : St) (H : Hp) (x : V) (v : Value) (Q : VK), Inv X pins σ H s → RelV x v → r x H Q →
  wpAny (model X.prog X.w) X.A (f v) (EP X pins σ Q) X.xe s
def CallR (X : Cx) (f : Value) (r : List V → Hp → VK → Prop) : Prop :=
 ∀ (pins : List (Addr × Obj)) (s : Shared) (σ : St) (H : Hp) (xs : List V) (us : List Value) (Q : VK), Inv X pins σ H s → Vals xs us → r xs H Q →
  wpAny (model X.prog X.w) X.A (call f us) (EP X pins σ Q) X.xe s
def tOp (r : R2) (ta tb : TE) : TE := fun σ H Q => ta σ H fun x H1 => tb σ H1 fun y H2 => r x y H2 Q
def tUn (r : V → Hp → VK → Prop) (ta : TE) : TE := fun σ H Q => ta σ H fun x H1 => r x H1 Q
def rI (C : Int → Int → Prop) (g : Int → Int → V) : R2 := fun x y H Q => ∃ i j, x = .int i ∧ y = .int j ∧ C i j ∧ Q (g i j) H
def rI0 (g : Int → Int → V) : R2 := fun x y H Q => ∃ i j, x = .int i ∧ y = .int j ∧ Q (g i j) H
def rU (g : Int → V) : V → Hp → VK → Prop := fun x H Q => ∃ i, x = .int i ∧ Q (g i) H
section
variable {X : Cx} {a b c : Expr} {ta tb tc : TE} {pos : Pos}
theorem binT (ha : PE X a ta) (hb : PE X b tb) {pins : List (Addr × Obj)} {s : Shared} {σ : St} {H : Hp} {R : V → V → Hp → Prop} (I : Inv X pins σ H s)
  (h : ta σ H fun x H1 => tb σ H1 fun y H2 => R x y H2) {Q : Value → Shared → Prop} {f : Value → Value → Sem Value}
  (hf : ∀ v u s2 x y H2, Inv X pins σ H2 s2 → RelV x v → RelV y u → R x y H2 → wpAny (model X.prog X.w) X.A (f v u) Q X.xe s2) :
  wpAny (model X.prog X.w) X.A (eval a X.env) (fun v s₁ => wpAny (model X.prog X.w) X.A (eval b X.env) (fun u s₂ => wpAny (model X.prog X.w) X.A (f v u) Q X.xe s₂) X.xe s₁) X.xe s := by
 refine thn (ha pins s σ H _ I h) fun v s1 ⟨x, H1, I1, r1, q1⟩ => ?_
 refine thn (hb pins s1 σ H1 _ I1 q1) fun u s2 ⟨y, H2, I2, r2, q2⟩ => ?_
 exact hf v u s2 x y H2 I2 r1 r2 q2
theorem pe_op {op : Operator} {r : R2} (ho : OpR X (binaryOp op) r) (ha : PE X a ta) (hb : PE X b tb) : PE X (.BinOp a op b pos) (tOp r ta tb) := by
 intro pins s σ H Q I h
 exact wpAny_BinOp (binT ha hb I h fun v u s2 x y H2 I2 rx ry q => ho pins s2 σ H2 x y v u Q I2 rx ry q)
theorem pe_un {op : UnaryOp} {r : V → Hp → VK → Prop} (ho : UnR X (unaryOp op) r) (ha : PE X a ta) : PE X (.UnaryOp op a pos) (tUn r ta) := by
 intro pins s σ H Q I h
 exact UnaryOp_ (thn (ha pins s σ H _ I h) fun v s1 ⟨x, H1, I1, r1, q1⟩ => ho pins s1 σ H1 x v Q I1 r1 q1)
theorem opI {f : Value → Value → Sem Value} {C : Int → Int → Prop} {g : Int → Int → Int}
  (rule : ∀ (i j : Int) (t u : Tok) (s : Shared) (Q : Value → Shared → Prop) (E : Value → Shared → Prop), C i j → Q (.int (g i j) s.toks) { s with toks := s.toks + 1 } → wpAny (model X.prog X.w) X.A (f (.int i t) (.int j u)) Q E s) :
  OpR X f (rI C fun i j => .int (g i j)) := by
 intro pins s σ H x y v u Q I rx ry h
 obtain ⟨i, j, rfl, rfl, hc, q⟩ := h
 obtain ⟨t, rfl⟩ := rx
 obtain ⟨t', rfl⟩ := ry
 exact rule i j t t' s _ _ hc ⟨.int (g i j), H, I.tok _, ⟨_, rfl⟩, q⟩
theorem opI0 {f : Value → Value → Sem Value} {g : Int → Int → Int}
  (rule : ∀ (i j : Int) (t u : Tok) (s : Shared) (Q : Value → Shared → Prop) (E : Value → Shared → Prop), Q (.int (g i j) s.toks) { s with toks := s.toks + 1 } → wpAny (model X.prog X.w) X.A (f (.int i t) (.int j u)) Q E s) :
  OpR X f (rI0 fun i j => .int (g i j)) := by
 intro pins s σ H x y v u Q I rx ry h
 obtain ⟨i, j, rfl, rfl, q⟩ := h
 obtain ⟨t, rfl⟩ := rx
 obtain ⟨t', rfl⟩ := ry
 exact rule i j t t' s _ _ ⟨.int (g i j), H, I.tok _, ⟨_, rfl⟩, q⟩
theorem opB0 {f : Value → Value → Sem Value} {g : Int → Int → Bool}
  (rule : ∀ (i j : Int) (t u : Tok) (s : Shared) (Q : Value → Shared → Prop) (E : Value → Shared → Prop), Q (.bool (g i j)) s → wpAny (model X.prog X.w) X.A (f (.int i t) (.int j u)) Q E s) :
  OpR X f (rI0 fun i j => .bl (g i j)) := by
 intro pins s σ H x y v u Q I rx ry h
 obtain ⟨i, j, rfl, rfl, q⟩ := h
 obtain ⟨t, rfl⟩ := rx
 obtain ⟨t', rfl⟩ := ry
 exact rule i j t t' s _ _ ⟨.bl (g i j), H, I, rfl, q⟩
def CPow (i j : Int) : Prop := 0 ≤ j ∧ j ≤ 1000000 ∧ i.natAbs < 2 ^ 64
def CMul (i j : Int) : Prop := (-(2 ^ 64) < i ∧ i < 2 ^ 64) ∨ (-(2 ^ 64) < j ∧ j < 2 ^ 64)
theorem CMul.ok {i j : Int} (h : CMul i j) : IntMulOk i j := by
 rcases h with ⟨h1, h2⟩ | ⟨h1, h2⟩
 ·exact .of_left (intBits_le_64 h1 h2)
 ·exact .of_right (intBits_le_64 h1 h2)
theorem op_add : OpR X (binaryOp .Add) (rI0 fun i j => .int (i + j)) := opI0 fun _ _ _ _ _ _ _ q => add_int q
theorem op_sub : OpR X (binaryOp .Sub) (rI0 fun i j => .int (i - j)) := opI0 fun _ _ _ _ _ _ _ q => sub_int q
theorem op_modN : OpR X (binaryOp .Mod) (rI (fun _ j => j ≠ 0) fun i j => .int (i.fmod j)) := opI fun _ _ _ _ _ _ _ hc q => mod_int' hc q
theorem op_pow : OpR X (binaryOp .Pow) (rI CPow fun i j => .int (i ^ j.toNat)) := opI fun _ _ _ _ _ _ _ hc q => pow_int_small hc.1 hc.2.1 hc.2.2 q
theorem unI {f : Value → Sem Value} {g : Int → Int}
  (rule : ∀ (i : Int) (t : Tok) (s : Shared) (Q : Value → Shared → Prop) (E : Value → Shared → Prop), Q (.int (g i) s.toks) { s with toks := s.toks + 1 } → wpAny (model X.prog X.w) X.A (f (.int i t)) Q E s) :
  UnR X f (rU fun i => .int (g i)) := by
 intro pins s σ H x v Q I rx h
 obtain ⟨i, rfl, q⟩ := h
 obtain ⟨t, rfl⟩ := rx
 exact rule i t s _ _ ⟨.int (g i), H, I.tok _, ⟨_, rfl⟩, q⟩
theorem un_neg : UnR X (unaryOp .USub) (rU fun i => .int (-i)) := unI fun _ _ _ _ _ q => neg_int q
end
section
variable {X : Cx} {a b c : Expr} {ta tb tc : TE} {pos : Pos}
theorem op_lt : OpR X (compareOp .Lt) (rI0 fun i j => .bl (decide (i < j))) := opB0 fun _ _ _ _ _ _ _ q => lt_int q
theorem op_gt : OpR X (compareOp .Gt) (rI0 fun i j => .bl (decide (j < i))) := opB0 fun _ _ _ _ _ _ _ q => gt_int q
theorem OpR.or {f : Value → Value → Sem Value} {r r' : R2} (h : OpR X f r) (h' : OpR X f r') : OpR X f (fun x y H Q => r x y H Q ∨ r' x y H Q) := by
 intro pins s σ H x y v u Q I rx ry q
 rcases q with q | q
 ·exact h pins s σ H x y v u Q I rx ry q
 ·exact h' pins s σ H x y v u Q I rx ry q
theorem nomark (b : Expr) {op : CmpOp} (h : op ≠ .In := by decide) (h2 : op ≠ .NotIn := by decide) : behindInMarks op b = false := by
 have e1 : (op == CmpOp.In) = false := by cases op <;> first | rfl | exact absurd rfl h
 have e2 : (op == CmpOp.NotIn) = false := by cases op <;> first | rfl | exact absurd rfl h2
 cases b <;> simp [behindInMarks, e1, e2]
theorem pe_cmpR {op : CmpOp} {r : R2} (ho : OpR X (compareOp op) r) (ha : PE X a ta) (hb : PE X b tb) (hm : behindInMarks op b = false) : PE X (.Compare a [op] [b] pos) (tOp r ta tb) := by
 intro pins s σ H Q I h
 exact wpAny_Compare1 (binT ha hb I h fun v u s2 x y H2 I2 rx ry q => ho pins s2 σ H2 x y v u Q I2 rx ry q) hm
def tTest (t : TE) : TT := fun σ H Q => t σ H fun x H' => ∃ k, x = .bl k ∧ Q k H'
theorem pt_cmpR {op : CmpOp} {r : R2} (ho : OpR X (compareOp op) r) (ha : PE X a ta) (hb : PE X b tb) (hm : behindInMarks op b = false) : PT X (.Compare a [op] [b] pos) (tTest (tOp r ta tb)) := by
 intro pins s σ H Q I h
 refine wpAny_isTrue_Compare1 (thn (ha pins s σ H _ I h) fun v s1 ⟨x, H1, I1, r1, q1⟩ => thn (hb pins s1 σ H1 _ I1 q1) fun u s2 ⟨y, H2, I2, r2, q2⟩ =>
  thn (ho pins s2 σ H2 x y v u _ I2 r1 r2 q2) fun c s3 ⟨z, H3, I3, r3, k, e, q3⟩ => ?_) hm
 subst e
 cases r3
 exact wpAny_truthy_bool ⟨H3, I3, q3⟩
theorem line63 : (sizeLine : Nat) < 2 ^ 63 := by rw [sizeLine_eq]; decide
theorem op_add_str : OpR X (binaryOp .Add) (fun x y H Q => ∃ i j, x = .str i ∧ y = .str j ∧ i.length + j.length ≤ sizeLine ∧ Q (.str (i ++ j)) H) := by
 intro pins s σ H x y v u Q I rx ry h
 obtain ⟨i, j, rfl, rfl, hz, q⟩ := h
 obtain ⟨t, rfl⟩ := rx
 obtain ⟨t', rfl⟩ := ry
 exact add_str (fun t' tk => ⟨.str (i ++ j), H, I.tok _, ⟨_, rfl⟩, q⟩) hz
theorem vals1 {x : V} {us : List Value} (r : Vals [x] us) : ∃ u, us = [u] ∧ RelV x u := by
 cases r with
 | cons r1 r2 => cases r2; exact ⟨_, rfl, r1⟩
theorem vals2 {x y : V} {us : List Value} (r : Vals [x, y] us) : ∃ u w', us = [u, w'] ∧ RelV x u ∧ RelV y w' := by
 cases r with
 | cons r1 r2 =>
  cases r2 with
  | cons r3 r4 => cases r4; exact ⟨_, _, rfl, r1, r3⟩
theorem call_abs : CallR X (.builtin "abs") (fun xs H Q => ∃ i, xs = [.int i] ∧ Q (.int (if i < 0 then -i else i)) H) := by
 intro pins s σ H xs us Q I r h
 obtain ⟨i, rfl, q⟩ := h
 obtain ⟨u, rfl, t, rfl⟩ := vals1 r
 exact call_abs_int fun u tk => ⟨.int (if i < 0 then -i else i), H, I.tok _, ⟨_, rfl⟩, q⟩
end
structure ObjM (h : Heap) (x dx C : Addr) (mA : Str → Option Value) : Prop where
 obj : h.get? x = some (PySem.W.instObj C dx)
 ns : h.Ns1 dx mA
 ne : dx ≠ x
theorem lookIn_ns {h : Heap} {dx : Addr} {mA : Str → Option Value} (n : h.Ns1 dx mA) : ∃ od, h.get? dx = some od ∧ ∀ name, PySem.W.lookIn name od = some (mA name) := by
 obtain ⟨o, es, ep, ho, hd, hk, _, hm⟩ := n
 refine ⟨o, ho, fun name => ?_⟩
 have e := hm name
 unfold nsFind findBy at e
 rw [← Array.find?_toList] at e
 unfold PySem.W.lookIn
 rw [hd]
 dsimp only
 split
 ·rename_i y q
  rw [q] at e
  exact congrArg some e
 ·rename_i q
  rw [q] at e
  have a : es.toList.any (·.refKey) = false := by
   rw [List.any_eq_false]
   intro y hy
   obtain ⟨z, t, hkey⟩ := hk y (Array.mem_toList_iff.mp hy)
   simp [DictEntry.refKey, hkey]
  have a' : ¬ es.toList.any (·.refKey) = true := by rw [a]; exact Bool.false_ne_true
  rw [if_neg a']
  exact congrArg some e
theorem ObjM.look {h : Heap} {x dx C : Addr} {mA : Str → Option Value} (I : ObjM h x dx C mA) : ∃ od, PySem.W.InstAt h x (PySem.W.instObj C dx) C (some od) ∧ ∀ name, PySem.W.lookIn name od = some (mA name) :=
 let ⟨od, ho, hl⟩ := lookIn_ns I.ns
 ⟨od, ⟨I.obj, rfl, rfl, ho⟩, hl⟩
section
variable {prog : Program} {w : World} {A : Around} {E : Value → Shared → Prop} {s : Shared} {K : PySem.W.Frag} {x dx C f : Addr} {mA : Str → Option Value} {name : Str} {v : Value}
end
section
variable {P : Program} {w : World} {H H' : Hp} {h h' : Heap} {a C dx : Addr} {fs fs' : List (Str × V)}
theorem ins_get (hok : HOk P w H h) (e : H a = some (.ins C dx fs)) : ∃ mA, ObjM h a dx C mA ∧ (∀ f, RelO (fs.lookup f) (mA f)) ∧ PySem.Within mA (fs.map (·.1)) ∧ fs.length ≤ 1000 ∧ H dx = some (.own a) := by
 obtain ⟨d, z, ne, ob, mA, n, r, q⟩ := (show ObjOk P w H h a (.ins C dx fs) from hok a _ e)
 exact ⟨mA, ⟨ob, n, ne⟩, r, q, z, d⟩
end
structure Cls (K : PySem.W.Frag) (C : Addr) : Prop where
 pg : PySem.W.plainGet K C Str.empty = true
 hd : PySem.W.hasDictIn K C = true
 po : PySem.W.plainOver K C = true
 sa : PySem.W.findIn K (.ref C) "__setattr__" = some (some (.builtin "object.__setattr__"))
theorem Cls.get {K : PySem.W.Frag} {C : Addr} (c : Cls K C) (f : Str) : PySem.W.plainGet K C f = true := c.pg
section
variable {X : Cx} {pins : List (Addr × Obj)} {σ : St} {H : Hp} {s : Shared} {a C dx : Addr} {fs : List (Str × V)} {f : Str} {v : V} {A : Around} {E : Value → Shared → Prop}
end
section
variable {X : Cx} {o e value : Expr} {f : Str} {pos pos' tpos : Pos} {ta tv : TE}
end
section
variable {X : Cx} {pins : List (Addr × Obj)} {σ : St} {H : Hp} {s : Shared} {A : Around} {E : Value → Shared → Prop} {Q : Value → Shared → Prop} {c : Value} {b : Bool}
inductive TyOf (K : PySem.W.Frag) (H : Hp) : V → Value → Prop where
 | non : TyOf K H .non (.type "NoneType")
 | bl (x : Bool) : TyOf K H (.bl x) (.type "bool")
 | int (i : Int) : TyOf K H (.int i) (.type "int")
 | str (x : Str) : TyOf K H (.str x) (.type "str")
 | flt (x : UInt64) : TyOf K H (.flt x) (.type "float")
 | lst {a : Addr} {xs : List V} (e : H a = some (.lst xs)) : TyOf K H (.ref a) (.type "list")
 | frz {a : Addr} {o : Obj} {xs : List V} (e : H a = some (.frz o (.lst xs))) : TyOf K H (.ref a) (.type "list")
 | tup {a : Addr} {xs : List V} (e : H a = some (.tup xs)) : TyOf K H (.ref a) (.type "tuple")
 | dK {a : Addr} {kvs : List (Key × V)} (e : H a = some (.dK kvs)) : TyOf K H (.ref a) (.type "dict")
 | dT {a : Addr} {kvs : List (List Key × V)} (e : H a = some (.dT kvs)) : TyOf K H (.ref a) (.type "dict")
 | ins {a C dx : Addr} {fs : List (Str × V)} (e : H a = some (.ins C dx fs)) (cl : Cls K C) (ha : PySem.W.findIn K (.ref C) "__class__" = some (some (.builtin "object.__class__")))
   (hn : PySem.W.specialIn K (.builtin "object.__class__") "__get__" = some (some (.builtin "getset_descriptor.__get__"))) (htk : PySem.W.takesIn K (.builtin "object.__class__") = some true)
   (hm : PySem.W.mroIn K C (.type "object") = some true) : TyOf K H (.ref a) (.ref C)
theorem isinst_ok {x : V} {u t : Value} (I : Inv X pins σ H s) (rx : RelV x u) (ty : TyOf X.K H x t) (e : PySem.W.kitOne X.K t c = some b) (h : ∀ tk, Q (.bool b) { s with toks := tk }) :
  wpAny (model X.prog X.w) A (call (.builtin "isinstance") [u, c]) Q E s := by
 cases ty with
 | non => cases (show u = Value.none from rx); exact PySem.W.kia_one PySem.W.kitx_none I.kIn True.intro e (fun z => nomatch z) h
 | bl y => cases (show u = Value.bool y from rx); exact PySem.W.kia_one PySem.W.kitx_bool I.kIn True.intro e (fun z => nomatch z) h
 | int i => obtain ⟨t, q⟩ := (show ∃ t, u = Value.int i t from rx); cases q; exact PySem.W.kia_one PySem.W.kitx_int I.kIn True.intro e (fun z => nomatch z) h
 | str y => obtain ⟨t, q⟩ := (show ∃ t, u = Value.str y t from rx); cases q; exact PySem.W.kia_one PySem.W.kitx_str I.kIn True.intro e (fun z => nomatch z) h
 | flt y => obtain ⟨t, q⟩ := (show ∃ t, u = Value.float y t from rx); cases q; exact PySem.W.kia_one PySem.W.kitx_float I.kIn True.intro e (fun z => nomatch z) h
 | @lst a xs ea =>
  cases (show u = Value.ref a from rx)
  obtain ⟨_, _, n, _, h1⟩ := (show ObjOk X.prog X.w H s.heap a (.lst xs) from I.hok a _ ea)
  exact PySem.W.kia_one PySem.W.kitx_list I.kIn ⟨_, h1, rfl⟩ e (fun z => nomatch z) h
 | @frz a ob xs ea =>
  cases (show u = Value.ref a from rx)
  obtain ⟨_, _, _, n, _, h1⟩ := (show ObjOk X.prog X.w H s.heap a (.frz ob (.lst xs)) from I.hok a _ ea)
  exact PySem.W.kia_one PySem.W.kitx_list I.kIn ⟨_, h1, rfl⟩ e (fun z => nomatch z) h
 | @tup a xs ea =>
  cases (show u = Value.ref a from rx)
  obtain ⟨_, _, _, p⟩ := (show ObjOk X.prog X.w H s.heap a (.tup xs) from I.hok a _ ea)
  obtain ⟨o, h1, h2, _⟩ := p
  exact PySem.W.kia_one PySem.W.kitx_tuple I.kIn ⟨o, h1, h2⟩ e (fun z => nomatch z) h
 | @dK a kvs ea =>
  cases (show u = Value.ref a from rx)
  obtain ⟨_, _, vs, _, p⟩ := (show ObjOk X.prog X.w H s.heap a (.dK kvs) from I.hok a _ ea)
  obtain ⟨o, es, ep, h1, h2, _⟩ := p
  exact PySem.W.kia_one PySem.W.kitx_dict I.kIn ⟨o, h1, h2.1⟩ e (fun z => nomatch z) h
 | @dT a kvs ea =>
  cases (show u = Value.ref a from rx)
  obtain ⟨_, _, xs, _, o, es, ep, h1, h2, _⟩ := (show ObjOk X.prog X.w H s.heap a (.dT kvs) from I.hok a _ ea)
  exact PySem.W.kia_one PySem.W.kitx_dict I.kIn ⟨o, h1, h2.1⟩ e (fun z => nomatch z) h
 | @ins a C dx fs ea cl ha hn htk hm =>
  cases (show u = Value.ref a from rx)
  obtain ⟨mA, O, _⟩ := ins_get I.hok ea
  obtain ⟨od, J, _⟩ := O.look
  exact PySem.W.kia_one (PySem.W.kitx_own (cl.get _) cl.hd ha hn htk hm) I.kIn J e (fun z => nomatch z) h
end
structure Room (k : Nat) (A : Around) : Prop where
 hd : A.handled = none
 dp : A.depth + 3 * k + 5 < recursionLimit
 un : A.units + 16 * k + 200 < cLine
theorem Room.mono {j k : Nat} {A : Around} (r : Room k A) (h : j ≤ k) : Room j A := ⟨r.hd, by have := r.dp; omega, by have := r.un; omega⟩
theorem Room.deeper {k : Nat} {A : Around} (r : Room (k + 1) A) (env : Env) : Room k (A.deeper env) :=
 ⟨r.hd, by have := r.dp; show A.depth + 1 + 3 * k + 5 < _; omega, by have := r.un; show A.units + 3 + 16 * k + 200 < _; omega⟩
theorem Room.depth {k : Nat} {A : Around} (r : Room k A) : A.depth < recursionLimit := by have := r.dp; omega
def tNil : TA := fun _ H Q => Q [] H
def tCons (ta : TE) (tr : TA) : TA := fun σ H Q => ta σ H fun x H1 => tr σ H1 fun xs H2 => Q (x :: xs) H2
section
variable {X : Cx} {e : Expr} {es : List Expr} {te : TE} {t : TA} {pos : Pos}
theorem pa_nil : PA X [] tNil := fun _ _ _ _ H Q I h => Calls.spliced_nil ⟨[], H, I, .nil, h⟩
theorem pa_cons (ha : PE X e te) (hr : PA X es t) (hs : starEach (e :: es) X.env = (false, eval e X.env) :: starEach es X.env := by rfl) : PA X (e :: es) (tCons te t) := by
 intro pos pins s σ H Q I h
 rw [hs]
 show wpAny _ _ (spliced ((false, eval e X.env) :: backTo pos (starEach es X.env))) _ _ s
 refine Calls.spliced_cons (thn (ha pins s σ H _ I h) fun u s1 ⟨x, H1, I1, r1, q1⟩ => ?_)
 exact thn (hr pos pins s1 σ H1 _ I1 q1) fun us s2 ⟨xs, H2, I2, r2, q2⟩ => ⟨x :: xs, H2, I2, .cons r1 r2, q2⟩
def tTup (t : TA) : TE := fun σ H Q => t σ H fun xs H1 => xs.length ≤ sizeLine ∧ ∀ p, H1 p = none → Q (.ref p) (upd H1 p (.tup xs))
def tLst (t : TA) : TE := fun σ H Q => t σ H fun xs H1 => xs.length ≤ sizeLine ∧ ∀ p, H1 p = none → Q (.ref p) (upd H1 p (.lst xs))
theorem pe_tup {x1} (h : PA X es t) : PE X (.Tuple es x1 pos) (tTup t) := by
 intro pins s σ H Q I hq
 refine wpAny_Tuple_spliced (thn (h pos pins s σ H _ I hq) fun us s1 ⟨xs, H1, I1, r, z, q⟩ => ⟨by rw [← r.length]; exact z, ?_⟩)
 have hf : H1 s1.heap.objs.size = none := I1.hok.fresh (Nat.le_refl _)
 refine ⟨.ref s1.heap.objs.size, upd H1 s1.heap.objs.size (.tup xs), I1.laid (t' := s1.toks) (fun b u e => Heap.get?_push_of_some _ e) (Nat.le_refl _) ?_, rfl, q _ hf⟩
 exact ⟨z, us, r, ⟨_, Heap.get?_push_size _ rfl, rfl, _, rfl⟩⟩
theorem pe_lst (h : PA X es t) : PE X (.List es pos) (tLst t) := by
 intro pins s σ H Q I hq
 refine wpAny_List_spliced (thn (h pos pins s σ H _ I hq) fun us s1 ⟨xs, H1, I1, r, z, q⟩ => ⟨by rw [← r.length]; exact z, ?_⟩)
 have hf : H1 s1.heap.objs.size = none := I1.hok.fresh (Nat.le_refl _)
 refine ⟨.ref s1.heap.objs.size, upd H1 s1.heap.objs.size (.lst xs), I1.laid (t' := s1.toks) (fun b u e => Heap.get?_push_of_some _ e) (Nat.le_refl _) ?_, rfl, q _ hf⟩
 exact ⟨z, us, 0, r, Heap.get?_push_size _ rfl⟩
end
abbrev Sp := List V → Hp → VK → XK → Prop
abbrev CXT := List Env → Hp → Shared → XK → Value → Shared → Prop
structure Env0 (P : Program) (w : World) (K : PySem.W.Frag) (mg : Str → Option Value) (base : Heap) (A : Around) (outer : List Env) (s : Shared) (H : Hp) : Prop where
 frames : A.frames = some outer
 mod : Mod K mg base
 bs : ∀ b o, base.get? b = some o → s.heap.get? b = some o ∧ H b = none
 bsz : base.objs.size ≤ s.heap.objs.size
 funs : s.heap.FunFrames base outer
 frf : ∀ b ∈ frs outer, H b = none
 hok : HOk P w H s.heap
 bare : AllBare s.gens
def CE (outer : List Env) (P : Program) (w : World) (H : Hp) (s : Shared) (Q : VK) (u : Value) (s' : Shared) : Prop :=
 ∃ v H', s'.os = s.os ∧ AllBare s'.gens ∧ Un (frs outer) [] H H' s.heap s'.heap ∧ HOk P w H' s'.heap ∧ RelV v u ∧ Q v H'
def CR (CX : CXT) (outer : List Env) (P : Program) (w : World) (H : Hp) (s : Shared) (Q : VK) (E : XK) (r : Result) (s' : Shared) : Prop :=
 match r with
 | .ok (.ret u) => CE outer P w H s Q u s'
 | .ok _ => False
 | .error e => CX outer H s E e s'
structure FnOk (P : Program) (w : World) (K : PySem.W.Frag) (mg : Str → Option Value) (base : Heap) (CX : CXT) (k : Nat) (f : Addr) (fd : FuncData) (ps : List Str) (sp : Sp) : Prop where
 len : ∀ vs H Q E, sp vs H Q E → vs.length = ps.length
 run : ∀ (A : Around) (outer : List Env) (s : Shared) (H : Hp) (args : Args) (us : List Value) (vs : List V) (Q : VK) (E : XK), Room k A → Env0 P w K mg base A outer s H → BindsTo s fd args (ps.zip us) → Vals vs us → sp vs H Q E →
  codeAny (model P w) A (.call (.ref f) args) (CR CX outer P w H s Q E) s
theorem FnOk.mono {P : Program} {w : World} {K : PySem.W.Frag} {mg : Str → Option Value} {base : Heap} {CX : CXT} {j k : Nat} {f : Addr} {fd : FuncData} {ps : List Str} {sp : Sp} (F : FnOk P w K mg base CX j f fd ps sp) (h : j ≤ k) :
  FnOk P w K mg base CX k f fd ps sp := ⟨F.len, fun A outer s H args us vs Q E hr => F.run A outer s H args us vs Q E (hr.mono h)⟩
theorem FnOk.imp {P : Program} {w : World} {K : PySem.W.Frag} {mg : Str → Option Value} {base : Heap} {CX : CXT} {k : Nat} {f : Addr} {fd : FuncData} {ps : List Str} {sp sp' : Sp} (F : FnOk P w K mg base CX k f fd ps sp)
  (h : ∀ vs H Q E, sp' vs H Q E → sp vs H Q E) : FnOk P w K mg base CX k f fd ps sp' :=
 ⟨fun vs H Q E q => F.len vs H Q E (h _ _ _ _ q), fun A outer s H args us vs Q E hr he hb hv hs => F.run A outer s H args us vs Q E hr he hb hv (h _ _ _ _ hs)⟩
section
variable {X : Cx} {pins : List (Addr × Obj)} {σ : St} {H : Hp} {s s' : Shared}
theorem Inv.env0 (I : Inv X pins σ H s) : Env0 X.prog X.w X.K X.mg X.base X.A X.stack s H :=
 ⟨I.ok.frames, I.ok.mod, I.bs, Nat.le_trans I.ok.bsz I.sz, I.stack, I.stkFree, I.hok, I.bare⟩
theorem Inv.after {Q : VK} {u : Value} (I : Inv X pins σ H s) (h : CE X.stack X.prog X.w H s Q u s') : EP X pins σ Q u s' := by
 obtain ⟨v, H', os, bare, un, hok, r, q⟩ := h
 obtain ⟨hh, g, d, t, os'⟩ := s'
 obtain rfl : os' = s.os := os
 exact ⟨v, H', I.call (h' := hh) (g' := g) (d' := d) (t' := t) (ch := []) un hok bare (fun b z => absurd z (by simp)), r, q⟩
end
def Binds (K : PySem.W.Frag) (fd : FuncData) (ps : List Str) (ds : List Value) : Prop :=
 ∀ (s : Shared) (us : List Value), K.In s.heap → (us ++ ds).length = ps.length → BindsTo s fd ⟨us, []⟩ (ps.zip (us ++ ds))
theorem Binds.all {K : PySem.W.Frag} {fd : FuncData} {ps : List Str} (h : ∀ us : List Value, us.length = ps.length → bindArgs fd ⟨us, []⟩ = pure (ps.zip us)) : Binds K fd ps [] := fun s us _ hl => by
 rw [List.append_nil] at hl ⊢
 exact .of_eq (h us hl)
def Passes (CX : CXT) (X : Cx) (E : XK) : Prop := ∀ (pins : List (Addr × Obj)) (σ : St) (H : Hp) (s : Shared) (e : Value) (s' : Shared), Inv X pins σ H s → CX X.stack H s E e s' → X.xe e s'
section
variable {X : Cx} {CX : CXT} {k : Nat} {f C : Addr} {fd : FuncData} {ps : List Str} {sp : Sp} {dvs : List V} {ds : List Value} {E : XK} {x m : Str} {p pos apos : Pos} {e o : Expr} {es : List Expr} {ta : TE} {t : TA}
end
section
variable {X : Cx} {CX : CXT} {k : Nat} {f C : Addr} {fd : FuncData} {ps ks : List Str} {sp : Sp} {E : XK} {x m : Str} {p pos apos kpos : Pos} {e o : Expr} {es : List Expr} {kws : List Keyword} {te ta : TE} {t tk : TA} {nm : Option Str}
variable {g : List Value → List Value → List Value} {gV : List V → List V → List V}
end
structure FnScope (N P : List Str) (sc : Scope) : Prop where
 kind : sc.kind = .function
 co : sc.isCoroutine = false
 gen : sc.isGenerator = false
 nd : N.Nodup
 pre : N.take P.length = P
 par : ∀ x ∈ P, sc.names.lookup x = some .local ∨ sc.names.lookup x = some .cell
 nofree : ∀ y ∈ sc.names, y.2 ≠ .free
theorem bindL_out {kindOf : Str → Option NameKind} {x : Str} : ∀ {binds : List (Str × Value)} {m : Str → Option Value}, (∀ v, (x, v) ∉ binds) → bindL kindOf binds m x = m x
 | [], _, _ => rfl
 | (n, v) :: r, m, h => by
  unfold bindL
  rw [bindL_out fun w hw => h w (List.mem_cons_of_mem _ hw)]
  split
  ·have : x ≠ n := by rintro rfl; exact h v List.mem_cons_self
   simp [this]
  ·rfl
theorem bindC_out {kindOf : Str → Option NameKind} {x : Str} : ∀ {binds : List (Str × Value)} {m : Str → Option Value}, (∀ v, (x, v) ∉ binds) → bindC kindOf binds m x = m x
 | [], _, _ => rfl
 | (n, v) :: r, m, h => by
  unfold bindC
  rw [bindC_out fun w hw => h w (List.mem_cons_of_mem _ hw)]
  split
  ·rfl
  ·have : x ≠ n := by rintro rfl; exact h v List.mem_cons_self
   simp [this]
theorem bindL_get {kindOf : Str → Option NameKind} {x : Str} {v : Value} : ∀ {P : List Str} {vs : List Value} {i : Nat} {m : Str → Option Value}, P.Nodup → P[i]? = some x → vs[i]? = some v → kindOf x = some .local →
  bindL kindOf (P.zip vs) m x = some v
 | [], _, _, _, _, h, _, _ => by simp at h
 | _ :: _, [], _, _, _, _, h, _ => by simp at h
 | p :: P, w :: vs, 0, m, nd, h1, h2, hk => by
  simp at h1 h2; subst h1; subst h2
  show bindL kindOf ((p, w) :: P.zip vs) m p = _
  unfold bindL
  rw [bindL_out fun v hv => (List.nodup_cons.mp nd).1 (List.of_mem_zip hv).1, if_pos hk]
  simp
 | p :: P, w :: vs, i + 1, m, nd, h1, h2, hk => by
  show bindL kindOf ((p, w) :: P.zip vs) m x = _
  unfold bindL
  exact bindL_get (i := i) (List.nodup_cons.mp nd).2 (by simpa using h1) (by simpa using h2) hk
theorem bindC_get {kindOf : Str → Option NameKind} {x : Str} {v : Value} : ∀ {P : List Str} {vs : List Value} {i : Nat} {m : Str → Option Value}, P.Nodup → P[i]? = some x → vs[i]? = some v → kindOf x ≠ some .local →
  bindC kindOf (P.zip vs) m x = some v
 | [], _, _, _, _, h, _, _ => by simp at h
 | _ :: _, [], _, _, _, _, h, _ => by simp at h
 | p :: P, w :: vs, 0, m, nd, h1, h2, hk => by
  simp at h1 h2; subst h1; subst h2
  show bindC kindOf ((p, w) :: P.zip vs) m p = _
  unfold bindC
  rw [bindC_out fun v hv => (List.nodup_cons.mp nd).1 (List.of_mem_zip hv).1, if_neg hk]
  simp
 | p :: P, w :: vs, i + 1, m, nd, h1, h2, hk => by
  show bindC kindOf ((p, w) :: P.zip vs) m x = _
  unfold bindC
  exact bindC_get (i := i) (List.nodup_cons.mp nd).2 (by simpa using h1) (by simpa using h2) hk
def start (N : List Str) (vs : List V) : St := vs.map some ++ List.replicate (N.length - vs.length) none
def cxOf (CX : CXT) (P : Program) (w : World) (K : PySem.W.Frag) (mg : Str → Option Value) (base : Heap) (N : List Str) (qual : Str) (scope : Scope) (f : Addr) (cd : Value) (A : Around) (outer : List Env) (s : Shared) (H : Hp) (E : XK) : Cx where
 prog := P
 w := w
 K := K
 mg := mg
 base := base
 A := A.deeper (envOfC qual scope s.heap.objs.size f cd)
 N := N
 s₀ := s
 H₀ := H
 env := envOfC qual scope s.heap.objs.size f cd
 outer := outer
 stack := envOfC qual scope s.heap.objs.size f cd :: outer
 ex := []
 calm := true
 fn := fun _ => true
 pn := []
 xe := fun e s' => wpAny (model P w) (A.deeper (envOfC qual scope s.heap.objs.size f cd)) (leaving (envOfC qual scope s.heap.objs.size f cd) e) (fun _ s'' => CX outer H s E e s'') (fun e' s'' => CX outer H s E e' s'') s'
theorem cell_has {sc : Scope} {n : Nat} {x : Str} (h : sc.names.lookup x = some .cell) : ∃ c, (cellsFrom n sc.names []).lookup x = some c := by
 have q := PySem.W.cellsFrom_some sc.names n [] (.inl h)
 exact Option.isSome_iff_exists.mp q
theorem inv_start {CX : CXT} {P : Program} {w : World} {K : PySem.W.Frag} {mg : Str → Option Value} {base : Heap} {N ps : List Str} {qual : Str} {scope : Scope} {f : Addr} {cd : Value} {A : Around} {outer : List Env} {s s1 : Shared} {H : Hp} {E : XK} {us : List Value} {vs : List V}
  (S : FnScope N ps scope) (hd : A.handled = none) (e0 : Env0 P w K mg base A outer s H) (hl : vs.length = ps.length) (r : Vals vs us)
  (x : InCallC s s.heap.objs.size (bindL (envOfC qual scope s.heap.objs.size f cd).kindOf (ps.zip us) fun _ => none) (cellsFrom (s.heap.objs.size + 1) scope.names []) (bindC (envOfC qual scope s.heap.objs.size f cd).kindOf (ps.zip us) fun _ => none) s1) :
  Inv (cxOf CX P w K mg base N qual scope f cd A outer s H E) [] (start N vs) H s1 := by
 have hpl : ps.length ≤ N.length := by have := congrArg List.length S.pre; rw [List.length_take] at this; omega
 obtain ⟨h1, tk, rfl, hk⟩ := x.done
 have noA : ∀ b : Addr, b ∉ (cxOf CX P w K mg base N qual scope f cd A outer s H E).ex := fun b z => absurd (show b ∈ ([] : List Addr) from z) (by simp)
 refine ⟨⟨e0.mod, S.kind, rfl, rfl, Nat.le_refl _, fun y z c h1 h2 => ?_, fun y hy => ?_, fun y c _ h => ?_, fun _ => hd, Around.frames_deeper e0.frames, .inr ⟨rfl, rfl⟩, fun b z => absurd z (noA b), e0.bs, e0.bsz, fun b _ _ => noA b, fun b z => absurd z (noA b), e0.funs, e0.frf⟩,
  rfl, e0.bare, Un.kept hk, ⟨_, x.toInCall.ns, fun i y v h1 h2 h3 => ?_⟩, fun y c h => ⟨_, x.cell y c h⟩, e0.hok.fresh (Nat.le_refl _), fun y c h => ?_, fun p hp => absurd (show p ∈ ([] : List (Addr × Obj)) from hp) (by simp), e0.hok.kept hk, ?_⟩
 ·exact name_of_addr x.apart (PySem.mem_of_lookup h1) (PySem.mem_of_lookup h2)
 ·have hy : scope.names.lookup y = some .cell ∨ scope.names.lookup y = some .free := hy
  rcases hy with hy | hy
  ·exact cell_has hy
  ·exact absurd rfl (S.nofree _ (PySem.mem_of_lookup hy))
 ·exact Nat.le_of_lt (x.above y c (PySem.mem_of_lookup h))
 ·have hi : i < vs.length := by
   unfold start at h2
   by_cases hi : i < vs.length
   ·exact hi
   ·rw [List.getElem?_append_right (by simpa using hi)] at h2
    rw [List.getElem?_replicate] at h2
    split at h2 <;> cases h2
  have ha : vs[i]? = some v := by
   unfold start at h2
   rw [List.getElem?_append_left (by simpa using hi), List.getElem?_map] at h2
   cases e : vs[i]? with
   | none => rw [e] at h2; cases h2
   | some a => rw [e] at h2; cases h2; rfl
  obtain ⟨u, hu, rv⟩ := r.get ha
  have hp : ps[i]? = some y := by
   rw [← S.pre, List.getElem?_take_of_lt (by omega)]; exact h1
  have ndP : ps.Nodup := by rw [← S.pre]; exact S.nd.sublist (List.take_sublist _ _)
  refine ⟨u, rv, ?_⟩
  rcases S.par y (List.mem_of_getElem? hp) with k | k
  ·exact .inl ⟨k, bindL_get ndP hp hu k⟩
  ·obtain ⟨c, e⟩ := cell_has (n := s.heap.objs.size + 1) k
   refine .inr ⟨.inl k, c, e, ?_⟩
   have q := x.cell y c e
   rw [bindC_get ndP hp hu (by show scope.names.lookup y ≠ _; rw [k]; decide)] at q
   exact q
 ·exact e0.hok.fresh (Nat.le_of_lt (x.above y c (PySem.mem_of_lookup h)))
 ·unfold start
  show _ = N.length
  rw [List.length_append, List.length_map, List.length_replicate]
  omega
theorem fn_of {CX : CXT} {P : Program} {w : World} {K : PySem.W.Frag} {mg : Str → Option Value} {base : Heap} {k : Nat} {f : Addr} {name qual : Str} {params : Arguments} {body : List Stmt} {scope : Scope} {dV kV doc pm cdv ct oc : Value} {an od : Option Addr}
  {osl : Array (Option Value)} {N ps : List Str} {sp : Sp} (lk : K.lookup f = some ⟨oc, od, .func (PySem.W.fnOf name qual params body scope dV kV doc pm an cdv ct), osl⟩) (hcd : PySem.W.codeIn K cdv qual = true) (S : FnScope N ps scope)
  (len : ∀ vs H Q E, sp vs H Q E → vs.length = ps.length)
  (hbody : ∀ (A : Around) (outer : List Env) (s : Shared) (H : Hp) (vs : List V) (Q : VK) (E : XK), Room k (A.deeper (envOfC qual scope s.heap.objs.size f cdv)) → sp vs H Q E →
   ∃ t, PSs (cxOf CX P w K mg base N qual scope f cdv A outer s H E) body t ∧ t { nx := fun _ H' => Q .non H', rt := Q } (start N vs) H) :
  FnOk P w K mg base CX (k + 1) f (PySem.W.fnOf name qual params body scope dV kV doc pm an cdv ct) ps sp := by
 refine ⟨len, fun A outer s H args us vs Q E hr e0 hb r hsp => ?_⟩
 have hl := len _ _ _ _ hsp
 have KX : K.In s.heap := e0.mod.kin.keeps fun b o e => (e0.bs b o e).1
 have lim : s.heap.NoLimit := e0.mod.nolimit.keeps fun b o e => (e0.bs b o e).1
 have hkind : ∀ y ∈ ps.zip us, scope.names.lookup y.1 = some .local ∨ (scope.names.lookup y.1 = some .cell ∧ ((cellsFrom (s.heap.objs.size + 1) scope.names []).lookup y.1).isSome = true) := fun ⟨n, v⟩ hy => by
  rcases S.par n (List.of_mem_zip hy).1 with q | q
  ·exact .inl q
  ·exact .inr ⟨q, PySem.W.cellsFrom_some _ _ _ (.inl q)⟩
 refine codeAny_call_function hr.depth (KX _ _ lk) rfl S.co S.gen rfl (PySem.W.codeRec_of KX hcd) (hb _ _ _ _ ?_)
 refine wpAny_newFunctionEnv_cells S.kind hkind fun env he s1 x => ?_
 subst he
 refine ⟨lim.keeps x.toInCall.keep, codeAny_func ?_⟩
 obtain ⟨t, ht, hq⟩ := hbody A outer s H vs Q E (hr.deeper _) hsp
 have I : Inv (cxOf CX P w K mg base N qual scope f cdv A outer s H E) [] (start N vs) H s1 := inv_start S hr.hd e0 hl r x
 refine wpAny_mono (ht [] s1 (start N vs) H _ I hq) (fun fl s' hs => ?_) fun e s' hs => hs
 have fin : ∀ {σ' : St} {H' : Hp} {v : V} {u : Value}, Inv (cxOf CX P w K mg base N qual scope f cdv A outer s H E) [] σ' H' s' → RelV v u → Q v H' → CE outer P w H s Q u s' :=
  fun {σ' H' v u} J rv q => ⟨v, H', J.os, J.bare, J.base, J.hok, rv, q⟩
 cases fl with
 | ret u =>
  obtain ⟨v, σ', H', J, rv, q⟩ := hs
  exact fin J rv q
 | next =>
  obtain ⟨σ', H', J, q⟩ := hs
  exact fin (v := V.non) (u := Value.none) J rfl q
 | brk =>
  obtain ⟨_, _, _, q⟩ := hs
  exact False.elim q
 | cont =>
  obtain ⟨_, _, _, q⟩ := hs
  exact False.elim q
section
variable {X : Cx} {x : Str} {p pos : Pos} {e : Expr} {es : List Expr} {t : TA} {id T : String} {r : List V → Hp → VK → Prop}
def tCB (r : List V → Hp → VK → Prop) (t : TA) : TE := fun σ H Q => t σ H fun vs H1 => r vs H1 Q
theorem pe_callB (hc : CallR X (.builtin id) r) (hg : Gl X x) (hm : X.mg x = none) (hv : bootBuiltins x = some (.builtin id)) (ha : PA X (e :: es) t) (hn : x ≠ "__name__" := by decide) (hdb : (x == ("__debug__" : Str)) = false := by decide)
  (he : starEach (e :: es) X.env = (false, eval e X.env) :: starEach es X.env := by rfl) (hpl : (backTo pos (starEach es X.env)).any (·.1) = false := by rfl) : PE X (.Call (.Name x p) (e :: es) [] pos) (tCB r t) := by
 intro pins s σ H Q I h
 refine wpAny_Call_Name_kw (ld_blt I hg hm hv ?_ hn hdb)
 exact PyProof.Rows.callWith_builtin1 (thn (ha pos pins s σ H _ I h) fun us s1 ⟨vs, H1, I1, r1, q1⟩ => hc pins s1 σ H1 vs us Q I1 r1 q1) he hpl
theorem pe_callTy (hc : CallR X (.type T) r) (hg : Gl X x) (hm : X.mg x = none) (hv : bootBuiltins x = some (.type T)) (ha : PA X (e :: es) t) (hn : x ≠ "__name__" := by decide) (hdb : (x == ("__debug__" : Str)) = false := by decide)
  (he : starEach (e :: es) X.env = (false, eval e X.env) :: starEach es X.env := by rfl) (hpl : (backTo pos (starEach es X.env)).any (·.1) = false := by rfl) : PE X (.Call (.Name x p) (e :: es) [] pos) (tCB r t) := by
 intro pins s σ H Q I h
 refine wpAny_Call_Name_kw (ld_blt I hg hm hv ?_ hn hdb)
 exact PyProof.Rows.callWith_type1 (thn (ha pos pins s σ H _ I h) fun us s1 ⟨vs, H1, I1, r1, q1⟩ => hc pins s1 σ H1 vs us Q I1 r1 q1) he hpl
end
end L2
namespace HT
open PySem PyProof.Rows
section
open PySem.SeqAt
open PySem.AutoSeq1 (wpAny_loadPart')
open PySem.MeetsSeq PySem.MeetsSeq2 PySem.MeetsSeq3
end
section
variable {prog : Program} {w : World} {A : Around} {E : Value → Shared → Prop} {s : Shared}
end
end HT
namespace L2
open PySem PySem.Spec PyProof.Rows
abbrev TO := St → Hp → (Option Int → Hp → Prop) → Prop
section
variable {X : Cx} {e : Expr} {te : TE} {lo hi : Option Expr} {tl th : TO} {pos p2 : Pos}
end
def ixN (n : Nat) (i : Int) : Option Nat := if 0 ≤ i then (if i < n then some i.toNat else none) else if -(n : Int) ≤ i then some (i + n).toNat else none
def atI {α : Type} (xs : List α) (i : Int) : Option α := (ixN xs.length i).bind fun j => xs[j]?
theorem ixN_seq {n : Nat} {i : Int} {j : Nat} (h : ixN n i = some j) : seqIndex? i n = some j ∧ j < n ∧ -(n : Int) ≤ i ∧ i < n := by
 unfold ixN at h
 by_cases h0 : 0 ≤ i
 ·rw [if_pos h0] at h
  by_cases h1 : i < n
  ·rw [if_pos h1] at h
   have e : i.toNat = j := Option.some.inj h
   exact ⟨by rw [seqIndex_of h0 h1, e], by omega, by omega, h1⟩
  ·rw [if_neg h1] at h; cases h
 ·rw [if_neg h0] at h
  by_cases h1 : -(n : Int) ≤ i
  ·rw [if_pos h1] at h
   have e : (i + n).toNat = j := Option.some.inj h
   exact ⟨by rw [seqIndex_neg (by omega) h1, e], by omega, h1, by omega⟩
  ·rw [if_neg h1] at h; cases h
theorem atI_get {α : Type} {xs : List α} {i : Int} {v : α} (h : atI xs i = some v) : ∃ j, seqIndex? i xs.length = some j ∧ xs[j]? = some v ∧ j < xs.length ∧ -(xs.length : Int) ≤ i ∧ i < xs.length := by
 unfold atI at h
 cases e : ixN xs.length i with
 | none => rw [e] at h; cases h
 | some j =>
  rw [e] at h
  obtain ⟨h1, h2, h3, h4⟩ := ixN_seq e
  exact ⟨j, h1, h, h2, h3, h4⟩
theorem atI_nat {α : Type} {xs : List α} {j : Nat} {v : α} (h : xs[j]? = some v) : atI xs (j : Int) = some v := by
 have hj : j < xs.length := (List.getElem?_eq_some_iff.mp h).1
 have e : ixN xs.length (j : Int) = some j := by
  unfold ixN
  rw [if_pos (by omega), if_pos (by omega)]; simp
 unfold atI; rw [e]; exact h
def PlainIx (b : Expr) : Prop := ∀ o i, subscripted b false o i = operate [o, i] (getItem o i)
def IxR (X : Cx) (r : R2) : Prop :=
 ∀ (value slice : Expr) (pins : List (Addr × Obj)) (s : Shared) (σ : St) (H : Hp) (x y : V) (v u : Value) (Q : VK), Inv X pins σ H s → RelV x v → RelV y u → r x y H Q →
  subscripted slice false v u = operate [v, u] (getItem v u) → wpAny (model X.prog X.w) X.A (subscriptTail value slice v u) (EP X pins σ Q) X.xe s
def MtR (X : Cx) (id : String) (r : V → List V → Hp → VK → Prop) : Prop :=
 ∀ (pins : List (Addr × Obj)) (s : Shared) (σ : St) (H : Hp) (x : V) (xs : List V) (v : Value) (us : List Value) (Q : VK), Inv X pins σ H s → RelV x v → Vals xs us → r x xs H Q →
  wpAny (model X.prog X.w) X.A (call (.builtin id) (v :: us)) (EP X pins σ Q) X.xe s
section
variable {X : Cx} {a b : Expr} {ta tb : TE} {pos : Pos}
theorem IxR.or {r r' : R2} (h : IxR X r) (h' : IxR X r') : IxR X (fun x y H Q => r x y H Q ∨ r' x y H Q) := by
 intro value slice pins s σ H x y v u Q I rx ry q hs
 rcases q with q | q
 ·exact h value slice pins s σ H x y v u Q I rx ry q hs
 ·exact h' value slice pins s σ H x y v u Q I rx ry q hs
theorem pe_ix {r : R2} (hr : IxR X r) (ha : PE X a ta) (hb : PE X b tb) (hs : PlainIx b) : PE X (.Subscript a b pos) (tOp r ta tb) := by
 intro pins s σ H Q I h
 exact Subscript_ (binT ha hb I h fun v u s2 x y H2 I2 rx ry q => hr a b pins s2 σ H2 x y v u Q I2 rx ry q (hs _ _))
def rIxL (K : PySem.W.Frag) : R2 := fun x y H Q => ∃ p xs i v, x = .ref p ∧ y = .int i ∧ SqL K H p xs ∧ atI xs i = some v ∧ Q v H
def rIxT (K : PySem.W.Frag) : R2 := fun x y H Q => ∃ p xs i v, x = .ref p ∧ y = .int i ∧ SqT K H p xs ∧ atI xs i = some v ∧ Q v H
theorem ix_list : IxR X (rIxL X.K) := by
 intro value slice pins s σ H x y v u Q I rx ry h hs
 obtain ⟨p, xs, i, z, rfl, rfl, hq, he, q⟩ := h
 cases rx
 obtain ⟨t, rfl⟩ := ry
 obtain ⟨its, r, pl, hz⟩ := I.list hq
 obtain ⟨j, h1, h2, h3, h4, h5⟩ := atI_get he
 obtain ⟨w, ew, rw'⟩ := r.get h2
 have hl := r.length
 have hn := line63
 have fin : EP X pins σ Q w s := ⟨z, H, I, rw', q⟩
 by_cases h0 : 0 ≤ i
 ·have hj : i.toNat = j := by
   rw [seqIndex_of h0 h5] at h1
   exact Option.some.inj h1
  exact item_listR pl.isList h0 (by omega) (by rw [hj]; simpa using ew) fin hs
 ·have hj : (i + (its.toArray.size : Int)).toNat = j := by
   rw [seqIndex_neg (by omega) h4] at h1
   rw [List.size_toArray, ← hl]
   exact Option.some.inj h1
  exact subscriptTail_builtinR (x := w) pl.isList.typeIs slot_list_getitem.lookup
   (wpAny_getItem_list_neg (Q := fun r s' => r = w ∧ EP X pins σ Q r s') pl.isList (by omega) (by rw [List.size_toArray] <;> omega) (by omega) (by rw [hj]; simpa using ew) ⟨rfl, fin⟩) hs
theorem ix_tup : IxR X (rIxT X.K) := by
 intro value slice pins s σ H x y v u Q I rx ry h hs
 obtain ⟨p, xs, i, z, rfl, rfl, hq, he, q⟩ := h
 cases rx
 obtain ⟨t, rfl⟩ := ry
 obtain ⟨its, r, pl, hz⟩ := I.tuple hq
 obtain ⟨j, h1, h2, h3, h4, h5⟩ := atI_get he
 obtain ⟨w, ew, rw'⟩ := r.get h2
 have hl := r.length
 have hn := line63
 have fin : EP X pins σ Q w s := ⟨z, H, I, rw', q⟩
 exact subscriptTail_builtinR (x := w) pl.typeIs slot_tuple_getitem.lookup
  (getItem_tuple (j := j) (Q := fun r s' => r = w ∧ EP X pins σ Q r s') pl (by omega) (by omega) (by rw [List.size_toArray, ← hl]; exact h1) (by simpa using ew) ⟨rfl, fin⟩) hs
def flatV : V → Bool
 | .non => true
 | .bl _ => true
 | .int _ => true
 | .str _ => true
 | _ => false
def eqV : V → V → Bool
 | .non, .non => true
 | .bl a, .bl b => a == b
 | .bl a, .int b => (if a then 1 else 0) == b
 | .int a, .bl b => a == (if b then 1 else 0)
 | .int a, .int b => a == b
 | .str a, .str b => a == b
 | _, _ => false
theorem eqAt_V {A : Around} {s : Shared} {y x : V} {u v : Value} (ry : RelV y u) (rx : RelV x v) (fy : flatV y = true) (fx : flatV x = true) : SeqAt.EqAt A s u v (eqV y x) := by
 cases y with
 | non =>
  cases ry
  cases x with
  | non => cases rx; exact SeqAt.EqAt.same _
  | bl b => cases rx; exact SeqAt.EqAt.none_bool b
  | int b => obtain ⟨t, rfl⟩ := rx; exact SeqAt.EqAt.none_int b t
  | str b => obtain ⟨t, rfl⟩ := rx; exact SeqAt.EqAt.none_str b t
  | _ => exact absurd (show false = true from fx) Bool.false_ne_true
 | bl a =>
  cases ry
  cases x with
  | non => cases rx; exact SeqAt.EqAt.bool_none a
  | bl b => cases rx; exact SeqAt.EqAt.bool_bool a b
  | int b => obtain ⟨t, rfl⟩ := rx; exact SeqAt.EqAt.bool_int a b t
  | str b => obtain ⟨t, rfl⟩ := rx; exact SeqAt.EqAt.bool_str a b t
  | _ => exact absurd (show false = true from fx) Bool.false_ne_true
 | int a =>
  obtain ⟨t', rfl⟩ := ry
  cases x with
  | non => cases rx; exact SeqAt.EqAt.int_none a t'
  | bl b => cases rx; exact SeqAt.EqAt.int_bool a t' b
  | int b => obtain ⟨t, rfl⟩ := rx; exact SeqAt.EqAt.int_int a t' b t
  | str b => obtain ⟨t, rfl⟩ := rx; exact SeqAt.EqAt.int_str a t' b t
  | _ => exact absurd (show false = true from fx) Bool.false_ne_true
 | str a =>
  obtain ⟨t', rfl⟩ := ry
  cases x with
  | non => cases rx; exact SeqAt.EqAt.str_none a t'
  | bl b => cases rx; exact SeqAt.EqAt.str_bool a t' b
  | int b => obtain ⟨t, rfl⟩ := rx; exact SeqAt.EqAt.str_int a t' b t
  | str b => obtain ⟨t, rfl⟩ := rx; exact SeqAt.EqAt.str_str a t' b t
  | _ => exact absurd (show false = true from fx) Bool.false_ne_true
 | _ => exact absurd (show false = true from fy) Bool.false_ne_true
def eqU (x : V) (u : Value) : Bool := match u with
 | .none => eqV .non x
 | .bool b => eqV (.bl b) x
 | .int i _ => eqV (.int i) x
 | .str z _ => eqV (.str z) x
 | _ => false
theorem eqU_of {x y : V} {u : Value} (r : RelV y u) (f : flatV y = true) : eqU x u = eqV y x := by
 cases y with
 | non => cases r; rfl
 | bl b => cases r; rfl
 | int i => obtain ⟨t, rfl⟩ := r; rfl
 | str z => obtain ⟨t, rfl⟩ := r; rfl
 | _ => exact absurd (show false = true from f) Bool.false_ne_true
theorem any_eqU {x : V} : ∀ {xs : List V} {us : List Value}, Vals xs us → xs.all flatV = true → us.any (eqU x) = xs.any fun y => eqV y x
 | _, _, .nil, _ => rfl
 | y :: xs, u :: us, .cons r t, f => by
  rw [List.all_cons, Bool.and_eq_true] at f
  rw [List.any_cons, List.any_cons, eqU_of r f.1, any_eqU t f.2]
theorem mem_eqAt {A : Around} {s : Shared} {x : V} {v : Value} (rx : RelV x v) (fx : flatV x = true) : ∀ {xs : List V} {us : List Value}, Vals xs us → xs.all flatV = true → ∀ u ∈ us, SeqAt.EqAt A s u v (eqU x u)
 | _, _, .nil, _ => fun u hu => by cases hu
 | y :: xs, u :: us, .cons r t, f => fun u' hu => by
  rw [List.all_cons, Bool.and_eq_true] at f
  rcases List.mem_cons.mp hu with rfl | hu
  ·rw [eqU_of r f.1]; exact eqAt_V r rx f.1 fx
  ·exact mem_eqAt rx fx t f.2 u' hu
def inV (x : V) (xs : List V) : Bool := xs.any fun y => eqV y x
def rIn (K : PySem.W.Frag) (neg : Bool) : R2 := fun x y H Q => ∃ p xs, y = .ref p ∧ (SqL K H p xs ∨ SqT K H p xs) ∧ flatV x = true ∧ xs.all flatV = true ∧ Q (.bl (if neg then !inV x xs else inV x xs)) H
theorem op_notIn_seq : OpR X (compareOp .NotIn) (rIn X.K true) := by
 intro pins s σ H x y v u Q I rx ry h
 obtain ⟨p, xs, rfl, hq, fx, fs, q⟩ := h
 cases ry
 rcases hq with hq | hq
 ·obtain ⟨its, r, pl, hz⟩ := I.list hq
  refine SeqAt.notIn_listAt (eqU x) pl.isList (fun w hw => mem_eqAt rx fx r fs w (by simpa using hw)) ⟨.bl _, H, I, rfl, ?_⟩
  rw [show its.toArray.any (eqU x) = its.any (eqU x) by simp, any_eqU r fs]
  exact q
 ·obtain ⟨its, r, pl, hz⟩ := I.tuple hq
  refine SeqAt.notIn_tupleAt (eqU x) pl (fun w hw => mem_eqAt rx fx r fs w (by simpa using hw)) ⟨.bl _, H, I, rfl, ?_⟩
  rw [show its.toArray.any (eqU x) = its.any (eqU x) by simp, any_eqU r fs]
  exact q
theorem call_len_seq : CallR X (.builtin "len") (fun xs H Q => ∃ p ys, xs = [.ref p] ∧ (SqL X.K H p ys ∨ SqT X.K H p ys) ∧ Q (.int ys.length) H) := by
 intro pins s σ H xs us Q I r h
 obtain ⟨p, ys, rfl, hq, q⟩ := h
 obtain ⟨u, rfl, rx⟩ := vals1 r
 cases rx
 have hn := line63
 rcases hq with hq | hq
 ·obtain ⟨its, r', pl, hz⟩ := I.list hq
  have hlen := r'.length
  exact Calls.call_len_list pl.isList (by simp only [List.size_toArray] <;> omega) ⟨.int ys.length, H, I.tok _, ⟨s.toks + 1, by rw [List.size_toArray, hlen]⟩, q⟩
 ·obtain ⟨its, r', pl, hz⟩ := I.tuple hq
  have hlen := r'.length
  exact len_tuple pl (by simp only [List.size_toArray] <;> omega) ⟨.int ys.length, H, I.tok _, ⟨s.toks + 1, by rw [List.size_toArray, hlen]⟩, q⟩
theorem call_list_of : CallR X (.type "list") (fun xs H Q => ∃ p ys, xs = [.ref p] ∧ (SqL X.K H p ys ∨ SqT X.K H p ys) ∧ ∀ l, H l = none → Q (.ref l) (upd H l (.lst ys))) := by
 intro pins s σ H xs us Q I r h
 obtain ⟨p, ys, rfl, hq, q⟩ := h
 obtain ⟨u, rfl, rx⟩ := vals1 r
 cases rx
 have fin : ∀ (its : List Value), Vals ys its → ys.length ≤ sizeLine → ∀ (h' : Heap) (c' : Nat), (∀ b o', s.heap.get? b = some o' → h'.get? b = some o') →
   h'.get? s.heap.objs.size = some { cls := .type "list", dict := none, data := .seq its.toArray c', slots := #[] } → EP X pins σ Q (.ref s.heap.objs.size) { s with heap := h' } := fun its r' hz h' c' kp e =>
  ⟨.ref s.heap.objs.size, _, I.laid (t' := s.toks) kp (Nat.le_refl _) (show ObjOk X.prog X.w _ h' _ (.lst ys) from ⟨hz, its, c', r', e⟩), rfl, q _ (I.hok.fresh (Nat.le_refl _))⟩
 rcases hq with hq | hq
 ·obtain ⟨its, r', pl, hz⟩ := I.list hq
  have hlen := r'.length
  obtain ⟨o, ho, hc, n, hd⟩ := pl.isList
  exact call_list_seq p (.inl rfl) ho hc hd (fun h' c' kp e => fin its r' hz h' c' kp e) (by simp only [List.size_toArray] <;> omega)
 ·obtain ⟨its, r', pl, hz⟩ := I.tuple hq
  have hlen := r'.length
  obtain ⟨o, ho, hc, n, hd⟩ := pl
  exact call_list_seq p (.inr rfl) ho hc hd (fun h' c' kp e => fin its r' hz h' c' kp e) (by simp only [List.size_toArray] <;> omega)
def tyV (K : PySem.W.Frag) (T : String) (x : V) (H : Hp) : Prop := match x with
 | .str _ => T = "str"
 | .int _ => T = "int"
 | .ref p => (T = "list" ∧ ∃ xs, SqL K H p xs) ∨ (T = "tuple" ∧ ∃ o, K.lookup p = some o ∧ o.cls = .type "tuple" ∧ o.dict = none) ∨
   (T = "dict" ∧ ((∃ kvs, H p = some (.dK kvs)) ∨ ∃ kvs, H p = some (.dT kvs))) ∨ (T = "set" ∧ ∃ S n, H p = some (.set S n))
 | _ => False
theorem tyV_is {pins : List (Addr × Obj)} {σ : St} {H : Hp} {s : Shared} {T : String} {x : V} {v : Value} (I : Inv X pins σ H s) (r : RelV x v) (ty : tyV X.K T x H) :
  s.TypeIs v T ∧ ∀ a, v = .ref a → ∃ ob, s.heap.get? a = some ob ∧ ob.dict = none := by
 cases x with
 | str z =>
  obtain ⟨t, rfl⟩ := r
  cases (show T = "str" from ty)
  exact ⟨typeIs_str s z t, fun _ e => nomatch e⟩
 | int i =>
  obtain ⟨t, rfl⟩ := r
  cases (show T = "int" from ty)
  exact ⟨typeIs_int s i t, fun _ e => nomatch e⟩
 | ref p =>
  cases r
  rcases ty with ⟨rfl, xs, hq⟩ | ⟨rfl, o, hk, hc, hd⟩ | ⟨rfl, hk⟩ | ⟨rfl, S, n, hk⟩
  ·obtain ⟨its, _, pl, _⟩ := I.list hq
   refine ⟨pl.isList.typeIs, fun a e => ?_⟩
   cases e
   obtain ⟨o, n, e, c, hd, _⟩ := pl
   exact ⟨o, e, hd⟩
  ·refine ⟨⟨o, I.kIn p o hk, hc⟩, fun a e => ?_⟩
   cases e
   exact ⟨o, I.kIn _ o hk, hd⟩
  ·have z : ∃ o, s.heap.get? p = some o ∧ o.ExactDict := by
    rcases hk with ⟨kvs, hk⟩ | ⟨kvs, hk⟩
    ·obtain ⟨_, _, _, _, o, _, _, e, ex, _⟩ := I.hok p _ hk
     exact ⟨o, e, ex⟩
    ·obtain ⟨_, _, _, _, o, _, _, e, ex, _⟩ := I.hok p _ hk
     exact ⟨o, e, ex⟩
   obtain ⟨o, e, ex⟩ := z
   refine ⟨⟨o, e, ex.1⟩, fun a e2 => ?_⟩
   cases e2
   exact ⟨o, e, ex.2.1⟩
  ·obtain ⟨o, _, _, _, e, ex, _⟩ := I.hok p _ hk
   refine ⟨⟨o, e, ex.1⟩, fun a e2 => ?_⟩
   cases e2
   exact ⟨o, e, ex.2.1⟩
 | _ => exact False.elim ty
def tBM0 (K : PySem.W.Frag) (T : String) (r : V → List V → Hp → VK → Prop) (to : TE) : TE := fun σ H Q => to σ H fun x H1 => tyV K T x H1 ∧ r x [] H1 Q
def tBM (K : PySem.W.Frag) (T : String) (r : V → List V → Hp → VK → Prop) (to : TE) (t : TA) : TE := fun σ H Q => to σ H fun x H1 => tyV K T x H1 ∧ t σ H1 fun xs H2 => r x xs H2 Q
variable {o e : Expr} {es : List Expr} {to : TE} {t : TA} {name : Str} {apos cpos : Pos} {T id : String} {r : V → List V → Hp → VK → Prop}
theorem pe_bm0 (pa : PlainAttrs T) (slot : Slot T name id) (hty : typeOf (.builtin id) = pure (.type "method_descriptor")) (hm : MtR X id r) (ho : PE X o to)
  (hbase : attributeBase o name X.env (eval o X.env) = eval o X.env := by rfl) (hline : (apos.endLine == cpos.line) = true := by rfl) : PE X (.Call (.Attribute o name apos) [] [] cpos) (tBM0 X.K T r to) := by
 intro pins s σ H Q I h
 refine wpAny_Call_method0_late hbase hline (thn (ho pins s σ H _ I h) fun v s1 ⟨x, H1, I1, r1, ty, q1⟩ => ?_)
 obtain ⟨h1, h2⟩ := tyV_is I1 r1 ty
 exact ⟨T, id, pa, slot, hty, h1, h2, Calls.callWith_builtin rfl (PySem.evalArgs_none (hm pins s1 σ H1 x [] v [] Q I1 r1 .nil q1))⟩
theorem pe_bm (pa : PlainAttrs T) (slot : Slot T name id) (hty : typeOf (.builtin id) = pure (.type "method_descriptor")) (hm : MtR X id r) (ho : PE X o to) (ha : PA X (e :: es) t)
  (hbase : attributeBase o name X.env (eval o X.env) = eval o X.env := by rfl)
  (hfew : ((backTo cpos (starEach (e :: es) X.env)).all (fun x => !x.1) && (backToKw cpos (keywordEach [] X.env)).all (fun x => x.1.isSome)
   && decide ((e :: es).length + ([] : List Keyword).length + (if ([] : List Keyword).isEmpty then 0 else 1) < 30)) = true := by rfl)
  (hline : (apos.endLine == cpos.line) = true := by rfl) (hs : starEach (e :: es) X.env = (false, eval e X.env) :: starEach es X.env := by rfl) (hplain : (backTo cpos (starEach es X.env)).any (·.1) = false := by rfl) :
  PE X (.Call (.Attribute o name apos) (e :: es) [] cpos) (tBM X.K T r to t) := by
 intro pins s σ H Q I h
 refine wpAny_Call_method_late hbase hfew hline rfl (thn (ho pins s σ H _ I h) fun v s1 ⟨x, H1, I1, r1, ty, q1⟩ => ?_)
 obtain ⟨h1, h2⟩ := tyV_is I1 r1 ty
 refine ⟨T, id, pa, slot, hty, h1, h2, ?_⟩
 have hA := ha cpos pins s1 σ H1 _ I1 q1
 rw [hs] at hA ⊢
 refine Calls.callWith_builtin (by show (false || (backTo cpos (starEach es X.env)).any (·.1)) = false; rw [hplain] <;> rfl) (Calls.evalArgs_plain ?_)
 exact thn hA fun us s2 ⟨vs, H2, I2, r2, q2⟩ => hm pins s2 σ H2 x vs v us Q I2 r1 r2 q2
end
def MtM (X : Cx) (id : String) (r : V → List V → Hp → VK → Prop) : Prop :=
 ∀ (pins : List (Addr × Obj)) (s : Shared) (σ : St) (H : Hp) (x : V) (xs : List V) (v : Value) (us : List Value) (Q : VK), Inv X pins σ H s → RelV x v → Vals xs us → r x xs H Q →
  wpAny (model X.prog X.w) X.A (call (.builtin id) (v :: us)) (EP X pins σ Q) X.xe s
theorem Vals.one : ∀ {x : V} {us : List Value}, Vals [x] us → ∃ u, us = [u] ∧ RelV x u
 | _, _, .cons r .nil => ⟨_, rfl, r⟩
theorem Vals.zero : ∀ {us : List Value}, Vals [] us → us = []
 | _, .nil => rfl
section
variable {X : Cx} {pins : List (Addr × Obj)} {σ : St} {H : Hp} {s : Shared} {l b : Addr} {xs ys zs : List V}
theorem Inv.lset {its its' : List Value} {n : Nat} {f : Array Value → Array Value} {t' : Nat} (I : Inv X pins σ H s) (hH : H l = some (.lst xs))
  (e : s.heap.get? l = some { cls := .type "list", data := .seq its.toArray n }) (hf : f its.toArray = its'.toArray) (hv : Vals ys its') (hz : ys.length ≤ sizeLine) :
  Inv X pins σ (upd H l (.lst ys)) { s with heap := s.heap.update l (Obj.mapSeq f), toks := t' } := by
 have q := PySem.IsL.update e f
 rw [hf] at q
 refine I.write (x := l) (e := l) (by rw [hH]; exact trivial) (.inl rfl) (fun b' u hb hu => (Heap.get?_update_other s.heap (Obj.mapSeq f) (Ne.symm hb)).trans hu) ⟨_, q⟩ ?_
 exact ⟨hz, its', _, hv, q⟩
theorem Inv.lnew {its : List Value} {t' : Nat} (I : Inv X pins σ H s) (hv : Vals ys its) (hz : ys.length ≤ sizeLine) :
  Inv X pins σ (upd H s.heap.objs.size (.lst ys)) { s with heap := s.heap.push { cls := .type "list", data := .seq its.toArray }, toks := t' } :=
 I.laid (fun _ _ q => Heap.get?_push_of_some _ q) (Nat.le_refl _) ⟨hz, its, 0, hv, Heap.get?_push_size _ rfl⟩
theorem Inv.fresh (I : Inv X pins σ H s) : H s.heap.objs.size = none := I.hok.fresh (Nat.le_refl _)
theorem Inv.lstM (I : Inv X pins σ H s) (hH : H l = some (.lst xs)) : xs.length ≤ sizeLine ∧ ∃ (its : List Value) (n : Nat), Vals xs its ∧ xs.length = its.length ∧ s.heap.get? l = some { cls := .type "list", data := .seq its.toArray n } := by
 obtain ⟨z, its, n, r, e⟩ := I.hok l _ hH
 exact ⟨z, its, n, r, r.length, e⟩
theorem notLongL {n : Nat} (h : n ≤ sizeLine) : Builtin.List.listTooLong n = false := by
 unfold Builtin.List.listTooLong
 exact decide_eq_false (by omega)
end
section
variable {X : Cx}
def rAppend : V → List V → Hp → VK → Prop := fun x vs H Q => ∃ l xs y, x = .ref l ∧ vs = [y] ∧ H l = some (.lst xs) ∧ xs.length < sizeLine ∧ Q .non (upd H l (.lst (xs ++ [y])))
theorem mt_append : MtM X "list.append" rAppend := by
 intro pins s σ H x vs v us Q I rx rv h
 obtain ⟨l, xs, y, rfl, rfl, hH, hz, q⟩ := h
 cases rx
 obtain ⟨u, rfl, ru⟩ := rv.one
 obtain ⟨z, its, n, r, hl, e⟩ := I.lstM hH
 refine call_meets F.slot_list_append ⟨_, e, rfl⟩ F.entry_list_append (F.args_list_append_2 _ _) (PySem.list_append l its.toArray n u (by rw [List.size_toArray]; omega)) ⟨e, ?_⟩
 refine ⟨.non, _, I.lset (its' := its ++ [u]) hH e (by simp) (r.append (.cons ru .nil)) ?_, rfl, q⟩
 rw [List.length_append, List.length_singleton]
 omega
def rExtend : V → List V → Hp → VK → Prop := fun x vs H Q => ∃ l b xs zs, x = .ref l ∧ vs = [.ref b] ∧ H l = some (.lst xs) ∧ H b = some (.lst zs) ∧ xs.length + zs.length ≤ sizeLine ∧ Q .non (upd H l (.lst (xs ++ zs)))
theorem mt_extend : MtM X "list.extend" rExtend := by
 intro pins s σ H x vs v us Q I rx rv h
 obtain ⟨l, b, xs, zs, rfl, rfl, hH, hB, hz, q⟩ := h
 cases rx
 obtain ⟨u, rfl, ru⟩ := rv.one
 cases ru
 obtain ⟨z, its, n, r, hl, e⟩ := I.lstM hH
 obtain ⟨z2, its2, n2, r2, hl2, e2⟩ := I.lstM hB
 have hsz : its.toArray.size + its2.toArray.size ≤ sizeLine := by rw [List.size_toArray, List.size_toArray]; omega
 have hlong : ¬ (!its.toArray.isEmpty && Builtin.List.listTooLong (its.toArray.size + its2.toArray.size)) = true := by
  rw [notLongL hsz, Bool.and_false]
  exact Bool.false_ne_true
 refine call_meets F.slot_list_extend ⟨_, e, rfl⟩ F.entry_list_extend (F.args_list_extend_2 _ _)
  (AutoSeq1.list_extend_list_list_0 l its.toArray n b its2.toArray n2 hlong (by rw [List.size_toArray]; omega) (by omega)) ⟨e, e2, ?_⟩
 refine ⟨.non, _, I.lset (its' := its ++ its2) hH e (by simp) (r.append r2) ?_, rfl, q⟩
 rw [List.length_append]
 omega
def rClear : V → List V → Hp → VK → Prop := fun x vs H Q => ∃ l xs, x = .ref l ∧ vs = [] ∧ H l = some (.lst xs) ∧ Q .non (upd H l (.lst []))
theorem mt_clear : MtM X "list.clear" rClear := by
 intro pins s σ H x vs v us Q I rx rv h
 obtain ⟨l, xs, rfl, rfl, hH, q⟩ := h
 cases rx
 have hus := rv.zero
 subst hus
 obtain ⟨z, its, n, r, hl, e⟩ := I.lstM hH
 refine call_meets F.slot_list_clear ⟨_, e, rfl⟩ F.entry_list_clear (F.args_list_clear_1 _) (AutoSeq1.list_clear_list_0 l its.toArray n (by rw [List.size_toArray]; omega)) ⟨e, ?_⟩
 exact ⟨.non, _, I.lset (its' := []) (ys := []) hH e rfl .nil (Nat.zero_le _), rfl, q⟩
end
section
variable {prog : Program} {w : World} {A : Around} {E : Value → Shared → Prop} {s : Shared}
set_option maxRecDepth 100000 in
end
section
variable {X : Cx}
end
section
variable {κ : Type} [DecidableEq κ]
end
section
variable {P : Program} {w : World} {H : Hp} {h : Heap} {a : Addr}
end
section
variable {X : Cx} {pins : List (Addr × Obj)} {σ : St} {H : Hp} {s : Shared} {a : Addr} {y v : V} {u r : Value} {o : Option V} {A : Around} {E : Value → Shared → Prop}
end
section
variable {X : Cx} {pins : List (Addr × Obj)} {σ : St} {H : Hp} {s : Shared} {a : Addr} {kvs : List (Key × V)} {k : Key} {u : Value} {A : Around} {E : Value → Shared → Prop}
end
section
variable {X : Cx} {o i e value : Expr} {pos pos' tpos : Pos} {td ty tv : TE}
end
section
variable {X : Cx} {pos : Pos}
end
section
variable {X : Cx} {pins : List (Addr × Obj)} {σ : St} {H : Hp} {s : Shared} {a : Addr} {y d : V} {u r : Value} {o : Option V} {A : Around} {E : Value → Shared → Prop}
end
section
variable {X : Cx} {o e f : Expr} {apos cpos : Pos} {td ty tx : TE}
end
section
variable {X : Cx} {pins : List (Addr × Obj)} {σ : St} {H : Hp} {s : Shared} {a : Addr} {kvs : List (Key × V)} {A : Around} {E : Value → Shared → Prop}
end
section
variable {X : Cx} {pins : List (Addr × Obj)} {σ : St} {H : Hp} {s : Shared} {a : Addr} {y : V} {u : Value} {A : Around} {E : Value → Shared → Prop}
end
end L2
namespace Att
open PySem PySem.W PySem.Calls PyProof.Rows
theorem ints_of_wellAll {P : Params} {h : Heap} : ∀ (ns : List Int) (vs : List Value), WellAll P h vs (ns.map WData.int) → IntsAre vs ns := by
 intro ns
 induction ns with
 | nil =>
  intro vs w
  rw [List.map_nil] at w
  cases w
  exact .nil
 | cons n ns ih =>
  intro vs w
  rw [List.map_cons] at w
  cases w with
  | cons a b =>
   cases a
   exact .cons _ _ (ih _ b)
theorem script_of {l : OpenLaw} {n : Nat} (hn : l.most = some n) {P : Params} {h : Heap} {args : List WData} {vals : List Value}
  (hpre : l.row.toRowW.claim.pre args = true) (hwl : WellAll P h vals args) :
  ∃ a vs ns, vals = [Value.ref a] ∧ args = [WData.list (ns.map WData.int)] ∧ h.get? a = some { cls := .type "list", data := .seq vs.toArray } ∧ IntsAre vs ns ∧ ns.length ≤ n := by
 have hsh : WShape.hasAll [] args [.list .int] = true := (pre_splitW hpre).1
 have hc : l.pre.holds [] { args := args } = true := (pre_splitW hpre).2
 obtain ⟨d, r, rfl, h1, h2⟩ := hasAllW_cons hsh
 obtain rfl := hasAllW_nil h2
 obtain ⟨xs, rfl, h3⟩ := hasW_list h1
 obtain ⟨ns, rfl⟩ := items_int h3
 have hlen : ns.length ≤ n := by
  unfold OpenLaw.pre at hc
  have h4 : (WTm.not (.lt (.lit (.int (n : Int))) (.len (.arg 0)))).holds [] { args := [.list (ns.map .int)] } = true := by
   have h4 := (holds_andW hc).1
   rw [hn] at h4
   exact h4
  have h5 := condW_of h4 (w_not (w_lt w_lit (w_len_list (w_arg rfl))))
  rw [List.length_map] at h5
  refine Nat.le_of_not_lt fun q => ?_
  have q' : (n : Int) < ((ns.length : Nat) : Int) := by omega
  first
   | (rw [decide_eq_true q'] at h5; exact absurd h5 (by decide))
   | (simp at h5; omega)
 cases hwl with
 | cons w1 w2 =>
  cases w2
  cases w1 with
  | list ho hall => exact ⟨_, _, ns, rfl, rfl, ho, ints_of_wellAll ns _ hall, hlen⟩
theorem post_true (l : OpenLaw) (args : List WData) : l.row.toRowW.claim.post args (.bool true) args = true :=
 postW_of (r := l.row.toRowW) (X := (true == true))
  (show WShape.has [] (.bool true) .bool = true by first | rfl | decide | simp [WShape.has, WShape.arms, WShape.armsAll])
  (show (WTm.eq .res (.lit (.bool true))).value [] { args := args, res := some (.bool true), after := args } = some (.bool (true == true)) from w_eq_bool (w_res rfl) w_lit) rfl
theorem attach_call {l : OpenLaw} {n : Nat} {q : Program} {loose : List Str} {XP : (Str → Option Value) → Heap → Prop} {YP : World → Heap → Prop} {d : DefRec}
  (hn : l.most = some n) (hdf : d.params.defaults = [])
  (call : ∀ (w : World) (s₀ s₁ : Shared) (mg mb : Str → Option Value) (fa : Addr) (o : Obj) (pm cd doc : Value) (a : Addr) (vs : List Value) (ns : List Int),
   Ground q loose [] XP w s₀ mg mb s₁.heap → YP w s₁.heap →
   s₁.heap.get? fa = some o → o.data = .func (docDef d.name d.params d.body d.scope pm cd doc) → s₁.heap.CodeRec cd d.name → mg d.name = some (.ref fa) →
   s₁.heap.get? a = some { cls := .type "list", data := .seq vs.toArray } → IntsAre vs ns → ns.length ≤ n → s₁.gens = #[] →
   codeAny (model l.prog w) callerA (.call (.ref fa) ⟨[.ref a], []⟩) (fun r s' => r = .ok (.ret (.bool true)) ∧ OldK s₁.heap s'.heap ∧ s'.os = s₁.os ∧ AllBare s'.gens) s₁) :
  WalkO q loose XP YP l.row.toRowW d [] (fun f vs => PySem.call f vs) := by
 intro w s₀ s₁ mg mb G Y fa o pm cd doc dV kV ho hd hcd hD hmg hg args vals as hpre hlay hrd hwl hlo
 obtain rfl : dV = .none := Dflts.none hD hdf
 obtain rfl : kV = .none := Dflts.noKw hD
 obtain ⟨a, vs, ns, rfl, rfl, hobj, hints, hlen⟩ := script_of hn hpre hwl
 refine enter_call (codeAny_mono (call w s₀ s₁ mg mb fa o pm cd doc a vs ns G Y ho (fd_plain hd) hcd hmg hobj hints hlen hg) fun r s' hq => ?_)
 obtain ⟨rfl, h2, h3, h4⟩ := hq
 exact ⟨.inl ⟨.bool true, .bool true, [], rfl, fun _ => rfl, .bool true, post_true l _, fun _ => ⟨List.Pairwise.nil, fun _ hm => (nomatch hm)⟩⟩, h2, h3, h4⟩
section
variable {prog : Program} {w : World} {A : Around} {E : Value → Shared → Prop} {s : Shared} {K : Frag}
end
end Att
namespace L2
open PySem PySem.Spec PyProof.Rows
theorem vals_ints : ∀ {vs : List Value} {ns : List Int}, IntsAre vs ns → Vals (ns.map V.int) vs
 | _, _, .nil => .nil
 | _, _, .cons n t h => .cons ⟨t, rfl⟩ (vals_ints h)
def Only (H : Hp) : Prop := ∀ b, H b = none ∨ ∃ o xs, H b = some (.frz o (.lst xs))
theorem law_call {P : Program} {w : World} {K : PySem.W.Frag} {mg mb : Str → Option Value} {CX : CXT} {k : Nat} {fa a : Addr} {fd : FuncData} {x : Str} {sp : Sp} {s₁ : Shared} {vs : List Value} {ns : List Int}
  (KX : K.In s₁.heap) (hns : s₁.heap.Ns mainGlobals mg) (hb : s₁.heap.Ns builtinsNs mb) (hbb : ∀ x : Str, x ≠ "__name__" → mb x = bootBuiltins x) (hlim : s₁.heap.NoLimit) (hg : s₁.gens = #[])
  (ha : s₁.heap.get? a = some { cls := .type "list", data := .seq vs.toArray }) (hi : IntsAre vs ns) (hl : ns.length ≤ sizeLine) (hr : Room k callerA)
  (F : ∀ base : Heap, K.In base → base.Ns mainGlobals mg → FnOk P w K mg base CX k fa fd [x] sp) (hbind : ∀ (s : Shared) (u : Value), BindsTo s fd ⟨[u], []⟩ [(x, u)])
  (hsp : ∀ H : Hp, Only H → SqL K H a (ns.map V.int) → sp [.ref a] H (fun v _ => v = .bl true) fun _ _ _ => False)
  (hCX : ∀ H e s', CX [] H s₁ (fun _ _ _ => False) e s' → False) :
  codeAny (model P w) callerA (.call (.ref fa) ⟨[.ref a], []⟩) (fun r s' => r = .ok (.ret (.bool true)) ∧ OldK s₁.heap s'.heap ∧ s'.os = s₁.os ∧ AllBare s'.gens) s₁ := by
 have rv := vals_ints hi
 have lenV := hi.length
 have core : ∀ H : Hp, Only H → SqL K H a (ns.map V.int) → HOk P w H s₁.heap → (∀ b, H b ≠ none → b = a) → (H a ≠ none → K.lookup a = none) →
   codeAny (model P w) callerA (.call (.ref fa) ⟨[.ref a], []⟩) (fun r s' => r = .ok (.ret (.bool true)) ∧ OldK s₁.heap s'.heap ∧ s'.os = s₁.os ∧ AllBare s'.gens) s₁ := by
  intro H hO hS hok hA hK
  have base_of : ∀ {b : Addr} {o : Obj}, s₁.heap.get? b = some o → H b = none → (hidT s₁.heap H).get? b = some o := fun e n => hidT_get e n
  have noA : ∀ {b : Addr} {o : Obj} {es : Array DictEntry} {ep : Nat}, s₁.heap.get? b = some o → o.data = .dict es ep → H b = none := fun {b o es ep} e d => by
   cases q : H b with
   | none => rfl
   | some u =>
    have e' : b = a := hA b (by rw [q]; simp)
    subst e'
    rw [ha] at e; cases e
    have d' : Data.seq vs.toArray _ = Data.dict es ep := d
    cases d'
  have nsK : ∀ {b : Addr} {m : Str → Option Value}, s₁.heap.Ns b m → (hidT s₁.heap H).Ns b m := fun {b m} ⟨o, es, ep, e, d, r⟩ => ⟨o, es, ep, base_of e (noA e d), d, r⟩
  have hKb : K.In (hidT s₁.heap H) := fun b o e => base_of (KX b o e) (by
   cases q : H b with
   | none => rfl
   | some u =>
    have e' : b = a := hA b (by rw [q]; simp)
    subst e'
    rw [hK (by rw [q]; simp)] at e; cases e)
  have hM : Mod K mg (hidT s₁.heap H) := ⟨hKb, nsK hns, ⟨mb, nsK hb, hbb⟩, let ⟨mc, h1, h2⟩ := hlim; ⟨mc, nsK h1, h2⟩⟩
  have e0 : Env0 P w K mg (hidT s₁.heap H) callerA [] s₁ H := ⟨rfl, hM, fun b o e => of_hidT e, Nat.le_of_eq (hidT_size _ _), trivial, fun b hb => absurd (show b ∈ ([] : List Addr) from hb) (by simp), hok, .of_eq hg⟩
  refine codeAny_mono ((F _ hKb (nsK hns)).run callerA [] s₁ H ⟨[.ref a], []⟩ [.ref a] [.ref a] _ _ hr e0 (hbind s₁ (.ref a)) (.cons rfl .nil) (hsp H hO hS)) fun r s' h => ?_
  cases r with
  | error e => exact (hCX H e s' h).elim
  | ok fl =>
   cases fl with
   | next => exact False.elim h
   | brk => exact False.elim h
   | cont => exact False.elim h
   | ret u =>
    obtain ⟨v, H', os, bare, un, hok', r', q⟩ := h
    have q' : v = .bl true := q
    subst q'
    obtain rfl : u = Value.bool true := r'
    refine ⟨rfl, OldK.of_keep fun b o e => ?_, os, bare⟩
    cases q : H b with
    | none => exact un.keep b o e q (by intro z; exact absurd (show b ∈ ([] : List Addr) from z) (by simp)) (by simp)
    | some u =>
     rcases hO b with z | ⟨ob, xs, z⟩
     ·rw [q] at z; cases z
     ·have z2 := un.frzs b ob _ z
      obtain ⟨e1, _⟩ := hok b _ z
      obtain ⟨e2, _⟩ := hok' b _ z2
      rw [e] at e1; cases e1
      exact e2
 cases hk : K.lookup a with
 | some o =>
  have e := KX a o hk
  rw [ha] at e
  cases e
  refine core (fun _ => none) (fun _ => .inl rfl) (.inr ⟨_, vs.toArray, _, hk, rfl, rfl, rfl, by rw [List.size_toArray, lenV]; exact hl, by simpa using rv⟩) (fun b u z => by have z' : (none : Option HO) = some u := z; cases z') (fun b z => absurd rfl z) fun z => absurd rfl z
 | none =>
  refine core (fun b => if b = a then some (.frz { cls := .type "list", data := .seq vs.toArray } (.lst (ns.map V.int))) else none) (fun b => ?_) (.inl (.inr ⟨{ cls := .type "list", data := .seq vs.toArray }, if_pos rfl⟩)) (fun b u z => ?_) (fun b z => ?_) fun _ => hk
  ·by_cases hb : b = a
   ·exact .inr ⟨_, _, if_pos hb⟩
   ·exact .inl (if_neg hb)
  ·by_cases hb : b = a
   ·have z' := (if_pos hb).symm.trans z
    cases z'
    subst hb
    exact ⟨ha, by rw [List.length_map]; exact hl, vs, _, rv, ha⟩
   ·have z' := (if_neg hb).symm.trans z
    cases z'
  ·by_cases hb : b = a
   ·exact hb
   ·exact absurd (if_neg hb) z
theorem walk_of {l : PySem.W.OpenLaw} {n k : Nat} {q : Program} {loose : List Str} {XP : (Str → Option Value) → Heap → Prop} {YP : World → Heap → Prop} {d : DefRec} {K : Params → PySem.W.Frag} {CX : World → CXT} {sp : World → Sp} {x : Str}
  (hn : l.most = some n) (hn2 : n ≤ sizeLine) (hdf : d.params.defaults = []) (hr : Room k callerA)
  (hY : ∀ (w : World) (h : Heap), YP w h → (K w.params).In h)
  (F : ∀ (w : World) (mg : Str → Option Value) (fa : Addr) (h : Heap), (K w.params).In h → h.Ns mainGlobals mg → mg d.name = some (.ref fa) →
   ∃ fd : FuncData, (∀ (s : Shared) (u : Value), BindsTo s fd ⟨[u], []⟩ [(x, u)]) ∧
    ∀ base : Heap, (K w.params).In base → base.Ns mainGlobals mg → FnOk l.prog w (K w.params) mg base (CX w) k fa fd [x] (sp w))
  (hsp : ∀ (w : World) (H : Hp) (a : Addr) (ns : List Int), ns.length ≤ n → Only H → SqL (K w.params) H a (ns.map V.int) → sp w [.ref a] H (fun v _ => v = .bl true) fun _ _ _ => False)
  (hCX : ∀ (w : World) (H : Hp) (s : Shared) (e : Value) (s' : Shared), CX w [] H s (fun _ _ _ => False) e s' → False) :
  PySem.W.WalkO q loose XP YP l.row.toRowW d [] (fun f vs => PySem.call f vs) := by
 refine Att.attach_call hn hdf fun w s₀ s₁ mg mb fa o pm cd doc a vs ns G Y ho hd hcd hmg hobj hints hlen hg => ?_
 have KX := hY w _ Y
 obtain ⟨fd, hb, hF⟩ := F w mg fa _ KX G.T.g hmg
 exact law_call KX G.T.g G.T.b G.T.builtins G.T.nolimit hg hobj hints (Nat.le_trans hlen hn2) hr hF hb (fun H hO hS => hsp w H a ns hlen hO hS) fun H e s' => hCX w H s₁ e s'
def defArgs (s : Stmt) : Arguments := match s with
 | .FunctionDef _ a _ _ _ _ _ _ _ _ => a
 | _ => { posonlyargs := [], args := [], vararg := none, kwonlyargs := [], kw_defaults := [], kwarg := none, defaults := [] }
def defBody (s : Stmt) : List Stmt := match s with
 | .FunctionDef _ _ b _ _ _ _ _ _ _ => b
 | _ => []
def defScope (s : Stmt) : Scope := match s with
 | .FunctionDef _ _ _ _ _ _ sc _ _ _ => sc
 | _ => { kind := .function, names := [], isGenerator := false, isCoroutine := false }
abbrev E0 : XK := fun _ _ _ => False
structure Fun (K : PySem.W.Frag) (x qual : Str) (st : Stmt) (f : Addr) (fd : FuncData) : Prop where
 ex : ∃ (oc : Value) (od : Option Addr) (kV doc pm : Value) (an : Option Addr) (cdv ct : Value) (osl : Array (Option Value)),
  fd = PySem.W.fnOf x qual (defArgs st) (defBody st) (defScope st) .none kV doc pm an cdv ct ∧ K.lookup f = some ⟨oc, od, .func fd, osl⟩ ∧ PySem.W.codeIn K cdv qual = true
 kp : PySem.W.keepIn K (.ref f) = true
section
variable {P : Program} {w : World} {K : PySem.W.Frag} {mg : Str → Option Value} {base : Heap}
theorem Fun.binds {x qual : Str} {st : Stmt} {f : Addr} {fd : FuncData} {ps : List Str} (F : Fun K x qual st f fd)
  (h : ∀ (kV doc pm : Value) (an : Option Addr) (cdv ct : Value) (us : List Value), us.length = ps.length → bindArgs (PySem.W.fnOf x qual (defArgs st) (defBody st) (defScope st) .none kV doc pm an cdv ct) ⟨us, []⟩ = pure (ps.zip us)) : Binds K fd ps [] := by
 obtain ⟨oc, od, kV, doc, pm, an, cdv, ct, osl, rfl, lk, hcd⟩ := F.ex
 exact .all (h kV doc pm an cdv ct)
theorem fun_mk {x qual : Str} {st : Stmt} {f : Addr} {oc : Value} {od an : Option Addr} {osl : Array (Option Value)} {kV doc pm cdv ct : Value} (l : K.lookup f = some ⟨oc, od, .func (PySem.W.fnOf x qual (defArgs st) (defBody st) (defScope st) .none kV doc pm an cdv ct), osl⟩)
  (c : PySem.W.codeIn K cdv qual = true) (k : PySem.W.keepIn K (.ref f) = true) : Fun K x qual st f (PySem.W.fnOf x qual (defArgs st) (defBody st) (defScope st) .none kV doc pm an cdv ct) := ⟨⟨oc, od, kV, doc, pm, an, cdv, ct, osl, rfl, l, c⟩, k⟩
end
section
variable {X : Cx}
theorem pv (i : Nat) {x : Str} {pos : Pos} (hN : X.N[i]? = some x := by rfl) (hv : Vis X.env.scope x := by first | exact Or.inl rfl | exact Or.inr (Or.inl rfl) | exact Or.inr (Or.inr rfl)) (hd : (x == ("__debug__" : Str)) = false := by decide)
  (hcd : (x == ("__classdict__" : Str)) = false := by decide) : PE X (.Name x pos) (tVar i) := pe_var hN hv hd hcd
end
def Same (H H' : Hp) : Prop := ∀ b o, H b = some o → H' b = some o
theorem Same.refl (H : Hp) : Same H H := fun _ _ h => h
theorem Same.trans {H H1 H2 : Hp} (a : Same H H1) (b : Same H1 H2) : Same H H2 := fun c o h => b c o (a c o h)
theorem Same.free {H H' : Hp} (e : Same H H') {l : Addr} (h : H' l = Option.none) : H l = Option.none := by
 cases q : H l with
 | none => rfl
 | some o =>
  rw [e l o q] at h
  cases h
theorem Same.seq {K : PySem.W.Frag} {H H' : Hp} {a : Addr} {xs : List V} (e : Same H H') (h : SqL K H a xs) : SqL K H' a xs := by
 rcases h with (h | ⟨o, h⟩) | h
 ·exact .inl (.inl (e _ _ h))
 ·exact .inl (.inr ⟨o, e _ _ h⟩)
 ·exact .inr h
section
variable {X : Cx}
end
section
variable {κ : Type} [DecidableEq κ]
end
end L2

set_option maxHeartbeats 4000000
namespace PySem.W
open PySem PySem.Spec PySem.Calls PyProof.Rows Builtin Builtin.ObjectAttr Builtin.Getset_descriptor
section
variable {prog : Program} {w : World} {A : Around} {E : Value → Shared → Prop} {K : Frag} {h : Heap} {g : Array GenState} {d : Drawn} {t : Nat} {os : OsState} {a C : Addr}
structure ExcK (K : Frag) (C : Addr) : Prop where
 ga : findIn K (.ref C) "__getattribute__" = some (some (.builtin "BaseException.__getattribute__"))
 gt : findIn K (.ref C) "__getattr__" = some none
 cl : findIn K (.ref C) "__class__" = some (some (.builtin "object.__class__"))
 mo : mroIn K C (.type "object") = some true
 mb : mroIn K C (.type "BaseException") = some true
 ic : (clsIn K C).isSome = true
def ExcAt (a : Addr) (cls : Value) (h : Heap) : Prop := ∃ o, h.get? a = some o ∧ o.cls = cls ∧ ∃ vs, o.data = .fields vs
theorem ExcAt.ty {cls : Value} (p : ExcAt a cls h) (M : Model) : Looks M h (typeOf (.ref a)) cls := by
 obtain ⟨o, h1, h2, _⟩ := p
 exact h2 ▸ (Looks.ld h1).andThen .now
theorem xc_get {tp : Value} {R : Result → Shared → Prop} (X : K.In h) (T : ExcK K C) (p : ExcAt a (.ref C) h) (hq : R (.ok (.ret (.ref C))) ⟨h, g, d, t, os⟩) :
  codeAny (model prog w) A (.call (.builtin "getset_descriptor.__get__") ⟨[.builtin "object.__class__", .ref a, tp], []⟩) R ⟨h, g, d, t, os⟩ := by
 have La := p.ty (model prog w)
 have Lb := looks_mroIn (M := model prog w) X T.mo
 refine codeAny_call_builtin KF.slot_gs.plain KF.entry_gs (KF.slot_gs.check _ _ _ _ _ _ _ _ KF.type_class (KF.args_gs _ _ _) ?_)
 unfold Builtin.«getset_descriptor.__get__» descrGet
 rw [dga_obj]
 refine wpAny_bind (wpAny_pure ?_)
 unfold descrGetter descrCheckInstance descrNameAndClass isInstance
 simp only [KF.owner_class]
 repeat lk
 refine ⟨Code.quiet_builtin _ (by decide +kernel), codeAny_builtin KF.entry_class ?_⟩
 unfold Builtin.«object.__class__» shownTypeOf
 repeat lk
 exact hq
theorem xc_entry {tk : Tok} {Q : Fin → Shared → Prop} (X : K.In h) (T : ExcK K C) (p : ExcAt a (.ref C) h) (hq : Q (.done (.ret (.ref C))) ⟨h, g, d, t, os⟩) :
  wpAny (model prog w) A (Builtin.«object.__getattribute__» ⟨[.ref a, .str "__class__" tk], []⟩) Q E ⟨h, g, d, t, os⟩ := by
 have La := p.ty (model prog w)
 have Lc := looks_findIn (M := model prog w) X T.cl
 have hT5 : (⟨h, g, d, t, os⟩ : Shared).TypeIs (.builtin "object.__class__") "getset_descriptor" := F.typeOf_object_class
 have e5 := F.typeOf_object_class
 have e6 := F.slot_gs_get.lookup
 have e7 := F.slot_gs_set.lookup
 repeat (any_goals (first | assumption | with_reducible refine Looks.at (by assumption) ?_ | wp_step))
 refine xc_get X T p ?_
 repeat (any_goals (first | assumption | wp_step))
theorem xc_check {M : Model} {nameV : Value} {Q : Unit → Shared → Prop} (X : K.In h) (T : ExcK K C) (p : ExcAt a (.ref C) h) (hq : Q () ⟨h, g, d, t, os⟩) :
  wpAny M A (checkBuiltinCall "BaseException.__getattribute__" ⟨[.ref a, nameV], []⟩) Q E ⟨h, g, d, t, os⟩ := by
 have hk : builtinKind "BaseException.__getattribute__" = some .slot := by decide +kernel
 have hsp : splitId "BaseException.__getattribute__" = some ("BaseException", "__getattribute__") := by decide +kernel
 have La := p.ty M
 have Lb := looks_mroIn (M := M) X T.mb
 have ha := F.args_bexc_ga (.ref a) nameV
 simp only [checkBuiltinCall, hk, hsp]
 refine wpAny_bind ?_
 unfold isInstance
 repeat (any_goals (first | assumption | with_reducible refine Looks.at (by assumption) ?_ | wp_step))
theorem xc_call {tk : Tok} {R : Result → Shared → Prop} (X : K.In h) (T : ExcK K C) (p : ExcAt a (.ref C) h) (hq : R (.ok (.ret (.ref C))) ⟨h, g, d, t, os⟩) :
  codeAny (model prog w) A (.call (.builtin "BaseException.__getattribute__") ⟨[.ref a, .str "__class__" tk], []⟩) R ⟨h, g, d, t, os⟩ :=
 codeAny_call_builtin F.attr_ValueError.ga.plain F.entry_bexc_ga (xc_check X T p (xc_entry X T p hq))
theorem xc_by {tk : Tok} {Q : Value → Shared → Prop} (X : K.In h) (T : ExcK K C) (p : ExcAt a (.ref C) h) (hq : Q (.ref C) ⟨h, g, d, t, os⟩) : wpAny (model prog w) A (getAttrBy (.ref a) (.str "__class__" tk) false) Q E ⟨h, g, d, t, os⟩ := by
 have La := p.ty (model prog w)
 have Lg := looks_findIn (M := model prog w) X T.ga
 have Lt := looks_findIn (M := model prog w) X T.gt
 have f3 := F.attr_ValueError.ga.bind (.ref a)
 have hx0 : (false && onTheHeap (Value.builtin "BaseException.__getattribute__")) = false := rfl
 have hx2 : (Value.builtin "BaseException.__getattribute__" == Value.builtin "object.__getattribute__") = false := by decide +kernel
 have hx1 : (onTheHeap (Value.ref C) && Value.builtin "BaseException.__getattribute__" == Value.builtin "object.__getattribute__") = false := by rw [hx2]; rfl
 repeat (any_goals (first | assumption | with_reducible refine Looks.at (by assumption) ?_ | wp_step))
 refine xc_call X T p ?_
 repeat (any_goals (first | assumption | wp_step))
theorem xc_attr {Q : Option Value → Shared → Prop} (X : K.In h) (T : ExcK K C) (p : ExcAt a (.ref C) h) (hq : Q (some (.ref C)) ⟨h, g, d, t + 1, os⟩) : wpAny (model prog w) A (getAttr? (.ref a) "__class__") Q E ⟨h, g, d, t, os⟩ := by
 unfold getAttr? getAttrBy?
 repeat (any_goals (first | assumption | with_reducible apply xc_by X T p | wp_step))
theorem kitx_exc (T : ExcK K C) : KitX K (.ref a) (.ref C) (ExcAt a (.ref C)) where
 ty := fun M _ _ p => p.ty M
 it := fun _ _ X _ => by
  have hs := T.ic
  unfold clsIn at hs
  split at hs
  ·rename_i ho
   intro A' Q' E' s' k q
   unfold isType loadHead
   exact wpAny_bind (wpAny_loadPart (k _ _ (X _ _ ho)) (wpAny_pure q))
  ·cases hs
 ne := fun h tp dd its n sl X htp => by
  refine Bool.eq_false_iff.mpr fun q => ?_
  have e : C = tp := Value.ref.inj (beq_iff_eq.mp q)
  have hs := T.ic
  unfold clsIn at hs
  split at hs
  ·rename_i ho
   have z := X _ _ ho
   rw [e, htp] at z
   cases z
  ·cases hs
 ca := fun {_ _ _ _ _ s} X p k => by
  obtain ⟨hh, gg, dd, tt, oo⟩ := s
  exact xc_attr X T p k
end
end PySem.W

namespace L2
open PySem PySem.Spec PyProof.Rows
structure Flown (P : Program) (w : World) (outer : List Env) (H : Hp) (s : Shared) (ea : Addr) (cls : Value) (H' : Hp) (B : Heap) (a0 : Value) (s' : Shared) : Prop where
 os : s'.os = s.os
 bare : AllBare s'.gens
 un : Un (frs outer) [] H H' s.heap s'.heap
 hok : HOk P w H' s'.heap
 fly : Heap.FlyingW B outer ea cls a0 s'.heap
 inB : ∀ b o, s'.heap.get? b = some o → (H' b ≠ none ∨ ((∃ u, s.heap.get? b = some u) ∧ b ∉ frs outer)) → B.get? b = some o
 new : s.heap.get? ea = none
 nt : H' ea = none
def CXr (P : Program) (w : World) : CXT := fun outer H s E e s' =>
 ∃ (ea : Addr) (cls : Value) (H' : Hp) (B : Heap) (a0 : Value), e = .ref ea ∧ Flown P w outer H s ea cls H' B a0 s' ∧ E cls none H'
theorem hok_keep {P : Program} {w : World} {H : Hp} {h h' : Heap} (ok : HOk P w H h) (k : ∀ b o, H b ≠ none → h.get? b = some o → h'.get? b = some o) : HOk P w H h' := fun a o e =>
 (ok a o e).stay (fun b u hb q => k b u (by
  rcases hb with z | z
  ·rw [z, e]; exact fun q => nomatch q
  ·rw [z]; exact fun q => nomatch q) q) (fun _ q => q) fun _ _ q => q
theorem objOk_there {P : Program} {w : World} {H : Hp} {h : Heap} {a : Addr} {o : HO} (x : ObjOk P w H h a o) : ∃ ob, h.get? a = some ob := by
 cases o with
 | lst xs => obtain ⟨_, _, _, _, e⟩ := x; exact ⟨_, e⟩
 | tup xs => obtain ⟨_, _, _, ob, e, _⟩ := x; exact ⟨_, e⟩
 | dK kvs => obtain ⟨_, _, _, _, o, _, _, e, _⟩ := x; exact ⟨_, e⟩
 | dT kvs => obtain ⟨_, _, _, _, o, _, _, e, _⟩ := x; exact ⟨_, e⟩
 | set S n => obtain ⟨o, _, _, _, e, _⟩ := x; exact ⟨_, e⟩
 | ins C dx fs => obtain ⟨_, _, _, e, _⟩ := x; exact ⟨_, e⟩
 | own y => exact x
 | xd fs => obtain ⟨_, ⟨_, _, _, e, _⟩, _⟩ := x; exact ⟨_, e⟩
 | rng lo hi => obtain ⟨_, _, _, e⟩ := x; exact ⟨_, e⟩
 | frz ob u => obtain ⟨e, _⟩ := x; exact ⟨_, e⟩
 | tbl ps => exact ⟨_, (show h.get? a = some _ from x)⟩
 | met f y => exact ⟨_, (show h.get? a = some _ from x)⟩
 | ext φ => obtain ⟨_, e, _⟩ := x; exact e
theorem HOk.there {P : Program} {w : World} {H : Hp} {h : Heap} {a : Addr} (x : HOk P w H h) (n : H a ≠ none) : ∃ ob, h.get? a = some ob := by
 cases q : H a with
 | none => exact absurd q n
 | some u => exact objOk_there (x a u q)
section
variable {P : Program} {w : World} {K : PySem.W.Frag} {mg : Str → Option Value} {base : Heap} {N : List Str} {qual : Str} {scope : Scope} {f : Addr} {cd : Value} {A : Around} {outer : List Env} {s : Shared} {H : Hp} {E : XK}
theorem frs_cons {env : Env} {l : List Env} {L : Addr} (h : env.frame = some L) : frs (env :: l) = L :: frs l := by
 unfold frs
 rw [List.filterMap_cons, h]
theorem flown_mk {X : Cx} {pins : List (Addr × Obj)} {σ : St} {H1 H' : Hp} {s1 : Shared} {B h'' : Heap} {ea : Addr} {cls a0 : Value} {g' : Array GenState} {d' : Drawn} {t' : Nat} {os' : OsState}
  (I : Inv X pins σ H1 s1) (hx : X.ex = []) (hs : X.env.locals ∉ frs X.outer)
  (ho : os' = X.s₀.os) (hg : AllBare g')
  (fly : Heap.FlyingW B X.outer ea cls a0 h'')
  (kp : ∀ b o, s1.heap.get? b = some o → H1 b = none → b ∉ frs X.outer → b ≠ X.env.locals → B.get? b = some o)
  (sl : ∀ b o, s1.heap.get? b = some o → b ∈ frs X.outer → ∃ sl, h''.get? b = some { o with slots := sl })
  (fr : ∀ b o, s1.heap.get? b = some o → H1 b = none → H' b = none)
  (tups : ∀ b xs, H1 b = some (.tup xs) → H' b = some (.tup xs)) (frzs : ∀ b o u, H1 b = some (.frz o u) → H' b = some (.frz o u)) (tbls : ∀ b ps, H1 b = some (.tbl ps) → ∃ more, H' b = some (.tbl (ps ++ more)))
  (hok : HOk X.prog X.w H' h'') (inH : ∀ b o, h''.get? b = some o → H' b ≠ none → B.get? b = some o)
  (th : ∀ b o, s1.heap.get? b = some o → H1 b ≠ none → ∃ o', h''.get? b = some o')
  (inB : ∀ b o, s1.heap.get? b = some o → b ∉ frs X.outer → b ≠ X.env.locals → ∃ o', B.get? b = some o')
  (new : s1.heap.get? ea = none) (nt : H' ea = none) :
  Flown X.prog X.w X.outer X.H₀ X.s₀ ea cls H' B a0 ⟨h'', g', d', t', os'⟩ := by
 have hxn : ∀ b : Addr, b ∉ X.ex := fun b z => by rw [hx] at z; cases z
 have neL : ∀ b o, X.s₀.heap.get? b = some o → b ≠ X.env.locals := fun b o e => Nat.ne_of_lt (Nat.lt_of_lt_of_le (Heap.lt_size e) I.ok.above)
 have st := fly.1
 refine ⟨ho, hg, ⟨fun b o e n hb _ => ?_, fun b o e n hb _ => ?_, fun b o e n _ => ?_, fun b o e _ => ?_, fun b xs e => tups b xs (I.base.tups b xs e), fun b o u e => frzs b o u (I.base.frzs b o u e), fun b ps e => ?_⟩, hok, fly, fun b o e hb => ?_, ?_, nt⟩
 ·exact st b o (kp b o (I.base.keep b o e n hb (hxn b)) (I.base.free b o e n (hxn b)) hb (neL b o e))
 ·obtain ⟨l1, e1⟩ := I.base.slot b o e n hb (hxn b)
  obtain ⟨l2, e2⟩ := sl b _ e1 hb
  exact ⟨l2, e2⟩
 ·obtain ⟨o1, e1⟩ := I.base.there b o e (hxn b)
  exact fr b o1 e1 (I.base.free b o e n (hxn b))
 ·obtain ⟨o1, e1⟩ := I.base.there b o e (hxn b)
  by_cases hb : b ∈ frs X.outer
  ·obtain ⟨l2, e2⟩ := sl b o1 e1 hb
   exact ⟨_, e2⟩
  ·obtain ⟨o2, e2⟩ := inB b o1 e1 hb (neL b o e)
   exact ⟨o2, st b o2 e2⟩
 ·obtain ⟨m1, e1⟩ := I.base.tbls b ps e
  obtain ⟨m2, e2⟩ := tbls b _ e1
  exact ⟨m1 ++ m2, by rw [e2, Array.append_assoc]⟩
 ·rcases hb with hb | ⟨⟨u, hu⟩, hb⟩
  ·exact inH b o e hb
  ·obtain ⟨o1, e1⟩ := I.base.there b u hu (hxn b)
   obtain ⟨o2, e2⟩ := inB b o1 e1 hb (neL b u hu)
   have e3 := st b o2 e2
   have e4 : h''.get? b = some o := e
   rw [e3] at e4
   cases e4
   exact e2
 ·cases q : X.s₀.heap.get? ea with
  | none => rfl
  | some o =>
   obtain ⟨o', e'⟩ := I.base.there ea o q (hxn ea)
   rw [new] at e'
   cases e'
theorem passR : Passes (CXr P w) (cxOf (CXr P w) P w K mg base N qual scope f cd A outer s H E) E := by
 intro pins σ H1 s1 e s1' I h
 obtain ⟨ea, cls, H', B, a0, rfl, F, want⟩ := h
 have hfr : (cxOf (CXr P w) P w K mg base N qual scope f cd A outer s H E).A.frames = some (envOfC qual scope s.heap.objs.size f cd :: outer) := I.ok.frames
 have hstk : frs (cxOf (CXr P w) P w K mg base N qual scope f cd A outer s H E).stack = s.heap.objs.size :: frs outer := frs_cons rfl
 have hLo : s.heap.objs.size ∉ frs outer := fun z => by
  obtain ⟨_, o, ho, _⟩ := I.ok.funs.mem z
  exact absurd (Heap.lt_size ho) (Nat.lt_irrefl _)
 have nst : ∀ {b : Addr}, b ∉ frs outer → b ≠ s.heap.objs.size → b ∉ frs (cxOf (CXr P w) P w K mg base N qual scope f cd A outer s H E).stack := fun h1 h2 z => by
  rw [hstk] at z
  rcases List.mem_cons.mp z with z | z
  ·exact h2 z
  ·exact h1 z
 show wpAny (model P w) _ (leaving _ (.ref ea)) _ _ s1'
 refine wpAny_leaves_onW hfr rfl F.fly fun h'' fl' up => ?_
 have inB' : ∀ b o, s1'.heap.get? b = some o → H' b ≠ none → h''.get? b = some o := fun b o e n => fl'.1 b o (F.inB b o e (.inl n))
 refine ⟨ea, cls, H', B, a0, rfl, flown_mk (X := cxOf (CXr P w) P w K mg base N qual scope f cd A outer s H E) I rfl hLo (F.os.trans I.os) F.bare fl' (fun b o e n hb hL => ?_) (fun b o e hb => ?_) (fun b o e n => F.un.free b o e n (by simp)) F.un.tups F.un.frzs F.un.tbls
  (hok_keep F.hok fun b o n e => inB' b o e n) (fun b o e n => ?_) (fun b o e n => ?_) (fun b o e hb hL => ?_) F.new F.nt, want⟩
 ·exact F.inB b o (F.un.keep b o e n (nst hb hL) (by simp)) (.inr ⟨⟨o, e⟩, nst hb hL⟩)
 ·have hb' : b ∈ frs outer := hb
  have n : H1 b = none := by
   have := I.stkFree b (by rw [hstk]; exact List.mem_cons_of_mem _ hb')
   exact this
  obtain ⟨l1, e1⟩ := F.un.slot b o e n (by rw [hstk]; exact List.mem_cons_of_mem _ hb') (by simp)
  obtain ⟨_, o', ho', hd'⟩ := F.fly.2.2.1.mem (b := b) (by
   have : b ∈ frs (cxOf (CXr P w) P w K mg base N qual scope f cd A outer s H E).stack := by rw [hstk]; exact List.mem_cons_of_mem _ hb'
   exact this)
  rw [e1] at ho'
  cases ho'
  obtain ⟨l2, e2⟩ := up b _ e1 hd'
  exact ⟨l2, e2⟩
 ·obtain ⟨o1, e1⟩ := F.hok.there n
  have e2 := F.inB b o1 e1 (.inl n)
  have e3 := fl'.1 b o1 e2
  rw [e] at e3
  cases e3
  exact e2
 ·obtain ⟨o1, e1⟩ := F.un.there b o e (by simp)
  by_cases hb : b ∈ frs outer
  ·have hz : H1 b = none := I.stkFree b (by rw [hstk]; exact List.mem_cons_of_mem _ hb)
   exact absurd hz n
  ·by_cases hL : b = s.heap.objs.size
   ·have hz : H1 b = none := I.stkFree b (by rw [hstk, hL]; exact List.mem_cons_self)
    exact absurd hz n
   ·exact ⟨o1, fl'.1 b o1 (F.inB b o1 e1 (.inr ⟨⟨o, e⟩, nst hb hL⟩))⟩
 ·obtain ⟨o1, e1⟩ := F.un.there b o e (by simp)
  exact ⟨o1, F.inB b o1 e1 (.inr ⟨⟨o, e⟩, nst hb hL⟩)⟩
def Raises (X : Cx) (E : XK) : Prop := ∀ (pins : List (Addr × Obj)) (σ : St) (H : Hp) (s : Shared) (C : Addr) (h' : Heap) (e : Addr) (vs : List Value), Inv X pins σ H s → Heap.MadeExcOf s.heap h' e (.ref C) vs → E (.ref C) none H → X.xe (.ref e) { s with heap := h' }
theorem raisesR : Raises (cxOf (CXr P w) P w K mg base N qual scope f cd A outer s H E) E := by
 intro pins σ H1 s1 C h' e vs I hx want
 have hstk : frs (cxOf (CXr P w) P w K mg base N qual scope f cd A outer s H E).stack = s.heap.objs.size :: frs outer := frs_cons rfl
 have hfr : (cxOf (CXr P w) P w K mg base N qual scope f cd A outer s H E).A.frames = some (envOfC qual scope s.heap.objs.size f cd :: outer) := I.ok.frames
 have hLo : s.heap.objs.size ∉ frs outer := fun z => by
  obtain ⟨_, o, ho, _⟩ := I.ok.funs.mem z
  exact absurd (Heap.lt_size ho) (Nat.lt_irrefl _)
 have st : s1.heap.FunFrames base (envOfC qual scope s.heap.objs.size f cd :: outer) := I.stack
 have fin : s1.heap.FunFrames (PySem.W.hideAll s1.heap (s.heap.objs.size :: frs outer)) (envOfC qual scope s.heap.objs.size f cd :: outer) :=
  PySem.W.funFrames_hide st fun env he a ha => by
   rw [← hstk]
   exact List.mem_filterMap.mpr ⟨env, he, ha⟩
 have nfr : ∀ {b : Addr}, H1 b ≠ none → b ∉ s.heap.objs.size :: frs outer := fun n z => n (I.stkFree _ (by rw [hstk]; exact z))
 have nin : ∀ {b : Addr}, b ∉ frs outer → b ≠ s.heap.objs.size → b ∉ s.heap.objs.size :: frs outer := fun h1 h2 z => (List.mem_cons.mp z).elim h2 h1
 show wpAny (model P w) _ (leaving _ (.ref e)) _ _ { s1 with heap := h' }
 refine wpAny_leaves_madeW (base := PySem.W.hideAll s1.heap (s.heap.objs.size :: frs outer)) (h := s1.heap) hfr rfl (fun b o q => PySem.W.of_hideAll _ q) fin hx fun h'' t fl _ _ up => ?_
 refine ⟨e, .ref C, H1, _, .ref t, rfl, flown_mk (X := cxOf (CXr P w) P w K mg base N qual scope f cd A outer s H E) I rfl hLo I.os I.bare fl (fun b o q n hb hL => PySem.W.hideAll_get _ q (nin hb hL)) (fun b o q hb => ?_) (fun _ _ _ n => n) (fun _ _ q => q) (fun _ _ _ q => q)
  (fun b ps q => ⟨#[], by rw [q]; simp⟩) (hok_keep I.hok fun b o n q => fl.1 b o (PySem.W.hideAll_get _ q (nfr n))) (fun b o q n => ?_) (fun b o q n => ⟨o, fl.1 b o (PySem.W.hideAll_get _ q (nfr n))⟩) (fun b o q hb hL => ⟨o, PySem.W.hideAll_get _ q (nin hb hL)⟩) hx.new ?_, want⟩
 ·obtain ⟨_, o', ho', hd'⟩ := st.mem (b := b) (by
   have : b ∈ frs (envOfC qual scope s.heap.objs.size f cd :: outer) := by
    rw [frs_cons rfl]
    exact List.mem_cons_of_mem _ hb
   exact this)
  rw [q] at ho'
  cases ho'
  exact up b o (hx.keeps b o q) hd'
 ·obtain ⟨o1, e1⟩ := I.hok.there n
  have e2 := PySem.W.hideAll_get _ e1 (nfr n)
  have e3 := fl.1 b o1 e2
  rw [q] at e3
  cases e3
  exact e2
 ·cases q : H1 e with
  | none => rfl
  | some u =>
   obtain ⟨ob, eo⟩ := objOk_there (I.hok e u q)
   rw [hx.new] at eo
   cases eo
end
section
variable {X : Cx} {E : XK}
def tRaise (C : Addr) (E : XK) (t : TA) : TS := fun _ σ H => t σ H fun vs H1 => vs.length ≤ sizeLine ∧ E (.ref C) none H1
theorem ps_raise {x : Str} {e₀ : Expr} {rest : List Expr} {t : TA} {C : Addr} {bm : List Value} {B newId initId : String} {np cpos pos : Pos} (hx : Raises X E) (hc : X.calm = true) (hg : Gl X x) (O : OwnCls x C bm newId X.mg X.base)
  (FB : ExcBaseFacts B newId initId bm) (ha : PA X (e₀ :: rest) t) (hdb : (x == ("__debug__" : Str)) = false := by decide)
  (he : starEach (e₀ :: rest) X.env = (false, eval e₀ X.env) :: starEach rest X.env := by rfl) (hpl : (backTo cpos (starEach rest X.env)).any (·.1) = false := by rfl) :
  PS X (.Raise (some (.Call (.Name x np) (e₀ :: rest) [] cpos)) none pos) (tRaise C E t) := by
 intro pins s σ H D I h
 obtain ⟨tl, NN, nm, qn, bs, hdc, sn, sb, ab, cl, dd, z0, z1, z2, z3, z5, mN, hC, hN, hni, T⟩ := O.obj
 have hp : (backTo cpos (starEach (e₀ :: rest) X.env)).any (·.1) = false := by
  rw [he]
  show (false || (backTo cpos (starEach rest X.env)).any (·.1)) = false
  rw [hpl]
  all_goals rfl
 have h2 := ha cpos pins s σ H _ I h
 refine wpAny_Raise_call_subT (bm := tl) (N := NN) (nm := nm) (q := qn) (bs := bs) (hdct := hdc) (sn := sn) (sub := sb) (ab := ab) (col := cl) (dd := dd) (k0 := z0) (k1 := z1) (k2 := z2) (k3 := z3) (k5 := z5) FB (T.hasType FB.hasBase) (I.ok.hd hc) hp hni
  (ld_glob I hg O.bound ⟨rfl, ?_⟩ hdb)
 rw [he] at h2 ⊢
 refine Calls.evalArgs_plain (thn h2 fun us s2 ⟨vs, H1, I1, r, z, w'⟩ => ?_)
 exact ⟨rfl, by rw [← r.length]; exact z, I1.bk _ _ hC, hN.keeps I1.bk, T.keeps I1.bk, fun h' e hm => hx pins σ H1 s2 C h' e us I1 hm w'⟩
end
def PassesS (CX : CXT) (X : Cx) (E : St → XK) : Prop := ∀ (pins : List (Addr × Obj)) (σ : St) (H : Hp) (s : Shared) (e : Value) (s' : Shared), Inv X pins σ H s → CX X.stack H s (E σ) e s' → X.xe e s'
def tCallS (sp : Sp) (E : St → XK) (t : TA) : TE := fun σ H Q => t σ H fun vs H1 => sp vs H1 Q (E σ)
section
variable {X : Cx} {CX : CXT} {k : Nat} {f : Addr} {fd : FuncData} {ps : List Str} {sp : Sp} {E : St → XK} {x : Str} {p pos : Pos} {e : Expr} {es : List Expr} {t : TA}
theorem pe_callS (F : FnOk X.prog X.w X.K X.mg X.base CX k f fd ps sp) (hr : Room k X.A) (hg : Gl X x) (hm : X.mg x = some (.ref f)) (hk : PySem.W.keepIn X.K (.ref f) = true) (hb : Binds X.K fd ps []) (hx : PassesS CX X E)
  (ha : PA X (e :: es) t) (hdb : (x == ("__debug__" : Str)) = false := by decide) (he : starEach (e :: es) X.env = (false, eval e X.env) :: starEach es X.env := by rfl) (hpl : (backTo pos (starEach es X.env)).any (·.1) = false := by rfl) :
  PE X (.Call (.Name x p) (e :: es) [] pos) (tCallS sp E t) := by
 intro pins s σ H Q I h
 refine wpAny_Call_Name_kw (ld_glob I hg hm ?_ hdb)
 refine PySem.W.callWith_K (h₀ := X.base) I.ok.mod.kin hk (thn (ha pos pins s σ H _ I h) fun us s1 ⟨vs, H1, I1, r, q⟩ => ⟨I1.kIn, ?_⟩) he hpl
 have hl : us.length = ps.length := by rw [← r.length]; exact F.len _ _ _ _ q
 have hb' := hb s1 us I1.kIn (by rw [List.append_nil]; exact hl)
 rw [List.append_nil] at hb'
 refine wpAny_call (codeAny_mono (F.run X.A X.stack s1 H1 ⟨us, []⟩ us vs Q (E σ) hr I1.env0 hb' r q) fun rr s' hq => ?_)
 cases rr with
 | error e' => exact hx pins σ H1 s1 e' s' I1 hq
 | ok fl =>
  cases fl with
  | ret u => exact I1.after hq
  | next => exact False.elim hq
  | brk => exact False.elim hq
  | cont => exact False.elim hq
end
section
variable {X : Cx} {k : Nat} {f : Addr} {fd : FuncData} {ps : List Str} {sp : Sp} {x : Str} {p pos : Pos} {e : Expr} {es : List Expr} {t : TA}
end
def excO (e : Addr) (cls : Value) : HO := .ext fun h => ∃ o, h.get? e = some o ∧ o.cls = cls ∧ ∃ vs, o.data = .fields vs
abbrev blockCx (X : Cx) (scope : Scope) (cl : List (Str × Addr)) (C : Addr) (N : List Str) (s₀ : Shared) (H₀ : Hp) (ex : List Addr) (pn : List (Addr × Obj)) : Cx :=
 { X with env := compEnvC scope cl C X.env, N := N, s₀ := s₀, H₀ := H₀, outer := X.stack, stack := X.stack, ex := ex, fn := fun _ => false, pn := pn, xe := fun _ _ => False }
structure ClOk (X : Cx) (scope : Scope) (cl : List (Str × Addr)) : Prop where
 clos : closureFor scope X.env = pure cl
 sub : ∀ y c, cl.lookup y = some c → X.env.cells.lookup y = some c
 has : ∀ y, (relabel scope X.env).names.lookup y = some .cell ∨ (relabel scope X.env).names.lookup y = some .free → ∃ c, cl.lookup y = some c
def caps (js : List Nat) (σ : St) : St := js.map fun j => (σ[j]?).getD none
structure CapOk (X : Cx) (scope : Scope) (cl : List (Str × Addr)) (ys : List Str) (js : List Nat) : Prop where
 len : ys.length = js.length
 at_ : ∀ (i : Nat) (y : Str) (j : Nat), ys[i]? = some y → js[i]? = some j → X.N[j]? = some y ∧ (X.env.kindOf y = some .cell ∨ X.env.kindOf y = some .free) ∧ ((relabel scope X.env).names.lookup y = some .cell ∨ (relabel scope X.env).names.lookup y = some .free) ∧ (X.env.cells.lookup y).isSome = true ∧ cl.lookup y = X.env.cells.lookup y
section
variable {X : Cx}
end
def Sz (n : Nat) (x : Int) : Prop := x.natAbs < 2 ^ n
theorem Sz.mono {m n : Nat} {x : Int} (h : Sz m x) (l : m ≤ n) : Sz n x := Nat.lt_of_lt_of_le h (Nat.pow_le_pow_right (by decide) l)
theorem Sz.mul {m n : Nat} {x y : Int} (hx : Sz m x) (hy : Sz n y) : Sz (m + n) (x * y) := by
 unfold Sz at *
 rw [Int.natAbs_mul, Nat.pow_add]
 exact Nat.mul_lt_mul'' hx hy
theorem Sz.add {n : Nat} {x y : Int} (hx : Sz n x) (hy : Sz n y) : Sz (n + 1) (x + y) := by
 unfold Sz at *
 have := Int.natAbs_add_le x y
 rw [Nat.pow_succ]
 omega
theorem Sz.le {n : Nat} {x y : Int} (hy : Sz n y) (h : x.natAbs ≤ y.natAbs) : Sz n x := Nat.lt_of_le_of_lt h hy
def CMulW (i j : Int) : Prop := Sz 60000 i ∧ Sz 60000 j
theorem CMulW.ok {i j : Int} (h : CMulW i j) : IntMulOk i j := .of_le (intBits_le_iff.mpr h.1) (intBits_le_iff.mpr h.2) (by decide)
def CDivW (i j : Int) : Prop := j ≠ 0 ∧ Sz 8000 j
section
variable {X : Cx}
theorem op_mulW : OpR X (binaryOp .Mult) (rI CMulW fun i j => .int (i * j)) := opI fun _ _ _ _ _ _ _ hc q => mul_int q hc.ok
theorem log2_small {n : Nat} (h : n < 2 ^ 8000) : n.log2 < 9000 := by
 by_cases z : n = 0
 ·rw [z]; decide
 ·have : n.log2 < 8000 := (Nat.log2_lt z).mpr h
  omega
theorem op_fdivW : OpR X (binaryOp .FloorDiv) (rI CDivW fun i j => .int (i.fdiv j)) := opI fun _ _ _ _ _ _ _ hc q => floordiv_int hc.1 q (.inl (PyProof.noPylong_of_log2 (log2_small hc.2)))
inductive TyX (K : PySem.W.Frag) (H : Hp) : V → Value → Prop where
 | plain {x : V} {t : Value} (h : TyOf K H x t) : TyX K H x t
 | exc {a C : Addr} (e : H a = some (excO a (.ref C))) (T : PySem.W.ExcK K C) : TyX K H (.ref a) (.ref C)
theorem RelV.tyOrRef {y : V} {c u : Value} (h : (∃ n, y = .ty n) ∨ ∃ a, y = .ref a) (r : RelV y c) (r' : RelV y u) : u = c := by
 rcases h with ⟨n, rfl⟩ | ⟨n, rfl⟩
 ·cases r; cases r'; rfl
 ·cases r; cases r'; rfl
def rIsiC (K : PySem.W.Frag) : List V → Hp → VK → Prop := fun xs H Q => ∃ x y t c b, xs = [x, y] ∧ ((∃ n, y = .ty n) ∨ ∃ a, y = .ref a) ∧ TyX K H x t ∧ RelV y c ∧ PySem.W.kitOne K t c = some b ∧ Q (.bl b) H
theorem call_isi : CallR X (.builtin "isinstance") (rIsiC X.K) := by
 intro pins s σ H xs us Q I r h
 obtain ⟨x, y, t, c, b, rfl, hy, ty, rc, e, q⟩ := h
 obtain ⟨u, w', rfl, r1, r2⟩ := vals2 r
 have ec := RelV.tyOrRef hy rc r2
 subst ec
 cases ty with
 | plain ty => exact isinst_ok I r1 ty e fun tk => ⟨.bl b, H, I.tok _, rfl, q⟩
 | @exc a C ea T =>
  cases (show u = Value.ref a from r1)
  obtain ⟨p, _, _⟩ := (show ObjOk X.prog X.w H s.heap a (excO a (.ref C)) from I.hok a _ ea)
  exact PySem.W.kia_one (PySem.W.kitx_exc T) I.kIn p e (fun z => nomatch z) fun tk => ⟨.bl b, H, I.tok _, rfl, q⟩
end
def tIsi (K : PySem.W.Frag) (te : TE) (v : V) : TE := fun σ H Q => te σ H fun x H1 => rIsiC K [x, v] H1 Q
theorem pe_isi {X : Cx} {e c : Expr} {te : TE} {v : V} {p pos : Pos} (hg : Gl X "isinstance") (hm : X.mg "isinstance" = none) (he : PE X e te) (hc : PE X c (tC v)) (h1 : starEach [e, c] X.env = (false, eval e X.env) :: starEach [c] X.env := by rfl)
  (h2 : (backTo pos (starEach [c] X.env)).any (·.1) = false := by rfl) (h3 : starEach [c] X.env = (false, eval c X.env) :: starEach [] X.env := by rfl) : PE X (.Call (.Name "isinstance" p) [e, c] [] pos) (tIsi X.K te v) := fun pins s σ H Q I h =>
 pe_callB call_isi hg hm (by decide +kernel) (pa_cons he (pa_cons hc pa_nil h3) h1) (by decide) (by decide) h1 h2 pins s σ H Q I h
theorem Fun.okX {P : Program} {w : World} {K : PySem.W.Frag} {mg : Str → Option Value} {base : Heap} {x qual : Str} {st : Stmt} {f : Addr} {fd : FuncData} {N ps : List Str} {k : Nat} {sp : Sp} (F : Fun K x qual st f fd) (S : FnScope N ps (defScope st)) (len : ∀ vs H Q E, sp vs H Q E → vs.length = ps.length)
  (hbody : ∀ (cdv : Value) (A : Around) (outer : List Env) (s : Shared) (H : Hp) (vs : List V) (Q : VK) (E : XK), Room k (A.deeper (envOfC qual (defScope st) s.heap.objs.size f cdv)) → sp vs H Q E →
   ∃ t, PSs (cxOf (CXr P w) P w K mg base N qual (defScope st) f cdv A outer s H E) (defBody st) t ∧ t { nx := fun _ H' => Q .non H', rt := Q } (start N vs) H) : FnOk P w K mg base (CXr P w) (k + 1) f fd ps sp := by
 obtain ⟨oc, od, kV, doc, pm, an, cdv, ct, osl, rfl, lk, hcd⟩ := F.ex
 exact fn_of lk hcd S len fun A outer s H vs Q E hr hsp => hbody cdv A outer s H vs Q E hr hsp
theorem Same.upd {H H' : Hp} {p : Addr} (h : Same H H') (hp : H' p = none) (o : HO) : Same H (upd H' p o) := fun b u q => by
 have := h b u q
 rw [upd_ne (ne_of_none this hp)]
 exact this
end L2

namespace FR
theorem gcd_turn {a b : Int} (ha : 0 ≤ a) (hb : 0 ≤ b) : Int.gcd b (a % b) = Int.gcd a b := by
 obtain ⟨m, rfl⟩ := Int.eq_ofNat_of_zero_le ha
 obtain ⟨n, rfl⟩ := Int.eq_ofNat_of_zero_le hb
 rw [← Int.natCast_emod, Int.gcd_natCast_natCast, Int.gcd_natCast_natCast, Nat.gcd_comm n, ← Nat.gcd_rec, Nat.gcd_comm]
theorem gcd_abs (a b : Int) : Int.gcd (if a < 0 then -a else a) (if b < 0 then -b else b) = Int.gcd a b := by
 split <;> split <;> simp [Int.gcd_neg, Int.neg_gcd]
theorem gcd_end {a : Int} (ha : 0 ≤ a) : ((Int.gcd a 0 : Nat) : Int) = a := by
 rw [Int.gcd_zero_right]
 omega
def sgn (b : Int) (g : Int) : Int := if b < 0 then -g else g
def mk (t b : Int) : Int × Int := (t.fdiv (sgn b (Int.gcd t b)), b.fdiv (sgn b (Int.gcd t b)))
theorem gcd_pos {t b : Int} (hb : b ≠ 0) : 0 < Int.gcd t b := Int.gcd_pos_of_ne_zero_right t hb
theorem parts (t b : Int) (hb : b ≠ 0) : ∃ t' b' : Int, t = (Int.gcd t b : Int) * t' ∧ b = (Int.gcd t b : Int) * b' ∧ Int.gcd t' b' = 1 := by
 obtain ⟨t', ht⟩ := Int.gcd_dvd_left t b
 obtain ⟨b', hb'⟩ := Int.gcd_dvd_right t b
 refine ⟨t', b', ht, hb', ?_⟩
 have g0 := gcd_pos (t := t) hb
 have e : Int.gcd t b = Int.gcd t b * Int.gcd t' b' := by
  have h : Int.gcd ((Int.gcd t b : Int) * t') ((Int.gcd t b : Int) * b') = (Int.gcd t b : Int).natAbs * Int.gcd t' b' := Int.gcd_mul_left ..
  rw [← ht, ← hb'] at h
  simpa using h
 have e2 : Int.gcd t b * 1 = Int.gcd t b * Int.gcd t' b' := by omega
 exact (Nat.eq_of_mul_eq_mul_left g0 e2).symm
theorem mk_parts {t b g t' b' : Int} (g0 : 0 < g) (ht : t = g * t') (hb : b = g * b') : (t.fdiv (sgn b g) = (if b < 0 then -t' else t')) ∧ (b.fdiv (sgn b g) = if b < 0 then -b' else b') := by
 unfold sgn
 by_cases h : b < 0
 ·rw [if_pos h, if_pos h, if_pos h]
  have e1 : t = (-g) * (-t') := by rw [ht, Int.neg_mul_neg]
  have e2 : b = (-g) * (-b') := by rw [hb, Int.neg_mul_neg]
  constructor
  ·conv => lhs; rw [e1]
   exact Int.mul_fdiv_cancel_left _ (by omega)
  ·conv => lhs; rw [e2]
   exact Int.mul_fdiv_cancel_left _ (by omega)
 ·rw [if_neg h, if_neg h, if_neg h]
  constructor
  ·conv => lhs; rw [ht]
   exact Int.mul_fdiv_cancel_left _ (by omega)
  ·conv => lhs; rw [hb]
   exact Int.mul_fdiv_cancel_left _ (by omega)
structure Fr (f : Int × Int) : Prop where
 pos : 1 ≤ f.2
 low : Int.gcd f.1 f.2 = 1
theorem mk_fr {t b : Int} (hb : b ≠ 0) : Fr (mk t b) ∧ (mk t b).1 * b = t * (mk t b).2 := by
 obtain ⟨t', b', e1, e2, e3⟩ := parts t b hb
 have g0 : (0 : Int) < (Int.gcd t b : Int) := by have := gcd_pos (t := t) hb; omega
 obtain ⟨p1, p2⟩ := mk_parts g0 e1 e2
 have q1 : (mk t b).1 = if b < 0 then -t' else t' := p1
 have q2 : (mk t b).2 = if b < 0 then -b' else b' := p2
 have hs : b < 0 ↔ b' < 0 := by
  constructor
  ·intro h
   rcases Int.lt_or_le b' 0 with z | z
   ·exact z
   ·have := Int.mul_nonneg (Int.le_of_lt g0) z
    omega
  ·intro h
   have := Int.mul_neg_of_pos_of_neg g0 h
   omega
 have hb' : b' ≠ 0 := by
  rintro rfl
  rw [Int.mul_zero] at e2
  exact hb e2
 refine ⟨⟨?_, ?_⟩, ?_⟩
 ·rw [q2]
  split
  ·rename_i h
   have := hs.mp h
   omega
  ·rename_i h
   have : ¬ b' < 0 := fun z => h (hs.mpr z)
   omega
 ·rw [q1, q2]
  split
  ·rw [Int.gcd_neg, Int.neg_gcd, e3]
  ·exact e3
 ·rw [q1, q2]
  generalize hg : (Int.gcd t b : Int) = g at *
  rw [e1, e2]
  split
  ·rw [Int.neg_mul, Int.mul_neg, Int.mul_left_comm, Int.mul_assoc]
  ·rw [Int.mul_left_comm, Int.mul_assoc]
end FR

namespace L2
open PySem PySem.Spec PyProof.Rows
section
variable {X : Cx}
end
open PySem.W (Dat kqdP kqdPs kqdOk kqd_lay kqd_eqv)
mutual
inductive HasD (H : Hp) : V → Dat → Prop
 | int (i : Int) : HasD H (.int i) (.int i)
 | tup {a : Addr} {xs : List V} {ds : List Dat} : H a = some (.tup xs) → HasDs H xs ds → HasD H (.ref a) (.tuple ds)
 | lst {a : Addr} {xs : List V} {ds : List Dat} : H a = some (.lst xs) → HasDs H xs ds → HasD H (.ref a) (.list ds)
inductive HasDs (H : Hp) : List V → List Dat → Prop
 | nil : HasDs H [] []
 | cons {x : V} {xs : List V} {d : Dat} {ds : List Dat} : HasD H x d → HasDs H xs ds → HasDs H (x :: xs) (d :: ds)
end
mutual
theorem HasD.keep {H H' : Hp} (k : ∀ a o, H a = some o → H' a = some o) : ∀ {v : V} {d : Dat}, HasD H v d → HasD H' v d
 | _, _, .int i => .int i
 | _, _, .tup h r => .tup (k _ _ h) (HasDs.keep k r)
 | _, _, .lst h r => .lst (k _ _ h) (HasDs.keep k r)
theorem HasDs.keep {H H' : Hp} (k : ∀ a o, H a = some o → H' a = some o) : ∀ {v : List V} {d : List Dat}, HasDs H v d → HasDs H' v d
 | _, _, .nil => .nil
 | _, _, .cons h r => .cons (HasD.keep k h) (HasDs.keep k r)
end
mutual
theorem HasD.reads {P : Program} {w : World} {H : Hp} {h : Heap} (ok : HOk P w H h) : ∀ {v : V} {d : Dat}, HasD H v d → ∀ {u : Value}, RelV v u → ∃ as, Reads h u (kqdP d) as
 | _, _, .int i, _, ⟨t, e⟩ => by subst e; exact ⟨_, Reads.int i t⟩
 | _, _, .tup hh r, _, e => by
  have e : _ = Value.ref _ := e
  subst e
  obtain ⟨_, its, rv, o, ho, hc, n, hd⟩ := (show ObjOk P w H h _ _ from ok _ _ hh)
  obtain ⟨as, q⟩ := HasDs.reads ok r rv
  rw [kqdP]
  exact ⟨as, reads_tuple_at ho hc hd (by simpa using q)⟩
 | _, _, .lst hh r, _, e => by
  have e : _ = Value.ref _ := e
  subst e
  obtain ⟨_, its, n, rv, ho⟩ := (show ObjOk P w H h _ _ from ok _ _ hh)
  obtain ⟨as, q⟩ := HasDs.reads ok r rv
  rw [kqdP]
  exact ⟨_, reads_list_at ho rfl rfl (by simpa using q)⟩
theorem HasDs.reads {P : Program} {w : World} {H : Hp} {h : Heap} (ok : HOk P w H h) : ∀ {vs : List V} {ds : List Dat}, HasDs H vs ds → ∀ {us : List Value}, Vals vs us → ∃ as, ReadsAll h us (kqdPs ds) as
 | _, _, .nil, _, .nil => ⟨_, ReadsAll.nil⟩
 | _, _, .cons hd r, _, .cons rv rt => by
  obtain ⟨as, q⟩ := HasD.reads ok hd rv
  obtain ⟨bs, p⟩ := HasDs.reads ok r rt
  rw [kqdPs]
  exact ⟨_, ReadsAll.cons q p⟩
end
section
variable {X : Cx}
end
section
variable {prog : Program} {w : World} {A : Around} {E : Value → Shared → Prop} {s : Shared} {d it : Addr} {es : Array DictEntry} {ep i : Nat}
end
section
variable {prog : Program} {w : World} {A : Around} {R : Result → Shared → Prop} {s : Shared}
abbrev testsOf (ifs : List Expr) (env : Env) : Sem Bool := forIn ifs true fun c r => if r = true then do let ok ← isTrue c env (eval c env); pure (ForInStep.yield ok) else pure (ForInStep.yield r)
theorem comp_loop {elt target iter : Expr} {ifs : List Expr} {scope : Scope} {pos : Pos} {it acc : Value} {env : Env} (I : Nat → Shared → Prop)
  (turn : ∀ n s, I n s → wpAny (model prog w) A (pyNext it) (fun r s₁ => match r with
   | none => R (.ok .next) s₁
   | some v => wpAny (model prog w) A (letOwnedTupleGo target it v) (fun _ s₀ => wpAny (model prog w) A (assign target env v) (fun _ s₂ =>
     wpAny (model prog w) A (testsOf ifs env) (fun ok s₃ =>
      if ok = true then wpAny (model prog w) A (eval elt env) (fun x s₄ =>
       wpAny (model prog w) A (call (.builtin "list.append") [acc, x]) (fun _ s₅ => ∃ m, m < n ∧ I m s₅) (fun _ _ => False) s₄) (fun _ _ => False) s₃
      else ∃ m, m < n ∧ I m s₃) (fun _ _ => False) s₂) (fun _ _ => False) s₀) (fun _ _ => False) s₁) (fun _ _ => False) s)
  (n : Nat) (h : I n s) : codeAny (model prog w) A (.compLoop (.ListComp elt [⟨target, iter, ifs, 0⟩] scope pos) 0 it acc env) R s := by
 refine codeAny_loop rfl I (fun n s hI => ?_) n h
 show wpAny _ A ((compTurn (.ListComp elt [⟨target, iter, ifs, 0⟩] scope pos) 0 it acc env).onRaise (fun x => do noteFrame x env; theTreesLotGoes x)) _ _ s
 refine wpAny_noted ?_
 rw [compTurn_list]
 refine wpAny_bind (wpAny_standAt (wpAny_bind (wpAny_mono (turn n s hI) (fun r s₁ h₁ => ?_) fun _ _ z => z.elim)))
 cases r with
 | none => exact wpAny_pure h₁
 | some v =>
  refine wpAny_bind (wpAny_mono h₁ (fun _ s₀ h₀ => ?_) fun _ _ z => z.elim)
  refine wpAny_bind (wpAny_mono h₀ (fun _ s₂ h₂ => wpAny_bind (wpAny_mono h₂ (fun ok s₃ h₃ => ?_) fun _ _ z => z.elim)) fun _ _ z => z.elim)
  cases ok with
  | false => exact wpAny_pure ⟨rfl, h₃⟩
  | true =>
   exact wpAny_bind (wpAny_bind (wpAny_mono h₃ (fun x s₄ h₄ => wpAny_bind (wpAny_mono h₄ (fun _ s₅ h₅ => wpAny_pure (wpAny_pure ⟨rfl, h₅⟩)) fun _ _ z => z.elim)) fun _ _ z => z.elim))
end
def PTs (X : Cx) (ifs : List Expr) (t : TT) : Prop :=
 ∀ (pins : List (Addr × Obj)) (s : Shared) (σ : St) (H : Hp) (Q : Bool → Hp → Prop), Inv X pins σ H s → t σ H Q → wpAny (model X.prog X.w) X.A (testsOf ifs X.env) (TP X pins σ Q) X.xe s
def tYes : TT := fun _ H Q => Q true H
theorem pts_nil {X : Cx} : PTs X [] tYes := fun _ _ _ H _ I h => wpAny_tests_nil ⟨H, I, h⟩
theorem pts_one {X : Cx} {c : Expr} {t : TT} (h : PT X c t) : PTs X [c] t := fun pins s σ H Q I hw => wpAny_tests_one (h pins s σ H Q I hw)
def tCompG (wi : TI) (g : TG) (tt : TT) (te : TE) (n : Nat) (js : List Nat) : TE := fun σ H Q => wi σ H fun J H1 => ∀ D, H1 D = none → ∃ (N : Nat) (W : Nat → List V → Hp → Prop), W 0 [] (upd H1 D (.lst [])) ∧ ∀ i ys H2, W i ys H2 →
 (J.stop i H2 ∧ Q (.ref D) H2) ∨ (i < N ∧ J.go i H2 ∧ ∀ v H3, J.yld i H2 v H3 → g v (List.replicate n none ++ caps js σ) H3 fun σ2 H4 => (σ2.length = n + js.length ∧ σ2.drop n = caps js σ) ∧ tt σ2 H4 fun b H5 =>
  if b = true then te σ2 H5 fun y H6 => H6 D = some (.lst ys) ∧ ys.length < sizeLine ∧ W (i + 1) (ys ++ [y]) (upd H6 D (.lst (ys ++ [y]))) else W (i + 1) ys H5)
section
variable {X : Cx}
theorem Inv.but {pins : List (Addr × Obj)} {σ : St} {H : Hp} {s : Shared} {C : Addr} {h' : Heap} (I : Inv X pins σ H s) (f : FpOk X pins H C) (hs : Heap.SameBut C s.heap h') : Inv X pins σ H { s with heap := h' } := by
 have ne : ∀ b, b ∉ [C] → b ≠ C := fun b hb z => hb (by rw [z]; exact .head _)
 refine I.call' (s' := { s with heap := h' }) (ch := [C]) rfl ⟨fun b o e n hb hx => (hs.2 b (ne b hx)).trans e, fun b o e n hb hx => ⟨o.slots, (hs.2 b (ne b hx)).trans e⟩, fun b o e n hx => n, fun b o e hx => ⟨o, (hs.2 b (ne b hx)).trans e⟩, fun b xs e => e, fun b o u e => e, fun b ps e => ⟨#[], by rw [Array.append_empty]; exact e⟩⟩ (hok_keep I.hok fun b o nn e => (hs.2 b (fun z => nn (by rw [z]; exact f.1))).trans e) I.bare fun b hb => ?_
 rw [List.mem_singleton.mp hb]
 exact ⟨f.2.2.2.1, f.2.1, f.2.2.2.2.1, f.2.2.2.2.2⟩
set_option maxHeartbeats 8000000 in
theorem comp_core {elt iter tg : Expr} {pos : Pos} {scope : Scope} {ifs : List Expr} {wi : TI} {g : TG} {tt : TT} {te : TE} {xs ys : List Str} {js : List Nat} {cl : List (Str × Addr)} (hc : X.calm = true) (hi : PI X tg iter wi)
  (hcl : ClOk X scope cl) (hcap : CapOk X scope cl ys js) (hcell : ∀ y ∈ scope.names, y.2 ≠ .cell) (hkind : scope.kind = .function) (hnames : ∀ y ∈ scope.names, y.2 = .local → scope.names.lookup y.1 = some .local)
  (hg : ∀ C s₀ H₀ ex pn, PG (blockCx X scope cl C (xs ++ ys) s₀ H₀ ex pn) tg g) (ht : ∀ C s₀ H₀ ex pn, PTs (blockCx X scope cl C (xs ++ ys) s₀ H₀ ex pn) ifs tt) (hb : ∀ C s₀ H₀ ex pn, PE (blockCx X scope cl C (xs ++ ys) s₀ H₀ ex pn) elt te)
  (hs : ∀ x, foldedSetIterable iter X.env x = pure x) {use : Option (Value → Sem Unit)} {QQ : Value → Shared → Prop} {Q : VK} {pins : List (Addr × Obj)} {s : Shared} {σ : St} {H : Hp} {cp : Pos} (I : Inv X pins σ H s)
  (hfin : ∀ (C D : Addr) (s' : Shared) (H' : Hp), Inv X pins σ H' s' → FpOk X pins H' C → (∃ m, s'.heap.Ns C m) → Q (.ref D) H' → compPost (model X.prog X.w) X.A X.xe use QQ (.ref D) C (.ok .next) s')
  (h : tCompG wi g tt te xs.length js σ H Q) :
  wpAny (model X.prog X.w) X.A (comprehension (.ListComp elt [⟨tg, iter, ifs, 0⟩] scope pos) scope X.env cp (newList []) false (eval iter X.env) use) QQ X.xe s := by
 refine wpAny_comprehension_free rfl hs hcl.clos hkind hnames (thn (hi pins s σ H _ I h) fun v s1 h1 => thn h1 fun itv s2 h2 => ?_)
 obtain ⟨it, fp, tn, J, H2, e, I2, T, st2, f2, q2⟩ := h2
 subst e
 obtain ⟨n, W, w0, turn⟩ := q2 s2.heap.objs.size I2.fresh
 refine wpAny_newObj_type (wpAny_newFunctionEnv hcell (by intro y hy; simp at hy) (fun h₁ hns₁ hsb₁ => ?_) hkind)
 dsimp only at hns₁ hsb₁ ⊢
 have I3 := I2.lnew (ys := []) (its := []) (t' := s2.toks) .nil (Nat.zero_le _)
 generalize hg3 : s2.heap.push { cls := .type "list", dict := none, data := .seq ([] : List Value).toArray } = g3 at hns₁ hsb₁ I3 ⊢
 have sz3 : g3.objs.size = s2.heap.objs.size + 1 := by rw [← hg3, Heap.size_push]
 generalize hC : g3.objs.size = C at hns₁ hsb₁ ⊢
 have old3 : ∀ b o, g3.get? b = some o → h₁.get? b = some o := fun b o q => hsb₁.extBut b o (by rw [← hC]; exact Nat.ne_of_lt (Heap.lt_size q)) (Heap.get?_push_of_some _ q)
 have old2 : ∀ b o, s2.heap.get? b = some o → g3.get? b = some o := fun b o q => by rw [← hg3]; exact Heap.get?_push_of_some _ q
 have fpl : ∀ b ∈ fp, ∃ o, s2.heap.get? b = some o ∧ ∀ v, o.data ≠ .cell v := T.obj _ _ st2
 have fplt : ∀ b ∈ fp, b < s2.heap.objs.size := fun b hb => let ⟨o, q, _⟩ := fpl b hb; Heap.lt_size q
 have H3n : ∀ b, b ≠ s2.heap.objs.size → upd H2 s2.heap.objs.size (.lst []) b = H2 b := fun b hb => upd_ne hb
 have fp3 : ∀ b ∈ fp, upd H2 s2.heap.objs.size (.lst []) b = none := fun b hb => by rw [H3n b (Nat.ne_of_lt (fplt b hb))]; exact (f2 b hb).1
 have okX := I3.ok
 have inj : ∀ y z c, cl.lookup y = some c → cl.lookup z = some c → y = z := fun y z c h1 h2 => okX.inj y z c (hcl.sub y c h1) (hcl.sub z c h2)
 have cellE : ∀ y c, cl.lookup y = some c → ∃ v, g3.IsCell c v := fun y c q => I3.cell y c (hcl.sub y c q)
 have st3 : g3.FunFrames X.base X.stack := I3.stack
 have exlt : ∀ b ∈ fp, b ≠ C := fun b hb => by rw [← hC, sz3]; exact Nat.ne_of_lt (Nat.lt_succ_of_lt (fplt b hb))
 have frlt : ∀ b ∈ frs X.stack, b < g3.objs.size := fun b hb => let ⟨_, o, q, _⟩ := st3.mem hb; Heap.lt_size q
 have okB : (blockCx X scope cl C (xs ++ ys) { s2 with heap := g3 } (upd H2 s2.heap.objs.size (.lst [])) fp (X.pn ++ pins)).Ok := by
  refine ⟨okX.mod, hkind, okX.glob, okX.blt, Nat.le_of_eq hC, inj, fun y hy => hcl.has y hy, (fun y c hf _ => nomatch hf), okX.hd, okX.frames, .inl rfl, fun b hb => ⟨exlt b hb, fun y c q z => ?_⟩, I3.bs, Nat.le_trans okX.bsz I3.sz, fun b o q hb => ?_, fun b hb => ?_, st3, I3.stkFree⟩
  ·subst z
   exact (f2 c hb).2.2.2.2.1 y c (hcl.sub y c q) rfl
  ·rcases (f2 b hb).2.2.2.1 with z | z
   ·exact okX.noex b o q z
   ·have := Heap.lt_size (okX.bs b o q).1
    exact absurd (Nat.lt_of_lt_of_le this z) (Nat.lt_irrefl _)
  ·intro hz
   rcases List.mem_cons.mp (I3.stkSub b hz) with z | z
   ·exact (f2 b hb).2.1 z
   ·exact (f2 b hb).2.2.1 z
 have tot : ∀ tk : Nat, Inv (blockCx X scope cl C (xs ++ ys) { s2 with heap := g3 } (upd H2 s2.heap.objs.size (.lst [])) fp (X.pn ++ pins)) [] (List.replicate xs.length none ++ caps js σ) (upd H2 s2.heap.objs.size (.lst [])) { s2 with heap := h₁, toks := tk } := fun tk => by
  refine ⟨okB, rfl, I3.bare, Un.kept old3, ⟨_, hns₁, fun i y v' e1 e2 e3 => ?_⟩, fun y c q => ?_, I3.hok.fresh (Nat.le_of_eq hC), fun y c q => ?_, fun p hp => ?_, I3.hok.kept old3, ?_⟩
  ·by_cases hix : i < xs.length
   ·rw [List.getElem?_append_left (by rw [List.length_replicate]; exact hix), List.getElem?_replicate] at e2
    split at e2 <;> cases e2
   ·have hix' : xs.length ≤ i := by omega
    obtain ⟨k, rfl⟩ : ∃ k, i = xs.length + k := ⟨i - xs.length, by omega⟩
    have e1' : ys[k]? = some y := by
     rw [List.getElem?_append_right (by omega)] at e1
     simpa using e1
    have e2' : (caps js σ)[k]? = some (some v') := by
     rw [List.getElem?_append_right (by rw [List.length_replicate]; omega), List.length_replicate] at e2
     simpa using e2
    unfold caps at e2'
    rw [List.getElem?_map] at e2'
    cases ej : js[k]? with
    | none => rw [ej] at e2'; cases e2'
    | some j =>
     rw [ej] at e2'
     have e2'' : (σ[j]?).getD none = some v' := Option.some.inj e2'
     have eσ : σ[j]? = some (some v') := by
      cases es : σ[j]? with
      | none => rw [es] at e2''; cases e2''
      | some z => rw [es] at e2''; have : z = some v' := e2''; rw [this]
     obtain ⟨c1, c2, c3, c4, c5⟩ := hcap.at_ k y j e1' ej
     obtain ⟨m0, hn0, hl0⟩ := I3.loc
     obtain ⟨u, r, l⟩ := hl0 j y v' c1 eσ (c2.elim (fun z => .inr (.inl z)) fun z => .inr (.inr z))
     refine ⟨u, r, .inr ⟨c3, ?_⟩⟩
     rcases l with ⟨l, _⟩ | ⟨_, c, hcc, z⟩
     ·rcases c2 with c2 | c2
      ·rw [c2] at l; cases l
      ·rw [c2] at l; cases l
     ·obtain ⟨o, ho, hd⟩ := z
      exact ⟨c, c5.trans hcc, o, old3 c o ho, hd⟩
  ·obtain ⟨v0, o, ho, hd⟩ := cellE y c q
   exact ⟨v0, o, old3 c o ho, hd⟩
  ·exact I3.freeC y c (hcl.sub y c q)
  ·have hp' : p ∈ X.pn ++ pins := by simpa using hp
   obtain ⟨p1, p2, p3, p4, p5⟩ := I3.pin p hp'
   refine ⟨old3 _ _ p1, p2, ?_, fun hz => ?_, p5⟩
   ·show p.1 ≠ C
    rw [← hC]
    exact Nat.ne_of_lt (Heap.lt_size p1)
   ·rcases List.mem_cons.mp (I3.stkSub p.1 hz) with z | z
    ·exact p3 z
    ·exact p4 z
  ·show (List.replicate xs.length none ++ caps js σ).length = (xs ++ ys).length
   unfold caps
   simp [hcap.len]
 have fpB : ∀ {H' : Hp}, (∀ b ∈ fp, H' b = none) → ∀ b ∈ fp, FpOk (blockCx X scope cl C (xs ++ ys) { s2 with heap := g3 } (upd H2 s2.heap.objs.size (.lst [])) fp (X.pn ++ pins)) [] H' b := fun hn b hb =>
  ⟨hn b hb, exlt b hb, okB.exfs b hb, .inl hb, (okB.exf b hb).2, fun p hp => (f2 b hb).2.2.2.2.2 p (by simpa using hp)⟩
 have fin : ∀ s' : Shared, (∃ i zs σ' H', Inv (blockCx X scope cl C (xs ++ ys) { s2 with heap := g3 } (upd H2 s2.heap.objs.size (.lst [])) fp (X.pn ++ pins)) [] σ' H' s' ∧ W i zs H' ∧ J.stop i H' ∧ Q (.ref s2.heap.objs.size) H') →
   compPost (model X.prog X.w) X.A X.xe use QQ (.ref s2.heap.objs.size) C (.ok .next) s' := by
  rintro s' ⟨i, zs, σ', H', Ib, w, stop, q⟩
  obtain ⟨m', hn', _⟩ := Ib.loc
  have ub := Ib.base
  have un : Un (frs X.stack) fp (upd H2 s2.heap.objs.size (.lst [])) H' g3 s'.heap := ub
  have IX : Inv X pins σ H' s' := I3.call' (s' := s') (ch := fp) Ib.os un Ib.hok Ib.bare fun b hb => ⟨(f2 b hb).2.2.2.1, (f2 b hb).2.1, (f2 b hb).2.2.2.2.1, (f2 b hb).2.2.2.2.2⟩
  exact hfin C _ s' H' IX (I3.fpOk (Nat.le_of_eq hC) Ib.free) ⟨m', hn'⟩ q
 have loop : ∀ s₃ : Shared, (∃ tk, s₃ = { s2 with heap := h₁, toks := tk }) →
   codeAny (model X.prog X.w) X.A (.compLoop (.ListComp elt [⟨tg, iter, ifs, 0⟩] scope pos) 0 (.ref it) (.ref s2.heap.objs.size) (compEnvC scope cl C X.env)) (compPost (model X.prog X.w) X.A X.xe use QQ (.ref s2.heap.objs.size) C) s₃ := by
  rintro s₃ ⟨tk, rfl⟩
  refine comp_loop (fun k s' => ∃ i zs H', k = n + 1 - i ∧ i ≤ n ∧ Inv (blockCx X scope cl C (xs ++ ys) { s2 with heap := g3 } (upd H2 s2.heap.objs.size (.lst [])) fp (X.pn ++ pins)) [] (List.replicate xs.length none ++ caps js σ) H' s' ∧ tn i s'.heap ∧ (∀ b ∈ fp, H' b = none) ∧ W i zs H')
   ?_ (n + 1) ⟨0, [], _, rfl, Nat.zero_le _, tot tk, T.keep _ _ _ st2 fun b hb o q => old3 b o (old2 b o q), fp3, w0⟩
  rintro k s' ⟨i, zs, H', rfl, hin, Ib, st, fr, w⟩
  rcases turn i zs H' w with ⟨stop, qq⟩ | ⟨hlt, go, step⟩
  ·refine wpAny_mono (T.done (blockCx X scope cl C (xs ++ ys) { s2 with heap := g3 } (upd H2 s2.heap.objs.size (.lst [])) fp (X.pn ++ pins)) rfl rfl rfl hc i [] s' _ H' (fun _ _ => False) Ib (fpB fr) st stop) (fun r s4 ⟨hr, I4⟩ => ?_) fun _ _ z => z.elim
   subst hr
   exact fin s4 ⟨i, zs, _, H', I4, w, stop, qq⟩
  ·refine wpAny_mono (T.item (blockCx X scope cl C (xs ++ ys) { s2 with heap := g3 } (upd H2 s2.heap.objs.size (.lst [])) fp (X.pn ++ pins)) rfl rfl rfl hc i [] s' _ H' (fun _ _ => False) Ib (fpB fr) st go) (fun r s4 ⟨u, hr, h4⟩ => ?_) fun _ _ z => z.elim
   subst hr
   refine wpAny_mono h4 (fun _ s5 ⟨v5, H5, I5, r5, y5, st5, fr5⟩ => ?_) fun _ _ z => z.elim
   have I5' := I5.pinned (fpB fr5) (T.obj _ _ st5)
   have hw5 := step v5 H5 y5
   refine wpAny_mono (hg C _ _ fp (X.pn ++ pins) _ s5 _ H5 v5 u _ I5' r5 hw5) (fun _ s6 ⟨σ6, H6, I6, ⟨hl6, hd6⟩, e6⟩ => ?_) fun _ _ z => z.elim
   have back : ∀ {H' : Hp} {s' : Shared} {pins' : List (Addr × Obj)}, Inv (blockCx X scope cl C (xs ++ ys) { s2 with heap := g3 } (upd H2 s2.heap.objs.size (.lst [])) fp (X.pn ++ pins)) pins' σ6 H' s' → Inv (blockCx X scope cl C (xs ++ ys) { s2 with heap := g3 } (upd H2 s2.heap.objs.size (.lst [])) fp (X.pn ++ pins)) pins' (List.replicate xs.length none ++ caps js σ) H' s' := fun I' => by
    refine I'.weak ?_ fun j v' e => ?_
    ·rw [hl6]; unfold caps; simp
    ·by_cases hj : j < xs.length
     ·rw [List.getElem?_append_left (by rw [List.length_replicate]; exact hj), List.getElem?_replicate] at e
      split at e <;> cases e
     ·rw [List.getElem?_append_right (by rw [List.length_replicate]; omega), List.length_replicate, ← hd6, List.getElem?_drop] at e
      rw [← e]
      congr 1
      omega
   refine wpAny_mono (ht C _ _ fp (X.pn ++ pins) _ s6 _ _ _ I6 e6) (fun ok s6b ⟨H6b, I6b, e6b⟩ => ?_) fun _ _ z => z.elim
   cases ok with
   | false =>
    rw [if_neg Bool.false_ne_true]
    have e6c : W (i + 1) zs H6b := by simpa using e6b
    have I8 := back I6b
    refine ⟨n + 1 - (i + 1), by omega, i + 1, zs, _, rfl, hlt, I8.unpinned (pins := []), ?_, fun b hb => ?_, e6c⟩
    ·exact T.keep _ _ _ st5 fun b hb o q => (I8.pin (b, o) (List.mem_append_right _ (List.mem_append_right _ (mem_pinsAt hb q)))).1
    ·obtain ⟨o, q, d⟩ := T.obj _ _ st5 b hb
     exact (I8.pin (b, o) (List.mem_append_right _ (List.mem_append_right _ (mem_pinsAt hb q)))).2.1
   | true =>
    rw [if_pos rfl]
    have e6c := e6b
    rw [if_pos rfl] at e6c
    refine wpAny_mono (hb C _ _ fp (X.pn ++ pins) _ s6b _ _ _ I6b e6c) (fun y s7 ⟨yv, H7, I7, r7, hD, hz, w7⟩ => ?_) fun _ _ z => z.elim
    obtain ⟨z7, its, n7, rv7, hl7, e7⟩ := I7.lstM hD
    refine append_at (n := n7) (its := its.toArray) e7 (fun h₈ sb8 eD8 => ?_) (by rw [List.size_toArray, ← hl7]; exact Nat.le_of_lt hz)
    have I8 : Inv _ _ _ (upd H7 s2.heap.objs.size (.lst (zs ++ [yv]))) { s7 with heap := h₈, toks := s7.toks } := I7.write (x := s2.heap.objs.size) (e := s2.heap.objs.size) (by rw [hD]; exact trivial) (.inl rfl) (fun b u hb q => (sb8.2 b hb).trans q) ⟨_, eD8⟩
     ⟨by rw [List.length_append]; exact hz, its ++ [y], n7 + 1, rv7.append (.cons r7 .nil), by rw [eD8, List.push_toArray]⟩
    have I9 := back I8
    refine ⟨n + 1 - (i + 1), by omega, i + 1, zs ++ [yv], _, rfl, hlt, I9.unpinned (pins := []), ?_, fun b hb => ?_, w7⟩
    ·exact T.keep _ _ _ st5 fun b hb o q => (I8.pin (b, o) (List.mem_append_right _ (List.mem_append_right _ (mem_pinsAt hb q)))).1
    ·obtain ⟨o, q, d⟩ := T.obj _ _ st5 b hb
     exact (I8.pin (b, o) (List.mem_append_right _ (List.mem_append_right _ (mem_pinsAt hb q)))).2.1
 exact codeAny_compStart_list (loop _ ⟨_, rfl⟩) (T.self _ 0 _ _ _ (T.keep _ _ _ st2 fun b hb o q => old3 b o (old2 b o q)) (loop _ ⟨_, rfl⟩))
theorem pe_compG {elt iter tg : Expr} {pos : Pos} {scope : Scope} {ifs : List Expr} {wi : TI} {g : TG} {tt : TT} {te : TE} {xs ys : List Str} {js : List Nat} {cl : List (Str × Addr)} (hc : X.calm = true) (hi : PI X tg iter wi)
  (hcl : ClOk X scope cl) (hcap : CapOk X scope cl ys js) (hcell : ∀ y ∈ scope.names, y.2 ≠ .cell) (hkind : scope.kind = .function) (hnames : ∀ y ∈ scope.names, y.2 = .local → scope.names.lookup y.1 = some .local)
  (hg : ∀ C s₀ H₀ ex pn, PG (blockCx X scope cl C (xs ++ ys) s₀ H₀ ex pn) tg g) (ht : ∀ C s₀ H₀ ex pn, PTs (blockCx X scope cl C (xs ++ ys) s₀ H₀ ex pn) ifs tt) (hb : ∀ C s₀ H₀ ex pn, PE (blockCx X scope cl C (xs ++ ys) s₀ H₀ ex pn) elt te)
  (hs : ∀ x, foldedSetIterable iter X.env x = pure x := by intro _; rfl) :
  PE X (.ListComp elt [⟨tg, iter, ifs, 0⟩] scope pos) (tCompG wi g tt te xs.length js) := by
 intro pins s σ H Q I h
 rw [eval_ListComp]
 exact comp_core hc hi hcl hcap hcell hkind hnames hg ht hb hs (use := none) (QQ := EP X pins σ Q) (Q := Q) I (fun C D s' H' IX f ⟨m, hn⟩ q => ⟨m, hn, fun h' hs' => ⟨.ref D, H', IX.but f hs', rfl, q⟩⟩) h
theorem ps_compG {elt iter tg : Expr} {pos py spos : Pos} {scope : Scope} {ifs : List Expr} {wi : TI} {g : TG} {tt : TT} {te : TE} {xs ys : List Str} {js : List Nat} {cl : List (Str × Addr)} {i : Nat} {y : Str} (hN : X.N.Nodup) (hiN : X.N[i]? = some y) (hx : Loc X.env.scope y) (hc : X.calm = true) (hi : PI X tg iter wi)
  (hcl : ClOk X scope cl) (hcap : CapOk X scope cl ys js) (hcell : ∀ y ∈ scope.names, y.2 ≠ .cell) (hkind : scope.kind = .function) (hnames : ∀ y ∈ scope.names, y.2 = .local → scope.names.lookup y.1 = some .local)
  (hg : ∀ C s₀ H₀ ex pn, PG (blockCx X scope cl C (xs ++ ys) s₀ H₀ ex pn) tg g) (ht : ∀ C s₀ H₀ ex pn, PTs (blockCx X scope cl C (xs ++ ys) s₀ H₀ ex pn) ifs tt) (hb : ∀ C s₀ H₀ ex pn, PE (blockCx X scope cl C (xs ++ ys) s₀ H₀ ex pn) elt te)
  (hsw : swapsWith (.ListComp elt [⟨tg, iter, ifs, 0⟩] scope pos) (some (.Name y py)) spos.line X.env = pure true) (hs : ∀ x, foldedSetIterable iter X.env x = pure x := by intro _; rfl)
  (hf : X.fn y = true ∨ X.env.scope.names.lookup y = some .local := by first | exact .inl rfl | exact .inr rfl | assumption) :
  PS X (.Assign [.Name y py] (.ListComp elt [⟨tg, iter, ifs, 0⟩] scope pos) spos) (tAsg (tCompG wi g tt te xs.length js) (gName i)) := by
 intro pins s σ H D I h
 rw [exec_Assign_Name_used _ _ _ _ hsw]
 refine wpAny_bind (wpAny_standAt (wpAny_bind ?_))
 show wpAny _ X.A (do let _ ← comprehension (.ListComp elt [⟨tg, iter, ifs, 0⟩] scope pos) scope X.env _ (newList []) false (eval iter X.env) (some (assign (.Name y py) X.env))) _ _ s
 refine wpAny_bind (wpAny_mono (comp_core hc hi hcl hcap hcell hkind hnames hg ht hb hs (use := some (assign (.Name y py) X.env)) (QQ := fun _ s' => ∃ σ' H', Inv X pins σ' H' s' ∧ D.nx σ' H') I (fun C L s' H' IX f ⟨m, hn⟩ q => ?_) h) (fun _ s' hq => wpAny_pure (wpAny_pure hq)) fun _ _ e => e)
 obtain ⟨o, es, ep, ho, hd, hr⟩ := id hn
 have IP := IX.pinned (fp := [C]) (fun b hb => by rw [List.mem_singleton.mp hb]; exact f) (fun b hb => by rw [List.mem_singleton.mp hb]; exact ⟨o, ho, fun v z => by rw [hd] at z; cases z⟩)
 refine wpAny_mono (pg_name (pos := py) hN hiN hx hf _ s' σ H' (.ref L) (.ref L) _ IP rfl q) (fun _ s2 ⟨σ2, H2, I2, q2⟩ => ?_) fun _ _ e => e
 have pc := I2.pin (C, o) (List.mem_append_right _ (List.mem_append_right _ (mem_pinsAt (.head _) ho)))
 exact ⟨m, ⟨o, es, ep, pc.1, hd, hr⟩, fun h' hs' => ⟨σ2, H2, (I2.unpinned (pins := pins)).but ⟨pc.2.1, f.2⟩ hs', q2⟩⟩
end
end L2

namespace M
open PySem PySem.Spec PyProof.Rows L2
abbrev D := PyData
inductive Res (α : Type) where
 | ok (a : α)
 | exc (C : Addr)
 | bad
def Res.bind {α β : Type} (r : Res α) (f : α → Res β) : Res β := match r with
 | .ok a => f a
 | .exc C => .exc C
 | .bad => .bad
def wpR {α : Type} (r : Res α) (Q : α → Prop) (E : Addr → Prop) : Prop := match r with
 | .ok a => Q a
 | .exc C => E C
 | .bad => False
theorem wpR_bind {α β : Type} {r : Res α} {f : α → Res β} {Q : β → Prop} {E : Addr → Prop} : wpR (r.bind f) Q E = wpR r (fun a => wpR (f a) Q E) E := by cases r <;> rfl
theorem wpR_mono {α : Type} {r : Res α} {Q Q' : α → Prop} {E E' : Addr → Prop} (h : wpR r Q E) (hQ : ∀ a, Q a → Q' a) (hE : ∀ C, E C → E' C) : wpR r Q' E' := by
 cases r with
 | ok a => exact hQ a h
 | exc C => exact hE C h
 | bad => exact h
inductive L where
 | p (d : D)
 | o (d : D)
 | x (C : Addr)
 | h (a : Addr)
inductive Ev where
 | p (d : D)
 | f (d : D)
 | b (d : D)
 | x (C : Addr)
def Ev.c : Ev → Ev
 | .f d => .p d
 | r => r
abbrev En := List (Option L)
def kD : Key → D
 | .inl i => .int i
 | .inr x => .str x
def tkD (ks : List Key) : D := .tuple (ks.map kD)
mutual
inductive Rep (K : PySem.W.Frag) (G : Hp) : V → D → Prop
 | non : Rep K G .non .none
 | bl (b : Bool) : Rep K G (.bl b) (.bool b)
 | int (i : Int) : Rep K G (.int i) (.int i)
 | str (x : Str) : Rep K G (.str x) (.str x)
 | tup {a : Addr} {xs : List V} {ds : List D} : G a = some (.tup xs) → Reps K G xs ds → Rep K G (.ref a) (.tuple ds)
 | lst {a : Addr} {xs : List V} {ds : List D} : Rd G a (.lst xs) → Reps K G xs ds → Rep K G (.ref a) (.list ds)
 | dT {a : Addr} {kv : List (List Key × V)} {kvs : List (D × D)} : G a = some (.dT kv) → RepT K G kv kvs → Rep K G (.ref a) (.dict kvs)
 | dK {a : Addr} {kv : List (Key × V)} {kvs : List (D × D)} : G a = some (.dK kv) → RepK K G kv kvs → Rep K G (.ref a) (.dict ((.none, .none) :: kvs))
inductive Reps (K : PySem.W.Frag) (G : Hp) : List V → List D → Prop
 | nil : Reps K G [] []
 | cons {x : V} {xs : List V} {d : D} {ds : List D} : Rep K G x d → Reps K G xs ds → Reps K G (x :: xs) (d :: ds)
inductive RepT (K : PySem.W.Frag) (G : Hp) : List (List Key × V) → List (D × D) → Prop
 | nil : RepT K G [] []
 | cons {k : List Key} {x : V} {d : D} {kv : List (List Key × V)} {kvs : List (D × D)} : Rep K G x d → RepT K G kv kvs → RepT K G ((k, x) :: kv) ((tkD k, d) :: kvs)
inductive RepK (K : PySem.W.Frag) (G : Hp) : List (Key × V) → List (D × D) → Prop
 | nil : RepK K G [] []
 | cons {k : Key} {x : V} {d : D} {kv : List (Key × V)} {kvs : List (D × D)} : Rep K G x d → RepK K G kv kvs → RepK K G ((k, x) :: kv) ((kD k, d) :: kvs)
end
inductive Cont (K : PySem.W.Frag) (G : Hp) : HO → D → Prop
 | lst {xs : List V} {ds : List D} : Reps K G xs ds → Cont K G (.lst xs) (.list ds)
 | dT {kv : List (List Key × V)} {kvs : List (D × D)} : RepT K G kv kvs → Cont K G (.dT kv) (.dict kvs)
 | dK {kv : List (Key × V)} {kvs : List (D × D)} : RepK K G kv kvs → Cont K G (.dK kv) (.dict ((.none, .none) :: kvs))
section
variable {K : PySem.W.Frag} {G G' H H' : Hp}
theorem rd_mono {a : Addr} {u : HO} (s : Same G G') (h : Rd G a u) : Rd G' a u := by
 rcases h with h | ⟨o, h⟩
 ·exact .inl (s _ _ h)
 ·exact .inr ⟨o, s _ _ h⟩
mutual
theorem Rep.mono (s : Same G G') : ∀ {v : V} {d : D}, Rep K G v d → Rep K G' v d
 | _, _, .non => .non
 | _, _, .bl b => .bl b
 | _, _, .int i => .int i
 | _, _, .str x => .str x
 | _, _, .tup h r => .tup (s _ _ h) (Reps.mono s r)
 | _, _, .lst h r => .lst (rd_mono s h) (Reps.mono s r)
 | _, _, .dT h r => .dT (s _ _ h) (RepT.mono s r)
 | _, _, .dK h r => .dK (s _ _ h) (RepK.mono s r)
theorem Reps.mono (s : Same G G') : ∀ {v : List V} {d : List D}, Reps K G v d → Reps K G' v d
 | _, _, .nil => .nil
 | _, _, .cons h r => .cons (Rep.mono s h) (Reps.mono s r)
theorem RepT.mono (s : Same G G') : ∀ {v : List (List Key × V)} {d : List (D × D)}, RepT K G v d → RepT K G' v d
 | _, _, .nil => .nil
 | _, _, .cons h r => .cons (Rep.mono s h) (RepT.mono s r)
theorem RepK.mono (s : Same G G') : ∀ {v : List (Key × V)} {d : List (D × D)}, RepK K G v d → RepK K G' v d
 | _, _, .nil => .nil
 | _, _, .cons h r => .cons (Rep.mono s h) (RepK.mono s r)
end
theorem Cont.mono (s : Same G G') {o : HO} {d : D} (h : Cont K G o d) : Cont K G' o d := by
 cases h with
 | lst r => exact .lst (r.mono s)
 | dT r => exact .dT (r.mono s)
 | dK r => exact .dK (r.mono s)
theorem Cont.rep {a : Addr} {o : HO} {d : D} (h : Cont K G o d) (e : G a = some o) : Rep K G (.ref a) d := by
 cases h with
 | lst r => exact .lst (.inl e) r
 | dT r => exact .dT e r
 | dK r => exact .dK e r
theorem Reps.length : ∀ {xs : List V} {ds : List D}, Reps K G xs ds → xs.length = ds.length
 | _, _, .nil => rfl
 | _, _, .cons _ r => by rw [List.length_cons, List.length_cons, Reps.length r]
theorem Reps.get' : ∀ {xs : List V} {ds : List D} {i : Nat} {d : D}, Reps K G xs ds → ds[i]? = some d → ∃ x, xs[i]? = some x ∧ Rep K G x d
 | _, _, _, _, .nil, e => by simp at e
 | _, _, 0, _, .cons h _, e => by simp at e; subst e; exact ⟨_, rfl, h⟩
 | _, _, i + 1, _, .cons _ r, e => by
  have := Reps.get' (i := i) r (by simpa using e)
  simpa using this
theorem Reps.append : ∀ {xs ys : List V} {ds es : List D}, Reps K G xs ds → Reps K G ys es → Reps K G (xs ++ ys) (ds ++ es)
 | _, _, _, _, .nil, r => r
 | _, _, _, _, .cons h t, r => .cons h (Reps.append t r)
end
structure Step (G H G' H' : Hp) : Prop where
 g : Same G G'
 h : Same H H'
 gh : Same G' H'
 new : ∀ b, H b ≠ none → G b = none → G' b = none ∨ ∃ xs, H b = some (.tup xs)
theorem Step.off {G H G' H' : Hp} (s : Step G H G' H') {b : Addr} {o : HO} (h : H b = some o) (n : ∀ xs, o ≠ .tup xs) (g : G b = none) : G' b = none := by
 rcases s.new b (by rw [h]; exact fun z => nomatch z) g with z | ⟨xs, z⟩
 ·exact z
 ·rw [h] at z; exact absurd (Option.some.inj z) (n xs)
theorem same_ne {H H' : Hp} (s : Same H H') {b : Addr} (h : H b ≠ none) : H' b ≠ none := by
 cases e : H b with
 | none => exact absurd e h
 | some o => rw [s b o e]; exact fun z => nomatch z
theorem Step.refl {G H : Hp} (s : Same G H) : Step G H G H := ⟨Same.refl _, Same.refl _, s, fun _ _ h => .inl h⟩
theorem Step.trans {G H G1 H1 G2 H2 : Hp} (a : Step G H G1 H1) (b : Step G1 H1 G2 H2) : Step G H G2 H2 :=
 ⟨a.g.trans b.g, a.h.trans b.h, b.gh, fun c hc hg => by
  rcases a.new c hc hg with z | z
  ·rcases b.new c (same_ne a.h hc) z with y | ⟨xs, y⟩
   ·exact .inl y
   ·cases e : H c with
    | none => exact absurd e hc
    | some o =>
     rw [a.h _ _ e] at y
     exact .inr ⟨xs, y⟩
  ·exact .inr z⟩
theorem Step.put {G H : Hp} {a : Addr} {o : HO} (s : Same G H) (e : H a = none) : Step G H (upd G a o) (upd H a o) :=
 ⟨Same.upd (Same.refl _) (s.free e) o, Same.upd (Same.refl _) e o, fun b u q => by
  by_cases z : b = a
  ·subst z; rw [upd_same] at q ⊢; exact q
  ·rw [upd_ne z] at q ⊢; exact s b u q, fun b hb hg => by
  have z : b ≠ a := fun z => hb (z ▸ e)
  rw [upd_ne z]; exact .inl hg⟩
theorem Step.lay {G H : Hp} {a : Addr} {o : HO} (s : Same G H) (e : H a = none) : Step G H G (upd H a o) :=
 ⟨Same.refl _, Same.upd (Same.refl _) e o, Same.upd s e o, fun _ _ h => .inl h⟩
def EOk (K : PySem.W.Frag) (W : Addr → Option Nat) (Hs G H : Hp) (v : V) : Ev → Prop
 | .p d => Rep K G v d
 | .f d => ∃ a o, v = .ref a ∧ Hs a = none ∧ G a = none ∧ H a = some o ∧ Cont K G o d
 | .b d => ∃ a i o, v = .ref a ∧ W a = some i ∧ H a = some o ∧ Cont K G o d
 | .x C => ∃ e, v = .ref e ∧ G e = some (excO e (.ref C))
theorem EOk.step {K : PySem.W.Frag} {W : Addr → Option Nat} {Hs Hs' G H G' H' : Hp} {v : V} {r : Ev} (h : EOk K W Hs G H v r.c) (s : Step G H G' H') : EOk K W Hs' G' H' v r.c := by
 cases r with
 | p d => exact Rep.mono s.g h
 | f d => exact Rep.mono s.g h
 | b d =>
  obtain ⟨a, i, o, h1, h2, h3, h4⟩ := h
  exact ⟨a, i, o, h1, h2, s.h _ _ h3, h4.mono s.g⟩
 | x C =>
  obtain ⟨e, h1, h2⟩ := h
  exact ⟨e, h1, s.g _ _ h2⟩
theorem EOk.c {K : PySem.W.Frag} {W : Addr → Option Nat} {G H G1 H1 : Hp} {v : V} {r : Ev} (s : Step G H G1 H1) (h : EOk K W H G1 H1 v r) : ∃ G2, Step G H G2 H1 ∧ EOk K W H G2 H1 v r.c := by
 cases r with
 | p d => exact ⟨G1, s, h⟩
 | b d => exact ⟨G1, s, h⟩
 | x d => exact ⟨G1, s, h⟩
 | f d =>
  obtain ⟨a, o, rfl, h1, h2, h3, h4⟩ := h
  refine ⟨upd G1 a o, ⟨s.g.trans (Same.upd (Same.refl _) h2 o), s.h, fun b u q => ?_, fun b hb hg => ?_⟩, (h4.mono (Same.upd (Same.refl _) h2 o)).rep upd_same⟩
  ·by_cases z : b = a
   ·subst z; rw [upd_same] at q; rw [h3]; exact q
   ·rw [upd_ne z] at q; exact s.gh b u q
  ·have z : b ≠ a := fun z => hb (z ▸ h1)
   rw [upd_ne z]; exact s.new b hb hg
structure SimH (B G0 G : Hp) (W : Addr → Option Nat) (H : Hp) : Prop where
 gh : Same G H
 bh : Same B H
 g0 : Same G0 G
 gb : ∀ b, G b ≠ none → G0 b ≠ none ∨ B b = none ∨ ∃ xs, B b = some (.tup xs)
 wf : ∀ a i, W a = some i → G a = none ∧ B a = none ∧ ∃ o, H a = some o ∧ ∀ xs, o ≠ .tup xs
theorem SimH.step {B G0 G H G' H' : Hp} {W : Addr → Option Nat} (s : SimH B G0 G W H) (t : Step G H G' H') : SimH B G0 G' W H' := by
 refine ⟨t.gh, s.bh.trans t.h, s.g0.trans t.g, fun b hb => ?_, fun a i e => ?_⟩
 ·by_cases z : G b = none
  ·refine .inr ?_
   by_cases y : H b = none
   ·exact .inl (s.bh.free y)
   ·rcases t.new b y z with q | ⟨xs, q⟩
    ·exact absurd q hb
    ·cases e : B b with
     | none => exact .inl rfl
     | some o => rw [s.bh _ _ e] at q; exact .inr ⟨xs, q⟩
  ·exact s.gb b z
 ·obtain ⟨h1, h2, o, h3, h4⟩ := s.wf a i e
  exact ⟨t.off h3 h4 h1, h2, o, t.h _ _ h3, h4⟩
theorem Cont.mut {K : PySem.W.Frag} {G : Hp} {o : HO} {d : D} (h : Cont K G o d) : ∀ xs, o ≠ .tup xs := by
 intro xs z
 subst z
 cases h
def Slot (K : PySem.W.Frag) (W : Addr → Option Nat) (G H : Hp) (i : Nat) (v : V) : L → Prop
 | .p d => Rep K G v d
 | .o d => ∃ a o, v = .ref a ∧ W a = some i ∧ H a = some o ∧ Cont K G o d
 | .x C => ∃ e, v = .ref e ∧ G e = some (excO e (.ref C))
 | .h a => v = .ref a
def SimS (K : PySem.W.Frag) (W : Addr → Option Nat) (G H : Hp) (σ : L2.St) (en : En) : Prop := σ.length = en.length ∧ ∀ i l, en[i]? = some (some l) → ∃ v, σ[i]? = some (some v) ∧ Slot K W G H i v l
theorem Slot.step {K : PySem.W.Frag} {W : Addr → Option Nat} {G H G' H' : Hp} {i : Nat} {v : V} {l : L} (h : Slot K W G H i v l) (s : Step G H G' H') : Slot K W G' H' i v l := by
 cases l with
 | p d => exact Rep.mono s.g h
 | o d =>
  obtain ⟨a, o, h1, h2, h3, h4⟩ := h
  exact ⟨a, o, h1, h2, s.h _ _ h3, h4.mono s.g⟩
 | x C =>
  obtain ⟨e, h1, h2⟩ := h
  exact ⟨e, h1, s.g _ _ h2⟩
 | h a => exact h
theorem SimS.step {K : PySem.W.Frag} {W : Addr → Option Nat} {G H G' H' : Hp} {σ : L2.St} {en : En} (h : SimS K W G H σ en) (s : Step G H G' H') : SimS K W G' H' σ en :=
 ⟨h.1, fun i l e => let ⟨v, e1, e2⟩ := h.2 i l e; ⟨v, e1, e2.step s⟩⟩
def PostE (K : PySem.W.Frag) (W : Addr → Option Nat) (G H : Hp) (Q : VK) (r : Ev) : Prop := ∀ G' H' v, Step G H G' H' → EOk K W H G' H' v r → Q v H'
def PostB (G H : Hp) (Q : Bool → Hp → Prop) (b : Bool) : Prop := ∀ G' H', Step G H G' H' → Q b H'
def EOks (K : PySem.W.Frag) (W : Addr → Option Nat) (Hs G H : Hp) : List V → List Ev → Prop
 | [], [] => True
 | v :: vs, r :: rs => EOk K W Hs G H v r ∧ EOks K W Hs G H vs rs
 | _, _ => False
def PostA (K : PySem.W.Frag) (W : Addr → Option Nat) (G H : Hp) (Q : List V → Hp → Prop) (rs : List Ev) : Prop := ∀ G' H' vs, Step G H G' H' → EOks K W H G' H' vs rs → Q vs H'
def PostX (E : XK) (G H : Hp) (C : Addr) : Prop := ∀ G' H', Step G H G' H' → E (.ref C) none H'
theorem PostE.step {K : PySem.W.Frag} {W : Addr → Option Nat} {G H G' H' : Hp} {Q : VK} {r : Ev} (h : PostE K W G H Q r) (s : Step G H G' H') : PostE K W G' H' Q r := fun G2 H2 v s2 e => h G2 H2 v (s.trans s2) (by
 cases r with
 | p d => exact e
 | b d => exact e
 | x d => exact e
 | f d =>
  obtain ⟨a, o, h1, h2, h3, h4, h5⟩ := e
  exact ⟨a, o, h1, s.h.free h2, h3, h4, h5⟩)
theorem PostX.step {E : XK} {G H G' H' : Hp} {C : Addr} (h : PostX E G H C) (s : Step G H G' H') : PostX E G' H' C := fun G2 H2 s2 => h G2 H2 (s.trans s2)
theorem PostB.step {G H G' H' : Hp} {Q : Bool → Hp → Prop} {b : Bool} (h : PostB G H Q b) (s : Step G H G' H') : PostB G' H' Q b := fun G2 H2 s2 => h G2 H2 (s.trans s2)
def tE (K : PySem.W.Frag) (E : L2.St → XK) (f : En → Res Ev) : TE := fun σ H Q => ∃ B G0 G W en, SimH B G0 G W H ∧ SimS K W G H σ en ∧ wpR (f en) (PostE K W G H Q) (PostX (E σ) G H)
def DE (X : Cx) (E : L2.St → XK) (e : Expr) (f : En → Res Ev) : Prop := PE X e (tE X.K E f)
theorem DE.out {X : Cx} {E : L2.St → XK} {e : Expr} {f : En → Res Ev} (h : DE X E e f) : ∃ t, PE X e t ∧ ∀ B G0 G W H σ en Q, SimH B G0 G W H → SimS X.K W G H σ en → wpR (f en) (PostE X.K W G H Q) (PostX (E σ) G H) → t σ H Q :=
 ⟨_, h, fun B G0 G W H σ en Q h1 h2 h3 => ⟨B, G0, G, W, en, h1, h2, h3⟩⟩
theorem DE.in {X : Cx} {E : L2.St → XK} {e : Expr} {f : En → Res Ev} (h : ∃ t, PE X e t ∧ ∀ B G0 G W H σ en Q, SimH B G0 G W H → SimS X.K W G H σ en → wpR (f en) (PostE X.K W G H Q) (PostX (E σ) G H) → t σ H Q) : DE X E e f :=
 fun pins s σ H Q I ⟨B, G0, G, W, en, h1, h2, h3⟩ => let ⟨_, p, m⟩ := h; p pins s σ H Q I (m B G0 G W H σ en Q h1 h2 h3)
def tT (K : PySem.W.Frag) (E : L2.St → XK) (f : En → Res Bool) : TT := fun σ H Q => ∃ B G0 G W en, SimH B G0 G W H ∧ SimS K W G H σ en ∧ wpR (f en) (PostB G H Q) (PostX (E σ) G H)
def tA (K : PySem.W.Frag) (E : L2.St → XK) (f : En → Res (List Ev)) : TA := fun σ H Q => ∃ B G0 G W en, SimH B G0 G W H ∧ SimS K W G H σ en ∧ wpR (f en) (PostA K W G H Q) (PostX (E σ) G H)
def DT (X : Cx) (E : L2.St → XK) (e : Expr) (f : En → Res Bool) : Prop := PT X e (tT X.K E f)
def DW (X : Cx) (E : L2.St → XK) (e : Expr) (f : En → Res Bool) : Prop := PW X e (tT X.K E f)
def DA (X : Cx) (E : L2.St → XK) (es : List Expr) (f : En → Res (List Ev)) : Prop := PA X es (tA X.K E f)
section
variable {X : Cx} {E : L2.St → XK} {e : Expr} {es : List Expr} {f : En → Res Bool} {fr : En → Res (List Ev)}
theorem DT.out (h : DT X E e f) : ∃ t, PT X e t ∧ ∀ B G0 G W H σ en Q, SimH B G0 G W H → SimS X.K W G H σ en → wpR (f en) (PostB G H Q) (PostX (E σ) G H) → t σ H Q :=
 ⟨_, h, fun B G0 G W H σ en Q h1 h2 h3 => ⟨B, G0, G, W, en, h1, h2, h3⟩⟩
theorem DT.in (h : ∃ t, PT X e t ∧ ∀ B G0 G W H σ en Q, SimH B G0 G W H → SimS X.K W G H σ en → wpR (f en) (PostB G H Q) (PostX (E σ) G H) → t σ H Q) : DT X E e f :=
 fun pins s σ H Q I ⟨B, G0, G, W, en, h1, h2, h3⟩ => let ⟨_, p, m⟩ := h; p pins s σ H Q I (m B G0 G W H σ en Q h1 h2 h3)
theorem DW.out (h : DW X E e f) : ∃ t, PW X e t ∧ ∀ B G0 G W H σ en Q, SimH B G0 G W H → SimS X.K W G H σ en → wpR (f en) (PostB G H Q) (PostX (E σ) G H) → t σ H Q :=
 ⟨_, h, fun B G0 G W H σ en Q h1 h2 h3 => ⟨B, G0, G, W, en, h1, h2, h3⟩⟩
theorem DW.in (h : ∃ t, PW X e t ∧ ∀ B G0 G W H σ en Q, SimH B G0 G W H → SimS X.K W G H σ en → wpR (f en) (PostB G H Q) (PostX (E σ) G H) → t σ H Q) : DW X E e f :=
 fun wh pins s σ H Q I ⟨B, G0, G, W, en, h1, h2, h3⟩ => let ⟨_, p, m⟩ := h; p wh pins s σ H Q I (m B G0 G W H σ en Q h1 h2 h3)
theorem DA.out (h : DA X E es fr) : ∃ t, PA X es t ∧ ∀ B G0 G W H σ en Q, SimH B G0 G W H → SimS X.K W G H σ en → wpR (fr en) (PostA X.K W G H Q) (PostX (E σ) G H) → t σ H Q :=
 ⟨_, h, fun B G0 G W H σ en Q h1 h2 h3 => ⟨B, G0, G, W, en, h1, h2, h3⟩⟩
theorem DA.in (h : ∃ t, PA X es t ∧ ∀ B G0 G W H σ en Q, SimH B G0 G W H → SimS X.K W G H σ en → wpR (fr en) (PostA X.K W G H Q) (PostX (E σ) G H) → t σ H Q) : DA X E es fr :=
 fun pos pins s σ H Q I ⟨B, G0, G, W, en, h1, h2, h3⟩ => let ⟨_, p, m⟩ := h; p pos pins s σ H Q I (m B G0 G W H σ en Q h1 h2 h3)
end
theorem DW.t {X : Cx} {E : L2.St → XK} {e : Expr} {f : En → Res Bool} (h : DW X E e f) : DT X E e f := h _
section
variable {X : Cx} {E : L2.St → XK} {a b c e : Expr} {es : List Expr} {fa fb : En → Res Ev} {fr : En → Res (List Ev)} {pos : Pos}
theorem DE.go {K : PySem.W.Frag} {W : Addr → Option Nat} {G H : Hp} {EE : XK} {Q : VK} {r : Res Ev} {k : Ev → Res Ev} {Q' : VK} (hw : wpR (r.bind k) (PostE K W G H Q) (PostX EE G H))
  (h : ∀ (x : Ev) G1 H1 v, Step G H G1 H1 → EOk K W H G1 H1 v x.c → wpR (k x) (PostE K W G1 H1 Q) (PostX EE G1 H1) → Q' v H1) : wpR r (PostE K W G H Q') (PostX EE G H) := by
 rw [wpR_bind] at hw
 refine wpR_mono hw (fun x hx G1 H1 v s e => ?_) fun C h => h
 obtain ⟨G2, s2, e2⟩ := e.c s
 exact h x G2 H1 v s2 e2 (wpR_mono hx (fun r h => h.step s2) fun C h => h.step s2)
theorem DE.goB {K : PySem.W.Frag} {W : Addr → Option Nat} {G H : Hp} {EE : XK} {Q : Bool → Hp → Prop} {r : Res Ev} {k : Ev → Res Bool} {Q' : VK} (hw : wpR (r.bind k) (PostB G H Q) (PostX EE G H))
  (h : ∀ (x : Ev) G1 H1 v, Step G H G1 H1 → EOk K W H G1 H1 v x.c → wpR (k x) (PostB G1 H1 Q) (PostX EE G1 H1) → Q' v H1) : wpR r (PostE K W G H Q') (PostX EE G H) := by
 rw [wpR_bind] at hw
 refine wpR_mono hw (fun x hx G1 H1 v s e => ?_) fun C h => h
 obtain ⟨G2, s2, e2⟩ := e.c s
 exact h x G2 H1 v s2 e2 (wpR_mono hx (fun r h => h.step s2) fun C h => h.step s2)
def OpM (K : PySem.W.Frag) (r : R2) (op : Ev → Ev → Res Ev) : Prop := ∀ (W : Addr → Option Nat) (G H : Hp) (v u : V) (x y : Ev) (Q : VK), Same G H → EOk K W H G H v x.c → EOk K W H G H u y.c → wpR (op x.c y.c) (PostE K W G H Q) (fun _ => False) → r v u H Q
def mBin (op : Ev → Ev → Res Ev) (fa fb : En → Res Ev) : En → Res Ev := fun en => (fa en).bind fun x => (fb en).bind fun y => op x.c y.c
def NoX (op : Ev → Ev → Res Ev) : Prop := ∀ x y C, op x y ≠ .exc C
theorem noX {α : Type} {r : Res α} {Q : α → Prop} {E E' : Addr → Prop} (h : wpR r Q E) (n : ∀ C, r ≠ .exc C) : wpR r Q E' := by
 cases r with
 | ok a => exact h
 | exc C => exact absurd rfl (n C)
 | bad => exact h
theorem op_core {ta tb : TE} {r : R2} {op : Ev → Ev → Res Ev} (ma : ∀ B G0 G W H σ en Q, SimH B G0 G W H → SimS X.K W G H σ en → wpR (fa en) (PostE X.K W G H Q) (PostX (E σ) G H) → ta σ H Q)
  (mb : ∀ B G0 G W H σ en Q, SimH B G0 G W H → SimS X.K W G H σ en → wpR (fb en) (PostE X.K W G H Q) (PostX (E σ) G H) → tb σ H Q) (hm : OpM X.K r op) (hn : NoX op) :
  ∀ B G0 G W H σ en Q, SimH B G0 G W H → SimS X.K W G H σ en → wpR (mBin op fa fb en) (PostE X.K W G H Q) (PostX (E σ) G H) → tOp r ta tb σ H Q := by
 intro B G0 G W H σ en Q hh hs hw
 refine ma B G0 G W H σ en _ hh hs (DE.go hw fun x G1 H1 v s1 e1 h1 => ?_)
 refine mb B G0 G1 W H1 σ en _ (hh.step s1) (hs.step s1) (DE.go h1 fun y G2 H2 u s2 e2 h2 => ?_)
 exact hm W G2 H2 v u x y Q s2.gh (e1.step s2) (by cases y <;> exact e2) (noX h2 (hn _ _))
theorem de_op {op : Operator} {r : R2} {f : Ev → Ev → Res Ev} (ho : OpR X (binaryOp op) r) (hm : OpM X.K r f) (hn : NoX f) (ha : DE X E a fa) (hb : DE X E b fb) : DE X E (.BinOp a op b pos) (mBin f fa fb) := by
 obtain ⟨ta, pa, ma⟩ := ha.out
 obtain ⟨tb, pb, mb⟩ := hb.out
 refine DE.in ?_
 exact ⟨_, pe_op ho pa pb, op_core ma mb hm hn⟩
theorem de_cmp {op : CmpOp} {r : R2} {f : Ev → Ev → Res Ev} (ho : OpR X (compareOp op) r) (hm : OpM X.K r f) (hn : NoX f) (ha : DE X E a fa) (hb : DE X E b fb) (hk : behindInMarks op b = false) : DE X E (.Compare a [op] [b] pos) (mBin f fa fb) := by
 obtain ⟨ta, pa, ma⟩ := ha.out
 obtain ⟨tb, pb, mb⟩ := hb.out
 refine DE.in ?_
 exact ⟨_, pe_cmpR ho pa pb hk, op_core ma mb hm hn⟩
def truthR (r : Ev) : Res Bool := match r with
 | .p (.bool b) => .ok b
 | _ => .bad
def mTru (f : En → Res Ev) : En → Res Bool := fun en => (f en).bind truthR
theorem tru_core {t : TE} (m : ∀ B G0 G W H σ en Q, SimH B G0 G W H → SimS X.K W G H σ en → wpR (fa en) (PostE X.K W G H Q) (PostX (E σ) G H) → t σ H Q) :
  ∀ B G0 G W H σ en Q, SimH B G0 G W H → SimS X.K W G H σ en → wpR (mTru fa en) (PostB G H Q) (PostX (E σ) G H) → t σ H fun x H1 => ∃ k, x = .bl k ∧ Q k H1 := by
 intro B G0 G W H σ en Q hh hs hw
 refine m B G0 G W H σ en _ hh hs (DE.goB hw fun x G1 H1 v s1 e1 h1 => ?_)
 cases x with
 | p d =>
  cases d with
  | bool k => cases e1; exact ⟨k, rfl, h1 G1 H1 (Step.refl s1.gh)⟩
  | _ => exact False.elim h1
 | _ => exact False.elim h1
theorem dt_cmp {op : CmpOp} {r : R2} {f : Ev → Ev → Res Ev} (ho : OpR X (compareOp op) r) (hm : OpM X.K r f) (hn : NoX f) (ha : DE X E a fa) (hb : DE X E b fb) (hk : behindInMarks op b = false) : DT X E (.Compare a [op] [b] pos) (mTru (mBin f fa fb)) := by
 obtain ⟨ta, pa, ma⟩ := ha.out
 obtain ⟨tb, pb, mb⟩ := hb.out
 refine DT.in ?_
 exact ⟨_, pt_cmpR ho pa pb hk, tru_core (op_core ma mb hm hn)⟩
theorem dt_val (h : DE X E e fa) (he : ∀ whole, isTrue e X.env whole = (do let v ← whole; standAt e.pos; holding [v] (truthy v)) := by intro _; rfl) : DT X E e (mTru fa) := by
 obtain ⟨t, p, m⟩ := h.out
 refine DT.in ?_
 exact ⟨_, pt_val p he, tru_core m⟩
def mVar (i : Nat) : En → Res Ev := fun en => match en[i]? with
 | some (some (.p d)) => .ok (.p d)
 | some (some (.o d)) => .ok (.b d)
 | some (some (.x C)) => .ok (.x C)
 | _ => .bad
theorem de_var {i : Nat} {x : Str} (hN : X.N[i]? = some x) (hv : Vis X.env.scope x) (hd : (x == ("__debug__" : Str)) = false := by decide) (hcd : (x == ("__classdict__" : Str)) = false := by decide) : DE X E (.Name x pos) (mVar i) := by
 refine DE.in ?_
 refine ⟨_, pe_var hN hv hd hcd, fun B G0 G W H σ en Q hh hs hw => ?_⟩
 unfold mVar at hw
 split at hw
 ·rename_i d e
  obtain ⟨v, e1, e2⟩ := hs.2 i _ e
  exact ⟨v, e1, hw G H v (Step.refl hh.gh) e2⟩
 ·rename_i d e
  obtain ⟨v, e1, a, o, e2, e3, e4, e5⟩ := hs.2 i _ e
  exact ⟨v, e1, hw G H v (Step.refl hh.gh) ⟨a, i, o, e2, e3, e4, e5⟩⟩
 ·rename_i C e
  obtain ⟨v, e1, e2⟩ := hs.2 i _ e
  exact ⟨v, e1, hw G H v (Step.refl hh.gh) e2⟩
 ·exact hw.elim
def mC (d : D) : En → Res Ev := fun _ => .ok (.p d)
theorem const_core {v : V} {d : D} (h : ∀ G, Rep X.K G v d) : ∀ B G0 G W H σ en Q, SimH B G0 G W H → SimS X.K W G H σ en → wpR (mC d en) (PostE X.K W G H Q) (PostX (E σ) G H) → tC v σ H Q :=
 fun B G0 G W H σ en Q hh hs hw => hw G H v (Step.refl hh.gh) (h G)
theorem de_int {i j} : DE X E (.Constant (.int i) j pos) (mC (.int i)) := DE.in ⟨_, pe_int, const_core fun _ => .int i⟩
theorem de_bl {b j} : DE X E (.Constant (.bool b) j pos) (mC (.bool b)) := DE.in ⟨_, pe_bl, const_core fun _ => .bl b⟩
theorem de_non {j} : DE X E (.Constant .none j pos) (mC .none) := DE.in ⟨_, pe_non, const_core fun _ => .non⟩
theorem de_str {x j} : DE X E (.Constant (.str x) j pos) (mC (.str x)) := DE.in ⟨_, pe_str, const_core fun _ => .str x⟩
variable {ga gb : En → Res Bool} {rest : List Expr}
def mAnd (f g : En → Res Bool) : En → Res Bool := fun en => (f en).bind fun c => if c = true then g en else .ok false
def mOr (f g : En → Res Bool) : En → Res Bool := fun en => (f en).bind fun c => if c = true then .ok true else g en
def mNot (f : En → Res Bool) : En → Res Bool := fun en => (f en).bind fun c => .ok (!c)
theorem dw_and1 (ha : DT X E a ga) : DW X E (.BoolOp .And [a] pos) ga := let ⟨t, p, m⟩ := ha.out; DW.in ⟨t, pw_and1 p, m⟩
theorem dw_or1 (ha : DT X E a ga) : DW X E (.BoolOp .Or [a] pos) ga := let ⟨t, p, m⟩ := ha.out; DW.in ⟨t, pw_or1 p, m⟩
theorem dw_and (ha : DT X E a ga) (hb : DW X E (.BoolOp .And (b :: rest) pos) gb) : DW X E (.BoolOp .And (a :: b :: rest) pos) (mAnd ga gb) := by
 obtain ⟨ta, pa, ma⟩ := ha.out
 obtain ⟨tb, pb, mb⟩ := hb.out
 refine DW.in ?_
 refine ⟨_, pw_and pa pb, fun B G0 G W H σ en Q hh hs hw => ma B G0 G W H σ en _ hh hs ?_⟩
 have hw : wpR ((ga en).bind _) _ _ := hw
 rw [wpR_bind] at hw
 refine wpR_mono hw (fun c hc G1 H1 s => ?_) fun C h => h
 cases c with
 | true => exact mb B G0 G1 W H1 σ en Q (hh.step s) (hs.step s) (wpR_mono hc (fun _ h => h.step s) fun _ h => h.step s)
 | false => exact hc G1 H1 s
theorem dw_or (ha : DT X E a ga) (hb : DW X E (.BoolOp .Or (b :: rest) pos) gb) : DW X E (.BoolOp .Or (a :: b :: rest) pos) (mOr ga gb) := by
 obtain ⟨ta, pa, ma⟩ := ha.out
 obtain ⟨tb, pb, mb⟩ := hb.out
 refine DW.in ?_
 refine ⟨_, pw_or pa pb, fun B G0 G W H σ en Q hh hs hw => ma B G0 G W H σ en _ hh hs ?_⟩
 have hw : wpR ((ga en).bind _) _ _ := hw
 rw [wpR_bind] at hw
 refine wpR_mono hw (fun c hc G1 H1 s => ?_) fun C h => h
 cases c with
 | false => exact mb B G0 G1 W H1 σ en Q (hh.step s) (hs.step s) (wpR_mono hc (fun _ h => h.step s) fun _ h => h.step s)
 | true => exact hc G1 H1 s
theorem dt_not (ha : DT X E a ga) : DT X E (.UnaryOp .Not a pos) (mNot ga) := by
 obtain ⟨ta, pa, ma⟩ := ha.out
 refine DT.in ?_
 refine ⟨_, pt_not pa, fun B G0 G W H σ en Q hh hs hw => ma B G0 G W H σ en _ hh hs ?_⟩
 have hw : wpR ((ga en).bind _) _ _ := hw
 rw [wpR_bind] at hw
 exact wpR_mono hw (fun c hc => hc) fun C h => h
def mAndV (f g : En → Res Ev) : En → Res Ev := fun en => (f en).bind fun c => match c with
 | .p (.bool true) => g en
 | .p (.bool false) => .ok (.p (.bool false))
 | _ => .bad
def mOrV (f g : En → Res Ev) : En → Res Ev := fun en => (f en).bind fun c => match c with
 | .p (.bool false) => g en
 | .p (.bool true) => .ok (.p (.bool true))
 | _ => .bad
def mNotV (f : En → Res Ev) : En → Res Ev := fun en => (f en).bind fun c => match c with
 | .p (.bool k) => .ok (.p (.bool (!k)))
 | _ => .bad
theorem de_one {op} (h : DE X E a fa) : DE X E (.BoolOp op [a] pos) fa := let ⟨t, p, m⟩ := h.out; DE.in ⟨t, pe_one p, m⟩
theorem de_and (ha : DE X E a fa) (hb : DE X E (.BoolOp .And (b :: rest) pos) fb) : DE X E (.BoolOp .And (a :: b :: rest) pos) (mAndV fa fb) := by
 obtain ⟨ta, pa, ma⟩ := ha.out
 obtain ⟨tb, pb, mb⟩ := hb.out
 refine DE.in ?_
 refine ⟨_, pe_and pa pb, fun B G0 G W H σ en Q hh hs hw => ma B G0 G W H σ en _ hh hs (DE.go hw fun x G1 H1 v s1 e1 h1 => ?_)⟩
 cases x with
 | p d =>
  cases d with
  | bool k =>
   cases e1
   cases k with
   | true => exact ⟨true, rfl, mb B G0 G1 W H1 σ en Q (hh.step s1) (hs.step s1) h1⟩
   | false => exact ⟨false, rfl, h1 G1 H1 _ (Step.refl s1.gh) (.bl false)⟩
  | _ => exact False.elim h1
 | _ => exact False.elim h1
theorem de_not (ha : DE X E a fa) : DE X E (.UnaryOp .Not a pos) (mNotV fa) := by
 obtain ⟨ta, pa, ma⟩ := ha.out
 refine DE.in ?_
 refine ⟨_, pe_not pa, fun B G0 G W H σ en Q hh hs hw => ma B G0 G W H σ en _ hh hs (DE.go hw fun x G1 H1 v s1 e1 h1 => ?_)⟩
 cases x with
 | p d =>
  cases d with
  | bool k =>
   cases e1
   exact ⟨k, rfl, h1 G1 H1 _ (Step.refl s1.gh) (.bl _)⟩
  | _ => exact False.elim h1
 | _ => exact False.elim h1
def mNil : En → Res (List Ev) := fun _ => .ok []
def mCons (f : En → Res Ev) (g : En → Res (List Ev)) : En → Res (List Ev) := fun en => (f en).bind fun x => (g en).bind fun xs => .ok (x.c :: xs)
theorem da_nil : DA X E [] mNil := DA.in ⟨_, pa_nil, fun B G0 G W H σ en Q hh hs hw => hw G H [] (Step.refl hh.gh) trivial⟩
theorem EOk.cc {K : PySem.W.Frag} {W : Addr → Option Nat} {Hs Hs' G H : Hp} {v : V} {r : Ev} (h : EOk K W Hs G H v r.c) : EOk K W Hs' G H v r.c := by
 cases r <;> exact h
theorem da_cons (ha : DE X E e fa) (hr : DA X E es fr) (hst : starEach (e :: es) X.env = (false, eval e X.env) :: starEach es X.env := by rfl) : DA X E (e :: es) (mCons fa fr) := by
 obtain ⟨ta, pa, ma⟩ := ha.out
 obtain ⟨tr, pr, mr⟩ := hr.out
 refine DA.in ?_
 refine ⟨_, pa_cons pa pr hst, fun B G0 G W H σ en Q hh hs hw => ma B G0 G W H σ en _ hh hs ?_⟩
 have hw : wpR ((fa en).bind _) _ _ := hw
 rw [wpR_bind] at hw
 refine wpR_mono hw (fun x hx G1 H1 v s e1 => ?_) fun C h => h
 obtain ⟨G2, s2, e2⟩ := e1.c s
 refine mr B G0 G2 W H1 σ en _ (hh.step s2) (hs.step s2) ?_
 rw [wpR_bind] at hx
 refine wpR_mono hx (fun xs hxs G3 H3 vs s3 e3 => ?_) fun C h => h.step s2
 refine hxs G3 H3 (v :: vs) (s2.trans s3) ⟨e2.step s3, ?_⟩
 clear hxs hx hw
 induction xs generalizing vs with
 | nil => cases vs <;> exact e3
 | cons y ys ih =>
  cases vs with
  | nil => exact e3
  | cons u us =>
   refine ⟨?_, ih us e3.2⟩
   have z := e3.1
   cases y with
   | p d => exact z
   | b d => exact z
   | x d => exact z
   | f d =>
    obtain ⟨a, o, h1, h2, h3⟩ := z
    exact ⟨a, o, h1, s2.h.free h2, h3⟩
end
inductive Out where
 | nx (en : En)
 | rt (l : L)
 | bk (en : En)
 | ct (en : En)
 | ex (C : Addr) (en : En)
abbrev MS := En → Option Out
def RetOk (K : PySem.W.Frag) (B G H : Hp) (v : V) : L → Prop
 | .p d => Rep K G v d
 | .o d => ∃ a o, v = .ref a ∧ G a = none ∧ B a = none ∧ H a = some o ∧ Cont K G o d
 | .x C => ∃ e, v = .ref e ∧ G e = some (excO e (.ref C))
 | .h _ => False
def PostS (K : PySem.W.Frag) (B G0 : Hp) (E : L2.St → XK) (Dn : Ends) : Out → Prop
 | .nx en => ∀ G W H σ, SimH B G0 G W H → SimS K W G H σ en → Dn.nx σ H
 | .bk en => ∀ G W H σ, SimH B G0 G W H → SimS K W G H σ en → Dn.bk σ H
 | .ct en => ∀ G W H σ, SimH B G0 G W H → SimS K W G H σ en → Dn.ct σ H
 | .rt l => ∀ G W H v, SimH B G0 G W H → RetOk K B G H v l → Dn.rt v H
 | .ex C en => ∀ G W H σ, SimH B G0 G W H → SimS K W G H σ en → E σ (.ref C) none H
def wpO (o : Option Out) (P : Out → Prop) : Prop := match o with
 | some r => P r
 | none => False
def tS (K : PySem.W.Frag) (E : L2.St → XK) (f : MS) : TS := fun Dn σ H => ∃ B G0 G W en, SimH B G0 G W H ∧ SimS K W G H σ en ∧ wpO (f en) (PostS K B G0 E Dn)
def DS (X : Cx) (E : L2.St → XK) (st : Stmt) (f : MS) : Prop := PS X st (tS X.K E f)
def DSs (X : Cx) (E : L2.St → XK) (st : List Stmt) (f : MS) : Prop := PSs X st (tS X.K E f)
section
variable {X : Cx} {E : L2.St → XK} {st : Stmt} {sts : List Stmt} {f g : MS} {fe : En → Res Ev} {fc : En → Res Bool} {e c : Expr} {pos : Pos}
theorem DS.in (h : ∃ t, PS X st t ∧ ∀ B G0 G W H σ en Dn, SimH B G0 G W H → SimS X.K W G H σ en → wpO (f en) (PostS X.K B G0 E Dn) → t Dn σ H) : DS X E st f :=
 fun pins s σ H Dn I ⟨B, G0, G, W, en, h1, h2, h3⟩ => let ⟨_, p, m⟩ := h; p pins s σ H Dn I (m B G0 G W H σ en Dn h1 h2 h3)
theorem DSs.in (h : ∃ t, PSs X sts t ∧ ∀ B G0 G W H σ en Dn, SimH B G0 G W H → SimS X.K W G H σ en → wpO (f en) (PostS X.K B G0 E Dn) → t Dn σ H) : DSs X E sts f :=
 fun pins s σ H Dn I ⟨B, G0, G, W, en, h1, h2, h3⟩ => let ⟨_, p, m⟩ := h; p pins s σ H Dn I (m B G0 G W H σ en Dn h1 h2 h3)
theorem DS.out (h : DS X E st f) : ∃ t, PS X st t ∧ ∀ B G0 G W H σ en Dn, SimH B G0 G W H → SimS X.K W G H σ en → wpO (f en) (PostS X.K B G0 E Dn) → t Dn σ H :=
 ⟨_, h, fun B G0 G W H σ en Dn h1 h2 h3 => ⟨B, G0, G, W, en, h1, h2, h3⟩⟩
theorem DSs.out (h : DSs X E sts f) : ∃ t, PSs X sts t ∧ ∀ B G0 G W H σ en Dn, SimH B G0 G W H → SimS X.K W G H σ en → wpO (f en) (PostS X.K B G0 E Dn) → t Dn σ H :=
 ⟨_, h, fun B G0 G W H σ en Dn h1 h2 h3 => ⟨B, G0, G, W, en, h1, h2, h3⟩⟩
def mNext : MS := fun en => some (.nx en)
def mSeq (f g : MS) : MS := fun en => match f en with
 | some (.nx e) => g e
 | r => r
theorem dss_nil : DSs X E [] mNext := DSs.in ⟨_, pss_nil, fun B G0 G W H σ en Dn hh hs hw => hw G W H σ hh hs⟩
theorem dss_one (h : DS X E st f) : DSs X E [st] f := let ⟨t, p, m⟩ := h.out; DSs.in ⟨t, pss_one p, m⟩
theorem dss_cons (h1 : DS X E st f) (h2 : DSs X E sts g) : DSs X E (st :: sts) (mSeq f g) := by
 obtain ⟨t, p, m⟩ := h1.out
 obtain ⟨u, q, n⟩ := h2.out
 refine DSs.in ⟨_, pss_cons p q, fun B G0 G W H σ en Dn hh hs hw => m B G0 G W H σ en _ hh hs ?_⟩
 unfold mSeq at hw
 cases ef : f en with
 | none => rw [ef] at hw; exact hw
 | some r =>
  rw [ef] at hw
  cases r with
  | nx e => exact fun G1 W1 H1 σ1 hh1 hs1 => n B G0 G1 W1 H1 σ1 e Dn hh1 hs1 hw
  | rt l => exact hw
  | bk e => exact hw
  | ct e => exact hw
  | ex C e => exact hw
theorem SimS.set {K : PySem.W.Frag} {W : Addr → Option Nat} {G H : Hp} {σ : L2.St} {en : En} {i : Nat} {v : V} {l : L} (h : SimS K W G H σ en) (hl : Slot K W G H i v l) : SimS K W G H (σ.set i (some v)) (en.set i (some l)) := by
 refine ⟨by rw [List.length_set, List.length_set]; exact h.1, fun j m e => ?_⟩
 rw [List.getElem?_set] at e
 rw [List.getElem?_set]
 by_cases hj : i = j
 ·subst hj
  rw [if_pos rfl] at e
  split at e
  ·rename_i hlt
   cases e
   rw [if_pos rfl, if_pos (by rw [h.1]; exact hlt)]
   exact ⟨v, rfl, hl⟩
  ·cases e
 ·rw [if_neg hj] at e ⊢
  exact h.2 j m e
def owner (W : Addr → Option Nat) (a : Addr) (i : Nat) : Addr → Option Nat := fun b => if b = a then some i else W b
theorem take_new {K : PySem.W.Frag} {B G0 G H : Hp} {W : Addr → Option Nat} {σ : L2.St} {en : En} {i : Nat} {a : Addr} {o : HO} {d : D} (hh : SimH B G0 G W H) (hs : SimS K W G H σ en) (hW : W a = none) (hG : G a = none) (hB : B a = none) (hH : H a = some o) (hc : Cont K G o d) :
  SimH B G0 G (owner W a i) H ∧ SimS K (owner W a i) G H (σ.set i (some (.ref a))) (en.set i (some (.o d))) := by
 refine ⟨⟨hh.gh, hh.bh, hh.g0, hh.gb, fun b j e => ?_⟩, SimS.set ⟨hs.1, fun j l e => ?_⟩ ⟨a, o, rfl, if_pos rfl, hH, hc⟩⟩
 ·unfold owner at e
  split at e
  ·rename_i z
   subst z
   exact ⟨hG, hB, o, hH, hc.mut⟩
  ·exact hh.wf b j e
 ·obtain ⟨v, e1, e2⟩ := hs.2 j l e
  refine ⟨v, e1, ?_⟩
  cases l with
  | p d => exact e2
  | x C => exact e2
  | h a => exact e2
  | o d =>
   obtain ⟨b, ob, h1, h2, h3, h4⟩ := e2
   refine ⟨b, ob, h1, ?_, h3, h4⟩
   unfold owner
   rw [if_neg (fun z => by rw [z, hW] at h2; cases h2)]
   exact h2
def mSet (i : Nat) (fe : En → Res Ev) : MS := fun en => match fe en with
 | .ok (.p d) => some (.nx (en.set i (some (.p d))))
 | .ok (.f d) => some (.nx (en.set i (some (.o d))))
 | .ok (.x C) => some (.nx (en.set i (some (.x C))))
 | .ok (.b _) => none
 | .exc C => some (.ex C en)
 | .bad => none
theorem SimH.lone {B G0 G H : Hp} {W : Addr → Option Nat} (hh : SimH B G0 G W H) {a : Addr} (h : H a = none) : W a = none := by
 cases e : W a with
 | none => rfl
 | some i =>
  obtain ⟨_, _, o, q, _⟩ := hh.wf a i e
  rw [h] at q; cases q
theorem set_core {te : TE} {i : Nat} (m : ∀ B G0 G W H σ en Q, SimH B G0 G W H → SimS X.K W G H σ en → wpR (fe en) (PostE X.K W G H Q) (PostX (E σ) G H) → te σ H Q) :
  ∀ B G0 G W H σ en Dn, SimH B G0 G W H → SimS X.K W G H σ en → wpO (mSet i fe en) (PostS X.K B G0 E Dn) → te σ H fun x H1 => Dn.nx (σ.set i (some x)) H1 := by
 intro B G0 G W H σ en Dn hh hs hw
 refine m B G0 G W H σ en _ hh hs ?_
 unfold mSet at hw
 cases ef : fe en with
 | bad => rw [ef] at hw; exact hw
 | exc C => rw [ef] at hw; exact fun G1 H1 s => hw G1 W H1 σ (hh.step s) (hs.step s)
 | ok r =>
  rw [ef] at hw
  cases r with
  | b d => exact hw.elim
  | p d => exact fun G1 H1 v s e => hw G1 W H1 _ (hh.step s) ((hs.step s).set e)
  | x C => exact fun G1 H1 v s e => hw G1 W H1 _ (hh.step s) ((hs.step s).set e)
  | f d =>
   rintro G1 H1 v s ⟨a, o, rfl, h1, h2, h3, h4⟩
   obtain ⟨q1, q2⟩ := take_new (i := i) (hh.step s) (hs.step s) (hh.lone h1) h2 (hh.bh.free h1) h3 h4
   exact hw G1 _ H1 _ q1 q2
theorem ds_set {i : Nat} {x : Str} {pos' : Pos} (hN : X.N.Nodup) (hi : X.N[i]? = some x) (hx : Loc X.env.scope x) (he : DE X E e fe) (hs : swapsWith e (some (.Name x pos')) pos.line X.env = pure false := by rfl) (hf : X.fn x = true ∨ X.env.scope.names.lookup x = some .local := by first | exact .inl rfl | exact .inr rfl | assumption) :
  DS X E (.Assign [.Name x pos'] e pos) (mSet i fe) := by
 obtain ⟨t, p, m⟩ := he.out
 exact DS.in ⟨_, ps_set hN hi hx p hs hf, set_core m⟩
def retL : Ev → L
 | .p d => .p d
 | .f d => .o d
 | .b d => .o d
 | .x C => .x C
def mRet (fe : En → Res Ev) : MS := fun en => match fe en with
 | .ok r => some (.rt (retL r))
 | .exc C => some (.ex C en)
 | .bad => none
theorem ds_ret (he : DE X E e fe) : DS X E (.Return (some e) pos) (mRet fe) := by
 obtain ⟨t, p, m⟩ := he.out
 refine DS.in ⟨_, ps_ret p, fun B G0 G W H σ en Dn hh hs hw => m B G0 G W H σ en _ hh hs ?_⟩
 unfold mRet at hw
 cases ef : fe en with
 | bad => rw [ef] at hw; exact hw
 | exc C => rw [ef] at hw; exact fun G1 H1 s => hw G1 W H1 σ (hh.step s) (hs.step s)
 | ok r =>
  rw [ef] at hw
  intro G1 H1 v s e
  refine hw G1 W H1 v (hh.step s) ?_
  cases r with
  | p d => exact e
  | x C => exact e
  | f d =>
   obtain ⟨a, o, h0, h1, h2, h3, h4⟩ := e
   exact ⟨a, o, h0, h2, hh.bh.free h1, h3, h4⟩
  | b d =>
   obtain ⟨a, i, o, h0, h1, h3, h4⟩ := e
   have z := (hh.step s).wf a i h1
   exact ⟨a, o, h0, z.1, z.2.1, h3, h4⟩
def mIfS (c : En → Res Bool) (f g : MS) : MS := fun en => match c en with
 | .ok k => if k = true then f en else g en
 | .exc C => some (.ex C en)
 | .bad => none
theorem ds_if {A B : List Stmt} (hc : DT X E c fc) (ha : DSs X E A f) (hb : DSs X E B g) : DS X E (.If c A B pos) (mIfS fc f g) := by
 obtain ⟨tc, pc, mc⟩ := hc.out
 obtain ⟨t, p, m⟩ := ha.out
 obtain ⟨u, q, n⟩ := hb.out
 refine DS.in ⟨_, ps_if pc p q, fun B G0 G W H σ en Dn hh hs hw => mc B G0 G W H σ en _ hh hs ?_⟩
 unfold mIfS at hw
 cases ef : fc en with
 | bad => rw [ef] at hw; exact hw
 | exc C => rw [ef] at hw; exact fun G1 H1 s => hw G1 W H1 σ (hh.step s) (hs.step s)
 | ok k =>
  rw [ef] at hw
  intro G1 H1 s
  cases k with
  | true => exact m B G0 G1 W H1 σ en Dn (hh.step s) (hs.step s) hw
  | false => exact n B G0 G1 W H1 σ en Dn (hh.step s) (hs.step s) hw
def frz (i : Nat) (en : En) : En := match en[i]? with
 | some (some (.o d)) => en.set i (some (.p d))
 | _ => en
theorem frz_ok {K : PySem.W.Frag} {B G0 G H : Hp} {W : Addr → Option Nat} {σ : L2.St} {en : En} (i : Nat) (hh : SimH B G0 G W H) (hs : SimS K W G H σ en) : ∃ G' W', SimH B G0 G' W' H ∧ SimS K W' G' H σ (frz i en) := by
 unfold frz
 split
 ·rename_i d e
  obtain ⟨v, e1, a, o, rfl, e2, e3, e4⟩ := hs.2 i _ e
  obtain ⟨w1, w2, w3⟩ := hh.wf a i e2
  have sg : Same G (upd G a o) := Same.upd (Same.refl _) w1 o
  refine ⟨upd G a o, fun b => if b = a then none else W b, ⟨fun b u q => ?_, hh.bh, hh.g0.trans sg, fun b hb => ?_, fun b j e => ?_⟩, by rw [List.length_set]; exact hs.1, fun j l e5 => ?_⟩
  ·by_cases z : b = a
   ·subst z; rw [upd_same] at q; rw [e3]; exact q
   ·rw [upd_ne z] at q; exact hh.gh b u q
  ·by_cases z : b = a
   ·subst z; exact .inr (.inl w2)
   ·rw [upd_ne z] at hb; exact hh.gb b hb
  ·split at e
   ·cases e
   ·rename_i z
    rw [upd_ne z]; exact hh.wf b j e
  ·rw [List.getElem?_set] at e5
   by_cases hj : i = j
   ·subst hj
    rw [if_pos rfl] at e5
    split at e5
    ·cases e5
     exact ⟨_, e1, (e4.mono sg).rep upd_same⟩
    ·cases e5
   ·rw [if_neg hj] at e5
    obtain ⟨v, f1, f2⟩ := hs.2 j l e5
    refine ⟨v, f1, ?_⟩
    cases l with
    | p d => exact f2.mono sg
    | x C => obtain ⟨ea, g1, g2⟩ := f2; exact ⟨ea, g1, sg _ _ g2⟩
    | h a => exact f2
    | o d =>
     obtain ⟨b, ob, g1, g2, g3, g4⟩ := f2
     refine ⟨b, ob, g1, ?_, g3, g4.mono sg⟩
     show (if b = a then none else W b) = some j
     rw [if_neg (fun z => by rw [z, e2] at g2; exact hj (Option.some.inj g2))]
     exact g2
 ·exact ⟨G, W, hh, hs⟩
theorem dss_frz (i : Nat) (h : DSs X E sts f) : DSs X E sts (fun en => f (frz i en)) := by
 obtain ⟨t, p, m⟩ := h.out
 refine DSs.in ⟨t, p, fun B G0 G W H σ en Dn hh hs hw => ?_⟩
 obtain ⟨G', W', h1, h2⟩ := frz_ok i hh hs
 exact m B G0 G' W' H σ _ Dn h1 h2 hw
end
def mWh (c : En → Res Bool) (f : MS) : Nat → MS
 | 0, _ => none
 | n + 1, en => match c en with
  | .bad => none
  | .exc C => some (.ex C en)
  | .ok false => some (.nx en)
  | .ok true => match f en with
   | some (.nx e) => mWh c f n e
   | some (.ct e) => mWh c f n e
   | some (.bk e) => some (.nx e)
   | r => r
theorem mWh_more {c : En → Res Bool} {f : MS} : ∀ {n : Nat} {en : En} {r : Out}, mWh c f n en = some r → mWh c f (n + 1) en = some r
 | 0, _, _, h => by cases h
 | n + 1, en, r, h => by
  unfold mWh at h ⊢
  cases ec : c en with
  | bad => rw [ec] at h; exact h
  | exc C => rw [ec] at h; exact h
  | ok k =>
   rw [ec] at h
   cases k with
   | false => exact h
   | true =>
    dsimp only at h ⊢
    cases ef : f en with
    | none => rw [ef] at h; exact h
    | some o =>
     rw [ef] at h
     cases o with
     | nx e => exact mWh_more (n := n) h
     | ct e => exact mWh_more (n := n) h
     | bk e => exact h
     | rt l => exact h
     | ex C e => exact h
theorem mWh_le {c : En → Res Bool} {f : MS} {n m : Nat} {en : En} {r : Out} (h : mWh c f n en = some r) (l : n ≤ m) : mWh c f m en = some r := by
 induction l with
 | refl => exact h
 | step _ ih => exact mWh_more ih
open Classical in
noncomputable def mWhile (c : En → Res Bool) (f : MS) : MS := fun en => if h : ∃ n r, mWh c f n en = some r then mWh c f h.choose en else none
theorem mWhile_of {c : En → Res Bool} {f : MS} {n : Nat} {en : En} {r : Out} (h : mWh c f n en = some r) : mWhile c f en = some r := by
 unfold mWhile
 have hx : ∃ n r, mWh c f n en = some r := ⟨n, r, h⟩
 rw [dif_pos hx]
 obtain ⟨r', h'⟩ := hx.choose_spec
 rcases Nat.le_total n hx.choose with l | l
 ·exact mWh_le h l
 ·have := mWh_le h' l
  rw [h] at this
  rw [h']; exact this.symm
theorem mWhile_fuel {c : En → Res Bool} {f : MS} {en : En} {P : Out → Prop} (h : wpO (mWhile c f en) P) : ∃ n, wpO (mWh c f n en) P := by
 unfold mWhile at h
 split at h
 ·exact ⟨_, h⟩
 ·exact h.elim
section
variable {X : Cx} {E : L2.St → XK} {st : Stmt} {sts : List Stmt} {f g : MS} {fe : En → Res Ev} {fc : En → Res Bool} {e c : Expr} {pos : Pos}
theorem ds_while (hp : PassesOwn (model X.prog X.w) X.A X.env X.xe) (hc : DT X E c fc) (hb : DSs X E sts f) : DS X E (.While c sts [] pos) (mWhile fc f) := by
 obtain ⟨tc, pc, mc⟩ := hc.out
 obtain ⟨t, p, m⟩ := hb.out
 refine DS.in ⟨_, ps_while hp pc p, fun B G0 G W H σ en Dn hh hs hw => ?_⟩
 obtain ⟨n0, hw⟩ := mWhile_fuel hw
 refine ⟨fun n σ H => ∃ G W en, SimH B G0 G W H ∧ SimS X.K W G H σ en ∧ wpO (mWh fc f n en) (PostS X.K B G0 E Dn), ⟨n0, G, W, en, hh, hs, hw⟩, ?_⟩
 rintro n σ H ⟨G, W, en, hh, hs, hw⟩
 cases n with
 | zero => exact hw.elim
 | succ n =>
  refine mc B G0 G W H σ en _ hh hs ?_
  unfold mWh at hw
  cases ec : fc en with
  | bad => rw [ec] at hw; exact hw
  | exc C => rw [ec] at hw; exact fun G1 H1 s => hw G1 W H1 σ (hh.step s) (hs.step s)
  | ok k =>
   rw [ec] at hw
   intro G1 H1 s
   cases k with
   | false => exact hw G1 W H1 σ (hh.step s) (hs.step s)
   | true =>
    refine ⟨fun σ' H' => ∃ G W en, SimH B G0 G W H' ∧ SimS X.K W G H' σ' en ∧ wpO (mWh fc f n en) (PostS X.K B G0 E Dn), fun σ' H' q => ⟨n, Nat.lt_succ_self n, q⟩, ?_⟩
    refine m B G0 G1 W H1 σ en _ (hh.step s) (hs.step s) ?_
    dsimp only at hw
    cases ef : f en with
    | none => rw [ef] at hw; exact hw
    | some o =>
     rw [ef] at hw
     cases o with
     | nx e => exact fun G2 W2 H2 σ2 h2 s2 => ⟨G2, W2, e, h2, s2, hw⟩
     | ct e => exact fun G2 W2 H2 σ2 h2 s2 => ⟨G2, W2, e, h2, s2, hw⟩
     | bk e => exact hw
     | rt l => exact hw
     | ex C e => exact hw
end
def IterOk (K : PySem.W.Frag) (ds : List D) (G1 : Hp) (J : It) : Prop := ∀ G H, Same G1 G → Same G H →
 (∀ i d, ds[i]? = some d → J.go i H ∧ ∀ v H', J.yld i H v H' → ∃ G', Step G H G' H' ∧ Rep K G' v d) ∧ J.stop ds.length H
def tI (K : PySem.W.Frag) (E : L2.St → XK) (f : En → Res (List D)) : TI := fun σ H R => ∃ B G0 G W en, SimH B G0 G W H ∧ SimS K W G H σ en ∧ wpR (f en) (fun ds => ∀ G' H' J, Step G H G' H' → IterOk K ds G' J → R J H') (PostX (E σ) G H)
def DI (X : Cx) (E : L2.St → XK) (tg e : Expr) (f : En → Res (List D)) : Prop := PI X tg e (tI X.K E f)
def Kept (ks : List Nat) (σ σ' : L2.St) : Prop := σ'.length = σ.length ∧ ∀ j, j ∉ ks → σ'[j]? = σ[j]?
def tG (K : PySem.W.Frag) (ks : List Nat) (f : D → En → Option En) : TG := fun v σ H Q => ∃ G W en d en', Same G H ∧ SimS K W G H σ en ∧ Rep K G v d ∧ f d en = some en' ∧ ∀ σ', SimS K W G H σ' en' → Kept ks σ σ' → Q σ' H
def tGs (K : PySem.W.Frag) (ks : List Nat) (f : List D → En → Option En) : TGs := fun vs σ H Q => ∃ G W en ds en', Same G H ∧ SimS K W G H σ en ∧ Reps K G vs ds ∧ f ds en = some en' ∧ ∀ σ', SimS K W G H σ' en' → Kept ks σ σ' → Q σ' H
def DG (X : Cx) (tg : Expr) (ks : List Nat) (f : D → En → Option En) : Prop := PG X tg (tG X.K ks f)
def DGs (X : Cx) (tg : List Expr) (ks : List Nat) (f : List D → En → Option En) : Prop := PGs X tg (tGs X.K ks f)
theorem Kept.trans {ks ls : List Nat} {σ σ1 σ2 : L2.St} (a : Kept ks σ σ1) (b : Kept ls σ1 σ2) : Kept (ks ++ ls) σ σ2 :=
 ⟨b.1.trans a.1, fun j hj => (b.2 j fun z => hj (List.mem_append_right _ z)).trans (a.2 j fun z => hj (List.mem_append_left _ z))⟩
def mgName (i : Nat) : D → En → Option En := fun d en => some (en.set i (some (.p d)))
def mgNil : List D → En → Option En := fun ds en => match ds with
 | [] => some en
 | _ => none
def mgCons (f : D → En → Option En) (g : List D → En → Option En) : List D → En → Option En := fun ds en => match ds with
 | [] => none
 | d :: r => match f d en with
  | none => none
  | some e => g r e
def mgTup (n : Nat) (f : List D → En → Option En) : D → En → Option En := fun d en => match d with
 | .tuple ds => if ds.length = n then f ds en else none
 | _ => none
section
variable {X : Cx} {E : L2.St → XK} {pos : Pos}
theorem DI.in {tg e : Expr} {f : En → Res (List D)} (h : ∃ t, PI X tg e t ∧ ∀ B G0 G W H σ en R, SimH B G0 G W H → SimS X.K W G H σ en → wpR (f en) (fun ds => ∀ G' H' J, Step G H G' H' → IterOk X.K ds G' J → R J H') (PostX (E σ) G H) → t σ H R) : DI X E tg e f :=
 fun pins s σ H R I ⟨B, G0, G, W, en, h1, h2, h3⟩ => let ⟨_, p, m⟩ := h; p pins s σ H R I (m B G0 G W H σ en R h1 h2 h3)
theorem dg_name {i : Nat} {x : Str} (hN : X.N.Nodup) (hi : X.N[i]? = some x) (hx : Loc X.env.scope x) (hf : X.fn x = true ∨ X.env.scope.names.lookup x = some .local := by first | exact .inl rfl | exact .inr rfl | assumption) : DG X (.Name x pos) [i] (mgName i) := by
 intro pins s σ H v u Q I r ⟨G, W, en, d, en', h1, h2, h3, h4, h5⟩
 refine pg_name hN hi hx hf pins s σ H v u Q I r ?_
 cases h4
 exact h5 _ (h2.set h3) ⟨List.length_set .., fun j hj => List.getElem?_set_ne (fun z => hj (by rw [z]; exact .head _))⟩
theorem dgs_nil : DGs X [] [] mgNil := by
 intro pins s σ H vs us Q I r ⟨G, W, en, ds, en', h1, h2, h3, h4, h5⟩
 refine pgs_nil pins s σ H vs us Q I r ?_
 unfold mgNil at h4
 split at h4
 ·cases h4; cases h3; exact ⟨rfl, h5 _ h2 ⟨rfl, fun _ _ => rfl⟩⟩
 ·cases h4
theorem dgs_cons {e : Expr} {es : List Expr} {ks ls : List Nat} {f : D → En → Option En} {g : List D → En → Option En} (h1 : DG X e ks f) (h2 : DGs X es ls g)
  (hs : (assignEach (e :: es) X.env).map (·.2) = assign e X.env :: (assignEach es X.env).map (·.2) := by rfl) : DGs X (e :: es) (ks ++ ls) (mgCons f g) := by
 intro pins s σ H vs us Q I r ⟨G, W, en, ds, en', k1, k2, k3, k4, k5⟩
 refine pgs_cons h1 h2 hs pins s σ H vs us Q I r ?_
 unfold mgCons at k4
 cases k3 with
 | nil => cases k4
 | @cons x xs d ds hx hr =>
  dsimp only at k4
  split at k4
  ·cases k4
  ·rename_i e1 q1
   exact ⟨x, xs, rfl, G, W, en, d, e1, k1, k2, hx, q1, fun σ' hσ hk => ⟨G, W, e1, ds, en', k1, hσ, hr, k4, fun σ2 q1 q2 => k5 σ2 q1 (hk.trans q2)⟩⟩
theorem dg_tup {es : List Expr} {k : Nat} {ks : List Nat} {f : List D → En → Option En} {n : Nat} (hc : X.calm = true) (h : DGs X es ks f) (hn : (assignEach es X.env).length = n := by rfl) (hst : (assignEach es X.env).findIdx? (·.1) = none := by rfl) : DG X (.Tuple es k pos) ks (mgTup n f) := by
 intro pins s σ H v u Q I r ⟨G, W, en, d, en', k1, k2, k3, k4, k5⟩
 refine pg_tup hc h hn hst pins s σ H v u Q I r ?_
 unfold mgTup at k4
 split at k4
 ·rename_i ds
  split at k4
  ·rename_i hl
   cases k3 with
   | @tup a xs _ ha hr => exact ⟨a, xs, rfl, SqT.of (k1 _ _ ha), by rw [hr.length]; exact hl, G, W, en, ds, en', k1, k2, hr, k4, k5⟩
  ·cases k4
 ·cases k4
def mLoop (tg : D → En → Option En) (f : MS) : List D → MS
 | [], en => some (.nx en)
 | d :: ds, en => match tg d en with
  | none => none
  | some e1 => match f e1 with
   | some (.nx e2) => mLoop tg f ds e2
   | some (.ct e2) => mLoop tg f ds e2
   | some (.bk e2) => some (.nx e2)
   | r => r
def mFor (fi : En → Res (List D)) (tg : D → En → Option En) (f : MS) : MS := fun en => match fi en with
 | .ok ds => mLoop tg f ds en
 | .exc C => some (.ex C en)
 | .bad => none
theorem SimH.lower {B G0 G1 G H H1 : Hp} {W W1 : Addr → Option Nat} (h : SimH B G1 G W H) (h1 : SimH B G0 G1 W1 H1) : SimH B G0 G W H :=
 ⟨h.gh, h.bh, h1.g0.trans h.g0, fun b hb => (h.gb b hb).elim (fun z => h1.gb b z) .inr, h.wf⟩
theorem SimH.raise {B G0 G H : Hp} {W : Addr → Option Nat} (h : SimH B G0 G W H) : SimH B G G W H := ⟨h.gh, h.bh, Same.refl _, fun _ hb => .inl hb, h.wf⟩
theorem PostS.lower {K : PySem.W.Frag} {B G0 G1 H1 : Hp} {W1 : Addr → Option Nat} {Dn : Ends} {r : Out} (h : PostS K B G0 E Dn r) (h1 : SimH B G0 G1 W1 H1) : PostS K B G1 E Dn r := by
 cases r with
 | nx en => exact fun G W H σ a b => h G W H σ (a.lower h1) b
 | bk en => exact fun G W H σ a b => h G W H σ (a.lower h1) b
 | ct en => exact fun G W H σ a b => h G W H σ (a.lower h1) b
 | rt l => exact fun G W H σ a b => h G W H σ (a.lower h1) b
 | ex C en => exact fun G W H σ a b => h G W H σ (a.lower h1) b
theorem ds_for {tg iter : Expr} {body : List Stmt} {fi : En → Res (List D)} {ks : List Nat} {g : D → En → Option En} {f : MS} (hp : PassesOwn (model X.prog X.w) X.A X.env X.xe) (hc : X.calm = true) (hi : DI X E tg iter fi) (hg : DG X tg ks g) (hb : DSs X E body f)
  (hs : ∀ x, foldedSetIterable iter X.env x = pure x := by intro _; rfl) : DS X E (.For tg iter body [] pos) (mFor fi g f) := by
 obtain ⟨t, p, m⟩ := hb.out
 refine DS.in ⟨_, ps_for hp hc hi hg p hs, fun B G0 G W H σ en Dn hh hs hw => ⟨B, G0, G, W, en, hh, hs, ?_⟩⟩
 unfold mFor at hw
 cases ef : fi en with
 | bad => rw [ef] at hw; exact hw
 | exc C => rw [ef] at hw; exact fun G1 H1 s => hw G1 W H1 σ (hh.step s) (hs.step s)
 | ok ds =>
  rw [ef] at hw
  intro G1 H1 J s1 hJ
  have hh1 := hh.step s1
  refine ⟨fun i n σ H => n = ds.length - i ∧ i ≤ ds.length ∧ ∃ G W en, SimH B G1 G W H ∧ SimS X.K W G H σ en ∧ wpO (mLoop g f (ds.drop i) en) (PostS X.K B G0 E Dn),
   ⟨ds.length, rfl, Nat.zero_le _, G1, W, en, hh1.raise, hs.step s1, hw⟩, ?_⟩
  rintro i n σ H ⟨rfl, hi, G, W, en, hh, hs, hw⟩
  obtain ⟨j1, j2⟩ := hJ G H hh.g0 hh.gh
  by_cases hlt : i < ds.length
  ·refine .inr ?_
   obtain ⟨jg, jy⟩ := j1 i ds[i] (List.getElem?_eq_getElem hlt)
   rw [List.drop_eq_getElem_cons hlt] at hw
   unfold mLoop at hw
   refine ⟨jg, fun σ' H' => ∃ G W en, SimH B G1 G W H' ∧ SimS X.K W G H' σ' en ∧ wpO (mLoop g f (ds.drop (i + 1)) en) (PostS X.K B G0 E Dn), fun σ' H' q => ⟨ds.length - (i + 1), by omega, rfl, hlt, q⟩, fun v H' hy => ?_⟩
   obtain ⟨G2, s2, rv⟩ := jy v H' hy
   cases eg : g ds[i] en with
   | none => rw [eg] at hw; exact hw.elim
   | some e1 =>
    rw [eg] at hw
    dsimp only at hw
    refine ⟨G2, W, en, ds[i], e1, s2.gh, hs.step s2, rv, eg, fun σ' hσ _ => ?_⟩
    refine m B G1 G2 W H' σ' e1 _ (hh.step s2) hσ ?_
    cases ef2 : f e1 with
    | none => rw [ef2] at hw; exact hw
    | some o =>
     rw [ef2] at hw
     cases o with
     | nx e => exact fun G2 W2 H2 σ2 h2 s2 => ⟨G2, W2, e, h2, s2, hw⟩
     | ct e => exact fun G2 W2 H2 σ2 h2 s2 => ⟨G2, W2, e, h2, s2, hw⟩
     | bk e => exact PostS.lower (E := E) (Dn := Dn) (r := .nx e) hw hh1
     | rt l => exact PostS.lower (E := E) (Dn := Dn) (r := .rt l) hw hh1
     | ex C e => exact PostS.lower (E := E) (Dn := Dn) (r := .ex C e) hw hh1
  ·have e : i = ds.length := by omega
   subst e
   rw [List.drop_length] at hw
   exact .inl ⟨j2, hw G W H σ (hh.lower hh1) hs⟩
def listR (r : Ev) : Res (List D) := match r with
 | .p (.list ds) => .ok ds
 | _ => .bad
def mItL (fe : En → Res Ev) : En → Res (List D) := fun en => (fe en).bind fun r => listR r.c
theorem di_list {tg e : Expr} {fe : En → Res Ev} (he : DE X E e fe) : DI X E tg e (mItL fe) := by
 obtain ⟨t, p, m⟩ := he.out
 refine DI.in ⟨_, pi_list p, fun B G0 G W H σ en R hh hs hw => m B G0 G W H σ en _ hh hs ?_⟩
 have hw : wpR ((fe en).bind _) _ _ := hw
 rw [wpR_bind] at hw
 refine wpR_mono hw (fun r hr G1 H1 v s e => ?_) fun C h => h
 obtain ⟨G2, s2, e2⟩ := e.c s
 cases er : r.c with
 | p d =>
  rw [er] at hr e2
  cases d with
  | list ds =>
   cases e2 with
   | @lst a xs _ ha hrs =>
    refine ⟨a, rfl, ⟨xs, s2.gh.seq (.inl ha)⟩, hr G2 H1 _ s2 fun G3 H3 k1 k2 => ⟨fun i d ed => ?_, xs, (k1.trans k2).seq (.inl ha), Nat.le_of_eq hrs.length⟩⟩
    obtain ⟨x, ex, rx⟩ := hrs.get' ed
    refine ⟨⟨xs, x, (k1.trans k2).seq (.inl ha), ex⟩, fun v H' hy => ?_⟩
    obtain ⟨rfl, hy⟩ := hy
    have := hy xs ((k1.trans k2).seq (.inl ha))
    rw [ex] at this
    cases this
    exact ⟨G3, Step.refl k2, rx.mono k1⟩
  | _ => exact False.elim hr
 | f d => rw [er] at hr; exact False.elim hr
 | b d => rw [er] at hr; exact False.elim hr
 | x C => rw [er] at hr; exact False.elim hr
def rngL (lo : Int) (n : Nat) : List D := (List.range n).map fun (k : Nat) => PyData.int (lo + (k : Int))
def rng1R (rs : List Ev) : Res (List D) := match rs with
 | [.p (.int j)] => if -(2 ^ 62) ≤ j ∧ j < 2 ^ 62 then .ok (rngL 0 j.toNat) else .bad
 | _ => .bad
theorem iter_range (K : PySem.W.Frag) (lo : Int) (n : Nat) (G1 : Hp) : IterOk K (rngL lo n) G1 (Itr lo n) := fun G H _ k2 => by
 refine ⟨fun i d ed => ?_, by show n ≤ _; unfold rngL; rw [List.length_map, List.length_range]; exact Nat.le_refl _⟩
 unfold rngL at ed
 rw [List.getElem?_map] at ed
 by_cases hi : i < n
 ·rw [List.getElem?_range hi] at ed
  cases ed
  refine ⟨hi, fun v H' hy => ?_⟩
  obtain ⟨rfl, rfl⟩ := hy
  exact ⟨G, Step.refl k2, .int _⟩
 ·rw [List.getElem?_eq_none (by rw [List.length_range]; omega)] at ed
  cases ed
def mItA (r : List Ev → Res (List D)) (fr : En → Res (List Ev)) : En → Res (List D) := fun en => (fr en).bind r
theorem di_range1 {tg a : Expr} {fr : En → Res (List Ev)} {p : Pos} (hg : Gl X "range") (hm : X.mg "range" = none) (ha : DA X E [a] fr) (hs : starEach [a] X.env = [(false, eval a X.env)] := by rfl) : DI X E tg (.Call (.Name "range" p) [a] [] pos) (mItA rng1R fr) := by
 obtain ⟨t, q, m⟩ := ha.out
 refine DI.in ⟨_, pi_range1 hg hm q hs, fun B G0 G W H σ en R hh hs hw => m B G0 G W H σ en _ hh hs ?_⟩
 have hw : wpR ((fr en).bind _) _ _ := hw
 rw [wpR_bind] at hw
 refine wpR_mono hw (fun rs hr G1 H1 vs s e => ?_) fun C h => h
 unfold rng1R at hr
 split at hr
 ·rename_i j
  split at hr
  ·rename_i hj
   match vs, e with
   | [v], ⟨e1, _⟩ =>
    cases e1
    exact ⟨j, rfl, hj.1, hj.2, hr G1 H1 _ s (iter_range _ _ _ _)⟩
  ·exact False.elim hr
 ·exact False.elim hr
end
def argL : Ev → Option L
 | .p d => some (.p d)
 | .x C => some (.x C)
 | .b _ => none
 | .f _ => none
def argB : Ev → Option L
 | .p d => some (.p d)
 | .b d => some (.p d)
 | .x _ => none
 | .f _ => none
def argsL (g : Ev → Option L) : List Ev → Option (List L)
 | [] => some []
 | r :: rs => match g r with
  | none => none
  | some l => match argsL g rs with
   | none => none
   | some ls => some (l :: ls)
def retE : L → Ev
 | .p d => .p d
 | .o d => .f d
 | .x C => .x C
 | .h a => .x a
mutual
def lfD : D → Bool
 | .list _ => false
 | .dict _ => false
 | .tuple ds => lfA ds
 | _ => true
def lfA : List D → Bool
 | [] => true
 | d :: ds => lfD d && lfA ds
end
def lfP : List (D × D) → Bool
 | [] => true
 | p :: r => lfD p.2 && lfP r
def flatL : L → Bool
 | .p d => lfD d
 | .o (.list ds) => lfA ds
 | .o (.dict kvs) => lfP kvs
 | _ => false
def callR (n : Nat) (m : List L → Res L) (rs : List Ev) : Res Ev := match argsL argL rs with
 | some ls => if ls.length = n then (m ls).bind fun l => .ok (retE l) else .bad
 | none => match argsL argB rs with
  | some ls => if ls.length = n then (m ls).bind fun l => if flatL l = true then .ok (retE l) else .bad else .bad
  | none => .bad
def mCall (n : Nat) (m : List L → Res L) (fr : En → Res (List Ev)) : En → Res Ev := fun en => (fr en).bind (callR n m)
def ArgOk (K : PySem.W.Frag) (G : Hp) (v : V) : L → Prop
 | .p d => Rep K G v d
 | .o _ => False
 | .x C => ∃ e, v = .ref e ∧ G e = some (excO e (.ref C))
 | .h _ => False
def ArgsOk (K : PySem.W.Frag) (G : Hp) : List V → List L → Prop
 | [], [] => True
 | v :: vs, l :: ls => ArgOk K G v l ∧ ArgsOk K G vs ls
 | _, _ => False
theorem ArgsOk.length {K : PySem.W.Frag} {G : Hp} : ∀ {vs : List V} {ls : List L}, ArgsOk K G vs ls → vs.length = ls.length
 | [], [], _ => rfl
 | _ :: _, _ :: _, h => by rw [List.length_cons, List.length_cons, ArgsOk.length h.2]
def spM (K : PySem.W.Frag) (n : Nat) (m : List L → Res L) : Sp := fun vs H Q E => vs.length = n ∧ ∃ G ls, Same G H ∧ ArgsOk K G vs ls ∧
 wpR (m ls) (fun l => ∀ G' H' v, Step G H G' H' → RetOk K H G' H' v l → Q v H') (fun C => ∀ G' H', Step G H G' H' → E (.ref C) none H')
theorem args_L {K : PySem.W.Frag} {W : Addr → Option Nat} {Hs G H : Hp} : ∀ {rs : List Ev} {ls : List L} {vs : List V}, argsL argL rs = some ls → EOks K W Hs G H vs rs → ArgsOk K G vs ls
 | [], _, [], h, _ => by cases h; exact trivial
 | [], _, _ :: _, _, e => e.elim
 | _ :: _, _, [], _, e => e.elim
 | r :: rs, ls, v :: vs, h, e => by
  unfold argsL at h
  cases r with
  | p d =>
   cases er : argsL argL rs with
   | none => rw [er] at h; cases h
   | some ls' => rw [er] at h; cases h; exact ⟨e.1, args_L er e.2⟩
  | x C =>
   cases er : argsL argL rs with
   | none => rw [er] at h; cases h
   | some ls' => rw [er] at h; cases h; exact ⟨e.1, args_L er e.2⟩
  | b d => cases h
  | f d => cases h
def both (W : Addr → Option Nat) (G H : Hp) : Hp := fun b => match W b with
 | some _ => H b
 | none => G b
theorem both_same {W : Addr → Option Nat} {B G0 G H : Hp} (hh : SimH B G0 G W H) : Same G (both W G H) ∧ Same (both W G H) H := by
 refine ⟨fun b o e => ?_, fun b o e => ?_⟩
 ·unfold both
  cases ew : W b with
  | none => exact e
  | some i => rw [(hh.wf b i ew).1] at e; cases e
 ·unfold both at e
  cases ew : W b with
  | none => rw [ew] at e; exact hh.gh b o e
  | some i => rw [ew] at e; exact e
theorem args_B {K : PySem.W.Frag} {W : Addr → Option Nat} {Hs B G0 G H : Hp} (hh : SimH B G0 G W H) : ∀ {rs : List Ev} {ls : List L} {vs : List V}, argsL argB rs = some ls → EOks K W Hs G H vs rs → ArgsOk K (both W G H) vs ls
 | [], _, [], h, _ => by cases h; exact trivial
 | [], _, _ :: _, _, e => e.elim
 | _ :: _, _, [], _, e => e.elim
 | r :: rs, ls, v :: vs, h, e => by
  unfold argsL at h
  cases r with
  | p d =>
   cases er : argsL argB rs with
   | none => rw [er] at h; cases h
   | some ls' => rw [er] at h; cases h; exact ⟨Rep.mono (both_same hh).1 e.1, args_B hh er e.2⟩
  | b d =>
   cases er : argsL argB rs with
   | none => rw [er] at h; cases h
   | some ls' =>
    rw [er] at h; cases h
    refine ⟨?_, args_B hh er e.2⟩
    obtain ⟨a, i, o, rfl, h1, h2, h3⟩ := e.1
    exact (h3.mono (both_same hh).1).rep (by unfold both; rw [h1]; exact h2)
  | x d => cases h
  | f d => cases h
mutual
theorem lf_rep {K : PySem.W.Frag} {G G' : Hp} (k : ∀ b xs, G b = some (.tup xs) → G' b = some (.tup xs)) : ∀ {v : V} {d : D}, lfD d = true → Rep K G v d → Rep K G' v d
 | _, _, _, .non => .non
 | _, _, _, .bl b => .bl b
 | _, _, _, .int i => .int i
 | _, _, _, .str x => .str x
 | _, _, hf, .tup h r => .tup (k _ _ h) (lf_reps k (by unfold lfD at hf; exact hf) r)
 | _, _, hf, .lst _ _ => by unfold lfD at hf; cases hf
 | _, _, hf, .dT _ _ => by unfold lfD at hf; cases hf
 | _, _, hf, .dK _ _ => by unfold lfD at hf; cases hf
theorem lf_reps {K : PySem.W.Frag} {G G' : Hp} (k : ∀ b xs, G b = some (.tup xs) → G' b = some (.tup xs)) : ∀ {vs : List V} {ds : List D}, lfA ds = true → Reps K G vs ds → Reps K G' vs ds
 | _, _, _, .nil => .nil
 | _, _, hf, .cons h r => by
  unfold lfA at hf
  have hf := Bool.and_eq_true_iff.mp hf
  exact .cons (lf_rep k hf.1 h) (lf_reps k hf.2 r)
end
theorem lf_repT {K : PySem.W.Frag} {G G' : Hp} (k : ∀ b xs, G b = some (.tup xs) → G' b = some (.tup xs)) : ∀ {kv : List (List Key × V)} {kvs : List (D × D)}, lfP kvs = true → RepT K G kv kvs → RepT K G' kv kvs
 | _, _, _, .nil => .nil
 | _, _, hf, .cons h r => by
  unfold lfP at hf
  have hf := Bool.and_eq_true_iff.mp hf
  exact .cons (lf_rep k hf.1 h) (lf_repT k hf.2 r)
theorem lf_repK {K : PySem.W.Frag} {G G' : Hp} (k : ∀ b xs, G b = some (.tup xs) → G' b = some (.tup xs)) : ∀ {kv : List (Key × V)} {kvs : List (D × D)}, lfP kvs = true → RepK K G kv kvs → RepK K G' kv kvs
 | _, _, _, .nil => .nil
 | _, _, hf, .cons h r => by
  unfold lfP at hf
  have hf := Bool.and_eq_true_iff.mp hf
  exact .cons (lf_rep k hf.1 h) (lf_repK k hf.2 r)
def lessW (W : Addr → Option Nat) (G : Hp) : Hp := fun b => match W b with
 | some _ => none
 | none => G b
theorem flat_rep {K : PySem.W.Frag} {W : Addr → Option Nat} {H1 G H Hs : Hp} {v : V} {l : L} (hf : flatL l = true) (hH : Hs = Hs) (hs : ∀ b, H1 b = none → Hs b = none) (k : ∀ b xs, G b = some (.tup xs) → lessW W G b = some (.tup xs)) (h : RetOk K H1 G H v l) : EOk K W Hs (lessW W G) H v (retE l) := by
 have n0 : ∀ b, G b = none → lessW W G b = none := fun b e => by
  unfold lessW
  cases W b with
  | none => exact e
  | some _ => rfl
 cases l with
 | x C => cases hf
 | h a => cases hf
 | p d => exact lf_rep k hf h
 | o d =>
  obtain ⟨a, o, rfl, h1, h2, h3, h4⟩ := h
  refine ⟨a, o, rfl, hs _ h2, n0 _ h1, h3, ?_⟩
  cases h4 with
  | lst r => exact .lst (lf_reps k hf r)
  | dT r => exact .dT (lf_repT k hf r)
  | dK r => exact .dK (lf_repK k (by unfold flatL at hf; unfold lfP at hf; exact (Bool.and_eq_true_iff.mp hf).2) r)
theorem call_core {K : PySem.W.Frag} {W : Addr → Option Nat} {B G0 G H G1 H1 : Hp} {n : Nat} {m : List L → Res L} {rs : List Ev} {vs : List V} {Q : VK} {EE : XK} (hh : SimH B G0 G W H) (s : Step G H G1 H1) (e : EOks K W H G1 H1 vs rs)
  (hr : wpR (callR n m rs) (PostE K W G H Q) (PostX EE G H)) : spM K n m vs H1 Q EE := by
 unfold callR at hr
 split at hr
 ·rename_i ls el
  split at hr
  ·rename_i hn
   have ha := args_L el e
   refine ⟨by rw [ha.length]; exact hn, G1, ls, s.gh, ha, ?_⟩
   rw [wpR_bind] at hr
   refine wpR_mono hr (fun l hl G2 H2 v s2 rv => hl G2 H2 v (s.trans s2) ?_) fun C h G2 H2 s2 => h G2 H2 (s.trans s2)
   cases l with
   | p d => exact rv
   | x C => exact rv
   | h a => exact rv.elim
   | o d =>
    obtain ⟨a, o, h1, h2, h3, h4, h5⟩ := rv
    exact ⟨a, o, h1, s.h.free h3, h2, h4, h5⟩
  ·exact hr.elim
 ·split at hr
  ·rename_i ls el
   split at hr
   ·rename_i hn
    have hh1 := hh.step s
    have ha := args_B hh1 el e
    obtain ⟨k1, k2⟩ := both_same hh1
    refine ⟨by rw [ha.length]; exact hn, both W G1 H1, ls, k2, ha, ?_⟩
    rw [wpR_bind] at hr
    refine wpR_mono hr (fun l hl G2 H2 v s2 rv => ?_) fun C h G2 H2 s2 => h G1 H2 (s.trans ⟨Same.refl _, s2.h, s.gh.trans s2.h, fun _ _ q => .inl q⟩)
    split at hl
    ·rename_i hf
     have kt : ∀ b xs, G2 b = some (.tup xs) → lessW W G2 b = some (.tup xs) := fun b xs eb => by
      unfold lessW
      cases ew : W b with
      | none => exact eb
      | some i =>
       obtain ⟨_, _, o, e1, e2⟩ := hh1.wf b i ew
       have e3 := s2.gh _ _ eb
       rw [s2.h _ _ e1] at e3
       exact absurd (Option.some.inj e3) (e2 xs)
     refine hl (lessW W G2) H2 v ⟨fun b o eb => ?_, s.h.trans s2.h, fun b o eb => ?_, fun b hb hg => ?_⟩ (flat_rep hf rfl (fun b e => s.h.free e) kt rv)
     ·have e1 := s.g _ _ eb
      unfold lessW
      cases ew : W b with
      | none => exact s2.g _ _ (k1 _ _ e1)
      | some i => rw [(hh1.wf b i ew).1] at e1; cases e1
     ·unfold lessW at eb
      cases ew : W b with
      | none => rw [ew] at eb; exact s2.gh _ _ eb
      | some i => rw [ew] at eb; cases eb
     ·unfold lessW
      cases ew : W b with
      | some i => exact .inl rfl
      | none =>
       rcases s.new b hb hg with z | z
       ·have z2 : both W G1 H1 b = none := by unfold both; rw [ew]; exact z
        rcases s2.new b (same_ne s.h hb) z2 with y | ⟨xs, y⟩
        ·exact .inl y
        ·cases e : H b with
         | none => exact absurd e hb
         | some o => rw [s.h _ _ e] at y; exact .inr ⟨xs, y⟩
       ·exact .inr z
    ·exact hl.elim
   ·exact hr.elim
  ·exact hr.elim
section
variable {X : Cx} {E : L2.St → XK} {k : Nat} {f : Addr} {fd : FuncData} {ps : List Str} {x : Str} {p pos : Pos} {e : Expr} {es : List Expr} {fr : En → Res (List Ev)} {n : Nat} {m : List L → Res L}
theorem de_call (F : FnOk X.prog X.w X.K X.mg X.base (CXr X.prog X.w) k f fd ps (spM X.K n m)) (hr : Room k X.A) (hg : Gl X x) (hm : X.mg x = some (.ref f)) (hk : PySem.W.keepIn X.K (.ref f) = true) (hb : Binds X.K fd ps []) (hx : PassesS (CXr X.prog X.w) X E)
  (ha : DA X E (e :: es) fr) (hdb : (x == ("__debug__" : Str)) = false := by decide) (he : starEach (e :: es) X.env = (false, eval e X.env) :: starEach es X.env := by rfl) (hpl : (backTo pos (starEach es X.env)).any (·.1) = false := by rfl) :
  DE X E (.Call (.Name x p) (e :: es) [] pos) (mCall n m fr) := by
 obtain ⟨t, q, mm⟩ := ha.out
 refine DE.in ⟨_, pe_callS F hr hg hm hk hb hx q hdb he hpl, fun B G0 G W H σ en Q hh hs hw => mm B G0 G W H σ en _ hh hs ?_⟩
 have hw : wpR ((fr en).bind _) _ _ := hw
 rw [wpR_bind] at hw
 exact wpR_mono hw (fun rs hr G1 H1 vs s e => call_core hh s e hr) fun C h => h
def CallM (K : PySem.W.Frag) (r : List V → Hp → VK → Prop) (f : List Ev → Res Ev) : Prop := ∀ (W : Addr → Option Nat) (Hs G H : Hp) (vs : List V) (rs : List Ev) (Q : VK), Same G H → EOks K W Hs G H vs rs → wpR (f rs) (PostE K W G H Q) (fun _ => False) → r vs H Q
def NoXs (f : List Ev → Res Ev) : Prop := ∀ rs C, f rs ≠ .exc C
def mCallB (f : List Ev → Res Ev) (fr : En → Res (List Ev)) : En → Res Ev := fun en => (fr en).bind f
theorem callB_core {r : List V → Hp → VK → Prop} {f : List Ev → Res Ev} {t : TA} (hm : CallM X.K r f) (hn : NoXs f) (mm : ∀ B G0 G W H σ en Q, SimH B G0 G W H → SimS X.K W G H σ en → wpR (fr en) (PostA X.K W G H Q) (PostX (E σ) G H) → t σ H Q) :
  ∀ B G0 G W H σ en Q, SimH B G0 G W H → SimS X.K W G H σ en → wpR (mCallB f fr en) (PostE X.K W G H Q) (PostX (E σ) G H) → tCB r t σ H Q := by
 intro B G0 G W H σ en Q hh hs hw
 refine mm B G0 G W H σ en _ hh hs ?_
 have hw : wpR ((fr en).bind _) _ _ := hw
 rw [wpR_bind] at hw
 exact wpR_mono hw (fun rs hr G1 H1 vs s e => hm W H G1 H1 vs rs Q s.gh e (noX (wpR_mono hr (fun _ h => h.step s) fun _ h => h) (hn rs))) fun C h => h
theorem de_callB {id : String} {r : List V → Hp → VK → Prop} {f : List Ev → Res Ev} (hc : CallR X (.builtin id) r) (hM : CallM X.K r f) (hn : NoXs f) (hg : Gl X x) (hm : X.mg x = none) (hv : bootBuiltins x = some (.builtin id)) (ha : DA X E (e :: es) fr) (hnn : x ≠ "__name__" := by decide) (hdb : (x == ("__debug__" : Str)) = false := by decide)
  (he : starEach (e :: es) X.env = (false, eval e X.env) :: starEach es X.env := by rfl) (hpl : (backTo pos (starEach es X.env)).any (·.1) = false := by rfl) : DE X E (.Call (.Name x p) (e :: es) [] pos) (mCallB f fr) := by
 obtain ⟨t, q, mm⟩ := ha.out
 exact DE.in ⟨_, pe_callB hc hg hm hv q hnn hdb he hpl, callB_core hM hn mm⟩
theorem de_callTy {T : String} {r : List V → Hp → VK → Prop} {f : List Ev → Res Ev} (hc : CallR X (.type T) r) (hM : CallM X.K r f) (hn : NoXs f) (hg : Gl X x) (hm : X.mg x = none) (hv : bootBuiltins x = some (.type T)) (ha : DA X E (e :: es) fr) (hnn : x ≠ "__name__" := by decide) (hdb : (x == ("__debug__" : Str)) = false := by decide)
  (he : starEach (e :: es) X.env = (false, eval e X.env) :: starEach es X.env := by rfl) (hpl : (backTo pos (starEach es X.env)).any (·.1) = false := by rfl) : DE X E (.Call (.Name x p) (e :: es) [] pos) (mCallB f fr) := by
 obtain ⟨t, q, mm⟩ := ha.out
 exact DE.in ⟨_, pe_callTy hc hg hm hv q hnn hdb he hpl, callB_core hM hn mm⟩
end
def startE (n : Nat) (ls : List L) : En := ls.map some ++ List.replicate (n - ls.length) none
def runF (n : Nat) (f : MS) (ls : List L) : Res L := match f (startE n ls) with
 | some (.nx _) => .ok (.p .none)
 | some (.rt l) => .ok l
 | some (.ex C _) => .exc C
 | _ => .bad
theorem args_slots {K : PySem.W.Frag} {W : Addr → Option Nat} {G H : Hp} : ∀ {vs : List V} {ls : List L} (i : Nat) (l : L), ArgsOk K G vs ls → ls[i]? = some l → ∃ v, vs[i]? = some v ∧ ∀ j, Slot K W G H j v l
 | [], [], _, _, _, e => by simp at e
 | v :: vs, l :: ls, 0, m, h, e => by
  simp at e; subst e
  refine ⟨v, rfl, fun j => ?_⟩
  have z := h.1
  cases l with
  | p d => exact z
  | x C => exact z
  | h a => exact z.elim
  | o d => exact z.elim
 | v :: vs, l :: ls, i + 1, m, h, e => by
  have := args_slots (W := W) (H := H) i m h.2 (by simpa using e)
  simpa using this
theorem start_sim {K : PySem.W.Frag} {W : Addr → Option Nat} {G H : Hp} {N : List Str} {vs : List V} {ls : List L} (h : ArgsOk K G vs ls) : SimS K W G H (L2.start N vs) (startE N.length ls) := by
 have hl := h.length
 refine ⟨by unfold L2.start startE; simp [hl], fun i l e => ?_⟩
 unfold startE at e
 by_cases hi : i < ls.length
 ·rw [List.getElem?_append_left (by rw [List.length_map]; exact hi), List.getElem?_map] at e
  cases e2 : ls[i]? with
  | none => rw [e2] at e; cases e
  | some l' =>
   rw [e2] at e
   cases e
   obtain ⟨v, e3, e4⟩ := args_slots (W := W) (H := H) i l h e2
   refine ⟨v, ?_, e4 i⟩
   unfold L2.start
   rw [List.getElem?_append_left (by rw [List.length_map, hl]; exact hi), List.getElem?_map, e3]
   rfl
 ·rw [List.getElem?_append_right (by rw [List.length_map]; omega), List.getElem?_replicate] at e
  split at e <;> cases e
theorem step_of {G H G' H' : Hp} {W : Addr → Option Nat} (h : SimH H G G' W H') : Step G H G' H' := ⟨h.g0, h.bh, h.gh, fun b hb hg => by
 cases e : G' b with
 | none => exact .inl rfl
 | some o =>
  rcases h.gb b (by rw [e]; exact fun z => nomatch z) with z | z | z
  ·exact absurd hg z
  ·exact absurd z hb
  ·exact .inr z⟩
theorem body_core {K : PySem.W.Frag} {N : List Str} {n : Nat} {m : List L → Res L} {fm : MS} {vs : List V} {H : Hp} {Q : VK} {E : XK} (h : spM K n m vs H Q E) (hm : ∀ ls, m ls = .bad ∨ runF N.length fm ls = m ls) :
  tS K (fun _ => E) fm { nx := fun _ H' => Q .non H', rt := Q } (L2.start N vs) H := by
 obtain ⟨hl, G, ls, gh, ha, hw⟩ := h
 refine ⟨H, G, G, fun _ => none, startE N.length ls, ⟨gh, Same.refl _, Same.refl _, fun _ hb => .inl hb, fun a i e => nomatch e⟩, start_sim ha, ?_⟩
 rcases hm ls with e | e
 ·rw [e] at hw; exact hw.elim
 ·rw [← e] at hw
  unfold runF at hw
  cases ef : fm (startE N.length ls) with
  | none => rw [ef] at hw; exact hw
  | some o =>
   rw [ef] at hw
   cases o with
   | nx en => exact fun G' W' H' σ' h1 _ => hw G' H' .non (step_of h1) .non
   | rt l => exact fun G' W' H' v h1 h2 => hw G' H' v (step_of h1) h2
   | bk en => exact hw.elim
   | ct en => exact hw.elim
   | ex C en => exact fun G' W' H' σ' h1 _ => hw G' H' (step_of h1)
section
variable {P : Program} {w : World} {K : PySem.W.Frag} {mg : Str → Option Value} {base : Heap}
theorem passS {N : List Str} {qual : Str} {scope : Scope} {f : Addr} {cd : Value} {A : Around} {outer : List Env} {s : Shared} {H : Hp} {E : XK} : PassesS (CXr P w) (cxOf (CXr P w) P w K mg base N qual scope f cd A outer s H E) (fun _ => E) :=
 fun pins σ H s e s' I h => passR pins σ H s e s' I h
theorem passF {X : Cx} : PassesS (CXr P w) X (fun _ => E0) := fun _ _ _ _ _ _ _ ⟨_, _, _, _, _, _, _, z⟩ => z.elim
theorem fnM {x qual : Str} {st : Stmt} {f : Addr} {fd : FuncData} {N ps : List Str} {k n : Nat} {m : List L → Res L} (F : Fun K x qual st f fd) (S : FnScope N ps (defScope st)) (hn : n = ps.length)
  (hbody : ∀ (cdv : Value) (A : Around) (outer : List Env) (s : Shared) (H : Hp) (E : XK), Room k (A.deeper (envOfC qual (defScope st) s.heap.objs.size f cdv)) →
   ∃ fm, DSs (cxOf (CXr P w) P w K mg base N qual (defScope st) f cdv A outer s H E) (fun _ => E) (defBody st) fm ∧ ∀ ls, m ls = .bad ∨ runF N.length fm ls = m ls) : FnOk P w K mg base (CXr P w) (k + 1) f fd ps (spM K n m) := by
 refine F.okX S (fun vs H Q E h => ?_) (fun cdv A outer s H vs Q E hr h => ?_)
 ·rw [← hn]; exact h.1
 ·obtain ⟨fm, hd, hm⟩ := hbody cdv A outer s H E hr
  exact ⟨_, hd, body_core h hm⟩
end
def mRaise (C : Addr) (fr : En → Res (List Ev)) : MS := fun en => match fr en with
 | .ok rs => if rs.length ≤ 1000 then some (.ex C en) else none
 | .exc C => some (.ex C en)
 | .bad => none
theorem EOks.length {K : PySem.W.Frag} {W : Addr → Option Nat} {Hs G H : Hp} : ∀ {vs : List V} {rs : List Ev}, EOks K W Hs G H vs rs → vs.length = rs.length
 | [], [], _ => rfl
 | [], _ :: _, h => h.elim
 | _ :: _, [], h => h.elim
 | _ :: _, _ :: _, h => by rw [List.length_cons, List.length_cons, EOks.length h.2]
section
variable {X : Cx}
theorem ds_raise {E : XK} {x : Str} {e₀ : Expr} {rest : List Expr} {fr : En → Res (List Ev)} {C : Addr} {bm : List Value} {B newId initId : String} {np cpos pos : Pos} (hx : Raises X E) (hc : X.calm = true) (hg : Gl X x) (O : OwnCls x C bm newId X.mg X.base)
  (FB : ExcBaseFacts B newId initId bm) (ha : DA X (fun _ => E) (e₀ :: rest) fr) (hdb : (x == ("__debug__" : Str)) = false := by decide)
  (he : starEach (e₀ :: rest) X.env = (false, eval e₀ X.env) :: starEach rest X.env := by rfl) (hpl : (backTo cpos (starEach rest X.env)).any (·.1) = false := by rfl) :
  DS X (fun _ => E) (.Raise (some (.Call (.Name x np) (e₀ :: rest) [] cpos)) none pos) (mRaise C fr) := by
 obtain ⟨t, q, m⟩ := ha.out
 refine DS.in ⟨_, ps_raise hx hc hg O FB q hdb he hpl, fun B G0 G W H σ en Dn hh hs hw => m B G0 G W H σ en _ hh hs ?_⟩
 unfold mRaise at hw
 cases ef : fr en with
 | bad => rw [ef] at hw; exact hw
 | exc C => rw [ef] at hw; exact fun G1 H1 s => hw G1 W H1 σ (hh.step s) (hs.step s)
 | ok rs =>
  rw [ef] at hw
  intro G1 H1 vs s e
  dsimp only at hw
  split at hw
  ·rename_i hl
   exact ⟨by rw [e.length]; exact Nat.le_trans hl (by decide), hw G1 W H1 σ (hh.step s) (hs.step s)⟩
  ·exact hw.elim
end
def pureL : List Ev → Option (List D)
 | [] => some []
 | r :: rs => match r with
  | .p d => match pureL rs with
   | some ds => some (d :: ds)
   | none => none
  | _ => none
theorem pure_reps {K : PySem.W.Frag} {W : Addr → Option Nat} {Hs G H : Hp} : ∀ {rs : List Ev} {ds : List D} {vs : List V}, pureL rs = some ds → EOks K W Hs G H vs rs → Reps K G vs ds
 | [], _, [], h, _ => by cases h; exact .nil
 | [], _, _ :: _, _, e => e.elim
 | _ :: _, _, [], _, e => e.elim
 | r :: rs, ds, v :: vs, h, e => by
  unfold pureL at h
  cases r with
  | p d =>
   dsimp only at h
   cases er : pureL rs with
   | none => rw [er] at h; cases h
   | some ds' => rw [er] at h; cases h; exact .cons e.1 (pure_reps er e.2)
  | x C => cases h
  | b d => cases h
  | f d => cases h
def tupR' (rs : List Ev) : Res Ev := match pureL rs with
 | some ds => if ds.length ≤ 1000 then .ok (.p (.tuple ds)) else .bad
 | none => .bad
def lstR' (rs : List Ev) : Res Ev := match pureL rs with
 | some ds => if ds.length ≤ 1000 then .ok (.f (.list ds)) else .bad
 | none => .bad
section
variable {X : Cx} {E : L2.St → XK} {es : List Expr} {fr : En → Res (List Ev)} {pos : Pos}
theorem de_tup {x1} (h : DA X E es fr) : DE X E (.Tuple es x1 pos) (mCallB tupR' fr) := by
 obtain ⟨t, q, m⟩ := h.out
 refine DE.in ⟨_, pe_tup q, fun B G0 G W H σ en Q hh hs hw => m B G0 G W H σ en _ hh hs ?_⟩
 have hw : wpR ((fr en).bind _) _ _ := hw
 rw [wpR_bind] at hw
 refine wpR_mono hw (fun rs hr G1 H1 vs s e => ?_) fun C h => h
 unfold tupR' at hr
 split at hr
 ·rename_i ds el
  have rp := pure_reps el e
  split at hr
  ·rename_i hl
   refine ⟨by rw [rp.length]; exact Nat.le_trans hl (by decide), fun p hp => ?_⟩
   have st := Step.put (o := .tup vs) s.gh hp
   exact hr _ _ _ (s.trans st) (.tup upd_same (rp.mono st.g))
  ·exact False.elim hr
 ·exact False.elim hr
theorem de_lst (h : DA X E es fr) : DE X E (.List es pos) (mCallB lstR' fr) := by
 obtain ⟨t, q, m⟩ := h.out
 refine DE.in ⟨_, pe_lst q, fun B G0 G W H σ en Q hh hs hw => m B G0 G W H σ en _ hh hs ?_⟩
 have hw : wpR ((fr en).bind _) _ _ := hw
 rw [wpR_bind] at hw
 refine wpR_mono hw (fun rs hr G1 H1 vs s e => ?_) fun C h => h
 unfold lstR' at hr
 split at hr
 ·rename_i ds el
  have rp := pure_reps el e
  split at hr
  ·rename_i hl
   refine ⟨by rw [rp.length]; exact Nat.le_trans hl (by decide), fun p hp => ?_⟩
   have st := Step.lay (o := .lst vs) s.gh hp
   exact hr _ _ _ (s.trans st) ⟨p, _, rfl, s.h.free hp, s.gh.free hp, upd_same, .lst rp⟩
  ·exact False.elim hr
 ·exact False.elim hr
end
def mapO (g : D → Option (Option D)) : List D → Option (List D)
 | [] => some []
 | d :: ds => match g d with
  | none => none
  | some o => match mapO g ds with
   | none => none
   | some r => some (match o with
    | some y => y :: r
    | none => r)
def capO (o : Option (Option L)) : Option L := match o with
 | some (some (.p d)) => some (.p d)
 | some (some (.x C)) => some (.x C)
 | _ => none
def capE (js : List Nat) (en : En) : En := js.map fun j => capO en[j]?
def mYes : En → Res Bool := fun _ => .ok true
def compItem (n : Nat) (js : List Nat) (tg : D → En → Option En) (ft : En → Res Bool) (fe : En → Res Ev) (en : En) (d : D) : Option (Option D) := match tg d (List.replicate n none ++ capE js en) with
 | none => none
 | some e => match ft e with
  | .ok true => match fe e with
   | .ok r => match r.c with
    | .p y => some (some y)
    | _ => none
   | _ => none
  | .ok false => some none
  | _ => none
def compR (g : D → Option (Option D)) (ds : List D) : Res Ev := if ds.length ≤ 100000 then match mapO g ds with
  | some r => .ok (.f (.list r))
  | none => .bad
 else .bad
def mComp (n : Nat) (js : List Nat) (fi : En → Res (List D)) (tg : D → En → Option En) (ft : En → Res Bool) (fe : En → Res Ev) : En → Res Ev := fun en => (fi en).bind fun ds => compR (compItem n js tg ft fe en) ds
def DTs (X : Cx) (ifs : List Expr) (f : En → Res Bool) : Prop := PTs X ifs (tT X.K (fun _ => E0) f)
theorem sim0 {G H : Hp} (h : Same G H) : SimH H G G (fun _ => none) H := ⟨h, Same.refl _, Same.refl _, fun _ hb => .inl hb, fun a i e => nomatch e⟩
theorem caps_sim {K : PySem.W.Frag} {W : Addr → Option Nat} {G H : Hp} {σ : L2.St} {en : En} (n : Nat) (js : List Nat) (h : SimS K W G H σ en) : SimS K (fun _ => none) G H (List.replicate n none ++ caps js σ) (List.replicate n none ++ capE js en) := by
 refine ⟨by unfold caps capE; simp, fun i l e => ?_⟩
 by_cases hi : i < n
 ·rw [List.getElem?_append_left (by rw [List.length_replicate]; exact hi), List.getElem?_replicate] at e
  split at e <;> cases e
 ·rw [List.getElem?_append_right (by rw [List.length_replicate]; omega), List.length_replicate] at e ⊢
  unfold capE at e
  unfold caps
  rw [List.getElem?_map] at e ⊢
  cases ej : js[i - n]? with
  | none => rw [ej] at e; cases e
  | some j =>
   rw [ej] at e
   have e' : capO en[j]? = some l := Option.some.inj e
   unfold capO at e'
   split at e'
   ·rename_i d q
    cases e'
    obtain ⟨v, h1, h2⟩ := h.2 j _ q
    exact ⟨v, by show some ((σ[j]?).getD none) = _; rw [h1]; rfl, h2⟩
   ·rename_i d q
    cases e'
    obtain ⟨v, h1, h2⟩ := h.2 j _ q
    exact ⟨v, by show some ((σ[j]?).getD none) = _; rw [h1]; rfl, h2⟩
   ·cases e'
section
variable {X : Cx} {E : L2.St → XK} {pos : Pos}
theorem dts_nil : DTs X [] mYes := fun pins s σ H Q I ⟨B, G0, G, W, en, h1, h2, h3⟩ => pts_nil pins s σ H Q I (h3 G H (Step.refl h1.gh))
theorem dts_one {c : Expr} {f : En → Res Bool} (h : DT X (fun _ => E0) c f) : DTs X [c] f := pts_one h
theorem comp_sim {elt iter tg : Expr} {scope : Scope} {ifs : List Expr} {n : Nat} {js ks : List Nat} {fi : En → Res (List D)} {g : D → En → Option En} {ft : En → Res Bool} {fe : En → Res Ev} {xs ys : List Str} {cl : List (Str × Addr)} (hc : X.calm = true) (hi : DI X E tg iter fi)
  (hcl : ClOk X scope cl) (hcap : CapOk X scope cl ys js) (hcell : ∀ y ∈ scope.names, y.2 ≠ .cell) (hkind : scope.kind = .function) (hnames : ∀ y ∈ scope.names, y.2 = .local → scope.names.lookup y.1 = some .local) (hn : xs.length = n) (hks : ∀ j ∈ ks, j < n)
  (hg : ∀ C s₀ H₀ ex pn, DG (blockCx X scope cl C (xs ++ ys) s₀ H₀ ex pn) tg ks g) (ht : ∀ C s₀ H₀ ex pn, DTs (blockCx X scope cl C (xs ++ ys) s₀ H₀ ex pn) ifs ft) (hb : ∀ C s₀ H₀ ex pn, DE (blockCx X scope cl C (xs ++ ys) s₀ H₀ ex pn) (fun _ => E0) elt fe)
  : ∀ B G0 G W H σ en Q, SimH B G0 G W H → SimS X.K W G H σ en → wpR (mComp n js fi g ft fe en) (PostE X.K W G H Q) (PostX (E σ) G H) → tCompG (tI X.K E fi) (tG X.K ks g) (tT X.K (fun _ => E0) ft) (tE X.K (fun _ => E0) fe) xs.length js σ H Q := by
 subst hn
 refine fun B G0 G W H σ en Q hh hs hw => ⟨B, G0, G, W, en, hh, hs, ?_⟩
 have hw : wpR ((fi en).bind _) _ _ := hw
 rw [wpR_bind] at hw
 refine wpR_mono hw (fun ds hds G1 H1 J s1 hJ D hD => ?_) fun C h => h
 unfold compR at hds
 split at hds
 case isFalse => exact hds.elim
 rename_i hlen
 split at hds
 case h_2 => exact hds.elim
 rename_i r em
 have gD : G1 D = none := s1.gh.free hD
 have keyH : ∀ {G2 H2 : Hp} {y : List V}, Step G1 H1 G2 H2 → G2 D = none → Step G1 H1 G2 (upd H2 D (.lst y)) := fun st hg2 => by
  refine ⟨st.g, fun b o e => ?_, fun b o e => ?_, st.new⟩
  ·rw [upd_ne (ne_of_none e hD)]; exact st.h b o e
  ·rw [upd_ne (ne_of_none e hg2)]; exact st.gh b o e
 refine ⟨ds.length, fun i ys H2 => i ≤ ds.length ∧ ys.length ≤ i ∧ ∃ G2 rs rest, Step G1 H1 G2 H2 ∧ G2 D = none ∧ H2 D = some (.lst ys) ∧ Reps X.K G2 ys rs ∧ mapO (compItem xs.length js g ft fe en) (ds.drop i) = some rest ∧ rs ++ rest = r,
  ⟨Nat.zero_le _, Nat.zero_le _, G1, [], r, Step.lay s1.gh hD, gD, upd_same, .nil, em, rfl⟩, ?_⟩
 rintro i zs H2 ⟨hi, hzl, G2, rs, rest, st, g2, h2, rp, em2, er⟩
 obtain ⟨j1, j2⟩ := hJ G2 H2 st.g st.gh
 by_cases hlt : i < ds.length
 ·refine .inr ⟨hlt, ?_⟩
  obtain ⟨jg, jy⟩ := j1 i ds[i] (List.getElem?_eq_getElem hlt)
  refine ⟨jg, fun v H3 hy => ?_⟩
  obtain ⟨G3, s3, rv⟩ := jy v H3 hy
  rw [List.drop_eq_getElem_cons hlt] at em2
  unfold mapO at em2
  cases ec : compItem xs.length js g ft fe en ds[i] with
  | none => rw [ec] at em2; cases em2
  | some o =>
   rw [ec] at em2
   dsimp only at em2
   cases em3 : mapO (compItem xs.length js g ft fe en) (ds.drop (i + 1)) with
   | none => rw [em3] at em2; cases em2
   | some rest' =>
    rw [em3] at em2
    have em2 := Option.some.inj em2
    unfold compItem at ec
    split at ec
    ·cases ec
    ·rename_i e eg
     have in3 := caps_sim xs.length js (hs.step ((s1.trans st).trans s3))
     refine ⟨G3, fun _ => none, _, ds[i], e, s3.gh, in3, rv, eg, fun σ' hσ hk => ⟨⟨?_, ?_⟩, ?_⟩⟩
     ·rw [hk.1]; unfold caps; simp
     ·refine List.ext_getElem? fun j => ?_
      rw [List.getElem?_drop, hk.2 (xs.length + j) fun z => absurd (hks _ z) (by omega), List.getElem?_append_right (by rw [List.length_replicate]; omega), List.length_replicate]
      congr 1
      omega
     ·refine ⟨_, _, G3, fun _ => none, e, sim0 s3.gh, hσ, ?_⟩
      cases et : ft e with
      | bad => rw [et] at ec; cases ec
      | exc C => rw [et] at ec; cases ec
      | ok k =>
       rw [et] at ec
       intro G5 H5 s5
       cases k with
       | false =>
        cases ec
        rw [if_neg Bool.false_ne_true]
        have s25 := s3.trans s5
        exact ⟨hlt, Nat.le_succ_of_le hzl, G5, rs, rest', st.trans s25, s25.off h2 (fun xs z => nomatch z) g2, s25.h _ _ h2, rp.mono s25.g, em3, by rw [← er, ← em2]⟩
       | true =>
        rw [if_pos rfl]
        refine ⟨_, _, G5, fun _ => none, e, sim0 s5.gh, hσ.step s5, ?_⟩
        dsimp only at ec
        cases ee : fe e with
        | bad => rw [ee] at ec; cases ec
        | exc C => rw [ee] at ec; cases ec
        | ok q =>
         rw [ee] at ec
         intro G6 H6 y s6 ey
         obtain ⟨G7, s7, e7⟩ := EOk.c s6 ey
         dsimp only at ec
         split at ec
         ·rename_i y' eq
          cases ec
          rw [eq] at e7
          have s27 := (s3.trans s5).trans s7
          have g7 := s27.off h2 (fun xs z => nomatch z) g2
          refine ⟨s27.h _ _ h2, Nat.lt_of_le_of_lt (Nat.le_trans hzl (Nat.le_trans hi hlen)) (by decide), hlt, by rw [List.length_append]; exact Nat.succ_le_succ hzl, G7, rs ++ [y'], rest', keyH (st.trans s27) g7, g7, upd_same, (rp.mono s27.g).append (.cons e7 .nil), em3, ?_⟩
          rw [← er, ← em2, List.append_assoc]
          rfl
         ·cases ec
 ·have e : i = ds.length := by omega
  subst e
  rw [List.drop_length] at em2
  cases em2
  rw [List.append_nil] at er
  subst er
  exact .inl ⟨j2, hds G2 H2 _ (s1.trans st) ⟨D, _, rfl, s1.h.free hD, g2, h2, .lst rp⟩⟩
theorem de_comp {elt iter tg : Expr} {scope : Scope} {ifs : List Expr} {n : Nat} {js ks : List Nat} {fi : En → Res (List D)} {g : D → En → Option En} {ft : En → Res Bool} {fe : En → Res Ev} {xs ys : List Str} {cl : List (Str × Addr)} (hc : X.calm = true) (hi : DI X E tg iter fi)
  (hcl : ClOk X scope cl) (hcap : CapOk X scope cl ys js) (hcell : ∀ y ∈ scope.names, y.2 ≠ .cell) (hkind : scope.kind = .function) (hnames : ∀ y ∈ scope.names, y.2 = .local → scope.names.lookup y.1 = some .local) (hn : xs.length = n) (hks : ∀ j ∈ ks, j < n)
  (hg : ∀ C s₀ H₀ ex pn, DG (blockCx X scope cl C (xs ++ ys) s₀ H₀ ex pn) tg ks g) (ht : ∀ C s₀ H₀ ex pn, DTs (blockCx X scope cl C (xs ++ ys) s₀ H₀ ex pn) ifs ft) (hb : ∀ C s₀ H₀ ex pn, DE (blockCx X scope cl C (xs ++ ys) s₀ H₀ ex pn) (fun _ => E0) elt fe)
  (hs : ∀ x, foldedSetIterable iter X.env x = pure x := by intro _; rfl) : DE X E (.ListComp elt [⟨tg, iter, ifs, 0⟩] scope pos) (mComp n js fi g ft fe) :=
 DE.in ⟨_, pe_compG (xs := xs) (g := tG X.K ks g) (tt := tT X.K (fun _ => E0) ft) (te := tE X.K (fun _ => E0) fe) hc hi hcl hcap hcell hkind hnames hg ht hb hs, comp_sim hc hi hcl hcap hcell hkind hnames hn hks hg ht hb⟩
theorem ds_setC {i : Nat} {y : Str} {py spos : Pos} (hN : X.N.Nodup) (hiN : X.N[i]? = some y) (hx : Loc X.env.scope y) {elt iter tg : Expr} {scope : Scope} {ifs : List Expr} {n : Nat} {js ks : List Nat} {fi : En → Res (List D)} {g : D → En → Option En} {ft : En → Res Bool} {fe : En → Res Ev} {xs ys : List Str} {cl : List (Str × Addr)} (hc : X.calm = true) (hi : DI X E tg iter fi)
  (hcl : ClOk X scope cl) (hcap : CapOk X scope cl ys js) (hcell : ∀ y ∈ scope.names, y.2 ≠ .cell) (hkind : scope.kind = .function) (hnames : ∀ y ∈ scope.names, y.2 = .local → scope.names.lookup y.1 = some .local) (hn : xs.length = n) (hks : ∀ j ∈ ks, j < n)
  (hg : ∀ C s₀ H₀ ex pn, DG (blockCx X scope cl C (xs ++ ys) s₀ H₀ ex pn) tg ks g) (ht : ∀ C s₀ H₀ ex pn, DTs (blockCx X scope cl C (xs ++ ys) s₀ H₀ ex pn) ifs ft) (hb : ∀ C s₀ H₀ ex pn, DE (blockCx X scope cl C (xs ++ ys) s₀ H₀ ex pn) (fun _ => E0) elt fe)
  (hsw : swapsWith (.ListComp elt [⟨tg, iter, ifs, 0⟩] scope pos) (some (.Name y py)) spos.line X.env = pure true := by rfl) (hs : ∀ x, foldedSetIterable iter X.env x = pure x := by intro _; rfl)
  (hf : X.fn y = true ∨ X.env.scope.names.lookup y = some .local := by first | exact .inl rfl | exact .inr rfl | assumption) : DS X E (.Assign [.Name y py] (.ListComp elt [⟨tg, iter, ifs, 0⟩] scope pos) spos) (mSet i (mComp n js fi g ft fe)) :=
 DS.in ⟨_, ps_compG (xs := xs) (g := tG X.K ks g) (tt := tT X.K (fun _ => E0) ft) (te := tE X.K (fun _ => E0) fe) hN hiN hx hc hi hcl hcap hcell hkind hnames hg ht hb hsw hs hf, set_core (comp_sim hc hi hcl hcap hcell hkind hnames hn hks hg ht hb)⟩
end
section
variable {X : Cx} {K : PySem.W.Frag}
def rOr (r r' : R2) : R2 := fun x y H Q => r x y H Q ∨ r' x y H Q
theorem OpR.or' {f : Value → Value → Sem Value} {r r' : R2} (h : OpR X f r) (h' : OpR X f r') : OpR X f (rOr r r') := OpR.or h h'
def rCatR : R2 := fun x y H Q => ∃ l b xs zs, x = .ref l ∧ y = .ref b ∧ Rd H l (.lst xs) ∧ Rd H b (.lst zs) ∧ xs.length + zs.length ≤ sizeLine ∧ ∀ p, H p = none → Q (.ref p) (upd H p (.lst (xs ++ zs)))
theorem op_catR : OpR X (binaryOp .Add) rCatR := by
 intro pins s σ H x y v u Q I rx ry h
 obtain ⟨l, b, xs, zs, rfl, rfl, hH, hB, hz, q⟩ := h
 cases rx
 cases ry
 obtain ⟨z, its, n, r, e⟩ := hH.ok I.hok
 obtain ⟨z2, its2, n2, r2, e2⟩ := hB.ok I.hok
 have hl := r.length
 have hl2 := r2.length
 refine PySem.P.add_list e e2 ?_ (by rw [List.size_toArray, List.size_toArray]; omega)
 have ea : its.toArray ++ its2.toArray = (its ++ its2).toArray := by simp
 rw [ea]
 exact ⟨.ref _, _, I.lnew (t' := s.toks) (r.append r2) (by rw [List.length_append]; omega), rfl, q _ I.fresh⟩
def rStrCat : R2 := fun x y H Q => ∃ i j, x = .str i ∧ y = .str j ∧ i.length + j.length ≤ sizeLine ∧ Q (.str (i ++ j)) H
def lstOf : Ev → Option (List D)
 | .p (.list ds) => some ds
 | .b (.list ds) => some ds
 | _ => none
theorem lst_at {W : Addr → Option Nat} {Hs G H : Hp} {v : V} {r : Ev} {ds : List D} (gh : Same G H) (h : EOk K W Hs G H v r) (e : lstOf r = some ds) : ∃ a xs, v = .ref a ∧ Rd H a (.lst xs) ∧ Reps K G xs ds := by
 cases r with
 | p d =>
  cases d with
  | list es =>
   cases e
   cases h with
   | @lst a xs _ h1 h2 => exact ⟨a, xs, rfl, rd_mono gh h1, h2⟩
  | _ => cases e
 | b d =>
  cases d with
  | list es =>
   cases e
   obtain ⟨a, i, o, rfl, h1, h2, h3⟩ := h
   cases h3 with
   | @lst xs _ h4 => exact ⟨a, xs, rfl, .inl h2, h4⟩
  | _ => cases e
 | f d => cases e
 | x C => cases e
def dat : Ev → Option D
 | .p d => some d
 | .b d => some d
 | _ => none
theorem EOk.read {W : Addr → Option Nat} {Hs G H : Hp} {v : V} {r : Ev} {d : D} (gh : Same G H) (h : EOk K W Hs G H v r) (e : dat r = some d) : Rep K H v d := by
 cases r with
 | p d => cases e; exact Rep.mono gh h
 | b d =>
  cases e
  obtain ⟨a, i, o, rfl, h1, h2, h3⟩ := h
  exact (h3.mono gh).rep h2
 | f d => cases e
 | x C => cases e
open Classical in
noncomputable def intE (C : Int → Int → Prop) (g : Int → Int → D) (x y : Ev) : Res Ev := match x, y with
 | .p (.int i), .p (.int j) => if C i j then .ok (.p (g i j)) else .bad
 | _, _ => .bad
def intE0 (g : Int → Int → D) (x y : Ev) : Res Ev := match x, y with
 | .p (.int i), .p (.int j) => .ok (.p (g i j))
 | _, _ => .bad
theorem noX_intE {C : Int → Int → Prop} {g : Int → Int → D} : NoX (intE C g) := by
 intro x y A h
 unfold intE at h
 split at h
 ·split at h <;> cases h
 ·cases h
theorem noX_intE0 {g : Int → Int → D} : NoX (intE0 g) := by
 intro x y A h
 unfold intE0 at h
 split at h <;> cases h
theorem om_int {C : Int → Int → Prop} {g : Int → Int → D} {gv : Int → Int → V} (hg : ∀ G i j, Rep K G (gv i j) (g i j)) : OpM K (rI C gv) (intE C g) := by
 intro W G H v u x y Q gh hx hy hw
 unfold intE at hw
 split at hw
 ·rename_i i j e1 e2
  rw [e1] at hx; rw [e2] at hy
  cases hx; cases hy
  split at hw
  ·rename_i hc
   exact ⟨i, j, rfl, rfl, hc, hw G H _ (Step.refl gh) (hg G i j)⟩
  ·exact hw.elim
 ·exact hw.elim
theorem om_int0 {g : Int → Int → D} {gv : Int → Int → V} (hg : ∀ G i j, Rep K G (gv i j) (g i j)) : OpM K (rI0 gv) (intE0 g) := by
 intro W G H v u x y Q gh hx hy hw
 unfold intE0 at hw
 split at hw
 ·rename_i i j e1 e2
  rw [e1] at hx; rw [e2] at hy
  cases hx; cases hy
  exact ⟨i, j, rfl, rfl, hw G H _ (Step.refl gh) (hg G i j)⟩
 ·exact hw.elim
noncomputable abbrev mulE : Ev → Ev → Res Ev := intE CMulW fun i j => .int (i * j)
noncomputable abbrev fdivE : Ev → Ev → Res Ev := intE CDivW fun i j => .int (i.fdiv j)
noncomputable abbrev modE : Ev → Ev → Res Ev := intE (fun _ j => j ≠ 0) fun i j => .int (i.fmod j)
noncomputable abbrev powE : Ev → Ev → Res Ev := intE CPow fun i j => .int (i ^ j.toNat)
abbrev subE : Ev → Ev → Res Ev := intE0 fun i j => .int (i - j)
abbrev ltE : Ev → Ev → Res Ev := intE0 fun i j => .bool (decide (i < j))
abbrev gtE : Ev → Ev → Res Ev := intE0 fun i j => .bool (decide (j < i))
theorem om_mul : OpM K (rI CMulW fun i j => .int (i * j)) mulE := om_int fun _ _ _ => .int _
theorem om_fdiv : OpM K (rI CDivW fun i j => .int (i.fdiv j)) fdivE := om_int fun _ _ _ => .int _
theorem om_mod : OpM K (rI (fun _ j => j ≠ 0) fun i j => .int (i.fmod j)) modE := om_int fun _ _ _ => .int _
theorem om_pow : OpM K (rI CPow fun i j => .int (i ^ j.toNat)) powE := om_int fun _ _ _ => .int _
theorem om_sub : OpM K (rI0 fun i j => .int (i - j)) subE := om_int0 fun _ _ _ => .int _
def addE (x y : Ev) : Res Ev := match x, y with
 | .p (.int i), .p (.int j) => .ok (.p (.int (i + j)))
 | .p (.str i), .p (.str j) => if i.length + j.length ≤ 100000 then .ok (.p (.str (i ++ j))) else .bad
 | x, y => match lstOf x, lstOf y with
  | some ds, some es => if ds.length + es.length ≤ 100000 then .ok (.f (.list (ds ++ es))) else .bad
  | _, _ => .bad
theorem noX_add : NoX addE := by
 intro x y A h
 unfold addE at h
 split at h
 ·cases h
 ·split at h <;> cases h
 ·split at h
  ·split at h <;> cases h
  ·cases h
abbrev rAddA : R2 := rOr (rI0 fun i j => .int (i + j)) (rOr rStrCat rCatR)
theorem op_addA : OpR X (binaryOp .Add) rAddA := OpR.or' op_add (OpR.or' op_add_str op_catR)
theorem om_add : OpM K rAddA addE := by
 intro W G H v u x y Q gh hx hy hw
 unfold addE at hw
 split at hw
 ·rename_i i j e1 e2
  rw [e1] at hx; rw [e2] at hy
  cases hx; cases hy
  exact .inl ⟨i, j, rfl, rfl, hw G H _ (Step.refl gh) (.int _)⟩
 ·rename_i i j e1 e2
  rw [e1] at hx; rw [e2] at hy
  cases hx; cases hy
  split at hw
  ·rename_i hl
   exact .inr (.inl ⟨i, j, rfl, rfl, Nat.le_trans hl (by decide), hw G H _ (Step.refl gh) (.str _)⟩)
  ·exact hw.elim
 ·split at hw
  ·rename_i ds es e1 e2
   obtain ⟨a, xs, rfl, h1, h2⟩ := lst_at gh hx e1
   obtain ⟨b, ys, rfl, h3, h4⟩ := lst_at gh hy e2
   split at hw
   ·rename_i hl
    refine .inr (.inr ⟨a, b, xs, ys, rfl, rfl, h1, h3, by rw [h2.length, h4.length]; exact Nat.le_trans hl (by decide), fun p hp => ?_⟩)
    exact hw _ _ _ (Step.lay gh hp) ⟨p, _, rfl, hp, gh.free hp, upd_same, .lst (h2.append h4)⟩
   ·exact hw.elim
  ·exact hw.elim
theorem om_cmp {p : Int → Int → Bool} : OpM K (rI0 fun i j => .bl (p i j)) (intE0 fun i j => .bool (p i j)) := om_int0 fun _ _ _ => .bl _
mutual
theorem Rep.reads {P : Program} {w : World} {H : Hp} {h : Heap} (ok : HOk P w H h) : ∀ {v : V} {d : D}, Rep K H v d → d.canLay0 = true → ∀ {u : Value}, RelV v u → ∃ as, Reads h u d as
 | _, _, .non, _, _, e => by cases e; exact ⟨_, Reads.none⟩
 | _, _, .bl b, _, _, e => by cases e; exact ⟨_, Reads.bool b⟩
 | _, _, .int i, _, _, ⟨t, e⟩ => by subst e; exact ⟨_, Reads.int i t⟩
 | _, _, .str i, _, _, ⟨t, e⟩ => by subst e; exact ⟨_, Reads.str i t⟩
 | _, _, .tup hh r, hc, _, e => by
  have e : _ = Value.ref _ := e
  subst e
  obtain ⟨_, its, rv, o, ho, hcl, n, hd⟩ := (show ObjOk P w H h _ _ from ok _ _ hh)
  obtain ⟨as, q⟩ := Reps.reads ok r (by simpa [PyData.canLay0] using hc) rv
  exact ⟨as, reads_tuple_at ho hcl hd (by simpa using q)⟩
 | _, _, .lst hh r, hc, _, e => by
  have e : _ = Value.ref _ := e
  subst e
  obtain ⟨_, its, n, rv, ho⟩ := hh.ok ok
  obtain ⟨as, q⟩ := Reps.reads ok r (by simpa [PyData.canLay0] using hc) rv
  exact ⟨_, reads_list_at ho rfl rfl (by simpa using q)⟩
 | _, _, .dT _ _, hc, _, _ => by simp [PyData.canLay0] at hc
 | _, _, .dK _ _, hc, _, _ => by simp [PyData.canLay0] at hc
theorem Reps.reads {P : Program} {w : World} {H : Hp} {h : Heap} (ok : HOk P w H h) : ∀ {vs : List V} {ds : List D}, Reps K H vs ds → PyData.canLayAll0 ds = true → ∀ {us : List Value}, Vals vs us → ∃ as, ReadsAll h us ds as
 | _, _, .nil, _, _, .nil => ⟨_, ReadsAll.nil⟩
 | _, _, .cons hd r, hc, _, .cons rv rt => by
  simp only [PyData.canLayAll0, Bool.and_eq_true] at hc
  obtain ⟨as, q⟩ := Rep.reads ok hd hc.1 rv
  obtain ⟨bs, p⟩ := Reps.reads ok r hc.2 rt
  exact ⟨_, ReadsAll.cons q p⟩
end
def rEqP (K : PySem.W.Frag) (ng : Bool) : R2 := fun x y H Q => ∃ d e, Rep K H x d ∧ Rep K H y e ∧ SeqAt.shaped d = true ∧ SeqAt.shaped e = true ∧ Q (.bl (if ng then !PyData.eqv d e else PyData.eqv d e)) H
theorem op_eqP {K : PySem.W.Frag} (hu : X.A.units + 64 < cLine) : OpR X (compareOp .Eq) (rEqP K false) := by
 intro pins s σ H x y v u Q I rx ry h
 obtain ⟨d, e, h1, h2, o1, o2, q⟩ := h
 obtain ⟨as, r1⟩ := h1.reads I.hok (Bool.and_eq_true_iff.mp o1).1 rx
 obtain ⟨bs, r2⟩ := h2.reads I.hok (Bool.and_eq_true_iff.mp o2).1 ry
 exact eq_dataH r1 r2 o1 o2 hu ⟨.bl _, H, I, rfl, q⟩
theorem op_neP {K : PySem.W.Frag} (hu : X.A.units + 64 < cLine) : OpR X (compareOp .NotEq) (rEqP K true) := by
 intro pins s σ H x y v u Q I rx ry h
 obtain ⟨d, e, h1, h2, o1, o2, q⟩ := h
 obtain ⟨as, r1⟩ := h1.reads I.hok (Bool.and_eq_true_iff.mp o1).1 rx
 obtain ⟨bs, r2⟩ := h2.reads I.hok (Bool.and_eq_true_iff.mp o2).1 ry
 exact ne_dataH r1 r2 o1 o2 hu ⟨.bl _, H, I, rfl, q⟩
def eqE (ng : Bool) (x y : Ev) : Res Ev := match dat x, dat y with
 | some d, some e => if SeqAt.shaped d = true ∧ SeqAt.shaped e = true then .ok (.p (.bool (if ng then !PyData.eqv d e else PyData.eqv d e))) else .bad
 | _, _ => .bad
theorem noX_eq {ng : Bool} : NoX (eqE ng) := by
 intro x y A h
 unfold eqE at h
 split at h
 ·split at h <;> cases h
 ·cases h
theorem om_eq {ng : Bool} : OpM K (rEqP K ng) (eqE ng) := by
 intro W G H v u x y Q gh hx hy hw
 unfold eqE at hw
 split at hw
 ·rename_i d e e1 e2
  split at hw
  ·rename_i hs
   exact ⟨d, e, hx.read gh e1, hy.read gh e2, hs.1, hs.2, hw G H _ (Step.refl gh) (.bl _)⟩
  ·exact hw.elim
 ·exact hw.elim
def isnE (ng : Bool) (x : Ev) : Res Ev := match x with
 | .p .none => .ok (.p (.bool (!ng)))
 | .p _ => .ok (.p (.bool ng))
 | .b _ => .ok (.p (.bool ng))
 | _ => .bad
def mUn (op : Ev → Res Ev) (fa : En → Res Ev) : En → Res Ev := fun en => (fa en).bind fun x => op x.c
variable {E : L2.St → XK} {a b : Expr} {fa fb : En → Res Ev} {pos : Pos}
theorem isn_core {ng : Bool} {W : Addr → Option Nat} {G H : Hp} {v : V} {x : Ev} {Q : VK} (gh : Same G H) (hx : EOk K W H G H v x.c) {EE : XK} (hw : wpR (isnE ng x.c) (PostE K W G H Q) (PostX EE G H)) : Q (.bl (if ng then !decide (v = .non) else decide (v = .non))) H := by
 unfold isnE at hw
 split at hw
 ·rename_i e
  rw [e] at hx
  cases hx
  have z := hw G H _ (Step.refl gh) (.bl _)
  cases ng <;> exact z
 ·rename_i d e e2
  rw [e2] at hx
  have nv : v ≠ .non := by
   intro z
   subst z
   have hx : Rep K G V.non d := hx
   cases hx
   exact e rfl
  have z := hw G H _ (Step.refl gh) (.bl _)
  rw [decide_eq_false nv]
  cases ng <;> exact z
 ·rename_i d e
  rw [e] at hx
  obtain ⟨a, i, o, rfl, h1⟩ := hx
  have z := hw G H _ (Step.refl gh) (.bl _)
  cases ng <;> exact z
 ·exact hw.elim
theorem de_isN {j pos'} (ha : DE X E a fa) : DE X E (.Compare a [.Is] [.Constant .none j pos'] pos) (mUn (isnE false) fa) := by
 obtain ⟨t, p, m⟩ := ha.out
 refine DE.in ⟨_, pe_cmp (pc_isN p), fun B G0 G W H σ en Q hh hs hw => m B G0 G W H σ en _ hh hs (DE.go hw fun x G1 H1 v s1 e1 h1 => ?_)⟩
 exact isn_core (ng := false) s1.gh e1.cc h1
theorem dt_isN {j pos'} (ha : DE X E a fa) : DT X E (.Compare a [.Is] [.Constant .none j pos'] pos) (mTru (mUn (isnE false) fa)) := by
 obtain ⟨t, p, m⟩ := ha.out
 refine DT.in ⟨_, pt_cmp (pc_isN p), fun B G0 G W H σ en Q hh hs hw => ?_⟩
 have k := (de_isN (pos := pos) (j := j) (pos' := pos') ha)
 refine tru_core (t := tIsN t) (fa := mUn (isnE false) fa) (E := E) (X := X) (fun B G0 G W H σ en Q hh hs hw => m B G0 G W H σ en _ hh hs (DE.go hw fun x G1 H1 v s1 e1 h1 => isn_core (ng := false) s1.gh e1.cc h1)) B G0 G W H σ en Q hh hs hw
def negE (x : Ev) : Res Ev := match x with
 | .p (.int i) => .ok (.p (.int (-i)))
 | _ => .bad
theorem de_neg (ha : DE X E a fa) : DE X E (.UnaryOp .USub a pos) (mUn negE fa) := by
 obtain ⟨t, p, m⟩ := ha.out
 refine DE.in ⟨_, pe_un un_neg p, fun B G0 G W H σ en Q hh hs hw => m B G0 G W H σ en _ hh hs (DE.go hw fun x G1 H1 v s1 e1 h1 => ?_)⟩
 unfold negE at h1
 split at h1
 ·rename_i i e
  rw [e] at e1
  cases e1
  exact ⟨i, rfl, h1 G1 H1 _ (Step.refl s1.gh) (.int _)⟩
 ·exact h1.elim
def seqOf : Ev → Option (List D)
 | .p (.list ds) => some ds
 | .b (.list ds) => some ds
 | .p (.tuple ds) => some ds
 | _ => none
def ixE (x y : Ev) : Res Ev := match y with
 | .p (.int i) => match seqOf x with
  | some ds => match atI ds i with
   | some d => .ok (.p d)
   | none => .bad
  | none => .bad
 | _ => .bad
theorem noX_ix : NoX ixE := by
 intro x y A h
 unfold ixE at h
 split at h
 ·split at h
  ·split at h <;> cases h
  ·cases h
 ·cases h
theorem reps_at {G : Hp} {xs : List V} {ds : List D} {i : Int} {d : D} (r : Reps K G xs ds) (h : atI ds i = some d) : ∃ x, atI xs i = some x ∧ Rep K G x d := by
 unfold atI at h ⊢
 rw [r.length]
 cases e : ixN ds.length i with
 | none => rw [e] at h; cases h
 | some j =>
  rw [e] at h
  exact r.get' h
def rIxA (K : PySem.W.Frag) : R2 := fun x y H Q => rIxL K x y H Q ∨ rIxT K x y H Q
theorem ix_A : IxR X (rIxA X.K) := ix_list.or ix_tup
theorem om_ix : OpM K (rIxA K) ixE := by
 intro W G H v u x y Q gh hx hy hw
 unfold ixE at hw
 split at hw
 ·rename_i i ey
  rw [ey] at hy
  cases hy
  split at hw
  ·rename_i ds ed
   split at hw
   ·rename_i d ea
    cases ex : x.c with
    | p dd =>
     rw [ex] at ed hx
     cases dd with
     | list es =>
      cases ed
      cases hx with
      | @lst a xs _ h1 h2 =>
       obtain ⟨z, h3, h4⟩ := reps_at h2 ea
       exact .inl ⟨a, xs, i, z, rfl, rfl, .inl (rd_mono gh h1), h3, hw G H _ (Step.refl gh) h4⟩
     | tuple es =>
      cases ed
      cases hx with
      | @tup a xs _ h1 h2 =>
       obtain ⟨z, h3, h4⟩ := reps_at h2 ea
       exact .inr ⟨a, xs, i, z, rfl, rfl, SqT.of (gh _ _ h1), h3, hw G H _ (Step.refl gh) h4⟩
     | _ => cases ed
    | b dd =>
     rw [ex] at ed hx
     cases dd with
     | list es =>
      cases ed
      obtain ⟨a, k, o, rfl, h1, h2, h3⟩ := hx
      cases h3 with
      | @lst xs _ h4 =>
       obtain ⟨z, h5, h6⟩ := reps_at h4 ea
       exact .inl ⟨a, xs, i, z, rfl, rfl, .inl (.inl h2), h5, hw G H _ (Step.refl gh) h6⟩
     | _ => cases ed
    | f dd => rw [ex] at ed; cases ed
    | x C => rw [ex] at ed; cases ed
   ·exact hw.elim
  ·exact hw.elim
 ·exact hw.elim
theorem de_ix (ha : DE X E a fa) (hb : DE X E b fb) (hs : PlainIx b) : DE X E (.Subscript a b pos) (mBin ixE fa fb) := by
 obtain ⟨ta, pa, ma⟩ := ha.out
 obtain ⟨tb, pb, mb⟩ := hb.out
 exact DE.in ⟨_, pe_ix ix_A pa pb hs, op_core ma mb om_ix noX_ix⟩
def lenE (rs : List Ev) : Res Ev := match rs with
 | [x] => match seqOf x with
  | some ds => .ok (.p (.int ds.length))
  | none => .bad
 | _ => .bad
theorem noX_len : NoXs lenE := by
 intro rs C h
 unfold lenE at h
 split at h
 ·split at h <;> cases h
 ·cases h
theorem cm_len : CallM K (fun xs H Q => ∃ p ys, xs = [.ref p] ∧ (SqL K H p ys ∨ SqT K H p ys) ∧ Q (.int ys.length) H) lenE := by
 intro W Hs G H vs rs Q gh he hw
 unfold lenE at hw
 split at hw
 ·rename_i x
  match vs, he with
  | [v], ⟨h1, _⟩ =>
   split at hw
   ·rename_i ds ed
    cases x with
    | p dd =>
     cases dd with
     | list es =>
      cases ed
      cases h1 with
      | @lst a xs _ k1 k2 => exact ⟨a, xs, rfl, .inl (.inl (rd_mono gh k1)), by rw [k2.length]; exact hw G H _ (Step.refl gh) (.int _)⟩
     | tuple es =>
      cases ed
      cases h1 with
      | @tup a xs _ k1 k2 => exact ⟨a, xs, rfl, .inr (SqT.of (gh _ _ k1)), by rw [k2.length]; exact hw G H _ (Step.refl gh) (.int _)⟩
     | _ => cases ed
    | b dd =>
     cases dd with
     | list es =>
      cases ed
      obtain ⟨a, k, o, rfl, k1, k2, k3⟩ := h1
      cases k3 with
      | @lst xs _ k4 => exact ⟨a, xs, rfl, .inl (.inl (.inl k2)), by rw [k4.length]; exact hw G H _ (Step.refl gh) (.int _)⟩
     | _ => cases ed
    | f dd => cases ed
    | x C => cases ed
   ·exact hw.elim
 ·exact hw.elim
def absE (rs : List Ev) : Res Ev := match rs with
 | [.p (.int i)] => .ok (.p (.int (if i < 0 then -i else i)))
 | _ => .bad
theorem noX_abs : NoXs absE := by
 intro rs C h
 unfold absE at h
 split at h <;> cases h
theorem cm_abs : CallM K (fun xs H Q => ∃ i, xs = [.int i] ∧ Q (.int (if i < 0 then -i else i)) H) absE := by
 intro W Hs G H vs rs Q gh he hw
 unfold absE at hw
 split at hw
 ·rename_i i
  match vs, he with
  | [v], ⟨h1, _⟩ => cases h1; exact ⟨i, rfl, hw G H _ (Step.refl gh) (.int _)⟩
 ·exact hw.elim
def listE (rs : List Ev) : Res Ev := match rs with
 | [x] => match seqOf x with
  | some ds => .ok (.f (.list ds))
  | none => .bad
 | _ => .bad
theorem noX_list : NoXs listE := by
 intro rs C h
 unfold listE at h
 split at h
 ·split at h <;> cases h
 ·cases h
theorem cm_list : CallM K (fun xs H Q => ∃ p ys, xs = [.ref p] ∧ (SqL K H p ys ∨ SqT K H p ys) ∧ ∀ l, H l = none → Q (.ref l) (upd H l (.lst ys))) listE := by
 intro W Hs G H vs rs Q gh he hw
 unfold listE at hw
 split at hw
 ·rename_i x
  match vs, he with
  | [v], ⟨h1, _⟩ =>
   split at hw
   ·rename_i ds ed
    have fin : ∀ {xs : List V}, Reps K G xs ds → ∀ l, H l = none → Q (.ref l) (upd H l (.lst xs)) := fun r l hl =>
     hw _ _ _ (Step.lay gh hl) ⟨l, _, rfl, hl, gh.free hl, upd_same, .lst r⟩
    cases x with
    | p dd =>
     cases dd with
     | list es =>
      cases ed
      cases h1 with
      | @lst a xs _ k1 k2 => exact ⟨a, xs, rfl, .inl (.inl (rd_mono gh k1)), fin k2⟩
     | tuple es =>
      cases ed
      cases h1 with
      | @tup a xs _ k1 k2 => exact ⟨a, xs, rfl, .inr (SqT.of (gh _ _ k1)), fin k2⟩
     | _ => cases ed
    | b dd =>
     cases dd with
     | list es =>
      cases ed
      obtain ⟨a, k, o, rfl, k1, k2, k3⟩ := h1
      cases k3 with
      | @lst xs _ k4 => exact ⟨a, xs, rfl, .inl (.inl (.inl k2)), fin k4⟩
     | _ => cases ed
    | f dd => cases ed
    | x C => cases ed
   ·exact hw.elim
 ·exact hw.elim
def tyD : D → String
 | .none => "NoneType"
 | .bool _ => "bool"
 | .int _ => "int"
 | .str _ => "str"
 | .list _ => "list"
 | .tuple _ => "tuple"
 | .dict _ => "dict"
def isiE (K : PySem.W.Frag) (c : Value) (x : Ev) : Res Ev := match dat x with
 | some d => match PySem.W.kitOne K (.type (tyD d)) c with
  | some b => .ok (.p (.bool b))
  | none => .bad
 | none => .bad
theorem rep_ty {H : Hp} {v : V} {d : D} (h : Rep K H v d) : TyOf K H v (.type (tyD d)) := by
 cases h with
 | non => exact .non
 | bl b => exact .bl b
 | int i => exact .int i
 | str i => exact .str i
 | tup h _ => exact .tup h
 | lst h _ =>
  rcases h with h | ⟨o, h⟩
  ·exact .lst h
  ·exact .frz h
 | dT h _ => exact .dT h
 | dK h _ => exact .dK h
theorem de_isi {e c : Expr} {v : V} {cv : Value} {p : Pos} (hg : Gl X "isinstance") (hm : X.mg "isinstance" = none) (hv : (∃ n, v = .ty n) ∨ ∃ a, v = .ref a) (hr : RelV v cv) (he : DE X E e fa) (hc : PE X c (tC v))
  (h1 : starEach [e, c] X.env = (false, eval e X.env) :: starEach [c] X.env := by rfl) (h2 : (backTo pos (starEach [c] X.env)).any (·.1) = false := by rfl) (h3 : starEach [c] X.env = (false, eval c X.env) :: starEach [] X.env := by rfl) :
  DE X E (.Call (.Name "isinstance" p) [e, c] [] pos) (mUn (isiE X.K cv) fa) := by
 obtain ⟨t, q, m⟩ := he.out
 refine DE.in ⟨_, pe_isi hg hm q hc h1 h2 h3, fun B G0 G W H σ en Q hh hs hw => m B G0 G W H σ en _ hh hs (DE.go hw fun x G1 H1 u s1 e1 k1 => ?_)⟩
 unfold isiE at k1
 split at k1
 ·rename_i d ed
  split at k1
  ·rename_i b eb
   exact ⟨u, v, .type (tyD d), cv, b, rfl, hv, .plain (rep_ty (EOk.read s1.gh e1 ed)), hr, eb, k1 G1 H1 _ (Step.refl s1.gh) (.bl _)⟩
  ·exact k1.elim
 ·exact k1.elim
end
section
variable {P : Program} {w : World} {K : PySem.W.Frag} {mg : Str → Option Value} {base : Heap}
structure Def (K : PySem.W.Frag) (mg : Str → Option Value) (x : Str) (ps : List Str) (st : Stmt) : Prop where
 ex : ∃ f fd, Fun K x x st f fd ∧ Binds K fd ps [] ∧ PySem.W.keepIn K (.ref f) = true ∧ mg x = some (.ref f)
structure Cal (P : Program) (w : World) (K : PySem.W.Frag) (mg : Str → Option Value) (base : Heap) (k : Nat) (x : Str) (n : Nat) (m : List L → Res L) : Prop where
 ex : ∃ f fd ps, FnOk P w K mg base (CXr P w) k f fd ps (spM K n m) ∧ Binds K fd ps [] ∧ PySem.W.keepIn K (.ref f) = true ∧ mg x = some (.ref f)
theorem calM {x : Str} {st : Stmt} {N ps : List Str} {k n : Nat} {m : List L → Res L} (Df : Def K mg x ps st) (S : FnScope N ps (defScope st)) (hn : n = ps.length)
  (hbody : ∀ (f : Addr) (cdv : Value) (A : Around) (outer : List Env) (s : Shared) (H : Hp) (E : XK), Room k (A.deeper (envOfC x (defScope st) s.heap.objs.size f cdv)) →
   ∃ fm, DSs (cxOf (CXr P w) P w K mg base N x (defScope st) f cdv A outer s H E) (fun _ => E) (defBody st) fm ∧ ∀ ls, m ls = .bad ∨ runF N.length fm ls = m ls) : Cal P w K mg base (k + 1) x n m := by
 obtain ⟨f, fd, F, b, kp, h⟩ := Df.ex
 exact ⟨f, fd, ps, fnM F S hn fun cdv A outer s H E hr => hbody f cdv A outer s H E hr, b, kp, h⟩
end
section
variable {X : Cx} {E : L2.St → XK} {k j : Nat} {x : Str} {p pos : Pos} {e : Expr} {es : List Expr} {fr : En → Res (List Ev)} {n : Nat} {m : List L → Res L}
theorem de_callC (c : Cal X.prog X.w X.K X.mg X.base j x n m) (hr : Room k X.A) (hx : PassesS (CXr X.prog X.w) X E) (ha : DA X E (e :: es) fr) (hg : Gl X x := by rfl) (hjk : j ≤ k := by decide) (hdb : (x == ("__debug__" : Str)) = false := by decide)
  (he : starEach (e :: es) X.env = (false, eval e X.env) :: starEach es X.env := by rfl) (hpl : (backTo pos (starEach es X.env)).any (·.1) = false := by rfl) :
  DE X E (.Call (.Name x p) (e :: es) [] pos) (mCall n m fr) := by
 obtain ⟨f, fd, ps, F, b, kp, h⟩ := c.ex
 exact de_call (F.mono hjk) hr hg h kp b hx ha hdb he hpl
theorem dv (i : Nat) (hN : X.N[i]? = some x := by rfl) (hv : Vis X.env.scope x := by first | exact Or.inl rfl | exact Or.inr (Or.inl rfl) | exact Or.inr (Or.inr rfl)) (hd : (x == ("__debug__" : Str)) = false := by decide) (hcd : (x == ("__classdict__" : Str)) = false := by decide) :
  DE X E (.Name x pos) (mVar i) := de_var hN hv hd hcd
theorem u64 {A : Around} (hr : Room k A) : A.units + 64 < cLine := by have := hr.un; omega
theorem cap_nil {scope : Scope} {cl : List (Str × Addr)} : CapOk X scope cl [] [] := ⟨rfl, fun i y j h _ => by simp at h⟩
theorem cap_cons {scope : Scope} {cl : List (Str × Addr)} {y : Str} {ys : List Str} {j : Nat} {js : List Nat} (h : X.N[j]? = some y ∧ (X.env.kindOf y = some .cell ∨ X.env.kindOf y = some .free) ∧ ((relabel scope X.env).names.lookup y = some .cell ∨ (relabel scope X.env).names.lookup y = some .free) ∧ (X.env.cells.lookup y).isSome = true ∧ cl.lookup y = X.env.cells.lookup y)
  (t : CapOk X scope cl ys js) : CapOk X scope cl (y :: ys) (j :: js) :=
 ⟨by rw [List.length_cons, List.length_cons, t.len], fun i z q e1 e2 => by
  cases i with
  | zero => simp at e1 e2; subst e1 e2; exact h
  | succ i => exact t.at_ i z q (by simpa using e1) (by simpa using e2)⟩
theorem cl_ok {scope : Scope} {cl : List (Str × Addr)} {ys : List Str} {js : List Nat} (clos : closureFor scope X.env = pure cl) (sub : ∀ q ∈ cl, X.env.cells.lookup q.1 = some q.2) (cap : CapOk X scope cl ys js) (hcell : ∀ y ∈ scope.names, y.2 ≠ .cell) (hfree : ∀ q ∈ scope.names, q.2 = .free → q.1 ∈ ys) : ClOk X scope cl := by
 refine ⟨clos, fun y c h => sub _ (PySem.mem_of_lookup h), fun y hy => ?_⟩
 have hm : y ∈ ys := by
  rcases hy with hy | hy
  ·have m := PySem.mem_of_lookup hy
   obtain ⟨⟨n0, k0⟩, m0, e0⟩ := List.mem_map.mp m
   dsimp only at e0
   split at e0
   ·rename_i z
    injection e0 with e1 e2
    subst e1
    have : k0 = .free := by
     cases k0 <;> simp at z ⊢
    exact hfree _ m0 this
   ·injection e0 with e1 e2
    exact absurd e2 (hcell _ m0)
  ·have m := PySem.mem_of_lookup hy
   obtain ⟨⟨n0, k0⟩, m0, e0⟩ := List.mem_map.mp m
   dsimp only at e0
   split at e0
   ·injection e0 with e1 e2
    cases e2
   ·injection e0 with e1 e2
    subst e1
    exact hfree _ m0 e2
 obtain ⟨i, hi, e⟩ := List.mem_iff_getElem.mp hm
 have hj : i < js.length := by rw [← cap.len]; exact hi
 obtain ⟨_, _, _, h4, h5⟩ := cap.at_ i y js[i] (by rw [List.getElem?_eq_getElem hi, e]) (List.getElem?_eq_getElem hj)
 rw [h5]
 exact Option.isSome_iff_exists.mp h4
theorem write_ok {K : PySem.W.Frag} {B G0 G H : Hp} {W : Addr → Option Nat} {σ : L2.St} {en : En} {i : Nat} {a : Addr} {o' : HO} {d' : D} (hh : SimH B G0 G W H) (hs : SimS K W G H σ en) (hW : W a = some i) (hv : σ[i]? = some (some (.ref a))) (hc : Cont K G o' d') :
  SimH B G0 G W (upd H a o') ∧ SimS K W G (upd H a o') σ (en.set i (some (.o d'))) := by
 obtain ⟨g1, g2, g3⟩ := hh.wf a i hW
 refine ⟨⟨fun b o e => ?_, fun b o e => ?_, hh.g0, hh.gb, fun b j e => ?_⟩, by rw [List.length_set]; exact hs.1, fun j l e => ?_⟩
 ·rw [upd_ne (ne_of_none e g1)]; exact hh.gh b o e
 ·rw [upd_ne (ne_of_none e g2)]; exact hh.bh b o e
 ·obtain ⟨k1, k2, o, k3, k4⟩ := hh.wf b j e
  refine ⟨k1, k2, ?_⟩
  by_cases z : b = a
  ·rw [z, upd_same]; exact ⟨_, rfl, hc.mut⟩
  ·rw [upd_ne z]; exact ⟨o, k3, k4⟩
 ·rw [List.getElem?_set] at e
  by_cases hj : i = j
  ·subst hj
   rw [if_pos rfl] at e
   split at e
   ·cases e
    exact ⟨_, hv, a, o', rfl, hW, upd_same, hc⟩
   ·cases e
  ·rw [if_neg hj] at e
   obtain ⟨v, e1, e2⟩ := hs.2 j l e
   refine ⟨v, e1, ?_⟩
   cases l with
   | p d => exact e2
   | x C => exact e2
   | h a => exact e2
   | o d =>
    obtain ⟨b, ob, h1, h2, h3, h4⟩ := e2
    refine ⟨b, ob, h1, h2, ?_, h4⟩
    rw [upd_ne (fun z => by rw [z, hW] at h2; exact hj (Option.some.inj h2))]
    exact h3
def mAppend (i : Nat) (fe : En → Res Ev) : MS := fun en => match en[i]? with
 | some (some (.o (.list ds))) => match fe en with
  | .ok r => match r.c with
   | .p d => if ds.length ≤ 100000 then some (.nx (en.set i (some (.o (.list (ds ++ [d])))))) else none
   | _ => none
  | .exc C => some (.ex C en)
  | .bad => none
 | _ => none
theorem ds_append {i : Nat} {fe : En → Res Ev} {st : Stmt} (he : DE X E e fe) (hp : ∀ t, PE X e t → PS X st (tDrop (tBM X.K "list" rAppend (tVar i) (tCons t tNil)))) : DS X E st (mAppend i fe) := by
 obtain ⟨t, q, mm⟩ := he.out
 refine DS.in ⟨_, hp t q, fun B G0 G W H σ en Dn hh hs hw => ?_⟩
 unfold mAppend at hw
 split at hw
 ·rename_i ds ei
  obtain ⟨v, e1, a, o, rfl, e2, e3, e4⟩ := hs.2 i _ ei
  cases e4 with
  | @lst xs _ rp =>
  refine ⟨_, e1, .inl ⟨rfl, _, SqL.of e3⟩, mm B G0 G W H σ en _ hh hs ?_⟩
  cases ef : fe en with
  | bad => rw [ef] at hw; exact hw
  | exc C => rw [ef] at hw; exact fun G1 H1 s => hw G1 W H1 σ (hh.step s) (hs.step s)
  | ok r =>
   rw [ef] at hw
   intro G1 H1 y s ey
   obtain ⟨G2, s2, ey2⟩ := ey.c s
   dsimp only at hw
   cases er : r.c with
   | p d =>
    rw [er] at hw ey2
    dsimp only at hw
    split at hw
    ·rename_i hl
     have hx := s2.h _ _ e3
     refine ⟨a, xs, y, rfl, rfl, hx, Nat.lt_of_le_of_lt (by rw [rp.length]; exact hl) (by decide), ?_⟩
     obtain ⟨w1, w2⟩ := write_ok (o' := .lst (xs ++ [y])) (d' := .list (ds ++ [d])) (hh.step s2) (hs.step s2) e2 e1 (.lst ((rp.mono s2.g).append (.cons ey2 .nil)))
     exact hw _ _ _ _ w1 w2
    ·exact hw.elim
   | f d => rw [er] at hw; exact hw.elim
   | b d => rw [er] at hw; exact hw.elim
   | x C => rw [er] at hw; exact hw.elim
 ·exact hw.elim
end
section
variable {X : Cx} {K : PySem.W.Frag} {E : L2.St → XK} {a b : Expr} {fa fb : En → Res Ev} {pos : Pos}
def flatD : D → Bool
 | .none => true
 | .bool _ => true
 | .int _ => true
 | .str _ => true
 | _ => false
theorem flat_V {G : Hp} {v : V} {d : D} (h : Rep K G v d) (f : flatD d = true) : flatV v = true := by
 cases h <;> first | rfl | exact absurd f Bool.false_ne_true
theorem eqV_eqv {G : Hp} {v u : V} {d e : D} (h : Rep K G v d) (h2 : Rep K G u e) (f : flatD d = true) (f2 : flatD e = true) : eqV v u = PyData.eqv d e := by
 cases h <;> cases h2 <;> first | rfl | exact absurd f Bool.false_ne_true | exact absurd f2 Bool.false_ne_true | simp only [eqV, PyData.eqv]
def inE (ng : Bool) (x y : Ev) : Res Ev := match x with
 | .p d => match seqOf y with
  | some ds => if flatD d = true ∧ ds.all flatD = true then .ok (.p (.bool (if ng then !ds.any (fun e => PyData.eqv e d) else ds.any fun e => PyData.eqv e d))) else .bad
  | none => .bad
 | _ => .bad
theorem noX_in {ng : Bool} : NoX (inE ng) := by
 intro x y A h
 unfold inE at h
 split at h
 ·split at h
  ·split at h <;> cases h
  ·cases h
 ·cases h
theorem in_flat {G : Hp} {v : V} {d : D} (h : Rep K G v d) (f : flatD d = true) : ∀ {xs : List V} {ds : List D}, Reps K G xs ds → ds.all flatD = true → xs.all flatV = true ∧ inV v xs = ds.any (fun e => PyData.eqv e d)
 | _, _, .nil, _ => ⟨rfl, rfl⟩
 | _, _, .cons r t, hf => by
  rw [List.all_cons, Bool.and_eq_true] at hf
  obtain ⟨i1, i2⟩ := in_flat h f t hf.2
  unfold inV at i2 ⊢
  rw [List.all_cons, List.any_cons, List.any_cons, flat_V r hf.1, i1, i2, eqV_eqv r h hf.1 f]
  exact ⟨rfl, rfl⟩
theorem op_ninE {K : PySem.W.Frag} (h : X.K = K) : OpR X (compareOp .NotIn) (rIn K true) := h ▸ op_notIn_seq
theorem om_in {ng : Bool} : OpM K (rIn K ng) (inE ng) := by
 intro W G H v u x y Q gh hx hy hw
 unfold inE at hw
 split at hw
 ·rename_i d ex
  rw [ex] at hx
  split at hw
  ·rename_i ds ed
   split at hw
   ·rename_i hf
    have hx : Rep K G v d := hx
    have fin : ∀ {xs : List V}, Reps K G xs ds → xs.all flatV = true ∧ Q (.bl (if ng then !inV v xs else inV v xs)) H := fun r => by
     obtain ⟨i1, i2⟩ := in_flat hx hf.1 r hf.2
     rw [i2]
     exact ⟨i1, hw G H _ (Step.refl gh) (.bl _)⟩
    cases ey : y.c with
    | p dd =>
     rw [ey] at ed hy
     cases dd with
     | list es =>
      cases ed
      cases hy with
      | @lst a xs _ h1 h2 => exact ⟨a, xs, rfl, .inl (.inl (rd_mono gh h1)), flat_V hx hf.1, fin h2⟩
     | tuple es =>
      cases ed
      cases hy with
      | @tup a xs _ h1 h2 => exact ⟨a, xs, rfl, .inr (SqT.of (gh _ _ h1)), flat_V hx hf.1, fin h2⟩
     | _ => cases ed
    | b dd =>
     rw [ey] at ed hy
     cases dd with
     | list es =>
      cases ed
      obtain ⟨a, k, o, rfl, h1, h2, h3⟩ := hy
      cases h3 with
      | @lst xs _ h4 => exact ⟨a, xs, rfl, .inl (.inl (.inl h2)), flat_V hx hf.1, fin h4⟩
     | _ => cases ed
    | f dd => rw [ey] at ed; cases ed
    | x C => rw [ey] at ed; cases ed
   ·exact hw.elim
  ·exact hw.elim
 ·exact hw.elim
end
end M

namespace SRT
open PySem PySem.W PyProof.Rows
structure Ord (lt : Nat → Nat → Bool) : Prop where
 as : ∀ i j, lt i j = true → lt j i = false
 tr : ∀ i j k, lt j i = false → lt k j = false → lt k i = false
section
variable {lt : Nat → Nat → Bool} {n : Nat} {cmp : Nat → Nat → (Bool → Shared → Prop) → Shared → Prop} {s : Shared}
variable (hc : ∀ i j C, i < n → j < n → C (lt i j) s → cmp i j C s) (hn : 0 < n) (o : Ord lt)
include hc hn
include o
omit hc hn in
omit hc hn in
omit hc hn in
omit hc hn in
omit hc hn in
end
end SRT

namespace SRT
open PySem PySem.W PyProof.Rows L2
section
variable {prog : Program} {w : World} {A : Around} {E : Value → Shared → Prop} {s : Shared}
end
section
variable {X : Cx}
end
end SRT

namespace M
open PySem PySem.Spec PyProof.Rows L2 SRT
section
variable {X : Cx} {K : PySem.W.Frag}
def wt (G H : Hp) : Hp := fun b => match G b with
 | some o => some o
 | none => match H b with
  | some (.tup xs) => some (.tup xs)
  | _ => none
end
end M

namespace L2
open PySem PySem.Spec PyProof.Rows
section
variable {X : Cx}
end
end L2
namespace M
open PySem PySem.Spec PyProof.Rows L2
section
variable {X : Cx} {E : L2.St → XK}
end
section
variable {K : PySem.W.Frag}
end
end M

namespace L2
open PySem PySem.Spec PyProof.Rows
def Itz (K : PySem.W.Frag) (a b : Addr) : It :=
 ⟨fun i H => ∃ xs ys x y, SqL K H a xs ∧ xs[i]? = some x ∧ SqL K H b ys ∧ ys[i]? = some y,
   fun i H v H' => ∃ p x y, H p = none ∧ v = .ref p ∧ (∀ xs, SqL K H a xs → xs[i]? = some x) ∧ (∀ ys, SqL K H b ys → ys[i]? = some y) ∧ H' = upd H p (.tup [x, y]),
   fun i H => ∃ xs ys, SqL K H a xs ∧ SqL K H b ys ∧ (xs.length ≤ i ∨ ys.length ≤ i)⟩
theorem turn_zip {P : Program} {w : World} {K : PySem.W.Frag} {elts : List Expr} {x1} {tp : Pos} {l1 l2 z TI TO i1 i2 : Addr} (D : ZipApart z TI TO i1 i2 l1 l2) : Turn P w K (.Tuple elts x1 tp) (Itz K l1 l2) [z, TI, TO, i1, i2] z
  (fun i h => IsZip h z TI TO Value.none ∧ IsPair h TI (.ref i1) (.ref i2) ∧ (∃ a b, IsPair h TO a b) ∧ h.IsListIter i1 l1 i ∧ h.IsListIter i2 l2 i) where
 mem := by simp
 obj := fun i h st b hb => by
  obtain ⟨s1, s2, ⟨_, _, s3⟩, ⟨o4, q4, _, d4⟩, ⟨o5, q5, _, d5⟩⟩ := st
  simp only [List.mem_cons, List.not_mem_nil, or_false] at hb
  rcases hb with rfl | rfl | rfl | rfl | rfl
  ·exact ⟨_, s1, fun v z => nomatch z⟩
  ·exact ⟨_, s2, fun v z => nomatch z⟩
  ·exact ⟨_, s3, fun v z => nomatch z⟩
  ·exact ⟨o4, q4, fun v z => by rw [d4] at z; cases z⟩
  ·exact ⟨o5, q5, fun v z => by rw [d5] at z; cases z⟩
 keep := fun i h h' st k => by
  obtain ⟨s1, s2, ⟨a, b, s3⟩, s4, s5⟩ := st
  exact ⟨k _ (by simp) _ s1, k _ (by simp) _ s2, ⟨a, b, k _ (by simp) _ s3⟩, s4.at fun o q => k _ (by simp) o q, s5.at fun o q => k _ (by simp) o q⟩
 item := by
  intro X hP hw hK hc i pins s σ H E I hf st hg
  subst hP hw hK
  obtain ⟨s1, s2, ⟨a0, b0, s3⟩, s4, s5⟩ := st
  obtain ⟨xs, ys, x, y, hq, hx, hq2, hy⟩ := hg
  obtain ⟨its, rv, p, hz⟩ := I.list hq
  obtain ⟨its2, rv2, p2, hz2⟩ := I.list hq2
  obtain ⟨u, hu, ru⟩ := rv.get hx
  obtain ⟨u2, hu2, ru2⟩ := rv2.get hy
  have hfz := hf z (by simp)
  have hfT := hf TO (by simp)
  have hf1 := hf i1 (by simp)
  have hf2 := hf i2 (by simp)
  refine wpAny_pyNext_zip_item D s1 s2 s3 s4 s5 p.isList p2.isList (x := u) (y := u2) (by simpa using hu) (by simpa using hu2) fun h₁ z1 to1 it1 it2 tt1 hz₁ hk₁ => ?_
  refine ⟨_, rfl, wpAny_letOwnedTupleGo_zip z1 fun h₂ z2 hs₂ => ?_⟩
  have hs₂ : Heap.SameBut z h₁ h₂ := hs₂
  have hn : H s.heap.objs.size = none := I.fresh
  have nn : ∀ b o, H b = some o → b ≠ s.heap.objs.size := fun b o q => ne_of_none q hn
  have eE : z < s.heap.objs.size := Heap.lt_size s1
  have keep : ∀ b o, b ∉ [z, TO, i1, i2] → s.heap.get? b = some o → h₂.get? b = some o := fun b o hb q => by
   simp only [List.mem_cons, List.not_mem_nil, or_false, not_or] at hb
   exact (hs₂.2 b hb.1).trans (hk₁ b o hb.1 hb.2.1 hb.2.2.1 hb.2.2.2 q)
  have trk : ∀ b o, H b = some o → b ∉ [z, TO, i1, i2] := fun b o q hb => by
   have hm : b ∈ [z, TI, TO, i1, i2] := by
    simp only [List.mem_cons, List.not_mem_nil, or_false] at hb ⊢
    rcases hb with h | h | h | h <;> simp [h]
   rw [(hf b hm).1] at q; cases q
  refine ⟨.ref s.heap.objs.size, upd H s.heap.objs.size (.tup [x, y]), ?_, rfl, ⟨_, x, y, hn, rfl, fun zs hz' => by rw [I.list_inj hz' hq]; exact hx, fun zs hz' => by rw [I.list_inj hz' hq2]; exact hy, rfl⟩, ⟨z2, keep _ _ ?_ s2, ⟨_, _, (hs₂.2 _ D.TOz).trans to1⟩, it1.at fun o q => (hs₂.2 _ D.i1z).trans q, it2.at fun o q => (hs₂.2 _ D.i2z).trans q⟩, fun b hb => ?_⟩
  ·refine Inv.step (X := X) (pins := pins) (σ := σ) (H := H) (s := s) (H' := upd H s.heap.objs.size (.tup [x, y])) (h' := h₂) (g' := s.gens) (d' := s.drawn) (t' := s.toks) (ch := [z, TO, i1, i2]) I (fun b hb => ?_) (fun b o _ _ hb q _ => keep b o hb q) (fun b o _ _ hb q _ => ⟨o.slots, keep b o hb q⟩) (fun b o _ q n => ?_) (fun b o hb q => ⟨o, keep b o hb q⟩)
    (fun b ys q => ?_) (fun b o v q => ?_) (fun b ps q => ⟨#[], ?_⟩) (fun m hm => ?_) (fun b v q => ?_) I.bare
   ·have hm : b ∈ [z, TI, TO, i1, i2] := by
     simp only [List.mem_cons, List.not_mem_nil, or_false] at hb ⊢
     rcases hb with h | h | h | h <;> simp [h]
    obtain ⟨f0, f1, f2, f3, f4, f5⟩ := hf b hm
    exact ⟨f3, f1, f4, f5⟩
   ·rw [upd_ne (Nat.ne_of_lt (Heap.lt_size q))]; exact n
   ·rw [upd_ne (nn b _ q)]; exact q
   ·rw [upd_ne (nn b _ q)]; exact q
   ·rw [upd_ne (nn b _ q), q]; simp
   ·obtain ⟨o, es, ep, ho, r⟩ := hm
    refine ⟨o, es, ep, keep _ o (fun zz => ?_) ho, r⟩
    simp only [List.mem_cons, List.not_mem_nil, or_false] at zz
    rcases zz with h | h | h | h
    ·exact hfz.2.1 h.symm
    ·exact hfT.2.1 h.symm
    ·exact hf1.2.1 h.symm
    ·exact hf2.2.1 h.symm
   ·by_cases hb : b = s.heap.objs.size
    ·subst hb
     rw [upd_same] at q
     cases q
     refine ⟨by show 2 ≤ sizeLine; decide, [u, u2], .cons ru (.cons ru2 .nil), _, (hs₂.2 _ (Nat.ne_of_gt eE)).trans tt1, rfl, _, rfl⟩
    ·rw [upd_ne hb] at q
     refine (I.hok b v q).stay (fun c w' hc q' => keep c w' ?_ q') (fun c q' => ?_) fun c ys q' => ?_
     ·rcases hc with zz | zz
      ·rw [zz]; exact trk b v q
      ·exact trk c _ zz
     ·rw [upd_ne (nn c _ q')]; exact q'
     ·rw [upd_ne (nn c _ q')]; exact q'
  ·simp only [List.mem_cons, List.not_mem_nil, or_false, not_or]
   exact ⟨D.TIz, D.TITO, D.TIi1, D.TIi2⟩
  ·have hb' := (hf b hb).1
   have : b ≠ s.heap.objs.size := by
    simp only [List.mem_cons, List.not_mem_nil, or_false] at hb
    obtain ⟨o4, q4, _⟩ := id s4
    obtain ⟨o5, q5, _⟩ := id s5
    rcases hb with h | h | h | h | h <;> rw [h]
    ·exact Nat.ne_of_lt eE
    ·exact Nat.ne_of_lt (Heap.lt_size s2)
    ·exact Nat.ne_of_lt (Heap.lt_size s3)
    ·exact Nat.ne_of_lt (Heap.lt_size q4)
    ·exact Nat.ne_of_lt (Heap.lt_size q5)
   rw [upd_ne this]; exact hb'
 done := by
  intro X hP hw hK hc i pins s σ H E I hf st hg
  subst hP hw hK
  obtain ⟨s1, s2, ⟨a0, b0, s3⟩, s4, s5⟩ := st
  obtain ⟨xs, ys, hq, hq2, hx⟩ := hg
  obtain ⟨its, rv, p, hz⟩ := I.list hq
  obtain ⟨its2, rv2, p2, hz2⟩ := I.list hq2
  have hl := rv.length
  have hl2 := rv2.length
  refine wpAny_pyNext_zip_end (I.ok.hd hc) D s1 s2 s3 s4 s5 p.isList p2.isList (hx.imp (fun h => by simp; omega) fun h => by simp; omega) fun h' hk => ⟨rfl, ?_⟩
  have keep : ∀ b o, b ∉ [z, TO, i1, i2] → s.heap.get? b = some o → h'.get? b = some o := fun b o hb q => by
   simp only [List.mem_cons, List.not_mem_nil, or_false, not_or] at hb
   exact hk b o hb.1 hb.2.1 hb.2.2.1 hb.2.2.2 q
  have hin : ∀ b, b ∈ [z, TO, i1, i2] → b ∈ [z, TI, TO, i1, i2] := fun b hb => by
   simp only [List.mem_cons, List.not_mem_nil, or_false] at hb ⊢
   rcases hb with h | h | h | h <;> simp [h]
  have trk : ∀ b o, H b = some o → b ∉ [z, TO, i1, i2] := fun b o q hb => by rw [(hf b (hin b hb)).1] at q; cases q
  refine Inv.step (X := X) (pins := pins) (σ := σ) (H := H) (s := s) (H' := H) (h' := h') (g' := s.gens) (d' := s.drawn) (t' := s.toks) (ch := [z, TO, i1, i2]) I (fun b hb => ?_) (fun b o _ _ hb q _ => keep b o hb q) (fun b o _ _ hb q _ => ⟨o.slots, keep b o hb q⟩) (fun b o _ q n => n) (fun b o hb q => ⟨o, keep b o hb q⟩)
   (fun _ _ q => q) (fun _ _ _ q => q) (fun b ps q => ⟨#[], by rw [q]; simp⟩) (fun m hm => ?_) (fun b v q => ?_) I.bare
  ·obtain ⟨f0, f1, f2, f3, f4, f5⟩ := hf b (hin b hb)
   exact ⟨f3, f1, f4, f5⟩
  ·obtain ⟨o, es, ep, ho, r⟩ := hm
   exact ⟨o, es, ep, keep _ o (fun zz => (hf _ (hin _ zz)).2.1 rfl) ho, r⟩
  ·refine (I.hok b v q).stay (fun c w' hc q' => keep c w' ?_ q') (fun _ q' => q') fun _ _ q' => q'
   rcases hc with zz | zz
   ·rw [zz]; exact trk b v q
   ·exact trk c _ zz
 self := fun _ _ _ _ _ st h => wpAny_pyIter_zip st.1 h
section
variable {X : Cx}
def iZip (K : PySem.W.Frag) (ta : TA) : TI := fun σ H R => ta σ H fun vs H1 => ∃ a b xs ys, vs = [.ref a, .ref b] ∧ Rd H1 a (.lst xs) ∧ Rd H1 b (.lst ys) ∧ R (Itz K a b) H1
theorem bT_zip0 : bootBuiltins "zip" = some (.type "zip") := by decide +kernel
theorem pi_zip {a b : Expr} {ta : TA} {p pos tp : Pos} {elts : List Expr} {x1} (hg : Gl X "zip") (hm : X.mg "zip" = none) (ha : PA X [a, b] ta) (hs : starEach [a, b] X.env = [(false, eval a X.env), (false, eval b X.env)] := by rfl) (hs2 : starEach [b] X.env = [(false, eval b X.env)] := by rfl) : PI X (.Tuple elts x1 tp) (.Call (.Name "zip" p) [a, b] [] pos) (iZip X.K ta) := by
 intro pins s σ H R I h
 refine Call_ (ld_blt I hg hm bT_zip0 (PyProof.Rows.callWith_type1 (thn (ha pos pins s σ H _ I h) fun us s1 ⟨vs, H1, I1, r1, q1⟩ => ?_) (by rw [hs, hs2]) (by rw [hs2]; rfl)))
 obtain ⟨a, b, xs, ys, rfl, hr, hr2, q⟩ := q1
 obtain ⟨u, u2, rfl, ru, ru2⟩ := vals2 r1
 cases (show u = Value.ref a from ru)
 cases (show u2 = Value.ref b from ru2)
 obtain ⟨_, its, n, rv, ho⟩ := hr.ok I1.hok
 obtain ⟨_, its2, n2, rv2, ho2⟩ := hr2.ok I1.hok
 refine call_zip_2 ⟨_, ho, rfl, _, rfl⟩ ⟨_, ho2, rfl, _, rfl⟩ fun h' he hp1 hp2 hit hit2 hz hk => ?_
 refine wpAny_pyIter_zip (s := { s1 with heap := h' }) he ?_
 refine ⟨s1.heap.objs.size + 4, [s1.heap.objs.size + 4, s1.heap.objs.size + 2, s1.heap.objs.size + 3, s1.heap.objs.size, s1.heap.objs.size + 1], _, _, H1, rfl, I1.kept (t' := s1.toks) hk, turn_zip (zipApart_new (Heap.lt_size ho) (Heap.lt_size ho2)), ⟨he, hp1, ⟨_, _, hp2⟩, hit, hit2⟩, fun b hb => ?_, q⟩
 have hle : s1.heap.objs.size ≤ b := by
  simp only [List.mem_cons, List.not_mem_nil, or_false] at hb
  rcases hb with h | h | h | h | h <;> rw [h]
  ·exact Nat.le_add_right _ _
  ·exact Nat.le_add_right _ _
  ·exact Nat.le_add_right _ _
  ·exact Nat.le_refl _
  ·exact Nat.le_add_right _ _
 exact I1.fpOk hle (I1.hok.fresh hle)
end
end L2
namespace M
open PySem PySem.Spec PyProof.Rows L2
def zipL : List D → List D → List D
 | x :: xs, y :: ys => .tuple [x, y] :: zipL xs ys
 | _, _ => []
theorem zipL_get : ∀ (xs ys : List D) (i : Nat), (zipL xs ys)[i]? = match xs[i]?, ys[i]? with
  | some x, some y => some (.tuple [x, y])
  | _, _ => none
 | [], _, i => by simp [zipL]
 | _ :: _, [], i => by cases i <;> simp [zipL]
 | x :: xs, y :: ys, 0 => by simp [zipL]
 | x :: xs, y :: ys, i + 1 => by
  unfold zipL
  rw [List.getElem?_cons_succ, List.getElem?_cons_succ, List.getElem?_cons_succ, zipL_get xs ys i]
theorem zipL_len : ∀ (xs ys : List D), xs.length ≤ (zipL xs ys).length ∨ ys.length ≤ (zipL xs ys).length
 | [], _ => .inl (Nat.zero_le _)
 | _ :: _, [] => .inr (Nat.zero_le _)
 | x :: xs, y :: ys => by
  unfold zipL
  rcases zipL_len xs ys with h | h
  ·exact .inl (Nat.succ_le_succ h)
  ·exact .inr (Nat.succ_le_succ h)
def zipR (rs : List Ev) : Res (List D) := match rs with
 | [.p (.list xs), .p (.list ys)] => .ok (zipL xs ys)
 | _ => .bad
theorem di_zip {X : Cx} {E : L2.St → XK} {a b : Expr} {fr : En → Res (List Ev)} {p pos tp : Pos} {elts : List Expr} {x1} (hg : Gl X "zip") (hm : X.mg "zip" = none) (ha : DA X E [a, b] fr) (hs : starEach [a, b] X.env = [(false, eval a X.env), (false, eval b X.env)] := by rfl) (hs2 : starEach [b] X.env = [(false, eval b X.env)] := by rfl) :
  DI X E (.Tuple elts x1 tp) (.Call (.Name "zip" p) [a, b] [] pos) (mItA zipR fr) := by
 obtain ⟨t, q, m⟩ := ha.out
 refine DI.in ⟨_, pi_zip hg hm q hs hs2, fun B G0 G W H σ en R hh hs hw => m B G0 G W H σ en _ hh hs ?_⟩
 have hw : wpR ((fr en).bind _) _ _ := hw
 rw [wpR_bind] at hw
 refine wpR_mono hw (fun rs hr G1 H1 vs s e => ?_) fun C h => h
 unfold zipR at hr
 split at hr
 ·rename_i ds es
  match vs, e with
  | [v, v2], ⟨e1, e2, _⟩ =>
   cases e1 with
   | @lst a xs _ h1 h2 =>
    cases e2 with
    | @lst b ys _ g1 g2 =>
     refine ⟨a, b, xs, ys, rfl, rd_mono s.gh h1, rd_mono s.gh g1, hr G1 H1 _ s fun G3 H3 k1 k2 => ⟨fun i d ed => ?_, ?_⟩⟩
     ·rw [zipL_get] at ed
      cases ex0 : ds[i]? with
      | none => rw [ex0] at ed; cases ed
      | some d1 =>
       cases ey0 : es[i]? with
       | none => rw [ex0, ey0] at ed; cases ed
       | some d2 =>
        rw [ex0, ey0] at ed
        cases ed
        obtain ⟨x, ex, rx⟩ := h2.get' ex0
        obtain ⟨y, ey, ry⟩ := g2.get' ey0
        have sq : SqL X.K H3 a xs := .inl (rd_mono (k1.trans k2) h1)
        have sq2 : SqL X.K H3 b ys := .inl (rd_mono (k1.trans k2) g1)
        refine ⟨⟨xs, ys, x, y, sq, ex, sq2, ey⟩, fun v H' hy => ?_⟩
        obtain ⟨p, x', y', hp, rfl, hx', hy', rfl⟩ := hy
        have e1 := hx' xs sq
        have e2 := hy' ys sq2
        rw [ex] at e1
        rw [ey] at e2
        cases e1
        cases e2
        have st := Step.put (o := .tup [x, y]) k2 hp
        exact ⟨_, st, .tup upd_same (.cons (rx.mono (k1.trans st.g)) (.cons (ry.mono (k1.trans st.g)) .nil))⟩
     ·refine ⟨xs, ys, .inl (rd_mono (k1.trans k2) h1), .inl (rd_mono (k1.trans k2) g1), ?_⟩
      rw [h2.length, g2.length]
      exact zipL_len ds es
 ·exact hr.elim
end M

namespace L2
open PySem PySem.Spec PyProof.Rows
section
variable {X : Cx}
end
end L2
namespace M
open PySem PySem.Spec PyProof.Rows L2
variable {K : PySem.W.Frag}
end M

namespace M
open PySem PySem.Spec PyProof.Rows L2
section
variable {X : Cx} {E : L2.St → XK} {e : Expr}
def mExtend (i : Nat) (fe : En → Res Ev) : MS := fun en => match en[i]? with
 | some (some (.o (.list ds))) => match fe en with
  | .ok (.f (.list es)) => if ds.length + es.length ≤ 100000 then some (.nx (en.set i (some (.o (.list (ds ++ es)))))) else none
  | .exc C => some (.ex C en)
  | _ => none
 | _ => none
theorem ds_extend {i : Nat} {fe : En → Res Ev} {st : Stmt} (he : DE X E e fe) (hp : ∀ t, PE X e t → PS X st (tDrop (tBM X.K "list" rExtend (tVar i) (tCons t tNil)))) : DS X E st (mExtend i fe) := by
 obtain ⟨t, q, mm⟩ := he.out
 refine DS.in ⟨_, hp t q, fun B G0 G W H σ en Dn hh hs hw => ?_⟩
 unfold mExtend at hw
 split at hw
 ·rename_i ds ei
  obtain ⟨v, e1, a, o, rfl, e2, e3, e4⟩ := hs.2 i _ ei
  cases e4 with
  | @lst xs _ rp =>
  refine ⟨_, e1, .inl ⟨rfl, _, SqL.of e3⟩, mm B G0 G W H σ en _ hh hs ?_⟩
  cases ef : fe en with
  | bad => rw [ef] at hw; exact hw
  | exc C => rw [ef] at hw; exact fun G1 H1 s => hw G1 W H1 σ (hh.step s) (hs.step s)
  | ok r =>
   rw [ef] at hw
   cases r with
   | p d => exact hw.elim
   | b d => exact hw.elim
   | x C => exact hw.elim
   | f d =>
    cases d with
    | list es =>
     dsimp only at hw
     split at hw
     ·rename_i hl
      rintro G1 H1 y s ⟨b, ob, rfl, k1, k2, k3, k4⟩
      cases k4 with
      | @lst zs _ rz =>
      have hx := s.h _ _ e3
      refine ⟨a, b, xs, zs, rfl, rfl, hx, k3, Nat.le_trans (by rw [rp.length, rz.length]; exact hl) (by decide), ?_⟩
      obtain ⟨w1, w2⟩ := write_ok (o' := .lst (xs ++ zs)) (d' := .list (ds ++ es)) (hh.step s) (hs.step s) e2 e1 (.lst ((rp.mono s.g).append rz))
      exact hw _ _ _ _ w1 w2
     ·exact hw.elim
    | _ => exact hw.elim
 ·exact hw.elim
end
section
variable {X : Cx} {K : PySem.W.Frag}
end
end M

namespace L2
open PySem PySem.Spec PyProof.Rows
section
variable {X : Cx}
end
end L2
namespace M
open PySem PySem.Spec PyProof.Rows L2
end M

namespace L2
open PySem PySem.Spec PyProof.Rows
section
variable {X : Cx}
def maxL (i : Int) (is : List Int) : Int := is.foldl (fun a b => if a < b then b else a) i
def rMaxL (K : PySem.W.Frag) : List V → Hp → VK → Prop := fun xs H Q => ∃ a i is, xs = [.ref a] ∧ SqL K H a ((i :: is).map V.int) ∧ Q (.int (maxL i is)) H
theorem vals_intsT : ∀ {is : List Int} {us : List Value}, Vals (is.map V.int) us → ∃ ts : List (Int × Tok), us = ts.map (fun p => Value.int p.1 p.2) ∧ ts.map (·.1) = is
 | [], _, .nil => ⟨[], rfl, rfl⟩
 | i :: is, _, .cons r t => by
  obtain ⟨tk, e⟩ := r
  obtain ⟨ts, e1, e2⟩ := vals_intsT t
  refine ⟨(i, tk) :: ts, ?_, ?_⟩
  ·rw [e, e1]; rfl
  ·rw [List.map_cons, e2]
theorem argBest_maxL (f : Nat → Int) : ∀ k, f (argBest (fun i j => decide (f i > f j)) k) = maxL (f 0) ((List.range k).map fun j => f (j + 1))
 | 0 => rfl
 | k + 1 => by
  have ih := argBest_maxL f k
  unfold maxL at ih ⊢
  rw [List.range_succ, List.map_append, List.foldl_append, ← ih]
  show f (if decide (f (k + 1) > f (argBest (fun i j => decide (f i > f j)) k)) = true then k + 1 else argBest (fun i j => decide (f i > f j)) k) = if f (argBest (fun i j => decide (f i > f j)) k) < f (k + 1) then f (k + 1) else f (argBest (fun i j => decide (f i > f j)) k)
  by_cases h : f (argBest (fun i j => decide (f i > f j)) k) < f (k + 1)
  ·rw [if_pos h, if_pos (decide_eq_true h)]
  ·rw [if_neg h, if_neg (by simpa using h)]
theorem call_maxL (hc : X.calm = true) {K : PySem.W.Frag} (hK : X.K = K) : CallR X (.builtin "max") (rMaxL K) := by
 subst hK
 intro pins s σ H xs us Q I r h
 obtain ⟨a, i, is, rfl, hq, q⟩ := h
 obtain ⟨u, rfl, ru⟩ := vals1 r
 cases ru
 obtain ⟨its, rv, p, hz⟩ := I.list hq
 obtain ⟨ts, e1, e2⟩ := vals_intsT rv
 have hn : ts.length = is.length + 1 := by
  have := congrArg List.length e2
  rw [List.length_map, List.length_cons] at this
  exact this
 have hl : s.heap.IsList a (intItems ts.toArray) := by
  have h := p.isList
  rw [e1] at h
  simpa [intItems] using h
 have num : ∀ j, numAt ts.toArray j = ((i :: is)[j]?).getD 0 := fun j => by
  rw [← e2]
  simp [numAt]
 refine max_intList (A := X.A) (I.ok.hd hc) hl (by simp; omega) fun v h' tk hP hk => ⟨.int (maxL i is), H, I.kept hk, ?_, q⟩
 obtain ⟨t, rfl⟩ := intItems_at hP
 refine ⟨t, ?_⟩
 rw [argBest_maxL (numAt ts.toArray)]
 have e0 : numAt ts.toArray 0 = i := by rw [num]; rfl
 have e3 : ((List.range (ts.toArray.size - 1)).map fun j => numAt ts.toArray (j + 1)) = is := by
  rw [List.size_toArray, hn, Nat.add_sub_cancel]
  apply List.ext_getElem
  ·simp
  ·intro j h1 h2
   simp [num, h2]
 rw [e0, e3]
end
end L2
namespace M
open PySem PySem.Spec PyProof.Rows L2
variable {K : PySem.W.Frag}
def intsOf : List D → Option (List Int)
 | [] => some []
 | .int b :: ds => match intsOf ds with
  | some bs => some (b :: bs)
  | none => none
 | _ => none
theorem intsOf_map : ∀ is : List Int, intsOf (is.map .int) = some is
 | [] => rfl
 | i :: is => by
  show (match intsOf (is.map .int) with | some bs => some (i :: bs) | none => none) = _
  rw [intsOf_map is]
theorem ints_reps {G : Hp} : ∀ {ds : List D} {bs : List Int} {xs : List V}, intsOf ds = some bs → Reps K G xs ds → xs = bs.map V.int
 | [], _, _, h, .nil => by cases h; rfl
 | d :: ds, bs, _, h, .cons r t => by
  cases d with
  | int b =>
   unfold intsOf at h
   cases e : intsOf ds with
   | none => rw [e] at h; cases h
   | some bs' =>
    rw [e] at h
    cases h
    cases r
    rw [ints_reps e t]
    rfl
  | _ => cases h
def maxE (rs : List Ev) : Res Ev := match rs with
 | [x] => match lstOf x with
  | some ds => match intsOf ds with
   | some (i :: is) => .ok (.p (.int (maxL i is)))
   | _ => .bad
  | none => .bad
 | _ => .bad
theorem noX_max : NoXs maxE := by
 intro rs C h
 unfold maxE at h
 split at h
 ·split at h
  ·split at h <;> cases h
  ·cases h
 ·cases h
theorem cm_maxL : CallM K (rMaxL K) maxE := by
 intro W Hs G H vs rs Q gh he hw
 unfold maxE at hw
 split at hw
 ·rename_i x
  match vs, he with
  | [v], ⟨h1, _⟩ =>
   split at hw
   ·rename_i ds ed
    obtain ⟨a, xs, rfl, k1, k2⟩ := lst_at gh h1 ed
    split at hw
    ·rename_i i is eb
     have := ints_reps eb k2
     subst this
     exact ⟨a, i, is, rfl, .inl k1, hw G H _ (Step.refl gh) (.int _)⟩
    ·exact hw.elim
   ·exact hw.elim
 ·exact hw.elim
end M

namespace L2
open PySem PySem.Spec PyProof.Rows
section
variable {X : Cx} {tg : Expr}
end
end L2
namespace M
open PySem PySem.Spec PyProof.Rows L2
section
variable {X : Cx} {E : L2.St → XK} {pos : Pos}
end
end M
namespace L2
open PySem PySem.Spec PyProof.Rows M
section
variable {X : Cx}
end
end L2
namespace M
open PySem PySem.Spec PyProof.Rows L2
variable {K : PySem.W.Frag}
end M

namespace L2
open PySem PySem.Spec PyProof.Rows
end L2
namespace M
open PySem PySem.Spec PyProof.Rows L2
section
variable {X : Cx} {E : L2.St → XK}
end
variable {K : PySem.W.Frag}
end M

namespace L2
open PySem PySem.Spec PyProof.Rows M
section
variable {X : Cx}
end
end L2
namespace M
open PySem PySem.Spec PyProof.Rows L2
variable {K : PySem.W.Frag}
end M

namespace L2
open PySem PySem.Spec PyProof.Rows
def CMulX (i j : Int) : Prop := CMulW i j ∨ CMul i j
theorem op_mulX {X : Cx} : OpR X (binaryOp .Mult) (rI CMulX fun i j => .int (i * j)) := opI fun _ _ _ _ _ _ _ hc q => mul_int q (hc.elim CMulW.ok CMul.ok)
end L2
namespace M
open PySem PySem.Spec PyProof.Rows L2
variable {K : PySem.W.Frag}
noncomputable abbrev mulXE : Ev → Ev → Res Ev := intE CMulX fun i j => .int (i * j)
theorem om_mulX : OpM K (rI CMulX fun i j => .int (i * j)) mulXE := om_int fun _ _ _ => .int _
theorem mulX_ok {i j : Int} (h : CMulX i j) : mulXE (.p (.int i)) (.p (.int j)) = .ok (.p (.int (i * j))) := by simp [intE, h]
theorem mulX_r {i j : Int} (h1 : -(2 ^ 64) < j) (h2 : j < 2 ^ 64) : mulXE (.p (.int i)) (.p (.int j)) = .ok (.p (.int (i * j))) := mulX_ok (.inr (.inr ⟨h1, h2⟩))
end M

namespace L2
open PySem PySem.Spec PyProof.Rows M SRT
section
variable {prog : Program} {w : World} {A : Around} {E : Value → Shared → Prop} {s : Shared}
end
section
variable {X : Cx}
end
end L2
namespace M
open PySem PySem.Spec PyProof.Rows L2 SRT
variable {K : PySem.W.Frag}
end M

namespace L2
open PySem PySem.Spec PyProof.Rows
section
variable {X : Cx} {CX : CXT} {k : Nat} {f : Addr} {fd : FuncData} {ps : List Str} {sp : Sp} {E : St → XK} {x : Str} {p pos : Pos}
end
end L2
namespace M
open PySem PySem.Spec PyProof.Rows L2
section
variable {X : Cx} {E : L2.St → XK} {k j : Nat} {x : Str} {p pos : Pos} {n : Nat} {m : List L → Res L}
end
end M

namespace L2
open PySem PySem.Spec PyProof.Rows
section
variable {X : Cx} {pos : Pos}
end
end L2
namespace M
open PySem PySem.Spec PyProof.Rows L2
section
variable {X : Cx} {E : L2.St → XK} {pos : Pos}
end
end M

namespace L2
open PySem PySem.Spec PyProof.Rows
section
variable {X : Cx}
def rSum (K : PySem.W.Frag) : List V → Hp → VK → Prop := fun xs H Q => ∃ (a : Addr) (is : List Int), xs = [.ref a] ∧ SqL K H a (is.map V.int) ∧ Q (.int is.sum) H
theorem preSum_sum (f : Nat → Int) : ∀ (is : List Int), (∀ j, j < is.length → f j = (is[j]?).getD 0) → preSum f is.length = is.sum := by
 have gen : ∀ (n : Nat) (is : List Int), is.length = n → (∀ j, j < is.length → f j = (is[j]?).getD 0) → preSum f n = is.sum := by
  intro n
  induction n with
  | zero =>
   intro is h _
   rw [List.length_eq_zero_iff.mp h]
   rfl
  | succ n ih =>
   intro is h hj
   have hne : is ≠ [] := fun z => by rw [z] at h; cases h
   have e : is = is.dropLast ++ [is.getLast hne] := (List.dropLast_concat_getLast hne).symm
   have hl : is.dropLast.length = n := by rw [List.length_dropLast]; omega
   have h1 := ih is.dropLast hl fun j hj' => by
    rw [hj j (by omega)]
    conv => lhs; rw [e]
    rw [List.getElem?_append_left hj']
   show preSum f n + f n = is.sum
   rw [h1, hj n (by omega)]
   conv => rhs; rw [e, List.sum_append]
   conv => lhs; rw [e]
   rw [List.getElem?_append_right (by omega), hl]
   simp
 exact fun is hj => gen _ is rfl hj
theorem call_sumL (hc : X.calm = true) {K : PySem.W.Frag} (hK : X.K = K) : CallR X (.builtin "sum") (rSum K) := by
 subst hK
 intro pins s σ H xs us Q I r h
 obtain ⟨a, is, rfl, hq, q⟩ := h
 obtain ⟨u, rfl, ru⟩ := vals1 r
 cases ru
 obtain ⟨its, rv, p, hz⟩ := I.list hq
 obtain ⟨ts, e1, e2⟩ := vals_intsT rv
 have hl : s.heap.IsList a (intItems ts.toArray) := by
  have h := p.isList
  rw [e1] at h
  simpa [intItems] using h
 have hn : ts.length = is.length := by
  have := congrArg List.length e2
  rw [List.length_map] at this
  exact this
 have num : ∀ j, numAt ts.toArray j = (is[j]?).getD 0 := fun j => by
  rw [← e2]
  simp [numAt]
 refine sum_intListG (A := X.A) (I.ok.hd hc) hl fun h' tk t' hk => ⟨.int is.sum, H, I.kept hk, ?_, q⟩
 refine ⟨t', ?_⟩
 rw [List.size_toArray, hn, preSum_sum _ is fun j _ => num j]
theorem vals_intsAre : ∀ {is : List Int} {us : List Value}, Vals (is.map V.int) us → IntsAre us is
 | [], _, .nil => .nil
 | i :: is, _, .cons r t => by
  obtain ⟨tk, e⟩ := r
  rw [e]
  exact .cons i tk (vals_intsAre t)
def rCount (K : PySem.W.Frag) : V → List V → Hp → VK → Prop := fun x vs H Q => ∃ (a : Addr) (k : Int) (is : List Int), x = .ref a ∧ vs = [.int k] ∧ SqL K H a (is.map V.int) ∧ Q (.int (is.count k : Nat)) H
theorem mt_count {K : PySem.W.Frag} (hK : X.K = K) : MtR X "list.count" (rCount K) := by
 subst hK
 intro pins s σ H x vs v us Q I rx rv h
 obtain ⟨a, k, is, rfl, rfl, hq, q⟩ := h
 cases rx
 obtain ⟨u, rfl, t, rfl⟩ := vals1 rv
 obtain ⟨its, r', p, hz⟩ := I.list hq
 exact count_list_ints p.isList (vals_intsAre r') ⟨.int (is.count k : Nat), H, I.tok _, ⟨_, rfl⟩, q⟩
def rIndex (K : PySem.W.Frag) : V → List V → Hp → VK → Prop := fun x vs H Q => ∃ (a : Addr) (k : Int) (is : List Int), x = .ref a ∧ vs = [.int k] ∧ SqL K H a (is.map V.int) ∧ k ∈ is ∧ Q (.int (is.idxOf k : Nat)) H
theorem mt_index {K : PySem.W.Frag} (hK : X.K = K) : MtR X "list.index" (rIndex K) := by
 subst hK
 intro pins s σ H x vs v us Q I rx rv h
 obtain ⟨a, k, is, rfl, rfl, hq, hk, q⟩ := h
 cases rx
 obtain ⟨u, rfl, t, rfl⟩ := vals1 rv
 obtain ⟨its, r', p, hz⟩ := I.list hq
 have hi := vals_intsAre r'
 obtain ⟨⟨cls, dd, data, sl⟩, ho, hc, n, hd⟩ := p.isList
 simp only at hc hd
 subst hc hd
 have hlen := hi.length
 have hj : is.idxOf k < is.length := List.idxOf_lt_length_iff.mpr hk
 have hz' : is.length ≤ sizeLine := by simpa using hz
 have hn := line63
 refine call_meets PySem.F.slot_list_index ⟨_, ho, rfl⟩ PySem.F.entry_list_index (PySem.F.args_list_index_2 _ _)
  (SeqAt.list_indexAt a its.toArray n dd sl (.int k t) (isInt k) (is.idxOf k) (by simpa [hlen] using hj) (by omega) ?_ ?_) ⟨ho, fun y hy => (eq_isInt k t hi y (by simpa using hy)).at _ _, ⟨.int (is.idxOf k : Nat), H, I.tok _, ⟨_, rfl⟩, q⟩⟩
 ·show isInt k its[is.idxOf k] = true
  rw [isInt_at k hi _ (by omega) hj]
  simpa using List.getElem_idxOf hj
 ·intro j hjs hlt
  show isInt k its[j] = false
  rw [isInt_at k hi j (by simpa using hjs) (by omega)]
  exact ne_of_lt_idxOf hlt _
end
end L2
namespace M
open PySem PySem.Spec PyProof.Rows L2
section
variable {K : PySem.W.Frag}
def sumE (rs : List Ev) : Res Ev := match rs with
 | [x] => match lstOf x with
  | some ds => match intsOf ds with
   | some is => .ok (.p (.int is.sum))
   | none => .bad
  | none => .bad
 | _ => .bad
theorem noX_sum : NoXs sumE := by
 intro rs C h
 unfold sumE at h
 split at h
 ·split at h
  ·split at h <;> cases h
  ·cases h
 ·cases h
theorem cm_sum : CallM K (rSum K) sumE := by
 intro W Hs G H vs rs Q gh he hw
 unfold sumE at hw
 split at hw
 ·rename_i x
  match vs, he with
  | [v], ⟨h1, _⟩ =>
   split at hw
   ·rename_i ds ed
    obtain ⟨a, xs, rfl, k1, k2⟩ := lst_at gh h1 ed
    split at hw
    ·rename_i is eb
     have := ints_reps eb k2
     subst this
     exact ⟨a, is, rfl, .inl k1, hw G H _ (Step.refl gh) (.int _)⟩
    ·exact hw.elim
   ·exact hw.elim
 ·exact hw.elim
def countE (x y : Ev) : Res Ev := match y with
 | .p (.int k) => match lstOf x with
  | some ds => match intsOf ds with
   | some is => .ok (.p (.int (is.count k : Nat)))
   | none => .bad
  | none => .bad
 | _ => .bad
def indexE (x y : Ev) : Res Ev := match y with
 | .p (.int k) => match lstOf x with
  | some ds => match intsOf ds with
   | some is => if k ∈ is then .ok (.p (.int (is.idxOf k : Nat))) else .bad
   | none => .bad
  | none => .bad
 | _ => .bad
theorem noX_count : NoX countE := by
 intro x y C h
 unfold countE at h
 split at h
 ·split at h
  ·split at h <;> cases h
  ·cases h
 ·cases h
theorem noX_index : NoX indexE := by
 intro x y C h
 unfold indexE at h
 split at h
 ·split at h
  ·split at h
   ·split at h <;> cases h
   ·cases h
  ·cases h
 ·cases h
theorem om_count : OpM K (fun v u H Q => rCount K v [u] H Q) countE := by
 intro W G H v u x y Q gh hx hy hw
 unfold countE at hw
 split at hw
 ·rename_i k ey
  rw [ey] at hy
  cases hy
  split at hw
  ·rename_i ds ed
   obtain ⟨a, xs, rfl, k1, k2⟩ := lst_at gh hx ed
   split at hw
   ·rename_i is eb
    have := ints_reps eb k2
    subst this
    exact ⟨a, k, is, rfl, rfl, .inl k1, hw G H _ (Step.refl gh) (.int _)⟩
   ·exact hw.elim
  ·exact hw.elim
 ·exact hw.elim
theorem om_index : OpM K (fun v u H Q => rIndex K v [u] H Q) indexE := by
 intro W G H v u x y Q gh hx hy hw
 unfold indexE at hw
 split at hw
 ·rename_i k ey
  rw [ey] at hy
  cases hy
  split at hw
  ·rename_i ds ed
   obtain ⟨a, xs, rfl, k1, k2⟩ := lst_at gh hx ed
   split at hw
   ·rename_i is eb
    split at hw
    ·rename_i hk
     have := ints_reps eb k2
     subst this
     exact ⟨a, k, is, rfl, rfl, .inl k1, hk, hw G H _ (Step.refl gh) (.int _)⟩
    ·exact hw.elim
   ·exact hw.elim
  ·exact hw.elim
 ·exact hw.elim
end
def mMt (op : Ev → Ev → Res Ev) (fo fe : En → Res Ev) : En → Res Ev := fun en => (fo en).bind fun x => if (lstOf x.c).isSome = true then (fe en).bind fun y => op x.c y.c else .bad
theorem de_mt {X : Cx} {E : L2.St → XK} {o e : Expr} {fo fe : En → Res Ev} {name : Str} {id : String} {apos cpos : Pos} {r : V → List V → Hp → VK → Prop} {f : Ev → Ev → Res Ev} (slot : PySem.Slot "list" name id) (hty : typeOf (.builtin id) = pure (.type "method_descriptor")) (hm : MtR X id r) (hM : OpM X.K (fun v u H Q => r v [u] H Q) f) (hn : NoX f) (ho : DE X E o fo) (ha : DE X E e fe)
  (hbase : attributeBase o name X.env (eval o X.env) = eval o X.env := by rfl)
  (hfew : ((backTo cpos (starEach [e] X.env)).all (fun x => !x.1) && (backToKw cpos (keywordEach [] X.env)).all (fun x => x.1.isSome)
   && decide ([e].length + ([] : List Keyword).length + (if ([] : List Keyword).isEmpty then 0 else 1) < 30)) = true := by rfl)
  (hline : (apos.endLine == cpos.line) = true := by rfl) (hs : starEach [e] X.env = (false, eval e X.env) :: starEach [] X.env := by rfl) (hplain : (backTo cpos (starEach [] X.env)).any (·.1) = false := by rfl) :
  DE X E (.Call (.Attribute o name apos) [e] [] cpos) (mMt f fo fe) := by
 obtain ⟨to, po, mo⟩ := ho.out
 obtain ⟨te, pe, me⟩ := ha.out
 refine DE.in ⟨_, pe_bm PySem.F.plainAttrs_list slot hty hm po (pa_cons pe pa_nil hs) hbase hfew hline hs hplain, fun B G0 G W H σ en Q hh hs' hw => ?_⟩
 refine mo B G0 G W H σ en _ hh hs' (DE.go hw fun x G1 H1 v s1 e1 h1 => ?_)
 split at h1
 ·rename_i hx
  obtain ⟨ds, ed⟩ := Option.isSome_iff_exists.mp hx
  obtain ⟨a, xs, rfl, k1, k2⟩ := lst_at s1.gh e1 ed
  refine ⟨.inl ⟨rfl, xs, .inl k1⟩, ?_⟩
  refine me B G0 G1 W H1 σ en _ (hh.step s1) (hs'.step s1) (DE.go h1 fun y G2 H2 u s2 e2 h2 => ?_)
  exact hM W G2 H2 (.ref a) u x y Q s2.gh (e1.step s2) (by cases y <;> exact e2) (noX h2 (hn _ _))
 ·exact h1.elim
end M
namespace L2
open PySem PySem.Spec PyProof.Rows
section
variable {X : Cx}
def rExtR : V → List V → Hp → VK → Prop := fun x vs H Q => ∃ l b xs zs, x = .ref l ∧ vs = [.ref b] ∧ H l = some (.lst xs) ∧ Rd H b (.lst zs) ∧ xs.length + zs.length ≤ sizeLine ∧ Q .non (upd H l (.lst (xs ++ zs)))
theorem mt_extR : MtM X "list.extend" rExtR := by
 intro pins s σ H x vs v us Q I rx rv h
 obtain ⟨l, b, xs, zs, rfl, rfl, hH, hB, hz, q⟩ := h
 cases rx
 obtain ⟨u, rfl, ru⟩ := rv.one
 cases ru
 obtain ⟨z, its, n, r, hl, e⟩ := I.lstM hH
 obtain ⟨z2, its2, n2, r2, e2⟩ := hB.ok I.hok
 have hl2 := r2.length
 have hsz : its.toArray.size + its2.toArray.size ≤ sizeLine := by rw [List.size_toArray, List.size_toArray]; omega
 have hlong : ¬ (!its.toArray.isEmpty && Builtin.List.listTooLong (its.toArray.size + its2.toArray.size)) = true := by
  rw [notLongL hsz, Bool.and_false]
  exact Bool.false_ne_true
 refine call_meets F.slot_list_extend ⟨_, e, rfl⟩ F.entry_list_extend (F.args_list_extend_2 _ _)
  (AutoSeq1.list_extend_list_list_0 l its.toArray n b its2.toArray n2 hlong (by rw [List.size_toArray]; omega) (by omega)) ⟨e, e2, ?_⟩
 refine ⟨.non, _, I.lset (its' := its ++ its2) hH e (by simp) (r.append r2) ?_, rfl, q⟩
 rw [List.length_append]
 omega
end
end L2
namespace M
open PySem PySem.Spec PyProof.Rows L2
def mExtP (i : Nat) (fe : En → Res Ev) : MS := fun en => match en[i]? with
 | some (some (.o (.list ds))) => match fe en with
  | .ok (.p (.list es)) => if ds.length + es.length ≤ 100000 then some (.nx (en.set i (some (.o (.list (ds ++ es)))))) else none
  | .exc C => some (.ex C en)
  | _ => none
 | _ => none
theorem ds_extP {X : Cx} {E : L2.St → XK} {e : Expr} {i : Nat} {fe : En → Res Ev} {st : Stmt} (he : DE X E e fe) (hp : ∀ t, PE X e t → PS X st (tDrop (tBM X.K "list" rExtR (tVar i) (tCons t tNil)))) : DS X E st (mExtP i fe) := by
 obtain ⟨t, q, mm⟩ := he.out
 refine DS.in ⟨_, hp t q, fun B G0 G W H σ en Dn hh hs hw => ?_⟩
 unfold mExtP at hw
 split at hw
 ·rename_i ds ei
  obtain ⟨v, e1, a, o, rfl, e2, e3, e4⟩ := hs.2 i _ ei
  cases e4 with
  | @lst xs _ rp =>
  refine ⟨_, e1, .inl ⟨rfl, _, SqL.of e3⟩, mm B G0 G W H σ en _ hh hs ?_⟩
  cases ef : fe en with
  | bad => rw [ef] at hw; exact hw
  | exc C => rw [ef] at hw; exact fun G1 H1 s => hw G1 W H1 σ (hh.step s) (hs.step s)
  | ok r =>
   rw [ef] at hw
   cases r with
   | f d => exact hw.elim
   | b d => exact hw.elim
   | x C => exact hw.elim
   | p d =>
    cases d with
    | list es =>
     dsimp only at hw
     split at hw
     ·rename_i hl
      intro G1 H1 y s ey
      cases ey with
      | @lst b zs _ k3 rz =>
      have hx := s.h _ _ e3
      refine ⟨a, b, xs, zs, rfl, rfl, hx, rd_mono s.gh k3, Nat.le_trans (by rw [rp.length, rz.length]; exact hl) (by decide), ?_⟩
      obtain ⟨w1, w2⟩ := write_ok (o' := .lst (xs ++ zs)) (d' := .list (ds ++ es)) (hh.step s) (hs.step s) e2 e1 (.lst ((rp.mono s.g).append rz))
      exact hw _ _ _ _ w1 w2
     ·exact hw.elim
    | _ => exact hw.elim
 ·exact hw.elim
end M

namespace L2
open PySem PySem.Spec PyProof.Rows
section
variable {prog : Program} {w : World} {A : Around} {E : Value → Shared → Prop} {s : Shared}
end
section
variable {X : Cx}
end
end L2
namespace M
open PySem PySem.Spec PyProof.Rows L2
section
variable {K : PySem.W.Frag}
end
end M

namespace L2
open PySem PySem.Spec PyProof.Rows
section
variable {X : Cx}
end
end L2
namespace M
open PySem PySem.Spec PyProof.Rows L2
variable {K : PySem.W.Frag}
end M

namespace L2
open PySem PySem.Spec PyProof.Rows
section
variable {X : Cx}
def rClearN (X : Cx) : V → List V → Hp → VK → Prop := fun x vs H Q => ∃ l xs, x = .ref l ∧ vs = [] ∧ Rd H l (.lst xs) ∧ (∀ o u, X.H₀ l ≠ some (.frz o u)) ∧ Q .non (upd H l (.lst []))
theorem Inv.thaw {pins : List (Addr × Obj)} {σ : St} {H : Hp} {s : Shared} {l : Addr} {o : Obj} {xs : List V} (I : Inv X pins σ H s) (h : H l = some (.frz o (.lst xs))) (hn : ∀ o u, X.H₀ l ≠ some (.frz o u)) : Inv X pins σ (upd H l (.lst xs)) s := by
 have n0 : ∀ b, H b = none → upd H l (.lst xs) b = none := fun b e => by
  rw [upd_ne (by rintro rfl; rw [h] at e; cases e)]; exact e
 refine ⟨I.ok, I.os, I.bare, ⟨I.base.keep, I.base.slot, fun b ob q n hx => n0 b (I.base.free b ob q n hx), I.base.there, fun b ys q => ?_, fun b ob u q => ?_, fun b ps q => ?_⟩, I.loc, I.cell, n0 _ I.free, fun x c e => n0 _ (I.freeC x c e), fun p hp => ?_, fun b u q => ?_, I.len⟩
 ·have e := I.base.tups b ys q
  rw [upd_ne (by rintro rfl; rw [h] at e; cases e)]; exact e
 ·have e := I.base.frzs b ob u q
  rw [upd_ne (by rintro rfl; exact hn _ _ q)]; exact e
 ·obtain ⟨more, e⟩ := I.base.tbls b ps q
  exact ⟨more, by rw [upd_ne (by rintro rfl; rw [h] at e; cases e)]; exact e⟩
 ·obtain ⟨p1, p2, p3⟩ := I.pin p hp
  exact ⟨p1, n0 _ p2, p3⟩
 ·by_cases z : b = l
  ·subst z
   rw [upd_same] at q
   cases q
   exact (I.hok b _ h).2
  ·rw [upd_ne z] at q
   refine (I.hok b u q).stay (fun c v _ q => q) (fun c q => ?_) fun c ys q => ?_
   ·rw [upd_ne (by rintro rfl; rw [h] at q; cases q)]; exact q
   ·rw [upd_ne (by rintro rfl; rw [h] at q; cases q)]; exact q
theorem mt_clearN : MtM X "list.clear" (rClearN X) := by
 intro pins s σ H x vs v us Q I rx rv h
 obtain ⟨l, xs, rfl, rfl, hr, hn, q⟩ := h
 rcases hr with hr | ⟨o, hr⟩
 ·exact mt_clear pins s σ H _ _ v us Q I rx rv ⟨l, xs, rfl, rfl, hr, q⟩
 ·exact mt_clear pins s σ _ _ _ v us Q (I.thaw hr hn) rx rv ⟨l, xs, rfl, rfl, upd_same, by rw [upd_upd]; exact q⟩
end
end L2
namespace M
open PySem PySem.Spec PyProof.Rows L2
def onlyK (k : Nat) (d : D) (en : En) : En := (List.replicate en.length none).set k (some (.p d))
def Unl (xs es : List D) : Prop := xs.length ≠ es.length ∨ ∃ i r d r', xs = .int i :: r ∧ es = d :: r' ∧ ∀ j, d ≠ .int j
def SpOk (xs : List D) (dk : D) : Prop := ∃ rows, dk = .list rows ∧ (xs = [] ∨ Unl xs rows) ∧ ∀ r ∈ rows, lfD r = true ∨ ∃ es, r = .list es ∧ Unl xs es ∧ lfA es = true
def SpOk2 (ds : List D) (j : Int) (dk : D) : Prop := ∃ xs, atI ds j = some (.list xs) ∧ SpOk xs dk
open Classical in
noncomputable def mSpoil (i k : Nat) (j : Int) (fe : En → Res Ev) (fc : En → Res Bool) (fA g : MS) : MS := fun en => match en[k]? with
 | some (some (.o dk)) => match fe (onlyK k dk en) with
  | .ok (.p (.tuple ds)) => if SpOk2 ds j dk then match fc ((en.set i (some (.p (.tuple ds)))).set k (some (.p dk))) with
    | .ok true => match fA ((en.set i (some (.p (.tuple ds)))).set k (some (.p dk))) with
     | some (.rt l) => some (.rt l)
     | _ => none
    | .ok false => g (en.set i none)
    | _ => none
   else none
  | _ => none
 | _ => none
theorem unl_no {K : PySem.W.Frag} {G G1 : Hp} {ys : List V} {xs es : List D} (u : Unl xs es) (h1 : Reps K G ys es) (h2 : Reps K G1 ys xs) : False := by
 rcases u with u | ⟨i, r, d, r', rfl, rfl, n⟩
 ·exact u (h2.length.symm.trans h1.length)
 ·cases h2 with
  | cons a _ =>
   cases a
   cases h1 with
   | cons b _ =>
    cases b
    exact n _ rfl
theorem Reps.mem {K : PySem.W.Frag} {G : Hp} {u : V} : ∀ {vs : List V} {ds : List D}, Reps K G vs ds → u ∈ vs → ∃ d ∈ ds, Rep K G u d
 | _, _, .cons (d := d) h r, hm => by
  rcases List.mem_cons.mp hm with rfl | hm
  ·exact ⟨d, .head _, h⟩
  ·obtain ⟨e, he, q⟩ := Reps.mem r hm
   exact ⟨e, .tail _ he, q⟩
theorem Reps.all {K : PySem.W.Frag} {G G' : Hp} : ∀ {vs : List V} {ds : List D}, Reps K G vs ds → (∀ u ∈ vs, ∀ d ∈ ds, Rep K G u d → Rep K G' u d) → Reps K G' vs ds
 | _, _, .nil, _ => .nil
 | _, _, .cons h r, f => .cons (f _ (.head _) _ (.head _) h) (Reps.all r fun u hu d hd => f u (.tail _ hu) d (.tail _ hd))
theorem atI_rep {K : PySem.W.Frag} {G : Hp} {ys : List V} {ds : List D} {j : Int} {d : D} (r : Reps K G ys ds) (h : atI ds j = some d) : ∃ y, atI ys j = some y ∧ Rep K G y d := by
 unfold atI at h ⊢
 rw [r.length]
 cases e : ixN ds.length j with
 | none => rw [e] at h; cases h
 | some n => rw [e] at h; exact r.get' h
section
variable {X : Cx} {E : L2.St → XK} {sts rest A : List Stmt} {st : Stmt} {fA g : MS} {fe : En → Res Ev} {fc : En → Res Bool} {e c : Expr} {pos pos2 : Pos}
theorem dss_spoil {i k : Nat} {j : Int} {x : Str} {pos' : Pos} (hik : i ≠ k) (hN : X.N.Nodup) (hi : X.N[i]? = some x) (hx : Loc X.env.scope x) (he : DE X E e fe) (hc : DT X E c fc) (hA : DSs X E A fA)
  (h3 : PS X st (tDrop (tBM0 X.K "list" (rClearN X) (tOp (rIxA X.K) (tVar i) (tC (.int j)))))) (h4 : DSs X E rest g) (hsw : swapsWith e (some (.Name x pos')) pos.line X.env = pure false := by rfl) (hf : X.fn x = true ∨ X.env.scope.names.lookup x = some .local := by first | exact .inl rfl | exact .inr rfl | assumption) :
  DSs X E (.Assign [.Name x pos'] e pos :: .If c A [] pos2 :: st :: rest) (mSpoil i k j fe fc fA g) := by
 obtain ⟨te, pe, me⟩ := he.out
 obtain ⟨tc, pc, mc⟩ := hc.out
 obtain ⟨tA, pA, mA⟩ := hA.out
 obtain ⟨t4, p4, m4⟩ := h4.out
 rintro pins s σ H Dn I ⟨B, G0, G, W, en, hh, hs, hw⟩
 refine pss_cons (ps_set hN hi hx pe hsw hf) (pss_cons (ps_if pc pA pss_nil) (pss_cons h3 p4)) pins s σ H Dn I ?_
 have iσ : i < σ.length := by
  rw [I.len]
  exact (List.getElem?_eq_some_iff.mp hi).1
 unfold mSpoil at hw
 cases ek : en[k]? with
 | none => rw [ek] at hw; exact hw.elim
 | some lk =>
 cases lk with
 | none => rw [ek] at hw; exact hw.elim
 | some lk =>
 cases lk with
 | p d => rw [ek] at hw; exact hw.elim
 | x d => rw [ek] at hw; exact hw.elim
 | h d => rw [ek] at hw; exact hw.elim
 | o dk =>
 rw [ek] at hw
 dsimp only at hw
 cases ef : fe (onlyK k dk en) with
 | bad => rw [ef] at hw; exact hw.elim
 | exc C => rw [ef] at hw; exact hw.elim
 | ok r =>
 cases r with
 | f d => rw [ef] at hw; exact hw.elim
 | b d => rw [ef] at hw; exact hw.elim
 | x d => rw [ef] at hw; exact hw.elim
 | p d =>
 cases d with
 | tuple ds =>
  rw [ef] at hw
  dsimp only at hw
  by_cases sp : SpOk2 ds j dk
  ·rw [if_pos sp] at hw
   obtain ⟨xs, hat, rows, rfl, hx0, hrows⟩ := sp
   obtain ⟨v0, eσ, ak, ok, rfl, hW, hH, hC⟩ := hs.2 k _ ek
   obtain ⟨wg, wb, _⟩ := hh.wf ak k hW
   cases hC with
   | @lst vs _ rp =>
   have hT : ∃ G' : Hp, G' ak = some (.lst vs) ∧ (∀ b o, b ≠ ak → G' b = some o → G b = some o ∧ ((∃ ts, o = .tup ts) ∨ V.ref b ∈ vs)) ∧ (∀ b ts, G b = some (.tup ts) → G' b = some (.tup ts)) ∧ (∀ b o, V.ref b ∈ vs → G b = some o → G' b = some o) := by
    classical
    refine ⟨upd (fun b => if (∃ ts, G b = some (.tup ts)) ∨ V.ref b ∈ vs then G b else none) ak (.lst vs), upd_same, fun b o hb q => ?_, fun b ts q => ?_, fun b o hb q => ?_⟩
    ·rw [upd_ne hb] at q
     split at q
     ·rename_i z
      refine ⟨q, z.imp (fun ⟨ts, w⟩ => ⟨ts, ?_⟩) id⟩
      rw [q] at w
      exact Option.some.inj w
     ·cases q
    ·rw [upd_ne (ne_of_none q wg)]
     exact (if_pos (.inl ⟨ts, q⟩)).trans q
    ·rw [upd_ne (ne_of_none q wg)]
     exact (if_pos (.inr hb)).trans q
   obtain ⟨G', ga, gs, gt, gr⟩ := hT
   have gh' : Same G' H := fun b o q => by
    by_cases z : b = ak
    ·subst z; rw [ga] at q; rw [hH]; exact q
    ·exact hh.gh _ _ (gs b o z q).1
   have rk : Rep X.K G' (.ref ak) (.list rows) := .lst (.inl ga) (Reps.all rp fun u hu d hd q => by
    rcases hrows d hd with w | ⟨es, rfl, _, w⟩
    ·exact lf_rep gt w q
    ·cases q with
     | @lst b ys _ hb hy =>
      refine .lst ?_ (lf_reps gt w hy)
      rcases hb with hb | ⟨o, hb⟩
      ·exact .inl (gr _ _ hu hb)
      ·exact .inr ⟨o, gr _ _ hu hb⟩)
   refine me (fun _ => none) (fun _ => none) G' (fun _ => none) H σ (onlyK k (.list rows) en) _ ⟨gh', fun _ _ z => (nomatch z), fun _ _ z => (nomatch z), fun _ _ => .inr (.inl rfl), fun _ _ z => (nomatch z)⟩ ⟨?_, fun n l q => ?_⟩ ?_
   ·unfold onlyK
    rw [List.length_set, List.length_replicate]
    exact hs.1
   ·unfold onlyK at q
    rw [List.getElem?_set] at q
    by_cases z : k = n
    ·subst z
     rw [if_pos rfl] at q
     split at q
     ·cases q
      exact ⟨_, eσ, rk⟩
     ·cases q
    ·rw [if_neg z, List.getElem?_replicate] at q
     split at q <;> cases q
   rw [ef]
   intro G1 H1 v st1 e1
   have e1 : Rep X.K G1 v (.tuple ds) := e1
   cases e1 with
   | @tup a ys _ h1a r1 =>
   obtain ⟨y, hy, ry⟩ := atI_rep r1 hat
   cases ry with
   | @lst c0 zs _ hcl rz =>
   have hnc : H c0 = none ∨ (c0 = ak ∧ vs = []) := by
    by_cases hz : H c0 = none
    ·exact .inl hz
    ·right
     have notup : ∀ o, G1 c0 = some o → ∀ ts, o ≠ .tup ts := fun o q ts z => by
      subst z
      rcases hcl with w | ⟨_, w⟩
      ·rw [w] at q; cases q
      ·rw [w] at q; cases q
     have hg' : G' c0 ≠ none := fun z => by
      rcases st1.new c0 hz z with w | ⟨ts, w⟩
      ·rcases hcl with u | ⟨_, u⟩
       ·rw [w] at u; cases u
       ·rw [w] at u; cases u
      ·have w := st1.h _ _ w
       rcases hcl with u | ⟨_, u⟩
       ·have := st1.gh _ _ u; rw [w] at this; cases this
       ·have := st1.gh _ _ u; rw [w] at this; cases this
     by_cases zk : c0 = ak
     ·subst zk
      have w := st1.g _ _ ga
      rcases hcl with u | ⟨_, u⟩
      ·rw [w] at u
       cases u
       refine ⟨rfl, ?_⟩
       rcases hx0 with rfl | u
       ·exact List.length_eq_zero_iff.mp rz.length
       ·exact (unl_no u rp rz).elim
      ·rw [w] at u; cases u
     ·cases q : G' c0 with
      | none => exact absurd q hg'
      | some o =>
       obtain ⟨q1, q2⟩ := gs c0 o zk q
       have w := st1.g _ _ q
       rcases q2 with ⟨ts, rfl⟩ | q2
       ·exact absurd rfl (notup _ w ts)
       ·obtain ⟨d, hd, rd⟩ := Reps.mem rp q2
        rcases hrows d hd with hl | ⟨es, rfl, un, _⟩
        ·cases rd with
         | tup ht _ => rw [q1] at ht; cases ht; exact absurd rfl (notup _ w _)
         | lst _ _ => unfold lfD at hl; cases hl
         | dT _ _ => unfold lfD at hl; cases hl
         | dK _ _ => unfold lfD at hl; cases hl
        ·cases rd with
         | @lst _ ws _ hb hy =>
          refine (unl_no un hy (?_ : Reps X.K G1 ws xs)).elim
          have : zs = ws := by
           rcases hb with hb | ⟨o1, hb⟩
           ·rw [q1] at hb; cases hb
            rcases hcl with u | ⟨_, u⟩
            ·rw [w] at u; cases u; rfl
            ·rw [w] at u; cases u
           ·rw [q1] at hb; cases hb
            rcases hcl with u | ⟨_, u⟩
            ·rw [w] at u; cases u
            ·rw [w] at u; cases u; rfl
          rw [← this]
          exact rz
   have gg : ∀ b o o', G b = some o → G1 b = some o' → o = o' := fun b o o' q q' => by
    have a1 := st1.h _ _ (hh.gh _ _ q)
    have a2 := st1.gh _ _ q'
    rw [a1] at a2
    exact Option.some.inj a2
   obtain ⟨G2, hG2⟩ : ∃ G2 : Hp, ∀ b, G2 b = (G b).or (G1 b) := ⟨_, fun _ => rfl⟩
   have s2 : Same G G2 := fun b o q => by rw [hG2, q]; rfl
   have s12 : Same G1 G2 := fun b o q => by
    rw [hG2]
    cases z : G b with
    | none => exact q
    | some o' => rw [gg b _ _ z q]; rfl
   have in2 : ∀ b o, G2 b = some o → G b = some o ∨ (G b = none ∧ G1 b = some o) := fun b o q => by
    rw [hG2] at q
    cases z : G b with
    | none => rw [z] at q; exact .inr ⟨rfl, q⟩
    | some o' => rw [z] at q; exact .inl q
   have off1 : ∀ b o, b ≠ ak → G b = none → H b = some o → (∀ ts, o ≠ .tup ts) → G1 b = none := fun b o hb hg ho ht => by
    have z : G' b = none := by
     cases z : G' b with
     | none => rfl
     | some o' => rw [(gs b o' hb z).1] at hg; cases hg
    rcases st1.new b (by rw [ho]; exact fun z => nomatch z) z with w | ⟨ts, w⟩
    ·exact w
    ·rw [ho] at w; exact absurd (Option.some.inj w) (ht ts)
   have hh2 : SimH B G0 G2 (fun b => if b = ak then none else W b) H1 := by
    refine ⟨fun b o q => ?_, hh.bh.trans st1.h, hh.g0.trans s2, fun b hb => ?_, fun b n q => ?_⟩
    ·rcases in2 b o q with w | ⟨_, w⟩
     ·exact st1.h _ _ (hh.gh _ _ w)
     ·exact st1.gh _ _ w
    ·by_cases z : G b = none
     ·right
      by_cases zk : b = ak
      ·subst zk; exact .inl wb
      ·cases w : H b with
       | none => exact .inl (hh.bh.free w)
       | some o =>
        by_cases ht : ∃ ts, o = .tup ts
        ·obtain ⟨ts, rfl⟩ := ht
         cases wB : B b with
         | none => exact .inl rfl
         | some o' => rw [hh.bh _ _ wB] at w; exact .inr ⟨ts, w⟩
        ·have := off1 b o zk z w fun ts zz => ht ⟨ts, zz⟩
         rw [hG2, z, this] at hb
         exact absurd rfl hb
     ·exact hh.gb b z
    ·split at q
     ·cases q
     ·rename_i zk
      obtain ⟨k1, k2, o, k3, k4⟩ := hh.wf b n q
      refine ⟨?_, k2, o, st1.h _ _ k3, k4⟩
      rw [hG2, k1, off1 b o zk k1 k3 k4]
      rfl
   have hs2 : SimS X.K (fun b => if b = ak then none else W b) G2 H1 (σ.set i (some (.ref a))) ((en.set i (some (.p (.tuple ds)))).set k (some (.p (.list rows)))) := by
    refine ⟨by rw [List.length_set, List.length_set, List.length_set]; exact hs.1, fun n l q => ?_⟩
    rw [List.getElem?_set] at q
    by_cases zk : k = n
    ·subst zk
     rw [if_pos rfl] at q
     split at q
     ·cases q
      exact ⟨_, by rw [List.getElem?_set_ne hik]; exact eσ, (rk.mono st1.g).mono s12⟩
     ·cases q
    ·rw [if_neg zk, List.getElem?_set] at q
     by_cases zi : i = n
     ·subst zi
      rw [if_pos rfl] at q
      split at q
      ·cases q
       exact ⟨_, List.getElem?_set_self iσ, .tup (s12 _ _ h1a) (r1.mono s12)⟩
      ·cases q
     ·rw [if_neg zi] at q
      obtain ⟨v, f1, f2⟩ := hs.2 n l q
      refine ⟨v, by rw [List.getElem?_set_ne zi]; exact f1, ?_⟩
      cases l with
      | p d => exact f2.mono s2
      | x C => obtain ⟨ea, g1, g2⟩ := f2; exact ⟨ea, g1, s2 _ _ g2⟩
      | h a => exact f2
      | o d =>
       obtain ⟨b, ob, g1, g2, g3, g4⟩ := f2
       refine ⟨b, ob, g1, ?_, st1.h _ _ g3, g4.mono s2⟩
       show (if b = ak then none else W b) = some n
       rw [if_neg (fun z => by rw [z, hW] at g2; exact zk (Option.some.inj g2))]
       exact g2
   refine mc B G0 G2 _ H1 _ _ _ hh2 hs2 ?_
   cases ec : fc ((en.set i (some (.p (.tuple ds)))).set k (some (.p (.list rows)))) with
   | bad => rw [ec] at hw; exact hw.elim
   | exc C => rw [ec] at hw; exact hw.elim
   | ok b =>
   rw [ec] at hw
   intro G3 H3 st3
   cases b with
   | true =>
    dsimp only at hw
    refine mA B G0 G3 _ H3 _ _ _ (hh2.step st3) (hs2.step st3) ?_
    cases eA : fA ((en.set i (some (.p (.tuple ds)))).set k (some (.p (.list rows)))) with
    | none => rw [eA] at hw; exact hw.elim
    | some r =>
     rw [eA] at hw
     cases r with
     | rt l => exact hw
     | nx e => exact hw.elim
     | bk e => exact hw.elim
     | ct e => exact hw.elim
     | ex C e => exact hw.elim
   | false =>
    dsimp only at hw
    have sH : Same H H3 := st1.h.trans st3.h
    have s13 : Same G1 H3 := s12.trans (st3.g.trans st3.gh)
    have keep : Same H (upd H3 c0 (.lst [])) := fun b o q => by
     by_cases z : b = c0
     ·subst z
      rw [upd_same]
      rcases hnc with w | ⟨rfl, rfl⟩
      ·rw [w] at q; cases q
      ·rw [hH] at q; exact q
     ·rw [upd_ne z]; exact sH _ _ q
    refine ⟨_, List.getElem?_set_self iσ, .inr ⟨a, ys, j, _, rfl, rfl, SqT.of (s13 _ _ h1a), hy, .inl ⟨rfl, zs, .inl (rd_mono s13 hcl)⟩, c0, zs, rfl, rfl, rd_mono s13 hcl, fun o u q => ?_, ?_⟩⟩
    ·have q := I.base.frzs _ _ _ q
     rcases hnc with w | ⟨rfl, _⟩
     ·rw [w] at q; cases q
     ·rw [hH] at q; cases q
    ·refine m4 B G0 G W _ _ (en.set i none) Dn ⟨hh.gh.trans keep, hh.bh.trans keep, hh.g0, hh.gb, fun b n q => ?_⟩ ⟨by rw [List.length_set, List.length_set]; exact hs.1, fun n l q => ?_⟩ hw
     ·obtain ⟨k1, k2, o, k3, k4⟩ := hh.wf b n q
      exact ⟨k1, k2, o, keep _ _ k3, k4⟩
     ·rw [List.getElem?_set] at q
      by_cases zi : i = n
      ·subst zi
       rw [if_pos rfl] at q
       split at q <;> cases q
      ·rw [if_neg zi] at q
       obtain ⟨v, f1, f2⟩ := hs.2 n l q
       refine ⟨v, by rw [List.getElem?_set_ne zi]; exact f1, ?_⟩
       cases l with
       | p d => exact f2
       | x C => exact f2
       | h a => exact f2
       | o d =>
        obtain ⟨b, ob, g1, g2, g3, g4⟩ := f2
        exact ⟨b, ob, g1, g2, keep _ _ g3, g4⟩
  ·rw [if_neg sp] at hw
   exact hw.elim
 | _ => rw [ef] at hw; exact hw.elim
def mAug (i : Nat) (fe : En → Res Ev) : MS := fun en => match en[i]? with
 | some (some (.p (.int a))) => match fe en with
  | .ok (.p (.int b)) => some (.nx (en.set i (some (.p (.int (a + b))))))
  | _ => none
 | _ => none
theorem ds_aug {i : Nat} {x : Str} {pos' : Pos} (hN : X.N.Nodup) (hi : X.N[i]? = some x) (hx : Loc X.env.scope x) (he : DE X E e fe) (hf : X.fn x = true ∨ X.env.scope.names.lookup x = some .local := by first | exact .inl rfl | exact .inr rfl | assumption) : DS X E (.AugAssign (.Name x pos') .Add e pos) (mAug i fe) := by
 obtain ⟨te, pe, me⟩ := he.out
 refine DS.in ⟨_, ps_aug hN hi hx pe ip_add hf, fun B G0 G W H σ en Dn hh hs hw => ?_⟩
 unfold mAug at hw
 split at hw
 ·rename_i a ei
  obtain ⟨v, e1, e2⟩ := hs.2 i _ ei
  cases e2
  refine ⟨_, e1, me B G0 G W H σ en _ hh hs ?_⟩
  cases ef : fe en with
  | bad => rw [ef] at hw; exact hw
  | exc C => rw [ef] at hw; exact hw.elim
  | ok r =>
   rw [ef] at hw
   cases r with
   | f d => exact hw.elim
   | b d => exact hw.elim
   | x d => exact hw.elim
   | p d =>
    cases d with
    | int b =>
     intro G1 H1 y s1 ey
     cases ey
     exact ⟨a, b, rfl, rfl, hw G1 W H1 _ (hh.step s1) ((hs.step s1).set (.int _))⟩
    | _ => exact hw.elim
 ·exact hw.elim
end
end M

namespace N
open PySem PySem.Spec PyProof.Rows L2 M
def frD (x : Int × Int) : D := .tuple [.int x.1, .int x.2]
abbrev Pl := Int × Int × (Int × Int)
def plD (p : Pl) : D := .tuple [.int p.1, .int p.2.1, frD p.2.2]
theorem at0 {α : Type} (x : α) (r : List α) : atI (x :: r) 0 = some x := atI_nat (j := 0) rfl
theorem at1 {α : Type} (x y : α) (r : List α) : atI (x :: y :: r) 1 = some y := atI_nat (j := 1) rfl
theorem at2 {α : Type} (x y z : α) (r : List α) : atI (x :: y :: z :: r) 2 = some z := atI_nat (j := 2) rfl
theorem eqv_ii (i j : Int) : PyData.eqv (.int i) (.int j) = (i == j) := by simp [PyData.eqv]
theorem sh_int (i : Int) : SeqAt.shaped (.int i) = true := by simp [SeqAt.shaped, PyData.canLay0, PyData.depth]
def decL {α : Type} (f : D → Option α) : List D → Option (List α)
 | [] => some []
 | d :: r => match f d with
  | none => none
  | some a => match decL f r with
   | none => none
   | some as => some (a :: as)
theorem decL_map {α : Type} {f : D → Option α} {enc : α → D} (h : ∀ a, f (enc a) = some a) : ∀ xs : List α, decL f (xs.map enc) = some xs
 | [] => rfl
 | x :: xs => by
  show (match f (enc x) with | none => none | some a => match decL f (xs.map enc) with | none => none | some as => some (a :: as)) = _
  rw [h x, decL_map h xs]
def frOf : D → Option (Int × Int)
 | .tuple [.int a, .int b] => some (a, b)
 | _ => none
theorem frOf_frD (x : Int × Int) : frOf (frD x) = some x := rfl
theorem mapO_map {α : Type} {g : D → Option (Option D)} {enc : α → D} {out : α → D} : ∀ xs : List α, (∀ x ∈ xs, g (enc x) = some (some (out x))) → mapO g (xs.map enc) = some (xs.map out)
 | [], _ => rfl
 | x :: xs, h => by
  show (match g (enc x) with | none => none | some o => match mapO g (xs.map enc) with | none => none | some r => some (match o with | some y => y :: r | none => r)) = _
  rw [h x (.head _), mapO_map xs fun y hy => h y (.tail _ hy)]
  rfl
def ltF (x y : Int × Int) : Bool := decide (x.1 * y.2 < y.1 * x.2)
def best (b : Int × Int) : List (Int × Int) → Int × Int
 | [] => b
 | x :: r => best (if ltF b x = true then x else b) r
def FSz (n : Nat) (x : Int × Int) : Prop := Sz n x.1 ∧ Sz n x.2
def Good (n : Nat) (x : Int × Int) : Prop := 1 ≤ x.2 ∧ Sz n x.1 ∧ Sz n x.2
theorem Good.fsz {n : Nat} {x : Int × Int} (h : Good n x) : FSz n x := h.2
theorem Good.mono {m n : Nat} {x : Int × Int} (h : Good m x) (l : m ≤ n) : Good n x := ⟨h.1, h.2.1.mono l, h.2.2.mono l⟩
theorem mk_good {n : Nat} {t b : Int} (ht : Sz n t) (hb : Sz n b) (h0 : b ≠ 0) : Good n (FR.mk t b) := ⟨(FR.mk_fr h0).1.pos, Sz.le ht (natAbs_fdiv_le _ _), Sz.le hb (natAbs_fdiv_le _ _)⟩
def hT (i : Int) (x : Int × Int) : Int × Int := FR.mk (i * x.1) (1 * x.2)
def hP (x y : Int × Int) : Int × Int := FR.mk (x.1 * y.2 + y.1 * x.2) (x.2 * y.2)
theorem good_P {m n : Nat} {x y : Int × Int} (hx : Good m x) (hy : Good n y) : Good (m + n + 1) (hP x y) :=
 mk_good (Sz.add (Sz.mul hx.2.1 hy.2.2) ((Sz.mul hy.2.1 hx.2.2).mono (by omega))) ((Sz.mul hx.2.2 hy.2.2).mono (by omega)) (fun z => by
  rcases Int.mul_eq_zero.mp z with q | q
  ·have := hx.1; omega
  ·have := hy.1; omega)
theorem Good.ne {m n : Nat} {x y : Int × Int} (hx : Good m x) (hy : Good n y) : x.2 * y.2 ≠ 0 := fun z => by
 rcases Int.mul_eq_zero.mp z with q | q
 ·have := hx.1; omega
 ·have := hy.1; omega
open Classical in
noncomputable def mOf {α : Type} (enc : α → List L) (P : α → Prop) (g : α → Res L) (ls : List L) : Res L := if h : ∃ a, enc a = ls ∧ P a then g h.choose else .bad
theorem mOf_at {α : Type} {enc : α → List L} {P : α → Prop} {g : α → Res L} (inj : ∀ a b, enc a = enc b → a = b) {a : α} (h : P a) : mOf enc P g (enc a) = g a := by
 have hx : ∃ b, enc b = enc a ∧ P b := ⟨a, rfl, h⟩
 unfold mOf
 rw [dif_pos hx, inj _ _ hx.choose_spec.1]
theorem mOf_eq {α : Type} {enc : α → List L} {P : α → Prop} {g : α → Res L} {n : Nat} {f : MS} (h : ∀ a, P a → runF n f (enc a) = g a) : ∀ ls, mOf enc P g ls = .bad ∨ runF n f ls = mOf enc P g ls := by
 intro ls
 unfold mOf
 by_cases hx : ∃ a, enc a = ls ∧ P a
 ·rw [dif_pos hx]
  exact .inr ((congrArg _ hx.choose_spec.1.symm).trans (h _ hx.choose_spec.2))
 ·exact .inl (dif_neg hx)
theorem frI {a b : Int × Int} (h : frD a = frD b) : a = b := Option.some.inj (congrArg frOf h)
theorem ix_t0 (a : D) (r : List D) : ixE (.p (.tuple (a :: r))) (.p (.int 0)) = .ok (.p a) := by simp [ixE, seqOf, at0]
theorem ix_t1 (a b : D) (r : List D) : ixE (.p (.tuple (a :: b :: r))) (.p (.int 1)) = .ok (.p b) := by simp [ixE, seqOf, at1]
theorem ix_t2 (a b d : D) (r : List D) : ixE (.p (.tuple (a :: b :: d :: r))) (.p (.int 2)) = .ok (.p d) := by simp [ixE, seqOf, at2]
theorem ix_pl0 (p : Pl) : ixE (.p (plD p)) (.p (.int 0)) = .ok (.p (.int p.1)) := ix_t0 _ _
theorem ix_pl1 (p : Pl) : ixE (.p (plD p)) (.p (.int 1)) = .ok (.p (.int p.2.1)) := ix_t1 _ _ _
theorem ix_pl2 (p : Pl) : ixE (.p (plD p)) (.p (.int 2)) = .ok (.p (frD p.2.2)) := ix_t2 _ _ _ _
theorem ix_fr0 (p : Int × Int) : ixE (.p (frD p)) (.p (.int 0)) = .ok (.p (.int p.1)) := ix_t0 _ _
theorem ix_fr1 (p : Int × Int) : ixE (.p (frD p)) (.p (.int 1)) = .ok (.p (.int p.2)) := ix_t1 _ _ _
section
variable {κ α : Type} [DecidableEq κ]
variable {ek : κ → D} {ev : α → D} (inj : ∀ a b, ek a = ek b → a = b)
include inj
end
theorem sz_of {x : Int} (n : Nat) (h : x.natAbs < 2 ^ n) : Sz n x := h
theorem fmod_pos {a b : Int} (hb : 0 < b) : 0 ≤ a.fmod b ∧ a.fmod b < b := by
 rw [Int.fmod_eq_emod_of_nonneg a (Int.le_of_lt hb)]
 exact ⟨Int.emod_nonneg a (by omega), Int.emod_lt_of_pos a hb⟩
theorem seq_nx {f g : MS} {en e1 : En} (h : f en = some (.nx e1)) : mSeq f g en = g e1 := by unfold mSeq; rw [h]
theorem seq_rt {f g : MS} {en : En} {l : L} (h : f en = some (.rt l)) : mSeq f g en = some (.rt l) := by unfold mSeq; rw [h]
theorem set_p {i : Nat} {fe : En → Res Ev} {en : En} {d : D} (h : fe en = .ok (.p d)) : mSet i fe en = some (.nx (en.set i (some (.p d)))) := by unfold mSet; rw [h]
theorem set_f {i : Nat} {fe : En → Res Ev} {en : En} {d : D} (h : fe en = .ok (.f d)) : mSet i fe en = some (.nx (en.set i (some (.o d)))) := by unfold mSet; rw [h]
theorem if_t {ft : En → Res Bool} {f g : MS} {en : En} (h : ft en = .ok true) : mIfS ft f g en = f en := by unfold mIfS; rw [h]; rfl
theorem if_f {ft : En → Res Bool} {f g : MS} {en : En} (h : ft en = .ok false) : mIfS ft f g en = g en := by unfold mIfS; rw [h]; rfl
theorem run_rt {n : Nat} {f : MS} {ls : List L} {l : L} (h : f (startE n ls) = some (.rt l)) : runF n f ls = .ok l := by unfold runF; rw [h]
theorem can_all {α : Type} (f : α → D) (h : ∀ a, PyData.canLay0 (f a) = true) : ∀ xs : List α, PyData.canLayAll0 (xs.map f) = true
 | [] => rfl
 | x :: xs => by rw [List.map_cons, PyData.canLayAll0, h x, can_all f h xs]; rfl
theorem dep_all {α : Type} (f : α → D) (n : Nat) (h : ∀ a, PyData.depth (f a) ≤ n) : ∀ xs : List α, PyData.depthAll (xs.map f) ≤ n
 | [] => Nat.zero_le _
 | x :: xs => by
  rw [List.map_cons, PyData.depthAll]
  exact Nat.max_le.mpr ⟨h x, dep_all f n h xs⟩
theorem sh_list {α : Type} (f : α → D) (h1 : ∀ a, PyData.canLay0 (f a) = true) (h2 : ∀ a, PyData.depth (f a) ≤ 9) (xs : List α) : SeqAt.shaped (.list (xs.map f)) = true := by
 have a : PyData.canLay0 (.list (xs.map f)) = true := by rw [PyData.canLay0]; exact can_all f h1 xs
 have b : PyData.depth (.list (xs.map f)) ≤ 64 := by
  rw [PyData.depth]
  have := dep_all f 9 h2 xs
  omega
 unfold SeqAt.shaped
 rw [a, decide_eq_true b]
 rfl
theorem eqE_same {x y : Ev} {d : D} (h1 : dat x = some d) (h2 : dat y = some d) (hs : SeqAt.shaped d = true) (ng : Bool) : eqE ng x y = .ok (.p (.bool (!ng))) := by
 have hc : PyData.canLay0 d = true := by
  unfold SeqAt.shaped at hs
  exact (Bool.and_eq_true_iff.mp hs).1
 unfold eqE
 rw [h1, h2]
 dsimp only
 rw [if_pos ⟨hs, hs⟩, SeqAt.eqv_refl d hc]
 cases ng <;> rfl
theorem sh_fr (x : Int × Int) : SeqAt.shaped (frD x) = true := by simp [SeqAt.shaped, frD, PyData.canLay0, PyData.canLayAll0, PyData.depth, PyData.depthAll]
theorem for_l {fi : En → Res (List D)} {tg : D → En → Option En} {f : MS} {en : En} {ds : List D} (h : fi en = .ok ds) : mFor fi tg f en = mLoop tg f ds en := by unfold mFor; rw [h]
theorem mapO_flt {α : Type} {g : D → Option (Option D)} {enc : α → D} {out : α → D} {p : α → Bool} : ∀ xs : List α, (∀ x ∈ xs, g (enc x) = some (if p x = true then some (out x) else none)) → mapO g (xs.map enc) = some ((xs.filter p).map out)
 | [], _ => rfl
 | x :: xs, h => by
  show (match g (enc x) with | none => none | some o => match mapO g (xs.map enc) with | none => none | some r => some (match o with | some y => y :: r | none => r)) = _
  rw [h x (.head _), mapO_flt xs fun y hy => h y (.tail _ hy), List.filter_cons]
  cases p x <;> rfl
theorem eqv_fr (x y : Int × Int) : PyData.eqv (frD x) (frD y) = decide (x = y) := by
 have : PyData.eqv (frD x) (frD y) = (x.1 == y.1 && (x.2 == y.2 && true)) := by simp [frD, PyData.eqv, PyData.eqvAll]
 rw [this]
 by_cases h : x = y
 ·subst h; simp
 ·rw [decide_eq_false h]
  by_cases h1 : x.1 = y.1
  ·have h2 : ¬ x.2 = y.2 := fun h2 => h (Prod.ext h1 h2)
   simp [h1, h2]
  ·simp [h1]
theorem lfA_map {α : Type} (f : α → D) (h : ∀ a, lfD (f a) = true) : ∀ xs : List α, lfA (xs.map f) = true
 | [] => by simp [lfA]
 | x :: xs => by rw [List.map_cons]; unfold lfA; rw [h x, lfA_map f h xs]; rfl
theorem lf_fr (x : Int × Int) : lfD (frD x) = true := by simp [frD, lfD, lfA]
theorem sz_fmod {n : Nat} {a b : Int} (h : 0 < b) (hb : Sz n b) : Sz n (a.fmod b) := by
 have := fmod_pos (a := a) h
 exact Sz.le hb (by omega)
theorem cm2 {m n : Nat} {i j : Int} (h1 : Sz m i) (h2 : Sz n j) (hm : m ≤ 60000) (hn : n ≤ 60000) : CMulW i j := ⟨h1.mono hm, h2.mono hn⟩
theorem cd2 {m : Nat} {j : Int} (i : Int) (h0 : j ≠ 0) (h1 : Sz m j) (hm : m ≤ 8000) : CDivW i j := ⟨h0, h1.mono hm⟩
theorem mul_ok {i j : Int} (h : CMulW i j) : mulE (.p (.int i)) (.p (.int j)) = .ok (.p (.int (i * j))) := by simp [mulE, intE, h]
theorem fdiv_ok {i j : Int} (h : CDivW i j) : fdivE (.p (.int i)) (.p (.int j)) = .ok (.p (.int (i.fdiv j))) := by simp [fdivE, intE, h]
theorem mod_ok {i j : Int} (h : j ≠ 0) : modE (.p (.int i)) (.p (.int j)) = .ok (.p (.int (i.fmod j))) := by simp [modE, intE, h]
theorem pow_ok {i j : Int} (h : CPow i j) : powE (.p (.int i)) (.p (.int j)) = .ok (.p (.int (i ^ j.toNat))) := by simp [powE, intE, h]
def eII (a : Int × Int) : List L := [.p (.int a.1), .p (.int a.2)]
theorem eII_inj (a b : Int × Int) (h : eII a = eII b) : a = b := by
 unfold eII at h
 injection h with h1 h2
 injection h2 with h2 _
 injection h1 with h1
 injection h2 with h2
 injection h1 with h1
 injection h2 with h2
 exact Prod.ext h1 h2
theorem frsI {a b : List (Int × Int)} (h : a.map frD = b.map frD) : a = b := by
 have e := congrArg (decL frOf) h
 rw [decL_map frOf_frD, decL_map frOf_frD] at e
 exact Option.some.inj e
def eFs (hs : List (Int × Int)) : List L := [.p (.list (hs.map frD))]
theorem eFs_inj (a b : List (Int × Int)) (h : eFs a = eFs b) : a = b := by
 unfold eFs at h
 injection h with h _
 injection h with h
 injection h with h
 exact frsI h
def eFF (a : (Int × Int) × (Int × Int)) : List L := [.p (frD a.1), .p (frD a.2)]
theorem eFF_inj (a b : (Int × Int) × (Int × Int)) (h : eFF a = eFF b) : a = b := by
 unfold eFF at h
 injection h with h1 h2
 injection h2 with h2 _
 injection h1 with h1
 injection h2 with h2
 exact Prod.ext (frI h1) (frI h2)
theorem bind_ok {α β : Type} (a : α) (f : α → Res β) : (Res.ok a).bind f = f a := rfl
theorem ret_p {fe : En → Res Ev} {en : En} {d : D} (h : fe en = .ok (.p d)) : mRet fe en = some (.rt (.p d)) := by unfold mRet; rw [h]; rfl
theorem comp_l {n : Nat} {js : List Nat} {fi : En → Res (List D)} {tg : D → En → Option En} {ft : En → Res Bool} {fe : En → Res Ev} {en : En} {ds es : List D} (h1 : fi en = .ok ds) (h2 : ds.length ≤ 100000) (h3 : mapO (compItem n js tg ft fe en) ds = some es) : mComp n js fi tg ft fe en = .ok (.f (.list es)) := by
 unfold mComp
 rw [h1, bind_ok]
 unfold compR
 rw [if_pos h2, h3]
def leF (x y : Int × Int) : Prop := x.1 * y.2 ≤ y.1 * x.2
theorem dvd_low {a b d : Int} (h : d ∣ a * b) (g : Int.gcd a d = 1) : d ∣ b := by
 have h1 : d.natAbs ∣ a.natAbs * b.natAbs := by
  rw [← Int.natAbs_mul]
  exact Int.natAbs_dvd_natAbs.mpr h
 have c : Nat.Coprime d.natAbs a.natAbs := by
  show Nat.gcd d.natAbs a.natAbs = 1
  rw [Nat.gcd_comm]
  exact g
 exact Int.natAbs_dvd_natAbs.mp (Nat.Coprime.dvd_of_dvd_mul_left c h1)
theorem leF_eq {x y : Int × Int} (hx : FR.Fr x) (hy : FR.Fr y) (h1 : leF x y) (h2 : leF y x) : x = y := by
 have e : x.1 * y.2 = y.1 * x.2 := Int.le_antisymm h1 h2
 have p1 := hx.pos
 have p2 := hy.pos
 have d1 : x.2 ∣ y.2 := by
  have : x.2 ∣ x.1 * y.2 := ⟨y.1, by rw [e]; ac_rfl⟩
  exact dvd_low this hx.low
 have d2 : y.2 ∣ x.2 := by
  have : y.2 ∣ y.1 * x.2 := ⟨x.1, by rw [← e]; ac_rfl⟩
  exact dvd_low this hy.low
 have eb : x.2 = y.2 := Int.dvd_antisymm (by omega) (by omega) d1 d2
 have et : x.1 = y.1 := by
  rw [eb] at e
  exact Int.eq_of_mul_eq_mul_right (by omega) e
 exact Prod.ext et eb
theorem pos_mul {x y : Int} (hx : 1 ≤ x) (hy : 1 ≤ y) : 1 ≤ x * y := by
 have := Int.mul_pos (show 0 < x by omega) (show 0 < y by omega)
 omega
abbrev R2 := Int × Int
abbrev R3 := Int × Int × Int
def hM (x y : Int × Int) : Int × Int := FR.mk (x.1 * y.2 - y.1 * x.2) (x.2 * y.2)
def hO (x y : Int × Int) : Int × Int := FR.mk (x.1 * y.2) (x.2 * y.1)
def lowHigh (l h : R3) : R2 := (l.2.1 * h.1 - h.2.1 * l.1, l.2.1 * h.2.2 - h.2.1 * l.2.2)
def elimK (rows : List R3) : List R2 := (rows.filter fun r => decide (r.2.1 = 0)).map fun r => (r.1, r.2.2)
def elimH (rows : List R3) : List R3 := rows.filter fun r => decide (r.2.1 < 0)
def elimS (highs : List R3) (k : List R2) (l : R3) : List R2 := if 0 < l.2.1 then k ++ highs.map (lowHigh l) else k
def elim (rows : List R3) : List R2 := rows.foldl (elimS (elimH rows)) (elimK rows)
end N

namespace N
theorem mk_fr1 {t b : Int} (h : 1 ≤ b) : FR.Fr (FR.mk t b) := (FR.mk_fr (by omega)).1
theorem hP_fr {x y : Int × Int} (hx : 1 ≤ x.2) (hy : 1 ≤ y.2) : FR.Fr (hP x y) := mk_fr1 (pos_mul hx hy)
def ng (x : Int × Int) : Int × Int := hM (0, 1) x
def Pos (ps : List Pl) : Prop := ∀ p ∈ ps, 1 ≤ p.2.2.2
end N

namespace My
open PySem PySem.Spec PyProof.Rows L2 M N
def top (i : Nat) : Stmt := PySem.Challenge.pw_creasecurve_k41_best_dealings.main.body.getD i (.Pass ⟨0, 0, 0, 0⟩)
abbrev s_greatest_divisor : Stmt := top 4
abbrev s_fraction : Stmt := top 5
abbrev s_common_bottom : Stmt := top 6
abbrev s_whole : Stmt := top 7
abbrev s_dealings_of : Stmt := top 9
abbrev s_whole_rows : Stmt := top 10
abbrev s_worth_of : Stmt := top 11
abbrev s_best : Stmt := top 12
abbrev s__law_whole : Stmt := top 14
abbrev s__law_cell_at : Stmt := top 15
abbrev s__law_mix : Stmt := top 16
abbrev s__law_lowest : Stmt := top 17
abbrev s__law_sum : Stmt := top 18
abbrev s__law_before : Stmt := top 20
abbrev s__law_is_fraction : Stmt := top 21
abbrev s__law_number : Stmt := top 22
abbrev s__law_orders : Stmt := top 23
abbrev s__law_due : Stmt := top 24
abbrev s__law_is : Stmt := top 25
abbrev s_law : Stmt := top 26
theorem bB_abs : bootBuiltins "abs" = some (.builtin "abs") := by decide +kernel
theorem bT_bool : bootBuiltins "bool" = some (.type "bool") := by decide +kernel
theorem bT_int : bootBuiltins "int" = some (.type "int") := by decide +kernel
theorem bT_list : bootBuiltins "list" = some (.type "list") := by decide +kernel
theorem bB_max : bootBuiltins "max" = some (.builtin "max") := by decide +kernel
theorem bB_sum : bootBuiltins "sum" = some (.builtin "sum") := by decide +kernel
theorem bT_tuple : bootBuiltins "tuple" = some (.type "tuple") := by decide +kernel
structure Blt (mg : Str → Option Value) : Prop where
 abs_ : mg "abs" = none
 bool_ : mg "bool" = none
 int_ : mg "int" = none
 isinstance_ : mg "isinstance" = none
 len_ : mg "len" = none
 list_ : mg "list" = none
 max_ : mg "max" = none
 range_ : mg "range" = none
 sum_ : mg "sum" = none
 tuple_ : mg "tuple" = none
 zip_ : mg "zip" = none
structure Cls where
 RoofError : Addr
 NoFraction : Addr
structure ClsM (mg : Str → Option Value) (c : Cls) : Prop where
 mRoofError : mg "RoofError" = some (.ref c.RoofError)
 mNoFraction : mg "NoFraction" = some (.ref c.NoFraction)
structure ClsO (mg : Str → Option Value) (base : Heap) (c : Cls) : Prop where
 NoFraction : PyProof.Rows.OwnCls "NoFraction" c.NoFraction [.type "ValueError", .type "Exception", .type "BaseException", .type "object"] "ValueError.__new__" mg base
noncomputable def m_greatest_divisor (K : PySem.W.Frag) (c : Cls) : List L → Res L := mOf eII (fun _ => True) fun a => .ok (.p (.int (Int.gcd a.1 a.2 : Nat)))
noncomputable def f_greatest_divisor_c1 (K : PySem.W.Frag) (c : Cls) : En → Res Bool := (mTru (mBin (eqE true) (mVar 3) (mC (.int 0))))
noncomputable def f_greatest_divisor_b2 (K : PySem.W.Frag) (c : Cls) : MS := (mSeq (mSet 4 (mBin modE (mVar 2) (mVar 3))) (mSeq (mSet 2 (mVar 3)) (mSet 3 (mVar 4))))
noncomputable def f_greatest_divisor (K : PySem.W.Frag) (c : Cls) : MS := (mSeq (mSet 2 (mCallB absE (mCons (mVar 0) mNil))) (mSeq (mSet 3 (mCallB absE (mCons (mVar 1) mNil))) (mSeq (mWhile (f_greatest_divisor_c1 K c) (f_greatest_divisor_b2 K c)) (mRet (mVar 2)))))
theorem wh_gd (K : PySem.W.Frag) (c : Cls) (A B : Option L) : ∀ (n : Nat) (l s : Int) (r : Option L), 0 ≤ l → 0 ≤ s → s.toNat ≤ n → ∃ r', mWh (f_greatest_divisor_c1 K c) (f_greatest_divisor_b2 K c) (n + 1) [A, B, some (.p (.int l)), some (.p (.int s)), r] = some (.nx [A, B, some (.p (.int (Int.gcd l s : Nat))), some (.p (.int 0)), r']) := by
 intro n
 have hc : ∀ (l s : Int) (r : Option L), f_greatest_divisor_c1 K c [A, B, some (.p (.int l)), some (.p (.int s)), r] = .ok (!(s == 0)) := fun l s r => by
  simp only [f_greatest_divisor_c1, mTru, mBin, mVar, mC, List.getElem?_cons_zero, List.getElem?_cons_succ, List.set_cons_zero, List.set_cons_succ, List.length_cons, List.length_nil, List.length_map, List.length_append, if_true, if_false, ite_true, ite_false, decide_true, decide_false, Bool.false_eq_true, Nat.zero_add, Nat.reduceAdd, Nat.reduceEqDiff, Nat.reduceLeDiff, reduceIte, List.map_append, List.map_cons, List.map_nil, Res.bind, Ev.c, eqE, dat, sh_int, eqv_ii, truthR]
  rfl
 have done : ∀ (n : Nat) (l : Int) (r : Option L), 0 ≤ l → mWh (f_greatest_divisor_c1 K c) (f_greatest_divisor_b2 K c) (n + 1) [A, B, some (.p (.int l)), some (.p (.int 0)), r] = some (.nx [A, B, some (.p (.int (Int.gcd l 0 : Nat))), some (.p (.int 0)), r]) := fun n l r hl => by
  unfold mWh
  rw [hc, FR.gcd_end hl]
  rfl
 induction n with
 | zero =>
  intro l s r hl hs hn
  have : s = 0 := by omega
  subst this
  exact ⟨r, done 0 l r hl⟩
 | succ n ih =>
  intro l s r hl hs hn
  by_cases h0 : s = 0
  ·subst h0
   exact ⟨r, done _ l r hl⟩
  ·have em : l.fmod s = l % s := Int.fmod_eq_emod_of_nonneg l hs
   have m0 := Int.emod_nonneg l h0
   have m1 := Int.emod_lt_of_pos l (show 0 < s by omega)
   obtain ⟨r', ih⟩ := ih s (l.fmod s) (some (.p (.int (l.fmod s)))) hs (by omega) (by omega)
   refine ⟨r', ?_⟩
   rw [em, FR.gcd_turn hl hs] at ih
   have hb : f_greatest_divisor_b2 K c [A, B, some (.p (.int l)), some (.p (.int s)), r] = some (.nx [A, B, some (.p (.int s)), some (.p (.int (l % s))), some (.p (.int (l % s)))]) := by
    simp (disch := assumption) only [f_greatest_divisor_b2, mBin, mVar, mC, mSeq, mSet, List.getElem?_cons_zero, List.getElem?_cons_succ, List.set_cons_zero, List.set_cons_succ, List.length_cons, List.length_nil, List.length_map, List.length_append, if_true, if_false, ite_true, ite_false, decide_true, decide_false, Bool.false_eq_true, Nat.zero_add, Nat.reduceAdd, Nat.reduceEqDiff, Nat.reduceLeDiff, reduceIte, List.map_append, List.map_cons, List.map_nil, Res.bind, Ev.c, mod_ok, em]
   have ht : f_greatest_divisor_c1 K c [A, B, some (.p (.int l)), some (.p (.int s)), r] = .ok true := by rw [hc, beq_false_of_ne h0]; rfl
   unfold mWh
   rw [ht]
   dsimp only
   rw [hb]
   exact ih
theorem eq_greatest_divisor (K : PySem.W.Frag) (c : Cls) : ∀ ls, m_greatest_divisor K c ls = .bad ∨ runF 5 (f_greatest_divisor K c) ls = m_greatest_divisor K c ls := mOf_eq fun x _ => by
 obtain ⟨a, b⟩ := x
 obtain ⟨r', h⟩ := wh_gd K c (some (.p (.int a))) (some (.p (.int b))) _ (if a < 0 then -a else a) (if b < 0 then -b else b) none (by split <;> omega) (by split <;> omega) (Nat.le_refl _)
 have h := mWhile_of h
 rw [FR.gcd_abs] at h
 refine run_rt ?_
 rw [show startE 5 (eII (a, b)) = [some (.p (.int a)), some (.p (.int b)), none, none, none] from rfl]
 refine (seq_nx (set_p (d := .int (if a < 0 then -a else a)) rfl)).trans ((seq_nx (set_p (d := .int (if b < 0 then -b else b)) rfl)).trans ((seq_nx h).trans ?_))
 rfl
theorem gcd_good (K : PySem.W.Frag) (c : Cls) (a b : Int) : m_greatest_divisor K c [.p (.int a), .p (.int b)] = .ok (.p (.int (Int.gcd a b : Nat))) := mOf_at (a := (a, b)) eII_inj trivial
theorem cdivW {b : Int} (t : Int) (hb : b ≠ 0) (hz : Sz 8000 b) : CDivW t ((Int.gcd t b : Nat) : Int) ∧ CDivW t (-((Int.gcd t b : Nat) : Int)) := by
 have g0 := FR.gcd_pos (t := t) hb
 have gle : Int.gcd t b ≤ b.natAbs := Nat.le_of_dvd (by omega) (Int.gcd_dvd_natAbs_right t b)
 refine ⟨⟨by omega, Sz.le hz (by rw [Int.natAbs_natCast]; exact gle)⟩, by omega, Sz.le hz (by rw [Int.natAbs_neg, Int.natAbs_natCast]; exact gle)⟩
open Classical in
noncomputable def m_fraction (K : PySem.W.Frag) (c : Cls) : List L → Res L := mOf eII (fun a => Sz 8000 a.2) fun a => if a.2 = 0 then .exc c.NoFraction else .ok (.p (frD (FR.mk a.1 a.2)))
noncomputable def f_fraction (K : PySem.W.Frag) (c : Cls) : MS := (mSeq (mIfS (mTru (mBin (eqE false) (mVar 1) (mC (.int 0)))) (mRaise c.NoFraction (mCons (mC (.str "nothing is divided by 0")) mNil)) mNext) (mSeq (mSet 2 (mCall 2 (m_greatest_divisor K c) (mCons (mVar 0) (mCons (mVar 1) mNil)))) (mSeq (mIfS (mTru (mBin ltE (mVar 1) (mC (.int 0)))) (mSet 2 (mUn negE (mVar 2))) mNext) (mRet (mCallB tupR' (mCons (mBin fdivE (mVar 0) (mVar 2)) (mCons (mBin fdivE (mVar 1) (mVar 2)) mNil)))))))
theorem eq_fraction (K : PySem.W.Frag) (c : Cls) : ∀ ls, m_fraction K c ls = .bad ∨ runF 3 (f_fraction K c) ls = m_fraction K c ls := mOf_eq fun x hz => by
 obtain ⟨t, b⟩ := x
 have hz : Sz 8000 b := hz
 show runF 3 (f_fraction K c) (eII (t, b)) = if b = 0 then .exc c.NoFraction else .ok (.p (frD (FR.mk t b)))
 have t0 : mTru (mBin (eqE false) (mVar 1) (mC (.int 0))) [some (.p (.int t)), some (.p (.int b)), none] = .ok (b == 0) := by
  simp only [mTru, mBin, mVar, mC, List.getElem?_cons_zero, List.getElem?_cons_succ, List.set_cons_zero, List.set_cons_succ, List.length_cons, List.length_nil, List.length_map, List.length_append, if_true, if_false, ite_true, ite_false, decide_true, decide_false, Bool.false_eq_true, Nat.zero_add, Nat.reduceAdd, Nat.reduceEqDiff, Nat.reduceLeDiff, reduceIte, List.map_append, List.map_cons, List.map_nil, Res.bind, Ev.c, eqE, dat, sh_int, eqv_ii, truthR]
  rfl
 by_cases hb : b = 0
 ·rw [if_pos hb]
  have t0 : mTru (mBin (eqE false) (mVar 1) (mC (.int 0))) [some (.p (.int t)), some (.p (.int b)), none] = .ok true := by rw [t0, hb]; rfl
  have e : f_fraction K c (startE 3 (eII (t, b))) = some (.ex c.NoFraction [some (.p (.int t)), some (.p (.int b)), none]) := by
   unfold f_fraction mSeq
   rw [show startE 3 (eII (t, b)) = [some (.p (.int t)), some (.p (.int b)), none] from rfl, if_t t0]
   rfl
  unfold runF
  rw [e]
 ·rw [if_neg hb]
  rw [beq_false_of_ne hb] at t0
  obtain ⟨q1, q2⟩ := cdivW t hb hz
  have q1' : CDivW b ((Int.gcd t b : Nat) : Int) := q1
  have q2' : CDivW b (-((Int.gcd t b : Nat) : Int)) := q2
  have g := gcd_good K c t b
  have e1 : (mCall 2 (m_greatest_divisor K c) (mCons (mVar 0) (mCons (mVar 1) mNil))) [some (.p (.int t)), some (.p (.int b)), none] = .ok (.p (.int (Int.gcd t b : Nat))) := by
   simp only [mCall, mCons, mNil, mVar, List.getElem?_cons_zero, List.getElem?_cons_succ, List.set_cons_zero, List.set_cons_succ, List.length_cons, List.length_nil, List.length_map, List.length_append, if_true, if_false, ite_true, ite_false, decide_true, decide_false, Bool.false_eq_true, Nat.zero_add, Nat.reduceAdd, Nat.reduceEqDiff, Nat.reduceLeDiff, reduceIte, List.map_append, List.map_cons, List.map_nil, Res.bind, Ev.c, callR, argsL, argL, g, retE]
  refine run_rt ?_
  rw [show startE 3 (eII (t, b)) = [some (.p (.int t)), some (.p (.int b)), none] from rfl]
  unfold f_fraction
  refine (seq_nx (if_f t0)).trans ((seq_nx (set_p e1)).trans ?_)
  have t1 : mTru (mBin ltE (mVar 1) (mC (.int 0))) [some (.p (.int t)), some (.p (.int b)), some (.p (.int (Int.gcd t b : Nat)))] = .ok (decide (b < 0)) := by
   simp only [mTru, mBin, mVar, mC, List.getElem?_cons_zero, List.getElem?_cons_succ, List.set_cons_zero, List.set_cons_succ, List.length_cons, List.length_nil, List.length_map, List.length_append, if_true, if_false, ite_true, ite_false, decide_true, decide_false, Bool.false_eq_true, Nat.zero_add, Nat.reduceAdd, Nat.reduceEqDiff, Nat.reduceLeDiff, reduceIte, List.map_append, List.map_cons, List.map_nil, Res.bind, Ev.c, intE0, truthR]
  by_cases hn : b < 0
  ·rw [decide_eq_true hn] at t1
   have es : FR.mk t b = (t.fdiv (-((Int.gcd t b : Nat) : Int)), b.fdiv (-((Int.gcd t b : Nat) : Int))) := by unfold FR.mk FR.sgn; rw [if_pos hn]
   refine (seq_nx ((if_t t1).trans (set_p (d := .int (-((Int.gcd t b : Nat) : Int))) rfl))).trans (ret_p ?_)
   rw [es]
   simp (disch := assumption) only [mSeq, mSet, mRet, mIfS, mVar, mC, mBin, mUn, mCons, mNil, mCall, callR, argsL, argL, argB, Res.bind, Ev.c, retL, retE, mCallB, tupR', lstR', pureL, mTru, truthR, mAnd, mOr, mNot, mAndV, mOrV, mNotV, mRaise, mNext, addE, intE0, negE, lstOf, dat, lenE, eqE, sh_int, eqv_ii, ix_pl2, ix_pl0, ix_pl1, ix_fr0, ix_fr1, ix_t0, ix_t1, ix_t2, mul_ok, fdiv_ok, mod_ok, pow_ok, List.getElem?_cons_zero, List.getElem?_cons_succ, List.set_cons_zero, List.set_cons_succ, List.length_cons, List.length_nil, List.length_map, List.length_append, if_true, if_false, ite_true, ite_false, decide_true, decide_false, Bool.false_eq_true, Nat.zero_add, Nat.reduceAdd, Nat.reduceEqDiff, Nat.reduceLeDiff, reduceIte, List.map_append, List.map_cons, List.map_nil, frD]
  ·rw [decide_eq_false hn] at t1
   have es : FR.mk t b = (t.fdiv ((Int.gcd t b : Nat) : Int), b.fdiv ((Int.gcd t b : Nat) : Int)) := by unfold FR.mk FR.sgn; rw [if_neg hn]
   refine (seq_nx (if_f t1)).trans (ret_p ?_)
   rw [es]
   simp (disch := assumption) only [mSeq, mSet, mRet, mIfS, mVar, mC, mBin, mUn, mCons, mNil, mCall, callR, argsL, argL, argB, Res.bind, Ev.c, retL, retE, mCallB, tupR', lstR', pureL, mTru, truthR, mAnd, mOr, mNot, mAndV, mOrV, mNotV, mRaise, mNext, addE, intE0, negE, lstOf, dat, lenE, eqE, sh_int, eqv_ii, ix_pl2, ix_pl0, ix_pl1, ix_fr0, ix_fr1, ix_t0, ix_t1, ix_t2, mul_ok, fdiv_ok, mod_ok, pow_ok, List.getElem?_cons_zero, List.getElem?_cons_succ, List.set_cons_zero, List.set_cons_succ, List.length_cons, List.length_nil, List.length_map, List.length_append, if_true, if_false, ite_true, ite_false, decide_true, decide_false, Bool.false_eq_true, Nat.zero_add, Nat.reduceAdd, Nat.reduceEqDiff, Nat.reduceLeDiff, reduceIte, List.map_append, List.map_cons, List.map_nil, frD]
theorem frac_ok (K : PySem.W.Frag) (c : Cls) {t b : Int} (h0 : b ≠ 0) (h1 : Sz 8000 b) : m_fraction K c [.p (.int t), .p (.int b)] = .ok (.p (frD (FR.mk t b))) := (mOf_at (a := (t, b)) eII_inj h1).trans (if_neg h0)
def cbS (c b : Int) : Int := (c * b).fdiv (Int.gcd c b : Nat)
def cb (hs : List (Int × Int)) : Int := hs.foldl (fun c h => cbS c h.2) 1
theorem cbS_ok {c b : Int} (hc : 1 ≤ c) (hb : 1 ≤ b) : 1 ≤ cbS c b ∧ c ∣ cbS c b ∧ b ∣ cbS c b := by
 have g0 : 0 < Int.gcd c b := Int.gcd_pos_of_ne_zero_right c (by omega)
 obtain ⟨k, hk⟩ := Int.gcd_dvd_right c b
 obtain ⟨j, hj⟩ := Int.gcd_dvd_left c b
 have e1 : cbS c b = c * k := by
  unfold cbS
  have : c * b = ((Int.gcd c b : Nat) : Int) * (c * k) := by
   conv => lhs; rw [hk]
   ac_rfl
  rw [this]
  exact Int.mul_fdiv_cancel_left _ (by omega)
 have e2 : cbS c b = b * j := by
  unfold cbS
  have : c * b = ((Int.gcd c b : Nat) : Int) * (b * j) := by
   conv => lhs; rw [hj]
   ac_rfl
  rw [this]
  exact Int.mul_fdiv_cancel_left _ (by omega)
 have k0 : 0 < k := Int.pos_of_mul_pos_right (show 0 < ((Int.gcd c b : Nat) : Int) * k by rw [← hk]; omega) (by omega)
 refine ⟨?_, ⟨k, e1⟩, ⟨j, e2⟩⟩
 rw [e1]
 exact pos_mul hc k0
theorem cb_ok {b : Nat} : ∀ (hs : List (Int × Int)) (c : Int) (n : Nat), 1 ≤ c → Sz n c → (∀ h ∈ hs, 1 ≤ h.2 ∧ Sz b h.2) → 1 ≤ hs.foldl (fun c h => cbS c h.2) c ∧ c ∣ hs.foldl (fun c h => cbS c h.2) c ∧ (∀ h ∈ hs, h.2 ∣ hs.foldl (fun c h => cbS c h.2) c) ∧ Sz (n + b * hs.length) (hs.foldl (fun c h => cbS c h.2) c)
 | [], c, n, h1, h2, _ => ⟨h1, Int.dvd_refl _, (fun _ h => nomatch h), h2⟩
 | h :: hs, c, n, h1, h2, hg => by
  have g := hg h (.head _)
  obtain ⟨a1, a2, a3⟩ := cbS_ok h1 g.1
  have sz : Sz (n + b) (cbS c h.2) := Sz.le (Sz.mul h2 g.2) (natAbs_fdiv_le _ _)
  obtain ⟨b1, b2, b3, b4⟩ := cb_ok hs (cbS c h.2) (n + b) a1 sz fun x hx => hg x (.tail _ hx)
  rw [List.foldl_cons]
  refine ⟨b1, Int.dvd_trans a2 b2, fun x hx => ?_, b4.mono (by rw [List.length_cons, Nat.mul_succ]; omega)⟩
  rcases List.mem_cons.mp hx with z | z
  ·rw [z]; exact Int.dvd_trans a3 b2
  ·exact b3 x z
def CbP (hs : List (Int × Int)) : Prop := ∃ b : Nat, b ≤ 400 ∧ b * hs.length ≤ 40000 ∧ ∀ h ∈ hs, 1 ≤ h.2 ∧ Sz b h.2
noncomputable def m_common_bottom (K : PySem.W.Frag) (c : Cls) : List L → Res L := mOf eFs CbP fun hs => .ok (.p (.int (cb hs)))
noncomputable def f_common_bottom_b1 (K : PySem.W.Frag) (c : Cls) : MS := (mSet 1 (mBin fdivE (mBin mulE (mVar 1) (mBin ixE (mVar 2) (mC (.int 1)))) (mCall 2 (m_greatest_divisor K c) (mCons (mVar 1) (mCons (mBin ixE (mVar 2) (mC (.int 1))) mNil)))))
noncomputable def f_common_bottom (K : PySem.W.Frag) (c : Cls) : MS := (mSeq (mSet 1 (mC (.int 1))) (mSeq (mFor (mItL (mVar 0)) (mgName 2) (f_common_bottom_b1 K c)) (mRet (mVar 1))))
theorem eq_common_bottom (K : PySem.W.Frag) (c : Cls) : ∀ ls, m_common_bottom K c ls = .bad ∨ runF 3 (f_common_bottom K c) ls = m_common_bottom K c ls := mOf_eq fun hs h => by
 obtain ⟨b, hb, hl, hg⟩ := h
 have gen : ∀ (xs : List (Int × Int)) (x : Int) (n : Nat) (r : Option L), 1 ≤ x → Sz n x → n + b * xs.length ≤ 40001 → (∀ h ∈ xs, 1 ≤ h.2 ∧ Sz b h.2) → ∃ r', mLoop (mgName 2) (f_common_bottom_b1 K c) (xs.map frD) [some (.p (.list (hs.map frD))), some (.p (.int x)), r] = some (.nx [some (.p (.list (hs.map frD))), some (.p (.int (xs.foldl (fun c h => cbS c h.2) x))), r']) := by
  intro xs
  induction xs with
  | nil => intro x n r _ _ _ _; exact ⟨r, rfl⟩
  | cons h xs ih =>
   intro x n r x1 x2 hk hxs
   have g := hxs h (.head _)
   rw [List.length_cons, Nat.mul_succ] at hk
   obtain ⟨a1, a2, a3⟩ := cbS_ok x1 g.1
   have sz : Sz (n + b) (cbS x h.2) := Sz.le (Sz.mul x2 g.2) (natAbs_fdiv_le _ _)
   obtain ⟨r', ih⟩ := ih (cbS x h.2) (n + b) (some (.p (frD h))) a1 sz (by omega) fun y hy => hxs y (.tail _ hy)
   refine ⟨r', ?_⟩
   have g0 : 0 < Int.gcd x h.2 := Int.gcd_pos_of_ne_zero_right x (by have := g.1; omega)
   have q1 : CMulW x h.2 := ⟨x2.mono (by omega), g.2.mono (by omega)⟩
   have q2 : CDivW (x * h.2) ((Int.gcd x h.2 : Nat) : Int) := ⟨by omega, (Sz.le g.2 (by rw [Int.natAbs_natCast]; exact Nat.le_of_dvd (by have := g.1; omega) (Int.gcd_dvd_natAbs_right x h.2))).mono (by omega)⟩
   have hb : f_common_bottom_b1 K c [some (.p (.list (hs.map frD))), some (.p (.int x)), some (.p (frD h))] = some (.nx [some (.p (.list (hs.map frD))), some (.p (.int (cbS x h.2))), some (.p (frD h))]) := by
    simp (disch := assumption) only [f_common_bottom_b1, mSeq, mSet, mRet, mIfS, mVar, mC, mBin, mUn, mCons, mNil, mCall, callR, argsL, argL, argB, Res.bind, Ev.c, retL, retE, mCallB, tupR', lstR', pureL, mTru, truthR, mAnd, mOr, mNot, mAndV, mOrV, mNotV, mRaise, mNext, addE, intE0, negE, lstOf, dat, lenE, eqE, sh_int, eqv_ii, ix_pl2, ix_pl0, ix_pl1, ix_fr0, ix_fr1, ix_t0, ix_t1, ix_t2, mul_ok, fdiv_ok, mod_ok, pow_ok, List.getElem?_cons_zero, List.getElem?_cons_succ, List.set_cons_zero, List.set_cons_succ, List.length_cons, List.length_nil, List.length_map, List.length_append, if_true, if_false, ite_true, ite_false, decide_true, decide_false, Bool.false_eq_true, Nat.zero_add, Nat.reduceAdd, Nat.reduceEqDiff, Nat.reduceLeDiff, reduceIte, List.map_append, List.map_cons, List.map_nil, gcd_good]
    rfl
   rw [List.map_cons]
   unfold mLoop
   simp only [mgName, List.set_cons_succ, List.set_cons_zero]
   rw [hb]
   exact ih
 obtain ⟨r', h⟩ := gen hs 1 1 none (Int.le_refl 1) (sz_of _ (by decide)) (by omega) hg
 refine run_rt ?_
 rw [show startE 3 (eFs hs) = [some (.p (.list (hs.map frD))), none, none] from rfl]
 refine (seq_nx (set_p (d := .int 1) rfl)).trans ?_
 refine (seq_nx ((for_l (ds := hs.map frD) rfl).trans h)).trans (ret_p rfl)
theorem cb_good (K : PySem.W.Frag) (c : Cls) {hs : List (Int × Int)} (h : CbP hs) : m_common_bottom K c [.p (.list (hs.map frD))] = .ok (.p (.int (cb hs))) := mOf_at (a := hs) eFs_inj h
def eHI (a : (Int × Int) × Int) : List L := [.p (frD a.1), .p (.int a.2)]
theorem eHI_inj (a b : (Int × Int) × Int) (h : eHI a = eHI b) : a = b := by
 unfold eHI at h
 injection h with h1 h2
 injection h2 with h2 _
 injection h1 with h1
 injection h2 with h2
 injection h2 with h2
 exact Prod.ext (frI h1) h2
def wI (x : Int × Int) (F : Int) : Int := x.1 * F.fdiv x.2
noncomputable def m_whole (K : PySem.W.Frag) (c : Cls) : List L → Res L := mOf eHI (fun a => Good 400 a.1 ∧ Sz 41000 a.2) fun a => .ok (.p (.int (wI a.1 a.2)))
noncomputable def f_whole (K : PySem.W.Frag) (c : Cls) : MS := (mRet (mBin mulE (mBin ixE (mVar 0) (mC (.int 0))) (mBin fdivE (mVar 1) (mBin ixE (mVar 0) (mC (.int 1))))))
theorem eq_whole (K : PySem.W.Frag) (c : Cls) : ∀ ls, m_whole K c ls = .bad ∨ runF 2 (f_whole K c) ls = m_whole K c ls := mOf_eq fun a h => by
 obtain ⟨x, F⟩ := a
 obtain ⟨⟨p, t, b⟩, hF⟩ := h
 dsimp only at p t b hF ⊢
 have bn : x.2 ≠ 0 := by omega
 have q1 : CDivW F x.2 := ⟨bn, b.mono (by decide)⟩
 have q2 : CMulW x.1 (F.fdiv x.2) := ⟨t.mono (by decide), (Sz.le hF (natAbs_fdiv_le _ _)).mono (by decide)⟩
 refine run_rt ?_
 rw [show startE 2 (eHI (x, F)) = [some (.p (frD x)), some (.p (.int F))] from rfl]
 unfold f_whole
 refine ret_p ?_
 simp (disch := assumption) only [mSeq, mSet, mRet, mIfS, mVar, mC, mBin, mUn, mCons, mNil, mCall, callR, argsL, argL, argB, Res.bind, Ev.c, retL, retE, mCallB, tupR', lstR', pureL, mTru, truthR, mAnd, mOr, mNot, mAndV, mOrV, mNotV, mRaise, mNext, addE, intE0, negE, lstOf, dat, lenE, eqE, sh_int, eqv_ii, ix_pl2, ix_pl0, ix_pl1, ix_fr0, ix_fr1, ix_t0, ix_t1, ix_t2, mul_ok, fdiv_ok, mod_ok, pow_ok, List.getElem?_cons_zero, List.getElem?_cons_succ, List.set_cons_zero, List.set_cons_succ, List.length_cons, List.length_nil, List.length_map, List.length_append, if_true, if_false, ite_true, ite_false, decide_true, decide_false, Bool.false_eq_true, Nat.zero_add, Nat.reduceAdd, Nat.reduceEqDiff, Nat.reduceLeDiff, reduceIte, List.map_append, List.map_cons, List.map_nil]
 rfl
theorem whole_good (K : PySem.W.Frag) (c : Cls) {x : Int × Int} {F : Int} (h1 : Good 400 x) (h2 : Sz 41000 F) : m_whole K c [.p (frD x), .p (.int F)] = .ok (.p (.int (wI x F))) := mOf_at (a := (x, F)) eHI_inj ⟨h1, h2⟩
structure KitF (K : PySem.W.Frag) (c : Cls) : Prop where
 ii : PySem.W.kitOne K (.type "int") (.type "int") = some true
 ib : PySem.W.kitOne K (.type "int") (.type "bool") = some false
 tt : PySem.W.kitOne K (.type "tuple") (.type "tuple") = some true
 ll : PySem.W.kitOne K (.type "list") (.type "list") = some true
noncomputable def f__law_cell_at (K : PySem.W.Frag) (c : Cls) : MS := (mSeq (mIfS (mTru (mBin ltE (mVar 1) (mCallB lenE (mCons (mVar 0) mNil)))) (mRet (mBin ixE (mVar 0) (mVar 1))) mNext) (mRet (mC (.int 0))))
noncomputable def m__law_cell_at (K : PySem.W.Frag) (c : Cls) (ls : List L) : Res L := runF 2 (f__law_cell_at K c) ls
theorem eq__law_cell_at (K : PySem.W.Frag) (c : Cls) : ∀ ls, m__law_cell_at K c ls = .bad ∨ runF 2 (f__law_cell_at K c) ls = m__law_cell_at K c ls := fun _ => .inr rfl
theorem at_nat {ns : List Int} {k : Nat} (h : k < ns.length) : atI (ns.map PyData.int) (k : Int) = some (.int (ns.getD k 0)) := by
 have : ns.getD k 0 = ns[k] := by simp [List.getD, h]
 rw [this]
 exact atI_nat (by rw [List.getElem?_map, List.getElem?_eq_getElem h]; rfl)
theorem cell_ok (K : PySem.W.Frag) (c : Cls) (ns : List Int) (k : Nat) : m__law_cell_at K c [.p (.list (ns.map .int)), .p (.int (k : Int))] = .ok (.p (.int (ns.getD k 0))) := by
 have hlen : lenE [.p (.list (ns.map .int))] = .ok (.p (.int (ns.length : Nat))) := by simp [lenE, seqOf]
 unfold m__law_cell_at
 refine run_rt ?_
 rw [show startE 2 [.p (.list (ns.map .int)), .p (.int (k : Int))] = [some (.p (.list (ns.map .int))), some (.p (.int (k : Int)))] from rfl]
 have ht : mTru (mBin ltE (mVar 1) (mCallB lenE (mCons (mVar 0) mNil))) [some (.p (.list (ns.map .int))), some (.p (.int (k : Int)))] = .ok (decide (k < ns.length)) := by
  simp [mTru, mBin, mVar, mCallB, mCons, mNil, Res.bind, Ev.c, hlen, intE0, truthR]
 by_cases hk : k < ns.length
 ·rw [decide_eq_true hk] at ht
  refine (seq_rt ((if_t ht).trans ?_))
  simp [mRet, mBin, mVar, Res.bind, Ev.c, ixE, seqOf, at_nat hk, retL]
 ·rw [decide_eq_false hk] at ht
  refine (seq_nx (if_f ht)).trans ?_
  have : ns.getD k 0 = 0 := by simp [List.getD, Nat.le_of_not_lt hk]
  rw [this]
  rfl
noncomputable def m__law_whole (K : PySem.W.Frag) (c : Cls) : List L → Res L := mOf (fun i : Int => [.p (.int i)]) (fun _ => True) fun _ => .ok (.p (.bool true))
noncomputable def f__law_whole (K : PySem.W.Frag) (c : Cls) : MS := (mRet (mAndV (mUn (isiE K (.type "int")) (mVar 0)) (mNotV (mUn (isiE K (.type "bool")) (mVar 0)))))
theorem eq__law_whole (K : PySem.W.Frag) (c : Cls) (hk : KitF K c) : ∀ ls, m__law_whole K c ls = .bad ∨ runF 1 (f__law_whole K c) ls = m__law_whole K c ls := mOf_eq fun i _ => by
 unfold runF
 rw [show startE 1 [.p (.int i)] = [some (.p (.int i))] from rfl]
 simp [f__law_whole, mSeq, mSet, mRet, mIfS, mVar, mC, mBin, mUn, mCons, mNil, mCall, callR, argsL, argL, argB, Res.bind, Ev.c, retL, retE, mCallB, tupR', lstR', pureL, mTru, truthR, mAnd, mOr, mNot, mAndV, mOrV, mNotV, mRaise, mNext, addE, intE0, negE, lstOf, dat, lenE, eqE, sh_int, eqv_ii, ix_pl2, ix_pl0, ix_pl1, ix_fr0, ix_fr1, ix_t0, ix_t1, ix_t2, isiE, tyD, hk.ii, hk.ib]
theorem whole_ok (K : PySem.W.Frag) (c : Cls) (i : Int) : m__law_whole K c [.p (.int i)] = .ok (.p (.bool true)) := mOf_at (a := i) (fun a b h => by injection h with h _; injection h with h; injection h) trivial
noncomputable def m__law_lowest (K : PySem.W.Frag) (c : Cls) : List L → Res L := mOf eII (fun a => a.2 ≠ 0 ∧ Sz 8000 a.2) fun a => .ok (.p (frD (FR.mk a.1 a.2)))
noncomputable def f__law_lowest_c1 (K : PySem.W.Frag) (c : Cls) : En → Res Bool := (mTru (mBin (eqE true) (mVar 3) (mC (.int 0))))
noncomputable def f__law_lowest_b2 (K : PySem.W.Frag) (c : Cls) : MS := (mSeq (mSet 4 (mBin modE (mVar 2) (mVar 3))) (mSeq (mSet 2 (mVar 3)) (mSet 3 (mVar 4))))
noncomputable def f__law_lowest (K : PySem.W.Frag) (c : Cls) : MS := (mSeq (mSet 2 (mCallB absE (mCons (mVar 0) mNil))) (mSeq (mSet 3 (mCallB absE (mCons (mVar 1) mNil))) (mSeq (mWhile (f__law_lowest_c1 K c) (f__law_lowest_b2 K c)) (mSeq (mIfS (mTru (mBin ltE (mVar 1) (mC (.int 0)))) (mSet 2 (mUn negE (mVar 2))) mNext) (mRet (mCallB tupR' (mCons (mBin fdivE (mVar 0) (mVar 2)) (mCons (mBin fdivE (mVar 1) (mVar 2)) mNil))))))))
theorem eq__law_lowest (K : PySem.W.Frag) (c : Cls) : ∀ ls, m__law_lowest K c ls = .bad ∨ runF 5 (f__law_lowest K c) ls = m__law_lowest K c ls := mOf_eq fun x h => by
 obtain ⟨t, b⟩ := x
 obtain ⟨hb, hz⟩ := h
 dsimp only at hb hz ⊢
 obtain ⟨r', h⟩ := wh_gd K c (some (.p (.int t))) (some (.p (.int b))) _ (if t < 0 then -t else t) (if b < 0 then -b else b) none (by split <;> omega) (by split <;> omega) (Nat.le_refl _)
 have h := mWhile_of h
 rw [FR.gcd_abs] at h
 have h : mWhile (f__law_lowest_c1 K c) (f__law_lowest_b2 K c) _ = _ := h
 obtain ⟨q1, q2⟩ := cdivW t hb hz
 have q1' : CDivW b ((Int.gcd t b : Nat) : Int) := q1
 have q2' : CDivW b (-((Int.gcd t b : Nat) : Int)) := q2
 refine run_rt ?_
 rw [show startE 5 (eII (t, b)) = [some (.p (.int t)), some (.p (.int b)), none, none, none] from rfl]
 unfold f__law_lowest
 refine (seq_nx (set_p (d := .int (if t < 0 then -t else t)) rfl)).trans ((seq_nx (set_p (d := .int (if b < 0 then -b else b)) rfl)).trans ((seq_nx h).trans ?_))
 have t1 : mTru (mBin ltE (mVar 1) (mC (.int 0))) [some (.p (.int t)), some (.p (.int b)), some (.p (.int (Int.gcd t b : Nat))), some (.p (.int 0)), r'] = .ok (decide (b < 0)) := by
  simp only [mTru, mBin, mVar, mC, List.getElem?_cons_zero, List.getElem?_cons_succ, List.set_cons_zero, List.set_cons_succ, List.length_cons, List.length_nil, List.length_map, List.length_append, if_true, if_false, ite_true, ite_false, decide_true, decide_false, Bool.false_eq_true, Nat.zero_add, Nat.reduceAdd, Nat.reduceEqDiff, Nat.reduceLeDiff, reduceIte, List.map_append, List.map_cons, List.map_nil, Res.bind, Ev.c, intE0, truthR]
 by_cases hn : b < 0
 ·rw [decide_eq_true hn] at t1
  have es : FR.mk t b = (t.fdiv (-((Int.gcd t b : Nat) : Int)), b.fdiv (-((Int.gcd t b : Nat) : Int))) := by unfold FR.mk FR.sgn; rw [if_pos hn]
  refine (seq_nx ((if_t t1).trans (set_p (d := .int (-((Int.gcd t b : Nat) : Int))) rfl))).trans (ret_p ?_)
  rw [es]
  simp (disch := assumption) only [mSeq, mSet, mRet, mIfS, mVar, mC, mBin, mUn, mCons, mNil, mCall, callR, argsL, argL, argB, Res.bind, Ev.c, retL, retE, mCallB, tupR', lstR', pureL, mTru, truthR, mAnd, mOr, mNot, mAndV, mOrV, mNotV, mRaise, mNext, addE, intE0, negE, lstOf, dat, lenE, eqE, sh_int, eqv_ii, ix_pl2, ix_pl0, ix_pl1, ix_fr0, ix_fr1, ix_t0, ix_t1, ix_t2, mul_ok, fdiv_ok, mod_ok, pow_ok, List.getElem?_cons_zero, List.getElem?_cons_succ, List.set_cons_zero, List.set_cons_succ, List.length_cons, List.length_nil, List.length_map, List.length_append, if_true, if_false, ite_true, ite_false, decide_true, decide_false, Bool.false_eq_true, Nat.zero_add, Nat.reduceAdd, Nat.reduceEqDiff, Nat.reduceLeDiff, reduceIte, List.map_append, List.map_cons, List.map_nil, frD]
 ·rw [decide_eq_false hn] at t1
  have es : FR.mk t b = (t.fdiv ((Int.gcd t b : Nat) : Int), b.fdiv ((Int.gcd t b : Nat) : Int)) := by unfold FR.mk FR.sgn; rw [if_neg hn]
  refine (seq_nx (if_f t1)).trans (ret_p ?_)
  rw [es]
  simp (disch := assumption) only [mSeq, mSet, mRet, mIfS, mVar, mC, mBin, mUn, mCons, mNil, mCall, callR, argsL, argL, argB, Res.bind, Ev.c, retL, retE, mCallB, tupR', lstR', pureL, mTru, truthR, mAnd, mOr, mNot, mAndV, mOrV, mNotV, mRaise, mNext, addE, intE0, negE, lstOf, dat, lenE, eqE, sh_int, eqv_ii, ix_pl2, ix_pl0, ix_pl1, ix_fr0, ix_fr1, ix_t0, ix_t1, ix_t2, mul_ok, fdiv_ok, mod_ok, pow_ok, List.getElem?_cons_zero, List.getElem?_cons_succ, List.set_cons_zero, List.set_cons_succ, List.length_cons, List.length_nil, List.length_map, List.length_append, if_true, if_false, ite_true, ite_false, decide_true, decide_false, Bool.false_eq_true, Nat.zero_add, Nat.reduceAdd, Nat.reduceEqDiff, Nat.reduceLeDiff, reduceIte, List.map_append, List.map_cons, List.map_nil, frD]
theorem low_ok (K : PySem.W.Frag) (c : Cls) {t b : Int} (h0 : b ≠ 0) (h1 : Sz 8000 b) : m__law_lowest K c [.p (.int t), .p (.int b)] = .ok (.p (frD (FR.mk t b))) := mOf_at (a := (t, b)) eII_inj ⟨h0, h1⟩
noncomputable def m__law_before (K : PySem.W.Frag) (c : Cls) : List L → Res L := mOf eFF (fun a => FSz 2000 a.1 ∧ FSz 2000 a.2) fun a => .ok (.p (.bool (ltF a.1 a.2)))
noncomputable def f__law_before (K : PySem.W.Frag) (c : Cls) : MS := (mRet (mBin ltE (mBin mulE (mBin ixE (mVar 0) (mC (.int 0))) (mBin ixE (mVar 1) (mC (.int 1)))) (mBin mulE (mBin ixE (mVar 1) (mC (.int 0))) (mBin ixE (mVar 0) (mC (.int 1))))))
theorem eq__law_before (K : PySem.W.Frag) (c : Cls) : ∀ ls, m__law_before K c ls = .bad ∨ runF 2 (f__law_before K c) ls = m__law_before K c ls := mOf_eq fun a h => by
 obtain ⟨x, y⟩ := a
 obtain ⟨⟨x1, x2⟩, ⟨y1, y2⟩⟩ := h
 dsimp only at x1 x2 y1 y2 ⊢
 refine run_rt ?_
 rw [show startE 2 (eFF (x, y)) = [some (.p (frD x)), some (.p (frD y))] from rfl]
 unfold f__law_before
 simp (disch := (first | assumption | (first | apply N.cm2 | apply N.cd2) <;> (first | decide | omega | (repeat (first | assumption | apply L2.Sz.mul | apply N.Sz.addM | apply N.Sz.subM | apply L2.Sz.neg | apply N.sz_fdiv | (apply N.sz_fmod; (first | decide | omega)) | exact N.sz_lit4 (by decide) | exact N.sz_lit (by decide) | exact N.sz_lit70 (by decide) | exact N.sz_big (by decide)))) | decide | omega)) only [mSeq, mSet, mRet, mIfS, mVar, mC, mBin, mUn, mCons, mNil, mCall, callR, argsL, argL, argB, Res.bind, Ev.c, retL, retE, mCallB, tupR', lstR', pureL, mTru, truthR, mAnd, mOr, mNot, mAndV, mOrV, mNotV, mRaise, mNext, addE, intE0, negE, lstOf, dat, lenE, eqE, sh_int, eqv_ii, ix_pl2, ix_pl0, ix_pl1, ix_fr0, ix_fr1, ix_t0, ix_t1, ix_t2, mul_ok, fdiv_ok, mod_ok, pow_ok, List.getElem?_cons_zero, List.getElem?_cons_succ, List.set_cons_zero, List.set_cons_succ, List.length_cons, List.length_nil, List.length_map, List.length_append, if_true, if_false, ite_true, ite_false, decide_true, decide_false, Bool.false_eq_true, Nat.zero_add, Nat.reduceAdd, Nat.reduceEqDiff, Nat.reduceLeDiff, reduceIte, List.map_append, List.map_cons, List.map_nil]
 rfl
theorem before_ok (K : PySem.W.Frag) (c : Cls) {x y : Int × Int} (hx : FSz 2000 x) (hy : FSz 2000 y) : m__law_before K c [.p (frD x), .p (frD y)] = .ok (.p (.bool (ltF x y))) := mOf_at (a := (x, y)) eFF_inj ⟨hx, hy⟩
theorem mk_self {x : Int × Int} (h : FR.Fr x) : FR.mk x.1 x.2 = x := by
 have p := h.pos
 obtain ⟨f, e⟩ := FR.mk_fr (t := x.1) (b := x.2) (by omega)
 exact leF_eq f h (Int.le_of_eq e) (Int.le_of_eq e.symm)
def eF1 (x : Int × Int) : List L := [.p (frD x)]
theorem eF1_inj (a b : Int × Int) (h : eF1 a = eF1 b) : a = b := by
 unfold eF1 at h
 injection h with h _
 injection h with h
 exact frI h
noncomputable def m__law_is_fraction (K : PySem.W.Frag) (c : Cls) : List L → Res L := mOf eF1 (fun x => FR.Fr x ∧ Sz 8000 x.2) fun _ => .ok (.p (.bool true))
noncomputable def f__law_is_fraction (K : PySem.W.Frag) (c : Cls) : MS := (mSeq (mIfS (mOr (mNot (mTru (mUn (isiE K (.type "tuple")) (mVar 0)))) (mOr (mTru (mBin (eqE true) (mCallB lenE (mCons (mVar 0) mNil)) (mC (.int 2)))) (mOr (mNot (mTru (mCall 1 (m__law_whole K c) (mCons (mBin ixE (mVar 0) (mC (.int 0))) mNil)))) (mNot (mTru (mCall 1 (m__law_whole K c) (mCons (mBin ixE (mVar 0) (mC (.int 1))) mNil))))))) (mRet (mC (.bool false))) mNext) (mRet (mAndV (mBin gtE (mBin ixE (mVar 0) (mC (.int 1))) (mC (.int 0))) (mBin (eqE false) (mCall 2 (m__law_lowest K c) (mCons (mBin ixE (mVar 0) (mC (.int 0))) (mCons (mBin ixE (mVar 0) (mC (.int 1))) mNil))) (mVar 0)))))
theorem eq__law_is_fraction (K : PySem.W.Frag) (c : Cls) (hk : KitF K c) : ∀ ls, m__law_is_fraction K c ls = .bad ∨ runF 1 (f__law_is_fraction K c) ls = m__law_is_fraction K c ls := mOf_eq fun x h => by
 obtain ⟨hf, hz⟩ := h
 have p := hf.pos
 have l := low_ok K c (t := x.1) (b := x.2) (by omega) hz
 rw [mk_self hf] at l
 have w1 := whole_ok K c x.1
 have w2 := whole_ok K c x.2
 have i1 : isiE K (.type "tuple") (.p (frD x)) = .ok (.p (.bool true)) := by simp [isiE, dat, frD, tyD, hk.tt]
 have e1 : lenE [.p (frD x)] = .ok (.p (.int 2)) := by simp [lenE, seqOf, frD]
 have e2 : eqE true (.p (.int 2)) (.p (.int 2)) = .ok (.p (.bool false)) := by simp [eqE, dat, sh_int, eqv_ii]
 have e3 : eqE false (.p (frD x)) (.p (frD x)) = .ok (.p (.bool true)) := eqE_same rfl rfl (sh_fr x) false
 refine run_rt ?_
 rw [show startE 1 (eF1 x) = [some (.p (frD x))] from rfl]
 unfold f__law_is_fraction
 have t1 : (mOr (mNot (mTru (mUn (isiE K (.type "tuple")) (mVar 0)))) (mOr (mTru (mBin (eqE true) (mCallB lenE (mCons (mVar 0) mNil)) (mC (.int 2)))) (mOr (mNot (mTru (mCall 1 (m__law_whole K c) (mCons (mBin ixE (mVar 0) (mC (.int 0))) mNil)))) (mNot (mTru (mCall 1 (m__law_whole K c) (mCons (mBin ixE (mVar 0) (mC (.int 1))) mNil))))))) [some (.p (frD x))] = .ok false := by
  simp only [mOr, mNot, mTru, mUn, mBin, mCall, mCallB, mCons, mNil, mVar, mC, callR, argsL, argL, List.getElem?_cons_zero, List.getElem?_cons_succ, List.set_cons_zero, List.set_cons_succ, List.length_cons, List.length_nil, List.length_map, List.length_append, if_true, if_false, ite_true, ite_false, decide_true, decide_false, Bool.false_eq_true, Nat.zero_add, Nat.reduceAdd, Nat.reduceEqDiff, Nat.reduceLeDiff, reduceIte, List.map_append, List.map_cons, List.map_nil, Res.bind, Ev.c, i1, e1, e2, ix_fr0, ix_fr1, w1, w2, retE, truthR, Bool.not_true]
 refine (seq_nx (if_f t1)).trans (ret_p ?_)
 simp only [mAndV, mBin, mCall, mCons, mNil, mVar, mC, intE0, callR, argsL, argL, List.getElem?_cons_zero, List.getElem?_cons_succ, List.set_cons_zero, List.set_cons_succ, List.length_cons, List.length_nil, List.length_map, List.length_append, if_true, if_false, ite_true, ite_false, decide_true, decide_false, Bool.false_eq_true, Nat.zero_add, Nat.reduceAdd, Nat.reduceEqDiff, Nat.reduceLeDiff, reduceIte, List.map_append, List.map_cons, List.map_nil, Res.bind, Ev.c, ix_fr0, ix_fr1, l, retE, e3, decide_eq_true (show 0 < x.2 by omega)]
theorem isf_ok (K : PySem.W.Frag) (c : Cls) {x : Int × Int} (h : FR.Fr x) (hz : Sz 8000 x.2) : m__law_is_fraction K c [.p (frD x)] = .ok (.p (.bool true)) := mOf_at (a := x) eF1_inj ⟨h, hz⟩
noncomputable def m__law_sum (K : PySem.W.Frag) (c : Cls) : List L → Res L := mOf eFF (fun a => Good 2000 a.1 ∧ Good 2000 a.2) fun a => .ok (.p (frD (hP a.1 a.2)))
noncomputable def f__law_sum (K : PySem.W.Frag) (c : Cls) : MS := (mRet (mCall 2 (m__law_lowest K c) (mCons (mBin addE (mBin mulE (mBin ixE (mVar 0) (mC (.int 0))) (mBin ixE (mVar 1) (mC (.int 1)))) (mBin mulE (mBin ixE (mVar 1) (mC (.int 0))) (mBin ixE (mVar 0) (mC (.int 1))))) (mCons (mBin mulE (mBin ixE (mVar 0) (mC (.int 1))) (mBin ixE (mVar 1) (mC (.int 1)))) mNil))))
theorem eq__law_sum (K : PySem.W.Frag) (c : Cls) : ∀ ls, m__law_sum K c ls = .bad ∨ runF 2 (f__law_sum K c) ls = m__law_sum K c ls := mOf_eq fun a h => by
 obtain ⟨x, y⟩ := a
 obtain ⟨g1, g2⟩ := h
 obtain ⟨x0, x1, x2⟩ := id g1
 obtain ⟨y0, y1, y2⟩ := id g2
 dsimp only at g1 g2 x0 x1 x2 y0 y1 y2 ⊢
 have l := low_ok K c (t := x.1 * y.2 + y.1 * x.2) (b := x.2 * y.2) (g1.ne g2) ((Sz.mul x2 y2).mono (by decide))
 refine run_rt ?_
 rw [show startE 2 (eFF (x, y)) = [some (.p (frD x)), some (.p (frD y))] from rfl]
 unfold f__law_sum
 refine ret_p ?_
 simp (disch := (first | assumption | (first | apply N.cm2 | apply N.cd2) <;> (first | decide | omega | (repeat (first | assumption | apply L2.Sz.mul | apply N.Sz.addM | apply N.Sz.subM | apply L2.Sz.neg | apply N.sz_fdiv | (apply N.sz_fmod; (first | decide | omega)) | exact N.sz_lit4 (by decide) | exact N.sz_lit (by decide) | exact N.sz_lit70 (by decide) | exact N.sz_big (by decide)))) | decide | omega)) only [mSeq, mSet, mRet, mIfS, mVar, mC, mBin, mUn, mCons, mNil, mCall, callR, argsL, argL, argB, Res.bind, Ev.c, retL, retE, mCallB, tupR', lstR', pureL, mTru, truthR, mAnd, mOr, mNot, mAndV, mOrV, mNotV, mRaise, mNext, addE, intE0, negE, lstOf, dat, lenE, eqE, sh_int, eqv_ii, ix_pl2, ix_pl0, ix_pl1, ix_fr0, ix_fr1, ix_t0, ix_t1, ix_t2, mul_ok, fdiv_ok, mod_ok, pow_ok, List.getElem?_cons_zero, List.getElem?_cons_succ, List.set_cons_zero, List.set_cons_succ, List.length_cons, List.length_nil, List.length_map, List.length_append, if_true, if_false, ite_true, ite_false, decide_true, decide_false, Bool.false_eq_true, Nat.zero_add, Nat.reduceAdd, Nat.reduceEqDiff, Nat.reduceLeDiff, reduceIte, List.map_append, List.map_cons, List.map_nil, l]
 rfl
theorem lsum_ok (K : PySem.W.Frag) (c : Cls) {m n : Nat} {x y : Int × Int} (hx : Good m x) (hy : Good n y) (h1 : m ≤ 2000) (h2 : n ≤ 2000) : m__law_sum K c [.p (frD x), .p (frD y)] = .ok (.p (frD (hP x y))) := mOf_at (a := (x, y)) eFF_inj ⟨hx.mono h1, hy.mono h2⟩
noncomputable def f__law_mix (K : PySem.W.Frag) (c : Cls) : MS := (mSeq (mSet 2 (mBin addE (mBin addE (mBin mulE (mBin modE (mVar 0) (mBin powE (mC (.int 10)) (mC (.int 18)))) (mBin addE (mBin mulE (mC (.int 2)) (mVar 1)) (mC (.int 48271)))) (mBin mulE (mBin mulE (mC (.int 7919)) (mVar 1)) (mVar 1))) (mVar 1))) (mRet (mBin modE (mBin mulE (mBin modE (mVar 2) (mC (.int 2147483647))) (mC (.int 69621))) (mC (.int 2147483629)))))
noncomputable def m__law_mix (K : PySem.W.Frag) (c : Cls) (ls : List L) : Res L := runF 3 (f__law_mix K c) ls
theorem eq__law_mix (K : PySem.W.Frag) (c : Cls) : ∀ ls, m__law_mix K c ls = .bad ∨ runF 3 (f__law_mix K c) ls = m__law_mix K c ls := fun _ => .inr rfl
theorem mix_ok (K : PySem.W.Frag) (c : Cls) (cell : Int) {k : Int} (k0 : 0 ≤ k) (k1 : k ≤ 100) : ∃ v : Int, 0 ≤ v ∧ v < 2147483629 ∧ m__law_mix K c [.p (.int cell), .p (.int k)] = .ok (.p (.int v)) := by
 have p18 : CPow 10 18 := ⟨by decide, by decide, by decide⟩
 have kz : Sz 20 k := by unfold Sz; omega
 have pn : (10 : Int) ^ Int.toNat 18 ≠ 0 := by decide
 have cz : Sz 100 (cell.fmod (10 ^ Int.toNat 18)) := sz_fmod (by decide) (by unfold Sz; decide)
 generalize hC : cell.fmod (10 ^ Int.toNat 18) = C at cz
 refine ⟨(((C * (2 * k + 48271) + 7919 * k * k + k).fmod 2147483647) * 69621).fmod 2147483629, (fmod_pos (by decide)).1, (fmod_pos (by decide)).2, ?_⟩
 have z1 : Sz 40 ((C * (2 * k + 48271) + 7919 * k * k + k).fmod 2147483647) := sz_fmod (by decide) (by unfold Sz; decide)
 have sl : ∀ {x : Int}, Sz 50 x → Sz 60000 x := fun h => h.mono (by decide)
 have q1 : CMulW 2 k := ⟨sl (by unfold Sz; decide), kz.mono (by decide)⟩
 have q2 : CMulW C (2 * k + 48271) := ⟨cz.mono (by decide), sl (by unfold Sz; omega)⟩
 have q3 : CMulW 7919 k := ⟨sl (by unfold Sz; decide), kz.mono (by decide)⟩
 have q4 : CMulW (7919 * k) k := ⟨sl (by unfold Sz; omega), kz.mono (by decide)⟩
 have q5 : CMulW ((C * (2 * k + 48271) + 7919 * k * k + k).fmod 2147483647) 69621 := ⟨z1.mono (by decide), sl (by unfold Sz; decide)⟩
 have n1 : (2147483647 : Int) ≠ 0 := by decide
 have n2 : (2147483629 : Int) ≠ 0 := by decide
 unfold m__law_mix
 refine run_rt ?_
 rw [show startE 3 [.p (.int cell), .p (.int k)] = [some (.p (.int cell)), some (.p (.int k)), none] from rfl]
 unfold f__law_mix
 refine (seq_nx (set_p (d := .int (C * (2 * k + 48271) + 7919 * k * k + k)) ?_)).trans (ret_p ?_)
 ·simp (disch := assumption) only [mSeq, mSet, mRet, mIfS, mVar, mC, mBin, mUn, mCons, mNil, mCall, callR, argsL, argL, argB, Res.bind, Ev.c, retL, retE, mCallB, tupR', lstR', pureL, mTru, truthR, mAnd, mOr, mNot, mAndV, mOrV, mNotV, mRaise, mNext, addE, intE0, negE, lstOf, dat, lenE, eqE, sh_int, eqv_ii, ix_pl2, ix_pl0, ix_pl1, ix_fr0, ix_fr1, ix_t0, ix_t1, ix_t2, mul_ok, fdiv_ok, mod_ok, pow_ok, List.getElem?_cons_zero, List.getElem?_cons_succ, List.set_cons_zero, List.set_cons_succ, List.length_cons, List.length_nil, List.length_map, List.length_append, if_true, if_false, ite_true, ite_false, decide_true, decide_false, Bool.false_eq_true, Nat.zero_add, Nat.reduceAdd, Nat.reduceEqDiff, Nat.reduceLeDiff, reduceIte, List.map_append, List.map_cons, List.map_nil, hC]
 ·simp (disch := assumption) only [mSeq, mSet, mRet, mIfS, mVar, mC, mBin, mUn, mCons, mNil, mCall, callR, argsL, argL, argB, Res.bind, Ev.c, retL, retE, mCallB, tupR', lstR', pureL, mTru, truthR, mAnd, mOr, mNot, mAndV, mOrV, mNotV, mRaise, mNext, addE, intE0, negE, lstOf, dat, lenE, eqE, sh_int, eqv_ii, ix_pl2, ix_pl0, ix_pl1, ix_fr0, ix_fr1, ix_t0, ix_t1, ix_t2, mul_ok, fdiv_ok, mod_ok, pow_ok, List.getElem?_cons_zero, List.getElem?_cons_succ, List.set_cons_zero, List.set_cons_succ, List.length_cons, List.length_nil, List.length_map, List.length_append, if_true, if_false, ite_true, ite_false, decide_true, decide_false, Bool.false_eq_true, Nat.zero_add, Nat.reduceAdd, Nat.reduceEqDiff, Nat.reduceLeDiff, reduceIte, List.map_append, List.map_cons, List.map_nil]
noncomputable def f__law_number (K : PySem.W.Frag) (c : Cls) : MS := (mSeq (mSet 2 (mBin modE (mCall 2 (m__law_mix K c) (mCons (mVar 0) (mCons (mVar 1) mNil))) (mC (.int 5)))) (mSeq (mIfS (mTru (mBin (eqE false) (mVar 2) (mC (.int 0)))) (mRet (mCall 2 (m__law_lowest K c) (mCons (mBin subE (mBin modE (mBin addE (mBin mulXE (mVar 0) (mC (.int 48271))) (mVar 1)) (mBin addE (mBin mulXE (mC (.int 2)) (mBin powE (mC (.int 10)) (mC (.int 20)))) (mC (.int 1)))) (mBin powE (mC (.int 10)) (mC (.int 20)))) (mCons (mBin addE (mC (.int 1)) (mBin modE (mCall 2 (m__law_mix K c) (mCons (mVar 0) (mCons (mBin addE (mVar 1) (mC (.int 1))) mNil))) (mC (.int 12)))) mNil)))) mNext) (mSeq (mIfS (mTru (mBin (eqE false) (mVar 2) (mC (.int 1)))) (mRet (mCall 2 (m__law_lowest K c) (mCons (mBin subE (mBin modE (mCall 2 (m__law_mix K c) (mCons (mVar 0) (mCons (mBin addE (mVar 1) (mC (.int 2))) mNil))) (mC (.int 41))) (mC (.int 20))) (mCons (mBin addE (mC (.int 1)) (mBin modE (mCall 2 (m__law_mix K c) (mCons (mVar 0) (mCons (mBin addE (mVar 1) (mC (.int 3))) mNil))) (mC (.int 6)))) mNil)))) mNext) (mRet (mCallB tupR' (mCons (mBin subE (mBin modE (mCall 2 (m__law_mix K c) (mCons (mVar 0) (mCons (mBin addE (mVar 1) (mC (.int 4))) mNil))) (mC (.int 5))) (mC (.int 2))) (mCons (mC (.int 1)) mNil)))))))
noncomputable def m__law_number (K : PySem.W.Frag) (c : Cls) (ls : List L) : Res L := runF 3 (f__law_number K c) ls
theorem eq__law_number (K : PySem.W.Frag) (c : Cls) : ∀ ls, m__law_number K c ls = .bad ∨ runF 3 (f__law_number K c) ls = m__law_number K c ls := fun _ => .inr rfl
structure GN (h : Int × Int) : Prop where
 f : FR.Fr h
 t : Sz 80 h.1
 b : Sz 6 h.2
theorem gn_one {t : Int} (ht : Sz 80 t) : GN (t, 1) := ⟨⟨Int.le_refl 1, Int.gcd_one⟩, ht, (show Sz 6 (1 : Int) by unfold Sz; decide)⟩
theorem gn_mk {t b : Int} (h0 : b ≠ 0) (ht : Sz 80 t) (hb : Sz 6 b) : GN (FR.mk t b) := ⟨(FR.mk_fr h0).1, Sz.le ht (natAbs_fdiv_le _ _), Sz.le hb (natAbs_fdiv_le _ _)⟩
theorem GN.good {h : Int × Int} (g : GN h) : Good 80 h := ⟨g.f.pos, g.t, g.b.mono (by decide)⟩
theorem number_ok (K : PySem.W.Frag) (c : Cls) (cell : Int) {k : Int} (k0 : 0 ≤ k) (k1 : k ≤ 90) : ∃ x, GN x ∧ m__law_number K c [.p (.int cell), .p (.int k)] = .ok (.p (frD x)) := by
 obtain ⟨v0, a0, b0, e0⟩ := mix_ok K c cell (k := k) k0 (by omega)
 obtain ⟨v1, a1, b1, e1⟩ := mix_ok K c cell (k := k + 1) (by omega) (by omega)
 obtain ⟨v2, a2, b2, e2⟩ := mix_ok K c cell (k := k + 2) (by omega) (by omega)
 obtain ⟨v3, a3, b3, e3⟩ := mix_ok K c cell (k := k + 3) (by omega) (by omega)
 obtain ⟨v4, a4, b4, e4⟩ := mix_ok K c cell (k := k + 4) (by omega) (by omega)
 have p20 : CPow 10 20 := ⟨by decide, by decide, by decide⟩
 have m12 := fmod_pos (a := v1) (b := 12) (by decide)
 have m41 := fmod_pos (a := v2) (b := 41) (by decide)
 have m6 := fmod_pos (a := v3) (b := 6) (by decide)
 have m5 := fmod_pos (a := v4) (b := 5) (by decide)
 have x1 : mulXE (.p (.int cell)) (.p (.int 48271)) = .ok (.p (.int (cell * 48271))) := mulX_r (by decide) (by decide)
 have x2 : mulXE (.p (.int 2)) (.p (.int (10 ^ Int.toNat 20))) = .ok (.p (.int (2 * 10 ^ Int.toNat 20))) := mulX_ok (.inr (.inl ⟨by decide, by decide⟩))
 have n1 : (2 * 10 ^ Int.toNat 20 + 1 : Int) ≠ 0 := by decide
 have mm := fmod_pos (a := cell * 48271 + k) (b := 2 * 10 ^ Int.toNat 20 + 1) (by decide)
 have pw : (10 : Int) ^ Int.toNat 20 = 100000000000000000000 := by decide
 have l0 := low_ok K c (t := (cell * 48271 + k).fmod (2 * 10 ^ Int.toNat 20 + 1) - 10 ^ Int.toNat 20) (b := 1 + v1.fmod 12) (by omega) (by unfold Sz; omega)
 have l1 := low_ok K c (t := v2.fmod 41 - 20) (b := 1 + v3.fmod 6) (by omega) (by unfold Sz; omega)
 have d5 : (5 : Int) ≠ 0 := by decide
 have d12 : (12 : Int) ≠ 0 := by decide
 have d41 : (41 : Int) ≠ 0 := by decide
 have d6 : (6 : Int) ≠ 0 := by decide
 unfold m__law_number
 suffices h : ∃ x, GN x ∧ f__law_number K c (startE 3 [.p (.int cell), .p (.int k)]) = some (.rt (.p (frD x))) from let ⟨x, g, e⟩ := h; ⟨x, g, run_rt e⟩
 rw [show startE 3 [.p (.int cell), .p (.int k)] = [some (.p (.int cell)), some (.p (.int k)), none] from rfl]
 unfold f__law_number
 have s0 : (mBin modE (mCall 2 (m__law_mix K c) (mCons (mVar 0) (mCons (mVar 1) mNil))) (mC (.int 5))) [some (.p (.int cell)), some (.p (.int k)), none] = .ok (.p (.int (v0.fmod 5))) := by
  simp (disch := assumption) only [mSeq, mSet, mRet, mIfS, mVar, mC, mBin, mUn, mCons, mNil, mCall, callR, argsL, argL, argB, Res.bind, Ev.c, retL, retE, mCallB, tupR', lstR', pureL, mTru, truthR, mAnd, mOr, mNot, mAndV, mOrV, mNotV, mRaise, mNext, addE, intE0, negE, lstOf, dat, lenE, eqE, sh_int, eqv_ii, ix_pl2, ix_pl0, ix_pl1, ix_fr0, ix_fr1, ix_t0, ix_t1, ix_t2, mul_ok, fdiv_ok, mod_ok, pow_ok, List.getElem?_cons_zero, List.getElem?_cons_succ, List.set_cons_zero, List.set_cons_succ, List.length_cons, List.length_nil, List.length_map, List.length_append, if_true, if_false, ite_true, ite_false, decide_true, decide_false, Bool.false_eq_true, Nat.zero_add, Nat.reduceAdd, Nat.reduceEqDiff, Nat.reduceLeDiff, reduceIte, List.map_append, List.map_cons, List.map_nil, e0]
 have tt : ∀ (w n : Int), mTru (mBin (eqE false) (mVar 2) (mC (.int n))) [some (.p (.int cell)), some (.p (.int k)), some (.p (.int w))] = .ok (w == n) := fun w n => by
  simp only [mTru, mBin, mVar, mC, List.getElem?_cons_zero, List.getElem?_cons_succ, List.set_cons_zero, List.set_cons_succ, List.length_cons, List.length_nil, List.length_map, List.length_append, if_true, if_false, ite_true, ite_false, decide_true, decide_false, Bool.false_eq_true, Nat.zero_add, Nat.reduceAdd, Nat.reduceEqDiff, Nat.reduceLeDiff, reduceIte, List.map_append, List.map_cons, List.map_nil, Res.bind, Ev.c, eqE, dat, sh_int, eqv_ii, truthR]
  rfl
 generalize v0.fmod 5 = w at s0
 by_cases h0 : (w == 0) = true
 ·have t0 := tt w 0
  rw [h0] at t0
  refine ⟨_, gn_mk (t := (cell * 48271 + k).fmod (2 * 10 ^ Int.toNat 20 + 1) - 10 ^ Int.toNat 20) (b := 1 + v1.fmod 12) (by omega) (by unfold Sz; omega) (by unfold Sz; omega), (seq_nx (set_p s0)).trans (seq_rt ((if_t t0).trans (ret_p ?_)))⟩
  simp (disch := assumption) only [mSeq, mSet, mRet, mIfS, mVar, mC, mBin, mUn, mCons, mNil, mCall, callR, argsL, argL, argB, Res.bind, Ev.c, retL, retE, mCallB, tupR', lstR', pureL, mTru, truthR, mAnd, mOr, mNot, mAndV, mOrV, mNotV, mRaise, mNext, addE, intE0, negE, lstOf, dat, lenE, eqE, sh_int, eqv_ii, ix_pl2, ix_pl0, ix_pl1, ix_fr0, ix_fr1, ix_t0, ix_t1, ix_t2, mul_ok, fdiv_ok, mod_ok, pow_ok, List.getElem?_cons_zero, List.getElem?_cons_succ, List.set_cons_zero, List.set_cons_succ, List.length_cons, List.length_nil, List.length_map, List.length_append, if_true, if_false, ite_true, ite_false, decide_true, decide_false, Bool.false_eq_true, Nat.zero_add, Nat.reduceAdd, Nat.reduceEqDiff, Nat.reduceLeDiff, reduceIte, List.map_append, List.map_cons, List.map_nil, e1, x1, x2, l0]
 ·have t0 := tt w 0
  rw [Bool.eq_false_iff.mpr h0] at t0
  by_cases h1 : (w == 1) = true
  ·have t1 := tt w 1
   rw [h1] at t1
   refine ⟨_, gn_mk (t := v2.fmod 41 - 20) (b := 1 + v3.fmod 6) (by omega) (by unfold Sz; omega) (by unfold Sz; omega), (seq_nx (set_p s0)).trans ((seq_nx (if_f t0)).trans (seq_rt ((if_t t1).trans (ret_p ?_))))⟩
   simp (disch := assumption) only [mSeq, mSet, mRet, mIfS, mVar, mC, mBin, mUn, mCons, mNil, mCall, callR, argsL, argL, argB, Res.bind, Ev.c, retL, retE, mCallB, tupR', lstR', pureL, mTru, truthR, mAnd, mOr, mNot, mAndV, mOrV, mNotV, mRaise, mNext, addE, intE0, negE, lstOf, dat, lenE, eqE, sh_int, eqv_ii, ix_pl2, ix_pl0, ix_pl1, ix_fr0, ix_fr1, ix_t0, ix_t1, ix_t2, mul_ok, fdiv_ok, mod_ok, pow_ok, List.getElem?_cons_zero, List.getElem?_cons_succ, List.set_cons_zero, List.set_cons_succ, List.length_cons, List.length_nil, List.length_map, List.length_append, if_true, if_false, ite_true, ite_false, decide_true, decide_false, Bool.false_eq_true, Nat.zero_add, Nat.reduceAdd, Nat.reduceEqDiff, Nat.reduceLeDiff, reduceIte, List.map_append, List.map_cons, List.map_nil, e2, e3, l1]
  ·have t1 := tt w 1
   rw [Bool.eq_false_iff.mpr h1] at t1
   refine ⟨(v4.fmod 5 - 2, 1), gn_one (by unfold Sz; omega), (seq_nx (set_p s0)).trans ((seq_nx (if_f t0)).trans ((seq_nx (if_f t1)).trans (ret_p ?_)))⟩
   simp (disch := assumption) only [mSeq, mSet, mRet, mIfS, mVar, mC, mBin, mUn, mCons, mNil, mCall, callR, argsL, argL, argB, Res.bind, Ev.c, retL, retE, mCallB, tupR', lstR', pureL, mTru, truthR, mAnd, mOr, mNot, mAndV, mOrV, mNotV, mRaise, mNext, addE, intE0, negE, lstOf, dat, lenE, eqE, sh_int, eqv_ii, ix_pl2, ix_pl0, ix_pl1, ix_fr0, ix_fr1, ix_t0, ix_t1, ix_t2, mul_ok, fdiv_ok, mod_ok, pow_ok, List.getElem?_cons_zero, List.getElem?_cons_succ, List.set_cons_zero, List.set_cons_succ, List.length_cons, List.length_nil, List.length_map, List.length_append, if_true, if_false, ite_true, ite_false, decide_true, decide_false, Bool.false_eq_true, Nat.zero_add, Nat.reduceAdd, Nat.reduceEqDiff, Nat.reduceLeDiff, reduceIte, List.map_append, List.map_cons, List.map_nil, e4]
   rfl
theorem rng1_lit (n : Nat) (h : n ≤ 100000) : rng1R [.p (.int (n : Int))] = .ok (rngL 0 n) := by
 unfold rng1R
 exact if_pos ⟨by omega, by omega⟩
theorem ita1 {r : List Ev → Res (List D)} {f : En → Res Ev} {en : En} {a : D} {o : Res (List D)} (h1 : f en = .ok (.p a)) (h : r [.p a] = o) : mItA r (mCons f mNil) en = o := by
 simp only [mItA, mCons, mNil, h1, Res.bind, Ev.c, h]
theorem lp_nx {tg : D → En → Option En} {f : MS} {d : D} {ds : List D} {en e e' : En} (h1 : tg d en = some e) (h2 : f e = some (.nx e')) : mLoop tg f (d :: ds) en = mLoop tg f ds e' := by
 rw [mLoop, h1]
 dsimp only
 rw [h2]
def cols (n : Nat) : List Int := (List.range n).map fun k : Nat => (k : Int)
def dD (d : List Int) : D := .list (d.map .int)
theorem intsI {a b : List Int} (h : a.map PyData.int = b.map PyData.int) : a = b := (List.map_inj_right fun x y e => by injection e).mp h
theorem dD_inj (a b : List Int) (h : dD a = dD b) : a = b := by
 unfold dD at h
 injection h with h
 exact intsI h
theorem rng_cols (n : Nat) : rngL 0 n = (cols n).map .int := by
 unfold rngL cols
 rw [List.map_map]
 refine List.map_congr_left fun k _ => ?_
 show PyData.int (0 + (k : Int)) = .int (k : Int)
 rw [Int.zero_add]
theorem rng_v {i n : Nat} {en : En} (hn : n ≤ 1000) (h : en[i]? = some (some (.p (.int (n : Int))))) : mItA rng1R (mCons (mVar i) mNil) en = .ok ((cols n).map .int) := by
 rw [← rng_cols]
 refine ita1 (a := .int (n : Int)) ?_ (rng1_lit n (by omega))
 unfold mVar
 rw [h]
theorem cols_mem {n : Nat} {c : Int} : c ∈ cols n ↔ 0 ≤ c ∧ c < n := by
 unfold cols
 rw [List.mem_map]
 constructor
 ·rintro ⟨k, hk, rfl⟩
  have := List.mem_range.mp hk
  omega
 ·rintro ⟨h1, h2⟩
  exact ⟨c.toNat, List.mem_range.mpr (by omega), by omega⟩
theorem cols_len (n : Nat) : (cols n).length = n := by unfold cols; rw [List.length_map, List.length_range]
def ext (n : Nat) (P : Int → Bool) (ds : List (List Int)) : List (List Int) := ds.flatMap fun d => ((cols n).filter fun c => (!decide (c ∈ d)) && P c).map fun c => d ++ [c]
def dealK (n : Nat) : Nat → List (List Int)
 | 0 => [[]]
 | k + 1 => ext n (fun _ => true) (dealK n k)
def deal (n : Nat) : List (List Int) := dealK n n
theorem ext_one_len (n : Nat) (P : Int → Bool) (d : List Int) : (((cols n).filter fun c => (!decide (c ∈ d)) && P c).map fun c => d ++ [c]).length ≤ n := by
 rw [List.length_map]
 exact Nat.le_trans (List.length_filter_le _ _) (by rw [cols_len]; exact Nat.le_refl _)
theorem ext_len (n : Nat) (P : Int → Bool) : ∀ ds : List (List Int), (ext n P ds).length ≤ n * ds.length
 | [] => Nat.zero_le _
 | d :: ds => by
  have := ext_one_len n P d
  have ih := ext_len n P ds
  show ((((cols n).filter fun c => (!decide (c ∈ d)) && P c).map fun c => d ++ [c]) ++ ext n P ds).length ≤ _
  rw [List.length_append, List.length_cons, Nat.mul_succ]
  omega
theorem deal_len {n : Nat} (hn : n ≤ 6) : ∀ k, k ≤ 6 → (dealK n k).length ≤ 6 ^ k
 | 0, _ => Nat.le_refl _
 | k + 1, hk => by
  have ih := deal_len hn k (by omega)
  have := ext_len n (fun _ => true) (dealK n k)
  have h2 := Nat.mul_le_mul hn ih
  rw [Nat.pow_succ, Nat.mul_comm]
  exact Nat.le_trans this h2
theorem pow6 {k : Nat} (h : k ≤ 6) : 6 ^ k ≤ 46656 := Nat.le_trans (Nat.pow_le_pow_right (by decide) h) (by decide)
theorem in_ints (ng : Bool) (c : Int) (d : List Int) : inE ng (.p (.int c)) (.p (dD d)) = .ok (.p (.bool (if ng then !decide (c ∈ d) else decide (c ∈ d)))) := by
 have e : (d.map PyData.int).any (fun e => PyData.eqv e (.int c)) = decide (c ∈ d) := by
  induction d with
  | nil => rfl
  | cons x d ih =>
   rw [List.map_cons, List.any_cons, ih, eqv_ii]
   by_cases h : x = c
   ·rw [h]; simp
   ·have : (x == c) = false := by rw [beq_eq_false_iff_ne]; exact h
    rw [this, Bool.false_or]
    simp [Ne.symm h]
 have f : (d.map PyData.int).all flatD = true := by
  rw [List.all_eq_true]
  intro x hx
  obtain ⟨y, _, rfl⟩ := List.mem_map.mp hx
  rfl
 unfold inE dD
 simp only [seqOf]
 rw [if_pos ⟨rfl, f⟩, e]
theorem add_one (d : List Int) (c : Int) (h : d.length ≤ 1000) : addE (.p (dD d)) (.p (.list [.int c])) = .ok (.f (dD (d ++ [c]))) := by
 unfold addE dD
 dsimp only [lstOf]
 rw [if_pos (by rw [List.length_map]; simp; omega), List.map_append]
 rfl
theorem deal_dlen {n : Nat} : ∀ (k : Nat) (d : List Int), d ∈ dealK n k → d.length = k
 | 0, d, h => by rw [List.mem_singleton.mp h]; rfl
 | k + 1, d, h => by
  obtain ⟨e, he, hd⟩ := List.mem_flatMap.mp h
  obtain ⟨c, _, rfl⟩ := List.mem_map.mp hd
  rw [List.length_append, deal_dlen k e he]
  rfl
def eN (n : Nat) : List L := [.p (.int (n : Int))]
theorem eN_inj (a b : Nat) (h : eN a = eN b) : a = b := by
 unfold eN at h
 injection h with h _
 injection h with h
 injection h with h
 omega
noncomputable def m_dealings_of (K : PySem.W.Frag) (c : Cls) : List L → Res L := mOf eN (fun n => n ≤ 6) fun n => .ok (.p (.list ((deal n).map dD)))
noncomputable def f_dealings_of_e1 (K : PySem.W.Frag) (c : Cls) : En → Res Ev := (mBin addE (mVar 1) (mCallB lstR' (mCons (mVar 0) mNil)))
noncomputable def f_dealings_of_b2 (K : PySem.W.Frag) (c : Cls) : MS := (mExtend 3 (mComp 1 [4] (mItA rng1R (mCons (mVar 0) mNil)) (mgName 0) (mTru (mBin (inE true) (mVar 0) (mVar 1))) (f_dealings_of_e1 K c)))
noncomputable def f_dealings_of_b3 (K : PySem.W.Frag) (c : Cls) : MS := (mSeq (mSet 3 (mCallB lstR' mNil)) (mSeq (mFor (mItL (mVar 1)) (mgName 4) (f_dealings_of_b2 K c)) (fun en => (mSet 1 (mVar 3)) (frz 3 en))))
noncomputable def f_dealings_of (K : PySem.W.Frag) (c : Cls) : MS := (mSeq (mSet 1 (mCallB lstR' (mCons (mCallB lstR' mNil) mNil))) (fun en => (mSeq (mFor (mItA rng1R (mCons (mVar 0) mNil)) (mgName 2) (f_dealings_of_b3 K c)) (mRet (mVar 1))) (frz 1 en)))
theorem deal_cm (K : PySem.W.Frag) (c : Cls) {n : Nat} (M R0 Q0 : Option L) {d : List Int} (hd : d.length ≤ 100) : mapO (compItem 1 [4] (mgName 0) (mTru (mBin (inE true) (mVar 0) (mVar 1))) (f_dealings_of_e1 K c) [some (.p (.int (n : Int))), M, R0, Q0, some (.p (dD d))]) ((cols n).map .int) = some (((cols n).filter fun c => (!decide (c ∈ d)) && true).map fun c => dD (d ++ [c])) := by
 refine mapO_flt _ fun x hx => ?_
 have t : mTru (mBin (inE true) (mVar 0) (mVar 1)) [some (.p (.int x)), some (.p (dD d))] = .ok (!decide (x ∈ d)) := by
  simp only [mTru, mBin, mVar, List.getElem?_cons_zero, List.getElem?_cons_succ, List.set_cons_zero, List.set_cons_succ, List.length_cons, List.length_nil, List.length_map, List.length_append, if_true, if_false, ite_true, ite_false, decide_true, decide_false, Bool.false_eq_true, Nat.zero_add, Nat.reduceAdd, Nat.reduceEqDiff, Nat.reduceLeDiff, reduceIte, List.map_append, List.map_cons, List.map_nil, Res.bind, Ev.c, in_ints, truthR]
 have e : f_dealings_of_e1 K c [some (.p (.int x)), some (.p (dD d))] = .ok (.f (dD (d ++ [x]))) := by
  have := add_one d x (by omega)
  simp only [f_dealings_of_e1, mBin, mVar, mCallB, mCons, mNil, lstR', pureL, List.getElem?_cons_zero, List.getElem?_cons_succ, List.set_cons_zero, List.set_cons_succ, List.length_cons, List.length_nil, List.length_map, List.length_append, if_true, if_false, ite_true, ite_false, decide_true, decide_false, Bool.false_eq_true, Nat.zero_add, Nat.reduceAdd, Nat.reduceEqDiff, Nat.reduceLeDiff, reduceIte, List.map_append, List.map_cons, List.map_nil, Res.bind, Ev.c, this]
 rw [Bool.and_true]
 unfold compItem
 simp only [mgName, capE, capO, List.getElem?_cons_zero, List.getElem?_cons_succ, List.set_cons_zero, List.set_cons_succ, List.length_cons, List.length_nil, List.length_map, List.length_append, if_true, if_false, ite_true, ite_false, decide_true, decide_false, Bool.false_eq_true, Nat.zero_add, Nat.reduceAdd, Nat.reduceEqDiff, Nat.reduceLeDiff, reduceIte, List.map_append, List.map_cons, List.map_nil, List.replicate, List.cons_append, List.nil_append, t, e, Ev.c]
 cases decide (x ∈ d) <;> rfl
theorem ext_nx {i : Nat} {fe : En → Res Ev} {en : En} {ds es : List D} (h1 : en[i]? = some (some (.o (.list ds)))) (h2 : fe en = .ok (.f (.list es))) (h3 : ds.length + es.length ≤ 100000) : mExtend i fe en = some (.nx (en.set i (some (.o (.list (ds ++ es)))))) := by
 unfold mExtend
 rw [h1]
 dsimp only
 rw [h2]
 dsimp only
 rw [if_pos h3]
theorem deal_b2 (K : PySem.W.Frag) (c : Cls) {n : Nat} (hn : n ≤ 6) (M R0 : Option L) {acc : List (List Int)} (ha : acc.length ≤ 50000) {d : List Int} (hd : d.length ≤ 100) : f_dealings_of_b2 K c [some (.p (.int (n : Int))), M, R0, some (.o (.list (acc.map dD))), some (.p (dD d))] = some (.nx [some (.p (.int (n : Int))), M, R0, some (.o (.list ((acc ++ ((cols n).filter fun c => (!decide (c ∈ d)) && true).map fun c => d ++ [c]).map dD))), some (.p (dD d))]) := by
 have hit := rng_v (i := 0) (en := [some (.p (.int (n : Int))), M, R0, some (.o (.list (acc.map dD))), some (.p (dD d))]) (n := n) (by omega) rfl
 have hc := comp_l hit (by rw [List.length_map, cols_len]; omega) (deal_cm K c M R0 (some (.o (.list (acc.map dD)))) hd)
 have hl := ext_one_len n (fun _ => true) d
 have e := ext_nx (i := 3) (ds := acc.map dD) rfl hc (by rw [List.length_map] at hl; rw [List.length_map, List.length_map]; omega)
 unfold f_dealings_of_b2
 rw [e, List.map_append, List.map_map]
 rfl
theorem deal_in (K : PySem.W.Frag) (c : Cls) {n : Nat} (hn : n ≤ 6) (M R0 : Option L) : ∀ (ds acc : List (List Int)) (r4 : Option L), acc.length + n * ds.length ≤ 50000 → (∀ d ∈ ds, d.length ≤ 100) → ∃ q4, mLoop (mgName 4) (f_dealings_of_b2 K c) (ds.map dD) [some (.p (.int (n : Int))), M, R0, some (.o (.list (acc.map dD))), r4] = some (.nx [some (.p (.int (n : Int))), M, R0, some (.o (.list ((acc ++ ext n (fun _ => true) ds).map dD))), q4])
 | [], acc, r4, _, _ => ⟨r4, by show _ = some (Out.nx [_, _, _, some (.o (.list ((acc ++ []).map dD))), _]); rw [List.append_nil]; rfl⟩
 | d :: ds, acc, r4, hl, hd => by
  rw [List.length_cons, Nat.mul_succ] at hl
  have hb := deal_b2 K c hn M R0 (acc := acc) (d := d) (by omega) (hd d (.head _))
  have h1 := ext_one_len n (fun _ => true) d
  obtain ⟨q4, ih⟩ := deal_in K c hn M R0 ds (acc ++ ((cols n).filter fun c => (!decide (c ∈ d)) && true).map fun c => d ++ [c]) (some (.p (dD d))) (by rw [List.length_append]; omega) fun x hx => hd x (.tail _ hx)
  refine ⟨q4, ?_⟩
  rw [List.map_cons, lp_nx rfl hb]
  rw [List.append_assoc] at ih
  exact ih
theorem deal_out (K : PySem.W.Frag) (c : Cls) {n : Nat} (hn : n ≤ 6) : ∀ (xs : List D) (k : Nat) (r2 r3 r4 : Option L), k + xs.length ≤ 6 → ∃ q2 q3 q4, mLoop (mgName 2) (f_dealings_of_b3 K c) xs [some (.p (.int (n : Int))), some (.p (.list ((dealK n k).map dD))), r2, r3, r4] = some (.nx [some (.p (.int (n : Int))), some (.p (.list ((dealK n (k + xs.length)).map dD))), q2, q3, q4])
 | [], k, r2, r3, r4, _ => ⟨r2, r3, r4, rfl⟩
 | x :: xs, k, r2, r3, r4, hk => by
  rw [List.length_cons] at hk
  have l1 := deal_len hn k (by omega)
  have l2 := pow6 (show k ≤ 6 by omega)
  obtain ⟨q4, h1⟩ := deal_in K c hn (some (.p (.list ((dealK n k).map dD)))) (some (.p x)) (dealK n k) [] r4 (by
   rw [List.length_nil]
   rcases Nat.lt_or_ge k 6 with z | z
   ·have := Nat.mul_le_mul hn l1
    have l3 := pow6 (show k + 1 ≤ 6 by omega)
    rw [Nat.pow_succ, Nat.mul_comm] at l3
    omega
   ·omega) (fun d hd => by rw [deal_dlen k d hd]; omega)
  obtain ⟨q2, q3, q4', ih⟩ := deal_out K c hn xs (k + 1) (some (.p x)) (some (.p (.list ((dealK n (k + 1)).map dD)))) q4 (by omega)
  refine ⟨q2, q3, q4', ?_⟩
  have hb : f_dealings_of_b3 K c [some (.p (.int (n : Int))), some (.p (.list ((dealK n k).map dD))), some (.p x), r3, r4] = some (.nx [some (.p (.int (n : Int))), some (.p (.list ((dealK n (k + 1)).map dD))), some (.p x), some (.p (.list ((dealK n (k + 1)).map dD))), q4]) := by
   unfold f_dealings_of_b3
   refine (seq_nx (set_f (d := .list []) rfl)).trans ?_
   simp only [List.set_cons_succ, List.set_cons_zero]
   refine (seq_nx ((for_l (ds := (dealK n k).map dD) rfl).trans h1)).trans ?_
   rfl
  rw [show k + (x :: xs).length = k + 1 + xs.length by rw [List.length_cons]; omega]
  rw [lp_nx rfl hb]
  exact ih
theorem eq_dealings_of (K : PySem.W.Frag) (c : Cls) : ∀ ls, m_dealings_of K c ls = .bad ∨ runF 5 (f_dealings_of K c) ls = m_dealings_of K c ls := mOf_eq fun n hn => by
 refine run_rt ?_
 rw [show startE 5 (eN n) = [some (.p (.int (n : Int))), none, none, none, none] from rfl]
 obtain ⟨q2, q3, q4, hlp⟩ := deal_out K c hn ((cols n).map .int) 0 none none none (by rw [List.length_map, cols_len]; omega)
 rw [List.length_map, cols_len, Nat.zero_add] at hlp
 have hit := rng_v (i := 0) (en := [some (.p (.int (n : Int))), some (.p (.list ((dealK n 0).map dD))), none, none, none]) (n := n) (by omega) rfl
 unfold f_dealings_of
 refine (seq_nx (set_f (d := .list ((dealK n 0).map dD)) rfl)).trans ?_
 simp only [List.set_cons_succ, List.set_cons_zero, frz, List.getElem?_cons_succ, List.getElem?_cons_zero]
 refine (seq_nx ((for_l hit).trans hlp)).trans ?_
 rfl
theorem deal_good (K : PySem.W.Frag) (c : Cls) {n : Nat} (h : n ≤ 6) : m_dealings_of K c [.p (.int (n : Int))] = .ok (.p (.list ((deal n).map dD))) := mOf_at (a := n) eN_inj h
abbrev Tb := List (List (Int × Int))
def rwF (r : List (Int × Int)) : D := .list (r.map frD)
def tbD (t : Tb) : D := .list (t.map rwF)
theorem rwF_inj (a b : List (Int × Int)) (h : rwF a = rwF b) : a = b := by
 unfold rwF at h
 injection h with h
 exact (List.map_inj_right fun x y e => frI e).mp h
theorem tbI {a b : Tb} (h : tbD a = tbD b) : a = b := by
 unfold tbD at h
 injection h with h
 exact (List.map_inj_right fun x y e => rwF_inj x y e).mp h
def eTF (a : Tb × Int) : List L := [.p (tbD a.1), .p (.int a.2)]
theorem eTF_inj (a b : Tb × Int) (h : eTF a = eTF b) : a = b := by
 unfold eTF at h
 injection h with h1 h2
 injection h2 with h2 _
 injection h1 with h1
 injection h2 with h2
 injection h2 with h2
 exact Prod.ext (tbI h1) h2
def whR (F : Int) (r : List (Int × Int)) : List Int := r.map fun x => wI x F
noncomputable def m_whole_rows (K : PySem.W.Frag) (c : Cls) : List L → Res L := mOf eTF (fun a => a.1.length ≤ 10 ∧ (∀ r ∈ a.1, r.length ≤ 10 ∧ ∀ x ∈ r, Good 400 x) ∧ Sz 41000 a.2) fun a => .ok (.o (.list ((a.1.map (whR a.2)).map dD)))
noncomputable def f_whole_rows_e1 (K : PySem.W.Frag) (c : Cls) : En → Res Ev := (mCall 2 (m_whole K c) (mCons (mVar 0) (mCons (mVar 1) mNil)))
noncomputable def f_whole_rows_b2 (K : PySem.W.Frag) (c : Cls) : MS := (mAppend 2 (mComp 1 [1] (mItL (mVar 3)) (mgName 0) mYes (f_whole_rows_e1 K c)))
noncomputable def f_whole_rows (K : PySem.W.Frag) (c : Cls) : MS := (mSeq (mSet 2 (mCallB lstR' mNil)) (mSeq (mFor (mItL (mVar 0)) (mgName 3) (f_whole_rows_b2 K c)) (mRet (mVar 2))))
theorem eq_whole_rows (K : PySem.W.Frag) (c : Cls) : ∀ ls, m_whole_rows K c ls = .bad ∨ runF 4 (f_whole_rows K c) ls = m_whole_rows K c ls := mOf_eq fun a h => by
 obtain ⟨t, F⟩ := a
 obtain ⟨hl, hg, hF⟩ := h
 dsimp only at hl hg hF ⊢
 refine run_rt ?_
 rw [show startE 4 (eTF (t, F)) = [some (.p (tbD t)), some (.p (.int F)), none, none] from rfl]
 have gen : ∀ (rs : Tb) (acc : List (List Int)) (r3 : Option L), acc.length + rs.length ≤ 20 → (∀ r ∈ rs, r.length ≤ 10 ∧ ∀ x ∈ r, Good 400 x) → ∃ q3, mLoop (mgName 3) (f_whole_rows_b2 K c) (rs.map rwF) [some (.p (tbD t)), some (.p (.int F)), some (.o (.list (acc.map dD))), r3] = some (.nx [some (.p (tbD t)), some (.p (.int F)), some (.o (.list ((acc ++ rs.map (whR F)).map dD))), q3]) := by
  intro rs
  induction rs with
  | nil => intro acc r3 _ _; exact ⟨r3, by rw [List.map_nil, List.map_nil, List.append_nil]; rfl⟩
  | cons r rs ih =>
   intro acc r3 hl hg
   rw [List.length_cons] at hl
   obtain ⟨q3, ih⟩ := ih (acc ++ [whR F r]) (some (.p (rwF r))) (by rw [List.length_append]; simp; omega) fun x hx => hg x (.tail _ hx)
   refine ⟨q3, ?_⟩
   have hm : mapO (compItem 1 [1] (mgName 0) mYes (f_whole_rows_e1 K c) [some (.p (tbD t)), some (.p (.int F)), some (.o (.list (acc.map dD))), some (.p (rwF r))]) (r.map frD) = some (r.map fun x => .int (wI x F)) := by
    refine mapO_map _ fun x hx => ?_
    have w := whole_good K c ((hg r (.head _)).2 x hx) hF
    have he : f_whole_rows_e1 K c [some (.p (frD x)), some (.p (.int F))] = .ok (.p (.int (wI x F))) := by
     simp only [f_whole_rows_e1, mSeq, mSet, mRet, mIfS, mVar, mC, mBin, mUn, mCons, mNil, mCall, callR, argsL, argL, argB, Res.bind, Ev.c, retL, retE, mCallB, tupR', lstR', pureL, mTru, truthR, mAnd, mOr, mNot, mAndV, mOrV, mNotV, mRaise, mNext, addE, intE0, negE, lstOf, dat, lenE, eqE, sh_int, eqv_ii, ix_pl2, ix_pl0, ix_pl1, ix_fr0, ix_fr1, ix_t0, ix_t1, ix_t2, List.getElem?_cons_zero, List.getElem?_cons_succ, List.set_cons_zero, List.set_cons_succ, List.length_cons, List.length_nil, List.length_map, List.length_append, if_true, if_false, ite_true, ite_false, decide_true, decide_false, Bool.false_eq_true, Nat.zero_add, Nat.reduceAdd, Nat.reduceEqDiff, Nat.reduceLeDiff, reduceIte, List.map_append, List.map_cons, List.map_nil, w]
    simp [compItem, mgName, capE, capO, mYes, he, Ev.c]
   have hc := comp_l (n := 1) (js := [1]) (fi := mItL (mVar 3)) (tg := mgName 0) (ft := mYes) (fe := f_whole_rows_e1 K c) (en := [some (.p (tbD t)), some (.p (.int F)), some (.o (.list (acc.map dD))), some (.p (rwF r))]) (ds := r.map frD) rfl (by rw [List.length_map]; have := (hg r (.head _)).1; omega) hm
   have hb : f_whole_rows_b2 K c [some (.p (tbD t)), some (.p (.int F)), some (.o (.list (acc.map dD))), some (.p (rwF r))] = some (.nx [some (.p (tbD t)), some (.p (.int F)), some (.o (.list ((acc ++ [whR F r]).map dD))), some (.p (rwF r))]) := by
    unfold f_whole_rows_b2 mAppend
    simp only [List.getElem?_cons_succ, List.getElem?_cons_zero, hc, Ev.c]
    rw [if_pos (by rw [List.length_map]; omega), List.map_append]
    rw [show (.list (r.map fun x => PyData.int (wI x F)) : D) = dD (whR F r) by unfold whR dD; rw [List.map_map]; rfl]
    rfl
   rw [List.map_cons, lp_nx rfl hb]
   rw [List.append_assoc] at ih
   exact ih
 obtain ⟨q3, hlp⟩ := gen t [] none (by rw [List.length_nil]; omega) hg
 rw [List.nil_append] at hlp
 unfold f_whole_rows
 refine (seq_nx (set_f (d := .list []) rfl)).trans ((seq_nx ((for_l (ds := t.map rwF) rfl).trans hlp)).trans ?_)
 rfl
theorem wrows_good (K : PySem.W.Frag) (c : Cls) {t : Tb} {F : Int} (h1 : t.length ≤ 10) (h2 : ∀ r ∈ t, r.length ≤ 10 ∧ ∀ x ∈ r, Good 400 x) (h3 : Sz 41000 F) : m_whole_rows K c [.p (tbD t), .p (.int F)] = .ok (.o (.list ((t.map (whR F)).map dD))) := mOf_at (a := (t, F)) eTF_inj ⟨h1, h2, h3⟩
def wo (rows : List (List Int)) (d : List Int) : Int := ((rows.zip d).map fun x => x.1.getD x.2.toNat 0).sum
def eRD (a : List (List Int) × List Int) : List L := [.p (.list (a.1.map dD)), .p (dD a.2)]
theorem eRD_inj (a b : List (List Int) × List Int) (h : eRD a = eRD b) : a = b := by
 unfold eRD at h
 injection h with h1 h2
 injection h2 with h2 _
 injection h1 with h1
 injection h1 with h1
 injection h2 with h2
 exact Prod.ext ((List.map_inj_right fun x y e => dD_inj x y e).mp h1) (dD_inj _ _ h2)
theorem zipL_zip {α β : Type} (f : α → D) (g : β → D) : ∀ (xs : List α) (ys : List β), zipL (xs.map f) (ys.map g) = (xs.zip ys).map fun x => .tuple [f x.1, g x.2]
 | [], _ => by simp [zipL]
 | _ :: _, [] => by simp [zipL]
 | x :: xs, y :: ys => by
  show PyData.tuple [f x, g y] :: zipL (xs.map f) (ys.map g) = _
  rw [zipL_zip f g xs ys]
  rfl
noncomputable def m_worth_of (K : PySem.W.Frag) (c : Cls) : List L → Res L := mOf eRD (fun a => a.1.length ≤ 10 ∧ ∀ r ∈ a.1, ∀ x ∈ a.2, 0 ≤ x ∧ x < r.length) fun a => .ok (.p (.int (wo a.1 a.2)))
noncomputable def f_worth_of_e1 (K : PySem.W.Frag) (c : Cls) : En → Res Ev := (mBin ixE (mVar 0) (mVar 1))
noncomputable def f_worth_of (K : PySem.W.Frag) (c : Cls) : MS := (mRet (mCallB sumE (mCons (mComp 2 [] (mItA zipR (mCons (mVar 0) (mCons (mVar 1) mNil))) (mgTup 2 (mgCons (mgName 0) (mgCons (mgName 1) mgNil))) mYes (f_worth_of_e1 K c)) mNil)))
theorem ix_ints {r : List Int} {x : Int} (h0 : 0 ≤ x) (h1 : x < r.length) : ixE (.p (dD r)) (.p (.int x)) = .ok (.p (.int (r.getD x.toNat 0))) := by
 have := at_nat (ns := r) (k := x.toNat) (by omega)
 rw [Int.toNat_of_nonneg h0] at this
 simp only [ixE, dD, seqOf, this]
theorem eq_worth_of (K : PySem.W.Frag) (c : Cls) : ∀ ls, m_worth_of K c ls = .bad ∨ runF 2 (f_worth_of K c) ls = m_worth_of K c ls := mOf_eq fun a h => by
 obtain ⟨rows, d⟩ := a
 obtain ⟨hl, hg⟩ := h
 dsimp only at hl hg ⊢
 refine run_rt ?_
 rw [show startE 2 (eRD (rows, d)) = [some (.p (.list (rows.map dD))), some (.p (dD d))] from rfl]
 have hit : (mItA zipR (mCons (mVar 0) (mCons (mVar 1) mNil))) [some (.p (.list (rows.map dD))), some (.p (dD d))] = .ok ((rows.zip d).map fun x => .tuple [dD x.1, .int x.2]) := by
  simp only [mItA, mCons, mNil, mVar, Res.bind, List.getElem?_cons_zero, List.getElem?_cons_succ, List.set_cons_zero, List.set_cons_succ, List.length_cons, List.length_nil, List.length_map, List.length_append, if_true, if_false, ite_true, ite_false, decide_true, decide_false, Bool.false_eq_true, Nat.zero_add, Nat.reduceAdd, Nat.reduceEqDiff, Nat.reduceLeDiff, reduceIte, List.map_append, List.map_cons, List.map_nil, Ev.c, zipR, dD, zipL_zip]
 have hm : mapO (compItem 2 [] (mgTup 2 (mgCons (mgName 0) (mgCons (mgName 1) mgNil))) mYes (f_worth_of_e1 K c) [some (.p (.list (rows.map dD))), some (.p (dD d))]) ((rows.zip d).map fun x => .tuple [dD x.1, .int x.2]) = some ((rows.zip d).map fun x => .int (x.1.getD x.2.toNat 0)) := by
  refine mapO_map _ fun x hx => ?_
  obtain ⟨h1, h2⟩ := List.of_mem_zip hx
  have i := ix_ints (hg x.1 h1 x.2 h2).1 (hg x.1 h1 x.2 h2).2
  have e : f_worth_of_e1 K c [some (.p (dD x.1)), some (.p (.int x.2))] = .ok (.p (.int (x.1.getD x.2.toNat 0))) := by
   simp only [f_worth_of_e1, mBin, mVar, List.getElem?_cons_zero, List.getElem?_cons_succ, List.set_cons_zero, List.set_cons_succ, List.length_cons, List.length_nil, List.length_map, List.length_append, if_true, if_false, ite_true, ite_false, decide_true, decide_false, Bool.false_eq_true, Nat.zero_add, Nat.reduceAdd, Nat.reduceEqDiff, Nat.reduceLeDiff, reduceIte, List.map_append, List.map_cons, List.map_nil, Res.bind, Ev.c, i]
  unfold compItem
  simp only [mgTup, mgCons, mgNil, mgName, capE, mYes, List.getElem?_cons_zero, List.getElem?_cons_succ, List.set_cons_zero, List.set_cons_succ, List.length_cons, List.length_nil, List.length_map, List.length_append, if_true, if_false, ite_true, ite_false, decide_true, decide_false, Bool.false_eq_true, Nat.zero_add, Nat.reduceAdd, Nat.reduceEqDiff, Nat.reduceLeDiff, reduceIte, List.map_append, List.map_cons, List.map_nil, List.replicate, List.cons_append, List.nil_append, e, Ev.c]
 have hc := comp_l (n := 2) (js := []) hit (by rw [List.length_map, List.length_zip]; omega) hm
 unfold f_worth_of
 refine ret_p ?_
 have hs : sumE [.p (.list ((rows.zip d).map fun x => PyData.int (x.1.getD x.2.toNat 0)))] = .ok (.p (.int (wo rows d))) := by
  rw [show ((rows.zip d).map fun x => PyData.int (x.1.getD x.2.toNat 0)) = ((rows.zip d).map fun x => x.1.getD x.2.toNat 0).map PyData.int by rw [List.map_map]; rfl]
  simp only [sumE, lstOf, intsOf_map]
  rfl
 simp only [mCallB, mCons, mNil, hc, Res.bind, Ev.c, hs]
theorem wo_good (K : PySem.W.Frag) (c : Cls) {rows : List (List Int)} {d : List Int} (h1 : rows.length ≤ 10) (h2 : ∀ r ∈ rows, ∀ x ∈ d, 0 ≤ x ∧ x < r.length) : m_worth_of K c [.p (.list (rows.map dD)), .p (dD d)] = .ok (.p (.int (wo rows d))) := mOf_at (a := (rows, d)) eRD_inj ⟨h1, h2⟩
theorem w_mul {F : Int} {h : Int × Int} (h0 : 1 ≤ h.2) (hd : h.2 ∣ F) : h.1 * F.fdiv h.2 * h.2 = h.1 * F := by
 obtain ⟨k, hk⟩ := hd
 have : F.fdiv h.2 = k := by
  rw [hk]
  exact Int.mul_fdiv_cancel_left _ (by omega)
 rw [this, hk]
 ac_rfl
def wt (G : Int) (h : Int × Int) : Int := h.1 * G.fdiv h.2
theorem wt_le {G : Int} {x y : Int × Int} (hG : 1 ≤ G) (x0 : 1 ≤ x.2) (y0 : 1 ≤ y.2) (xd : x.2 ∣ G) (yd : y.2 ∣ G) (h : leF x y) : wt G x ≤ wt G y := by
 have e1 : wt G x * x.2 = x.1 * G := w_mul x0 xd
 have e2 : wt G y * y.2 = y.1 * G := w_mul y0 yd
 have p := pos_mul x0 y0
 refine Int.le_of_mul_le_mul_right (a := x.2 * y.2) ?_ (by omega)
 have a1 : wt G x * (x.2 * y.2) = x.1 * y.2 * G := by
  rw [← Int.mul_assoc, e1]
  ac_rfl
 have a2 : wt G y * (x.2 * y.2) = y.1 * x.2 * G := by
  rw [Int.mul_comm x.2, ← Int.mul_assoc, e2]
  ac_rfl
 rw [a1, a2]
 exact Int.mul_le_mul_of_nonneg_right h (by omega)
theorem wt_inj {G : Int} {x y : Int × Int} (hG : 1 ≤ G) (fx : FR.Fr x) (fy : FR.Fr y) (xd : x.2 ∣ G) (yd : y.2 ∣ G) (h : wt G x = wt G y) : x = y := by
 have e1 : wt G x * x.2 = x.1 * G := w_mul fx.pos xd
 have e2 : wt G y * y.2 = y.1 * G := w_mul fy.pos yd
 have e : x.1 * y.2 = y.1 * x.2 := by
  refine Int.eq_of_mul_eq_mul_right (a := G) (by omega) ?_
  have a1 : x.1 * y.2 * G = wt G x * (x.2 * y.2) := by
   rw [← Int.mul_assoc, e1]
   ac_rfl
  have a2 : y.1 * x.2 * G = wt G y * (x.2 * y.2) := by
   rw [Int.mul_comm x.2, ← Int.mul_assoc, e2]
   ac_rfl
  rw [a1, a2, h]
 exact leF_eq fx fy (Int.le_of_eq e) (Int.le_of_eq e.symm)
theorem wt_sum {G : Int} {x y : Int × Int} (x0 : 1 ≤ x.2) (y0 : 1 ≤ y.2) (xd : x.2 ∣ G) (yd : y.2 ∣ G) : (hP x y).2 ∣ G ∧ wt G (hP x y) = wt G x + wt G y := by
 have e1 : wt G x * x.2 = x.1 * G := w_mul x0 xd
 have e2 : wt G y * y.2 = y.1 * G := w_mul y0 yd
 have p := pos_mul x0 y0
 obtain ⟨fs, es⟩ := FR.mk_fr (t := x.1 * y.2 + y.1 * x.2) (b := x.2 * y.2) (by omega)
 have key : (hP x y).1 * G = (wt G x + wt G y) * (hP x y).2 := by
  refine Int.eq_of_mul_eq_mul_right (a := x.2 * y.2) (by omega) ?_
  have a1 : (hP x y).1 * G * (x.2 * y.2) = (hP x y).1 * (x.2 * y.2) * G := by ac_rfl
  have a2 : (wt G x + wt G y) * (hP x y).2 * (x.2 * y.2) = (wt G x * x.2 * y.2 + wt G y * y.2 * x.2) * (hP x y).2 := by
   rw [Int.add_mul, Int.add_mul, Int.add_mul]
   congr 1 <;> ac_rfl
  rw [a1, a2, show (hP x y).1 * (x.2 * y.2) = (x.1 * y.2 + y.1 * x.2) * (hP x y).2 from es, e1, e2]
  have a3 : x.1 * G * y.2 + y.1 * G * x.2 = (x.1 * y.2 + y.1 * x.2) * G := by
   rw [Int.add_mul]
   congr 1 <;> ac_rfl
  rw [a3]
  ac_rfl
 have fs : FR.Fr (hP x y) := fs
 have hd : (hP x y).2 ∣ G := by
  have d1 : (hP x y).2 ∣ (hP x y).1 * G := ⟨wt G x + wt G y, by rw [key, Int.mul_comm]⟩
  have d2 : (hP x y).2.natAbs ∣ (hP x y).1.natAbs * G.natAbs := by
   rw [← Int.natAbs_mul]
   exact Int.natAbs_dvd_natAbs.mpr d1
  have c : Nat.Coprime (hP x y).2.natAbs (hP x y).1.natAbs := by
   have := fs.low
   rw [Int.gcd_comm] at this
   exact this
  exact Int.natAbs_dvd_natAbs.mp (c.dvd_of_dvd_mul_left d2)
 refine ⟨hd, ?_⟩
 have e3 : wt G (hP x y) * (hP x y).2 = (hP x y).1 * G := w_mul fs.pos hd
 exact Int.eq_of_mul_eq_mul_right (a := (hP x y).2) (by have := fs.pos; omega) (by rw [e3, key])
theorem at_map {α : Type} (f : α → D) (xs : List α) (d : α) {k : Nat} (h : k < xs.length) : atI (xs.map f) (k : Int) = some (f (xs.getD k d)) := by
 have : xs.getD k d = xs[k] := by simp [List.getD, h]
 rw [this]
 exact atI_nat (by rw [List.getElem?_map, List.getElem?_eq_getElem h]; rfl)
theorem mem_ext {n : Nat} {P : Int → Bool} {ds : List (List Int)} {e : List Int} : e ∈ ext n P ds ↔ ∃ d ∈ ds, ∃ x : Int, (0 ≤ x ∧ x < n) ∧ x ∉ d ∧ P x = true ∧ e = d ++ [x] := by
 unfold ext
 rw [List.mem_flatMap]
 constructor
 ·rintro ⟨d, hd, h⟩
  obtain ⟨x, hx, rfl⟩ := List.mem_map.mp h
  obtain ⟨h1, h2⟩ := List.mem_filter.mp hx
  rw [Bool.and_eq_true] at h2
  exact ⟨d, hd, x, cols_mem.mp h1, by simpa using h2.1, h2.2, rfl⟩
 ·rintro ⟨d, hd, x, h1, h2, h3, rfl⟩
  refine ⟨d, hd, List.mem_map.mpr ⟨x, List.mem_filter.mpr ⟨cols_mem.mpr h1, ?_⟩, rfl⟩⟩
  rw [Bool.and_eq_true]
  exact ⟨by simpa using h2, h3⟩
theorem mem_deal {n : Nat} : ∀ (k : Nat) (d : List Int), d ∈ dealK n k ↔ d.length = k ∧ d.Nodup ∧ ∀ x ∈ d, 0 ≤ x ∧ x < n
 | 0, d => by
  constructor
  ·intro h
   rw [List.mem_singleton.mp h]
   exact ⟨rfl, List.Pairwise.nil, (fun _ h => nomatch h)⟩
  ·rintro ⟨h, _⟩
   rw [List.length_eq_zero_iff.mp h]
   exact .head _
 | k + 1, d => by
  show d ∈ ext n (fun _ => true) (dealK n k) ↔ _
  rw [mem_ext]
  constructor
  ·rintro ⟨e, he, x, hx, hn, _, rfl⟩
   obtain ⟨h1, h2, h3⟩ := (mem_deal k e).mp he
   refine ⟨by rw [List.length_append, h1]; rfl, List.nodup_append.mpr ⟨h2, List.pairwise_singleton _ _, fun a ha b hb z => ?_⟩, fun y hy => ?_⟩
   ·rw [List.mem_singleton.mp hb] at z
    exact hn (z ▸ ha)
   ·rcases List.mem_append.mp hy with z | z
    ·exact h3 y z
    ·rw [List.mem_singleton.mp z]; exact hx
  ·rintro ⟨h1, h2, h3⟩
   have hne : d ≠ [] := fun z => by rw [z] at h1; cases h1
   have e : d = d.dropLast ++ [d.getLast hne] := (List.dropLast_concat_getLast hne).symm
   have nd := h2
   rw [e] at nd
   obtain ⟨n1, _, n3⟩ := List.nodup_append.mp nd
   exact ⟨d.dropLast, (mem_deal k _).mpr ⟨by rw [List.length_dropLast, h1]; rfl, n1, fun x hx => h3 x (List.dropLast_subset _ hx)⟩, d.getLast hne, h3 _ (List.getLast_mem _), fun z => n3 _ z _ (.head _) rfl, rfl, e⟩
def lsAt (r : List (Int × Int)) (x : Int) : Int × Int := r.getD x.toNat (1, 1)
def noL (r : List (Int × Int)) (x : Int) : Bool := decide (lsAt r x = (0, 1))
def mxw : List Int → Int
 | [] => 0
 | i :: is => maxL i is
theorem maxL_spec : ∀ (is : List Int) (i : Int), maxL i is ∈ i :: is ∧ ∀ x ∈ i :: is, x ≤ maxL i is
 | [], i => ⟨.head _, fun x hx => by rw [List.mem_singleton.mp hx]; exact Int.le_refl _⟩
 | j :: is, i => by
  obtain ⟨h1, h2⟩ := maxL_spec is (if i < j then j else i)
  have e : maxL i (j :: is) = maxL (if i < j then j else i) is := rfl
  rw [e]
  constructor
  ·rcases List.mem_cons.mp h1 with z | z
   ·rw [z]
    split
    ·exact .tail _ (.head _)
    ·exact .head _
   ·exact .tail _ (.tail _ z)
  ·intro x hx
   have h0 := h2 _ (.head _)
   have hi : i ≤ (if i < j then j else i) := by split <;> omega
   have hj : j ≤ (if i < j then j else i) := by split <;> omega
   rcases List.mem_cons.mp hx with z | z
   ·rw [z]; exact Int.le_trans hi h0
   ·rcases List.mem_cons.mp z with w | w
    ·rw [w]; exact Int.le_trans hj h0
    ·exact h2 x (.tail _ w)
theorem mxw_spec {ws : List Int} (h : ws ≠ []) : mxw ws ∈ ws ∧ ∀ x ∈ ws, x ≤ mxw ws := by
 cases ws with
 | nil => exact absurd rfl h
 | cons i is => exact maxL_spec is i
def eT (t : Tb) : List L := [.p (tbD t)]
theorem eT_inj (a b : Tb) (h : eT a = eT b) : a = b := by
 unfold eT at h
 injection h with h _
 injection h with h
 exact tbI h
structure GT (t : Tb) : Prop where
 l : t.length ≤ 6
 r : ∀ r ∈ t, r.length = t.length
 g : ∀ r ∈ t, ∀ x ∈ r, 1 ≤ x.2 ∧ Sz 200 x.1 ∧ Sz 20 x.2
def wsOf (t : Tb) : List Int := (deal t.length).map (wo (t.map (whR (cb t.flatten))))
def bestT (t : Tb) : D := .tuple [frD (FR.mk (mxw (wsOf t)) (cb t.flatten)), .int ((wsOf t).count (mxw (wsOf t)) : Nat), dD ((deal t.length).getD ((wsOf t).idxOf (mxw (wsOf t))) [])]
theorem flat_len : ∀ (t : Tb) (n : Nat), (∀ r ∈ t, r.length = n) → t.flatten.length = t.length * n
 | [], n, _ => by simp
 | r :: t, n, h => by
  rw [List.flatten_cons, List.length_append, flat_len t n fun x hx => h x (.tail _ hx), h r (.head _), List.length_cons, Nat.succ_mul]
  omega
theorem GT.fl {t : Tb} (h : GT t) : ∀ x ∈ t.flatten, 1 ≤ x.2 ∧ Sz 20 x.2 := fun x hx => by
 obtain ⟨r, hr, hx⟩ := List.mem_flatten.mp hx
 have := h.g r hr x hx
 exact ⟨this.1, this.2.2⟩
theorem GT.cb {t : Tb} (h : GT t) : 1 ≤ cb t.flatten ∧ (∀ x ∈ t.flatten, x.2 ∣ cb t.flatten) ∧ Sz 800 (cb t.flatten) := by
 obtain ⟨a, _, b, c⟩ := cb_ok (b := 20) t.flatten 1 1 (Int.le_refl 1) (by unfold Sz; decide) h.fl
 refine ⟨a, b, c.mono ?_⟩
 rw [flat_len t t.length h.r]
 have := Nat.mul_le_mul h.l h.l
 omega
theorem deal_ne (n : Nat) : deal n ≠ [] := by
 have : cols n ∈ deal n := (mem_deal n _).mpr ⟨cols_len n, by
  unfold cols
  exact List.pairwise_map.mpr (List.nodup_range.imp fun {a b} w z => w (by omega)), fun x hx => cols_mem.mp hx⟩
 exact List.ne_nil_of_mem this
noncomputable def m_best (K : PySem.W.Frag) (c : Cls) : List L → Res L := mOf eT GT fun t => .ok (.p (bestT t))
noncomputable def f_best_e1 (K : PySem.W.Frag) (c : Cls) : En → Res Ev := (mCall 2 (m_worth_of K c) (mCons (mVar 1) (mCons (mVar 0) mNil)))
noncomputable def f_best_b2 (K : PySem.W.Frag) (c : Cls) : MS := (mExtP 1 (mVar 2))
noncomputable def f_best (K : PySem.W.Frag) (c : Cls) : MS := (mSeq (mSet 1 (mCallB lstR' mNil)) (mSeq (mFor (mItL (mVar 0)) (mgName 2) (f_best_b2 K c)) (mSeq (mSet 3 (mCall 1 (m_common_bottom K c) (mCons (mVar 1) mNil))) (mSeq (mSet 4 (mCall 2 (m_whole_rows K c) (mCons (mVar 0) (mCons (mVar 3) mNil)))) (mSeq (mSet 5 (mCall 1 (m_dealings_of K c) (mCons (mCallB lenE (mCons (mVar 4) mNil)) mNil))) (fun en => (mSeq (mSet 6 (mComp 1 [4] (mItL (mVar 5)) (mgName 0) mYes (f_best_e1 K c))) (mSeq (mSet 7 (mCallB maxE (mCons (mVar 6) mNil))) (mRet (mCallB tupR' (mCons (mCall 2 (m_fraction K c) (mCons (mVar 7) (mCons (mVar 3) mNil))) (mCons (mMt countE (mVar 6) (mVar 7)) (mCons (mBin ixE (mVar 5) (mMt indexE (mVar 6) (mVar 7))) mNil))))))) (frz 4 en)))))))
theorem extp_nx {i : Nat} {fe : En → Res Ev} {en : En} {ds es : List D} (h1 : en[i]? = some (some (.o (.list ds)))) (h2 : fe en = .ok (.p (.list es))) (h3 : ds.length + es.length ≤ 100000) : mExtP i fe en = some (.nx (en.set i (some (.o (.list (ds ++ es)))))) := by
 unfold mExtP
 rw [h1]
 dsimp only
 rw [h2]
 dsimp only
 rw [if_pos h3]
theorem best_loop (K : PySem.W.Frag) (c : Cls) (A : Option L) (rs' : List (Option L)) : ∀ (rs : Tb) (acc : List (Int × Int)) (r2 : Option L), acc.length + 10 * rs.length ≤ 1000 → (∀ r ∈ rs, r.length ≤ 10) → ∃ q2, mLoop (mgName 2) (f_best_b2 K c) (rs.map rwF) (A :: some (.o (.list (acc.map frD))) :: r2 :: rs') = some (.nx (A :: some (.o (.list ((acc ++ rs.flatten).map frD))) :: q2 :: rs'))
 | [], acc, r2, _, _ => ⟨r2, by rw [List.flatten_nil, List.append_nil]; rfl⟩
 | r :: rs, acc, r2, hl, hr => by
  rw [List.length_cons] at hl
  have h1 := hr r (.head _)
  obtain ⟨q2, ih⟩ := best_loop K c A rs' rs (acc ++ r) (some (.p (rwF r))) (by rw [List.length_append]; omega) fun x hx => hr x (.tail _ hx)
  refine ⟨q2, ?_⟩
  have hb : f_best_b2 K c (A :: some (.o (.list (acc.map frD))) :: some (.p (rwF r)) :: rs') = some (.nx (A :: some (.o (.list ((acc ++ r).map frD))) :: some (.p (rwF r)) :: rs')) := by
   unfold f_best_b2
   rw [extp_nx (i := 1) (ds := acc.map frD) (es := r.map frD) rfl rfl (by rw [List.length_map, List.length_map]; omega), List.map_append]
   rfl
  rw [List.map_cons, lp_nx rfl hb]
  rw [List.flatten_cons, ← List.append_assoc]
  exact ih
theorem eq_best (K : PySem.W.Frag) (c : Cls) : ∀ ls, m_best K c ls = .bad ∨ runF 8 (f_best K c) ls = m_best K c ls := mOf_eq fun t h => by
 obtain ⟨f0, f1, f2⟩ := h.cb
 have hl := h.l
 have hfi : ∀ x : Int, flatL (.p (.int x)) = true := fun x => by simp [flatL, lfD]
 obtain ⟨q2, hlp⟩ := best_loop K c (some (.p (tbD t))) [none, none, none, none, none] t [] none (by rw [List.length_nil]; omega) (fun r hr => by rw [h.r r hr]; omega)
 rw [List.nil_append] at hlp
 have hcb := cb_good K c (hs := t.flatten) ⟨20, by decide, by rw [flat_len t t.length h.r]; have := Nat.mul_le_mul h.l h.l; omega, h.fl⟩
 have hwr := wrows_good K c (t := t) (F := cb t.flatten) (by omega) (fun r hr => ⟨by rw [h.r r hr]; omega, fun x hx => by
  have := h.g r hr x hx
  exact ⟨this.1, this.2.1.mono (by decide), this.2.2.mono (by decide)⟩⟩) (f2.mono (by decide))
 have hde := deal_good K c (n := t.length) h.l
 have hfr := frac_ok K c (t := mxw (wsOf t)) (b := cb t.flatten) (by omega) (f2.mono (by decide))
 refine run_rt ?_
 rw [show startE 8 (eT t) = [some (.p (tbD t)), none, none, none, none, none, none, none] from rfl]
 unfold f_best
 refine (seq_nx (set_f (d := .list []) rfl)).trans ?_
 refine (seq_nx ((for_l (ds := t.map rwF) rfl).trans hlp)).trans ?_
 have e3 : (mCall 1 (m_common_bottom K c) (mCons (mVar 1) mNil)) [some (.p (tbD t)), some (.o (.list (t.flatten.map frD))), q2, none, none, none, none, none] = .ok (.p (.int (cb t.flatten))) := by
  simp only [mCall, mCons, mNil, mVar, List.getElem?_cons_zero, List.getElem?_cons_succ, List.set_cons_zero, List.set_cons_succ, List.length_cons, List.length_nil, List.length_map, List.length_append, if_true, if_false, ite_true, ite_false, decide_true, decide_false, Bool.false_eq_true, Nat.zero_add, Nat.reduceAdd, Nat.reduceEqDiff, Nat.reduceLeDiff, reduceIte, List.map_append, List.map_cons, List.map_nil, Res.bind, Ev.c, callR, argsL, argL, argB, hcb, hfi, retE]
 refine (seq_nx (set_p e3)).trans ?_
 simp only [List.set_cons_succ, List.set_cons_zero]
 have e4 : (mCall 2 (m_whole_rows K c) (mCons (mVar 0) (mCons (mVar 3) mNil))) [some (.p (tbD t)), some (.o (.list (t.flatten.map frD))), q2, some (.p (.int (cb t.flatten))), none, none, none, none] = .ok (.f (.list ((t.map (whR (cb t.flatten))).map dD))) := by
  simp only [mCall, mCons, mNil, mVar, List.getElem?_cons_zero, List.getElem?_cons_succ, List.set_cons_zero, List.set_cons_succ, List.length_cons, List.length_nil, List.length_map, List.length_append, if_true, if_false, ite_true, ite_false, decide_true, decide_false, Bool.false_eq_true, Nat.zero_add, Nat.reduceAdd, Nat.reduceEqDiff, Nat.reduceLeDiff, reduceIte, List.map_append, List.map_cons, List.map_nil, Res.bind, Ev.c, callR, argsL, argL, hwr, retE]
 refine (seq_nx (set_f e4)).trans ?_
 simp only [List.set_cons_succ, List.set_cons_zero]
 have hlen : lenE [.b (.list ((t.map (whR (cb t.flatten))).map dD))] = .ok (.p (.int (t.length : Nat))) := by simp [lenE, seqOf]
 have e5 : (mCall 1 (m_dealings_of K c) (mCons (mCallB lenE (mCons (mVar 4) mNil)) mNil)) [some (.p (tbD t)), some (.o (.list (t.flatten.map frD))), q2, some (.p (.int (cb t.flatten))), some (.o (.list ((t.map (whR (cb t.flatten))).map dD))), none, none, none] = .ok (.p (.list ((deal t.length).map dD))) := by
  simp only [mCall, mCallB, mCons, mNil, mVar, List.getElem?_cons_zero, List.getElem?_cons_succ, List.set_cons_zero, List.set_cons_succ, List.length_cons, List.length_nil, List.length_map, List.length_append, if_true, if_false, ite_true, ite_false, decide_true, decide_false, Bool.false_eq_true, Nat.zero_add, Nat.reduceAdd, Nat.reduceEqDiff, Nat.reduceLeDiff, reduceIte, List.map_append, List.map_cons, List.map_nil, Res.bind, Ev.c, callR, argsL, argL, hlen, hde, retE]
 refine (seq_nx (set_p e5)).trans ?_
 simp only [List.set_cons_succ, List.set_cons_zero, frz, List.getElem?_cons_succ, List.getElem?_cons_zero]
 have hm : mapO (compItem 1 [4] (mgName 0) mYes (f_best_e1 K c) [some (.p (tbD t)), some (.o (.list (t.flatten.map frD))), q2, some (.p (.int (cb t.flatten))), some (.p (.list ((t.map (whR (cb t.flatten))).map dD))), some (.p (.list ((deal t.length).map dD))), none, none]) ((deal t.length).map dD) = some ((deal t.length).map fun d => .int (wo (t.map (whR (cb t.flatten))) d)) := by
  refine mapO_map _ fun d hd => ?_
  obtain ⟨_, _, d3⟩ := (mem_deal _ d).mp hd
  have w := wo_good K c (rows := t.map (whR (cb t.flatten))) (d := d) (by rw [List.length_map]; omega) (fun r hr x hx => by
   obtain ⟨r0, h0, rfl⟩ := List.mem_map.mp hr
   have := h.r r0 h0
   unfold whR
   rw [List.length_map, this]
   exact d3 x hx)
  have he : f_best_e1 K c [some (.p (dD d)), some (.p (.list ((t.map (whR (cb t.flatten))).map dD)))] = .ok (.p (.int (wo (t.map (whR (cb t.flatten))) d))) := by
   simp only [f_best_e1, mCall, mCons, mNil, mVar, List.getElem?_cons_zero, List.getElem?_cons_succ, List.set_cons_zero, List.set_cons_succ, List.length_cons, List.length_nil, List.length_map, List.length_append, if_true, if_false, ite_true, ite_false, decide_true, decide_false, Bool.false_eq_true, Nat.zero_add, Nat.reduceAdd, Nat.reduceEqDiff, Nat.reduceLeDiff, reduceIte, List.map_append, List.map_cons, List.map_nil, Res.bind, Ev.c, callR, argsL, argL, w, retE]
  unfold compItem
  simp only [mgName, capE, capO, mYes, List.getElem?_cons_zero, List.getElem?_cons_succ, List.set_cons_zero, List.set_cons_succ, List.length_cons, List.length_nil, List.length_map, List.length_append, if_true, if_false, ite_true, ite_false, decide_true, decide_false, Bool.false_eq_true, Nat.zero_add, Nat.reduceAdd, Nat.reduceEqDiff, Nat.reduceLeDiff, reduceIte, List.map_append, List.map_cons, List.map_nil, List.replicate, List.cons_append, List.nil_append, he, Ev.c]
 have l6 := deal_len (n := t.length) h.l t.length h.l
 have p6 := pow6 h.l
 have hc := comp_l (n := 1) (js := [4]) (fi := mItL (mVar 5)) (tg := mgName 0) (ft := mYes) (fe := f_best_e1 K c) (en := [some (.p (tbD t)), some (.o (.list (t.flatten.map frD))), q2, some (.p (.int (cb t.flatten))), some (.p (.list ((t.map (whR (cb t.flatten))).map dD))), some (.p (.list ((deal t.length).map dD))), none, none]) (ds := (deal t.length).map dD) rfl (by rw [List.length_map]; unfold deal; omega) hm
 rw [show ((deal t.length).map fun d => PyData.int (wo (t.map (whR (cb t.flatten))) d)) = (wsOf t).map .int by unfold wsOf; rw [List.map_map]; rfl] at hc
 refine (seq_nx (set_f hc)).trans ?_
 simp only [List.set_cons_succ, List.set_cons_zero]
 have wn : wsOf t ≠ [] := fun z => deal_ne t.length (List.map_eq_nil_iff.mp z)
 obtain ⟨tm, _⟩ := mxw_spec wn
 have hmx : maxE [.b (.list ((wsOf t).map .int))] = .ok (.p (.int (mxw (wsOf t)))) := by
  cases e : wsOf t with
  | nil => exact absurd e wn
  | cons i is => simp only [maxE, lstOf, intsOf_map]; rfl
 have e7 : (mCallB maxE (mCons (mVar 6) mNil)) [some (.p (tbD t)), some (.o (.list (t.flatten.map frD))), q2, some (.p (.int (cb t.flatten))), some (.p (.list ((t.map (whR (cb t.flatten))).map dD))), some (.p (.list ((deal t.length).map dD))), some (.o (.list ((wsOf t).map .int))), none] = .ok (.p (.int (mxw (wsOf t)))) := by
  simp only [mCallB, mCons, mNil, mVar, List.getElem?_cons_zero, List.getElem?_cons_succ, List.set_cons_zero, List.set_cons_succ, List.length_cons, List.length_nil, List.length_map, List.length_append, if_true, if_false, ite_true, ite_false, decide_true, decide_false, Bool.false_eq_true, Nat.zero_add, Nat.reduceAdd, Nat.reduceEqDiff, Nat.reduceLeDiff, reduceIte, List.map_append, List.map_cons, List.map_nil, Res.bind, Ev.c, hmx]
 refine (seq_nx (set_p e7)).trans ?_
 simp only [List.set_cons_succ, List.set_cons_zero]
 have hco : countE (.b (.list ((wsOf t).map .int))) (.p (.int (mxw (wsOf t)))) = .ok (.p (.int ((wsOf t).count (mxw (wsOf t)) : Nat))) := by
  simp only [countE, lstOf, intsOf_map]
 have hix : indexE (.b (.list ((wsOf t).map .int))) (.p (.int (mxw (wsOf t)))) = .ok (.p (.int ((wsOf t).idxOf (mxw (wsOf t)) : Nat))) := by
  simp only [indexE, lstOf, intsOf_map]
  rw [if_pos tm]
 have hat : ixE (.p (.list ((deal t.length).map dD))) (.p (.int ((wsOf t).idxOf (mxw (wsOf t)) : Nat))) = .ok (.p (dD ((deal t.length).getD ((wsOf t).idxOf (mxw (wsOf t))) []))) := by
  have li : (wsOf t).idxOf (mxw (wsOf t)) < (deal t.length).length := by
   have := List.idxOf_lt_length_iff.mpr tm
   unfold wsOf at this
   rw [List.length_map] at this
   exact this
  have := at_map dD (deal t.length) [] li
  simp only [ixE, seqOf, this]
 refine ret_p ?_
 simp only [mCallB, mCons, mNil, mVar, mCall, mMt, mBin, List.getElem?_cons_zero, List.getElem?_cons_succ, List.set_cons_zero, List.set_cons_succ, List.length_cons, List.length_nil, List.length_map, List.length_append, if_true, if_false, ite_true, ite_false, decide_true, decide_false, Bool.false_eq_true, Nat.zero_add, Nat.reduceAdd, Nat.reduceEqDiff, Nat.reduceLeDiff, reduceIte, List.map_append, List.map_cons, List.map_nil, Res.bind, Ev.c, callR, argsL, argL, hfr, retE, hco, hix, hat, lstOf, Option.isSome_some, tupR', pureL]
 rfl
theorem best_good (K : PySem.W.Frag) (c : Cls) {t : Tb} (h : GT t) : m_best K c [.p (tbD t)] = .ok (.p (bestT t)) := mOf_at (a := t) eT_inj h
theorem app_nx {i : Nat} {fe : En → Res Ev} {en : En} {ds : List D} {d : D} (h1 : en[i]? = some (some (.o (.list ds)))) (h2 : fe en = .ok (.f d) ∨ fe en = .ok (.p d)) (h3 : ds.length ≤ 100000) : mAppend i fe en = some (.nx (en.set i (some (.o (.list (ds ++ [d])))))) := by
 unfold mAppend
 rw [h1]
 dsimp only
 rcases h2 with h2 | h2 <;> rw [h2] <;> dsimp only [Ev.c] <;> rw [if_pos h3]
theorem eq_fr (x y : Int × Int) : eqE false (.p (frD x)) (.p (frD y)) = .ok (.p (.bool (decide (x = y)))) := by
 unfold eqE
 dsimp only [dat]
 rw [if_pos ⟨sh_fr x, sh_fr y⟩, eqv_fr]
 rfl
theorem getD_lt {α : Type} {xs : List α} {k : Nat} (h : k < xs.length) (d : α) : xs.getD k d = xs[k] := by simp [List.getD, h]
theorem getD_in {α : Type} {xs : List α} {k : Nat} (h : k < xs.length) (d : α) : xs.getD k d ∈ xs := by rw [getD_lt h]; exact List.getElem_mem h
def rgD (j m : Nat) : List D := (List.range' j m).map fun k : Nat => PyData.int (k : Int)
theorem rg_cols (n : Nat) : (cols n).map PyData.int = rgD 0 n := by
 unfold cols rgD
 rw [List.map_map, List.range_eq_range']
 rfl
theorem rgD_succ (j m : Nat) : rgD j (m + 1) = .int (j : Int) :: rgD (j + 1) m := rfl
theorem rg_zip {α β γ : Type} {n : Nat} (A : List α) (B : List β) (a0 : α) (b0 : β) (f : α × β → γ) (hA : A.length = n) (hB : B.length = n) : ((List.range' 0 n).map fun k => f (A.getD k a0, B.getD k b0)) = (A.zip B).map f := by
 apply List.ext_getElem
 ·simp [hA, hB]
 ·intro i h1 h2
  have i1 : i < A.length := by simp at h2; omega
  have i2 : i < B.length := by simp at h2; omega
  simp [List.getD, i1, i2]
theorem ix_tb {t : Tb} {k : Nat} (h : k < t.length) : ixE (.p (tbD t)) (.p (.int (k : Int))) = .ok (.p (rwF (t.getD k []))) := by
 have := at_map rwF t [] h
 simp only [ixE, tbD, seqOf, this]
theorem ix_rw {r : List (Int × Int)} {k : Nat} (h : k < r.length) (d : Int × Int) : ixE (.p (rwF r)) (.p (.int (k : Int))) = .ok (.p (frD (r.getD k d))) := by
 have := at_map frD r d h
 simp only [ixE, rwF, seqOf, this]
theorem eq_ints (i j : Int) : eqE false (.p (.int i)) (.p (.int j)) = .ok (.p (.bool (i == j))) := by
 simp only [eqE, dat, sh_int, eqv_ii]
 rfl
noncomputable def m__law_orders (K : PySem.W.Frag) (c : Cls) : List L → Res L := mOf eN (fun n => n ≤ 6) fun n => .ok (.p (.list ((deal n).map dD)))
noncomputable def f__law_orders_b1 (K : PySem.W.Frag) (c : Cls) : MS := (mIfS (mTru (mBin (inE true) (mVar 5) (mVar 4))) (mAppend 3 (mBin addE (mVar 4) (mCallB lstR' (mCons (mVar 5) mNil)))) mNext)
noncomputable def f__law_orders_b2 (K : PySem.W.Frag) (c : Cls) : MS := (mFor (mItA rng1R (mCons (mVar 0) mNil)) (mgName 5) (f__law_orders_b1 K c))
noncomputable def f__law_orders_b3 (K : PySem.W.Frag) (c : Cls) : MS := (mSeq (mSet 3 (mCallB lstR' mNil)) (mSeq (mFor (mItL (mVar 1)) (mgName 4) (f__law_orders_b2 K c)) (fun en => (mSet 1 (mVar 3)) (frz 3 en))))
noncomputable def f__law_orders (K : PySem.W.Frag) (c : Cls) : MS := (mSeq (mSet 1 (mCallB lstR' (mCons (mCallB lstR' mNil) mNil))) (fun en => (mSeq (mFor (mItA rng1R (mCons (mVar 0) mNil)) (mgName 2) (f__law_orders_b3 K c)) (mRet (mVar 1))) (frz 1 en)))
theorem or_b1 (K : PySem.W.Frag) (c : Cls) (A B C : Option L) {d : List Int} (hd : d.length ≤ 100) {x : Int} {acc : List (List Int)} (ha : acc.length ≤ 50000) : f__law_orders_b1 K c [A, B, C, some (.o (.list (acc.map dD))), some (.p (dD d)), some (.p (.int x))] = some (.nx [A, B, C, some (.o (.list ((acc ++ if ((!decide (x ∈ d)) && true) = true then [d ++ [x]] else []).map dD))), some (.p (dD d)), some (.p (.int x))]) := by
 have ii := in_ints true x d
 have t : mTru (mBin (inE true) (mVar 5) (mVar 4)) [A, B, C, some (.o (.list (acc.map dD))), some (.p (dD d)), some (.p (.int x))] = .ok (!decide (x ∈ d)) := by
  simp only [mTru, mBin, mVar, List.getElem?_cons_zero, List.getElem?_cons_succ, List.set_cons_zero, List.set_cons_succ, List.length_cons, List.length_nil, List.length_map, List.length_append, if_true, if_false, ite_true, ite_false, decide_true, decide_false, Bool.false_eq_true, Nat.zero_add, Nat.reduceAdd, Nat.reduceEqDiff, Nat.reduceLeDiff, reduceIte, List.map_append, List.map_cons, List.map_nil, Res.bind, Ev.c, ii, truthR]
 have a : (mBin addE (mVar 4) (mCallB lstR' (mCons (mVar 5) mNil))) [A, B, C, some (.o (.list (acc.map dD))), some (.p (dD d)), some (.p (.int x))] = .ok (.f (dD (d ++ [x]))) := by
  have := add_one d x (by omega)
  simp only [mBin, mVar, mCallB, mCons, mNil, lstR', pureL, List.getElem?_cons_zero, List.getElem?_cons_succ, List.set_cons_zero, List.set_cons_succ, List.length_cons, List.length_nil, List.length_map, List.length_append, if_true, if_false, ite_true, ite_false, decide_true, decide_false, Bool.false_eq_true, Nat.zero_add, Nat.reduceAdd, Nat.reduceEqDiff, Nat.reduceLeDiff, reduceIte, List.map_append, List.map_cons, List.map_nil, Res.bind, Ev.c, this]
 unfold f__law_orders_b1
 rw [Bool.and_true]
 generalize (!decide (x ∈ d)) = b at t ⊢
 cases b with
 | true =>
  rw [if_t t, app_nx (i := 3) (ds := acc.map dD) rfl (.inl a) (by rw [List.length_map]; omega), if_pos rfl, List.map_append]
  rfl
 | false =>
  rw [if_f t, if_neg (by decide), List.append_nil]
  rfl
theorem or_in (K : PySem.W.Frag) (c : Cls) (A B C : Option L) {d : List Int} (hd : d.length ≤ 100) : ∀ (xs : List Int) (acc : List (List Int)) (r5 : Option L), acc.length + xs.length ≤ 50000 → ∃ q5, mLoop (mgName 5) (f__law_orders_b1 K c) (xs.map .int) [A, B, C, some (.o (.list (acc.map dD))), some (.p (dD d)), r5] = some (.nx [A, B, C, some (.o (.list ((acc ++ (xs.filter fun x => (!decide (x ∈ d)) && true).map fun x => d ++ [x]).map dD))), some (.p (dD d)), q5])
 | [], acc, r5, _ => ⟨r5, by rw [List.filter_nil]; show _ = some (Out.nx [_, _, _, some (.o (.list ((acc ++ []).map dD))), _, _]); rw [List.append_nil]; rfl⟩
 | x :: xs, acc, r5, hl => by
  rw [List.length_cons] at hl
  have hb := or_b1 K c A B C hd (x := x) (acc := acc) (by omega)
  obtain ⟨q5, ih⟩ := or_in K c A B C hd xs (acc ++ if ((!decide (x ∈ d)) && true) = true then [d ++ [x]] else []) (some (.p (.int x))) (by
   rw [List.length_append]
   split <;> simp <;> omega)
  refine ⟨q5, ?_⟩
  rw [List.map_cons, lp_nx rfl hb, ih, List.append_assoc, List.filter_cons]
  split <;> rfl
theorem or_mid (K : PySem.W.Frag) (c : Cls) {n : Nat} (n6 : n ≤ 6) (B C : Option L) : ∀ (ds acc : List (List Int)) (r4 r5 : Option L), acc.length + n * ds.length ≤ 50000 → (∀ d ∈ ds, d.length ≤ 100) → ∃ q4 q5, mLoop (mgName 4) (f__law_orders_b2 K c) (ds.map dD) [some (.p (.int (n : Int))), B, C, some (.o (.list (acc.map dD))), r4, r5] = some (.nx [some (.p (.int (n : Int))), B, C, some (.o (.list ((acc ++ ext n (fun _ => true) ds).map dD))), q4, q5])
 | [], acc, r4, r5, _, _ => ⟨r4, r5, by show _ = some (Out.nx [_, _, _, some (.o (.list ((acc ++ []).map dD))), _, _]); rw [List.append_nil]; rfl⟩
 | d :: ds, acc, r4, r5, hl, hd => by
  rw [List.length_cons, Nat.mul_succ] at hl
  obtain ⟨q5, hi⟩ := or_in K c (some (.p (.int (n : Int)))) B C (hd d (.head _)) (cols n) acc r5 (by rw [cols_len]; omega)
  have h1 := ext_one_len n (fun _ => true) d
  have hit := rng_v (i := 0) (en := [some (.p (.int (n : Int))), B, C, some (.o (.list (acc.map dD))), some (.p (dD d)), r5]) (n := n) (by omega) rfl
  have hb : f__law_orders_b2 K c [some (.p (.int (n : Int))), B, C, some (.o (.list (acc.map dD))), some (.p (dD d)), r5] = some (.nx [some (.p (.int (n : Int))), B, C, some (.o (.list ((acc ++ ((cols n).filter fun x => (!decide (x ∈ d)) && true).map fun x => d ++ [x]).map dD))), some (.p (dD d)), q5]) := by
   unfold f__law_orders_b2
   rw [for_l hit, hi]
  obtain ⟨q4', q5', ih⟩ := or_mid K c n6 B C ds (acc ++ ((cols n).filter fun x => (!decide (x ∈ d)) && true).map fun x => d ++ [x]) (some (.p (dD d))) q5 (by rw [List.length_append]; omega) fun x hx => hd x (.tail _ hx)
  refine ⟨q4', q5', ?_⟩
  rw [List.map_cons, lp_nx rfl hb]
  rw [List.append_assoc] at ih
  exact ih
theorem or_out (K : PySem.W.Frag) (c : Cls) {n : Nat} (hn : n ≤ 6) : ∀ (xs : List D) (k : Nat) (r2 r3 r4 r5 : Option L), k + xs.length ≤ 6 → ∃ q2 q3 q4 q5, mLoop (mgName 2) (f__law_orders_b3 K c) xs [some (.p (.int (n : Int))), some (.p (.list ((dealK n k).map dD))), r2, r3, r4, r5] = some (.nx [some (.p (.int (n : Int))), some (.p (.list ((dealK n (k + xs.length)).map dD))), q2, q3, q4, q5])
 | [], k, r2, r3, r4, r5, _ => ⟨r2, r3, r4, r5, rfl⟩
 | x :: xs, k, r2, r3, r4, r5, hk => by
  rw [List.length_cons] at hk
  have l1 := deal_len hn k (by omega)
  have l3 := pow6 (show k + 1 ≤ 6 by omega)
  have l4 := Nat.mul_le_mul hn l1
  rw [Nat.pow_succ, Nat.mul_comm] at l3
  obtain ⟨q4, q5, h1⟩ := or_mid K c hn (some (.p (.list ((dealK n k).map dD)))) (some (.p x)) (dealK n k) [] r4 r5 (by rw [List.length_nil]; omega) (fun d hd => by rw [deal_dlen k d hd]; omega)
  obtain ⟨q2, q3, q4', q5', ih⟩ := or_out K c hn xs (k + 1) (some (.p x)) (some (.p (.list ((dealK n (k + 1)).map dD)))) q4 q5 (by omega)
  refine ⟨q2, q3, q4', q5', ?_⟩
  have hb : f__law_orders_b3 K c [some (.p (.int (n : Int))), some (.p (.list ((dealK n k).map dD))), some (.p x), r3, r4, r5] = some (.nx [some (.p (.int (n : Int))), some (.p (.list ((dealK n (k + 1)).map dD))), some (.p x), some (.p (.list ((dealK n (k + 1)).map dD))), q4, q5]) := by
   unfold f__law_orders_b3
   refine (seq_nx (set_f (d := .list []) rfl)).trans ?_
   simp only [List.set_cons_succ, List.set_cons_zero]
   refine (seq_nx ((for_l (ds := (dealK n k).map dD) rfl).trans h1)).trans ?_
   rfl
  rw [show k + (x :: xs).length = k + 1 + xs.length by rw [List.length_cons]; omega]
  rw [lp_nx rfl hb]
  exact ih
theorem eq__law_orders (K : PySem.W.Frag) (c : Cls) : ∀ ls, m__law_orders K c ls = .bad ∨ runF 6 (f__law_orders K c) ls = m__law_orders K c ls := mOf_eq fun n hn => by
 refine run_rt ?_
 rw [show startE 6 (eN n) = [some (.p (.int (n : Int))), none, none, none, none, none] from rfl]
 obtain ⟨q2, q3, q4, q5, hlp⟩ := or_out K c hn ((cols n).map .int) 0 none none none none (by rw [List.length_map, cols_len]; omega)
 rw [List.length_map, cols_len, Nat.zero_add] at hlp
 have hit := rng_v (i := 0) (en := [some (.p (.int (n : Int))), some (.p (.list ((dealK n 0).map dD))), none, none, none, none]) (n := n) (by omega) rfl
 unfold f__law_orders
 refine (seq_nx (set_f (d := .list ((dealK n 0).map dD)) rfl)).trans ?_
 simp only [List.set_cons_succ, List.set_cons_zero, frz, List.getElem?_cons_succ, List.getElem?_cons_zero]
 refine (seq_nx ((for_l hit).trans hlp)).trans ?_
 rfl
theorem orders_good (K : PySem.W.Frag) (c : Cls) {n : Nat} (h : n ≤ 6) : m__law_orders K c [.p (.int (n : Int))] = .ok (.p (.list ((deal n).map dD))) := mOf_at (a := n) eN_inj h
structure Gx (G : Int) (x : Int × Int) : Prop where
 f : FR.Fr x
 d : x.2 ∣ G
theorem Gx.p {G : Int} {x y : Int × Int} (h : Gx G x) (k : Gx G y) : Gx G (hP x y) ∧ wt G (hP x y) = wt G x + wt G y := by
 obtain ⟨a, b⟩ := wt_sum h.f.pos k.f.pos h.d k.d
 exact ⟨⟨hP_fr h.f.pos k.f.pos, a⟩, b⟩
def totD (w : Int × Int) (xs : List (List (Int × Int) × Int)) : Int × Int := xs.foldl (fun w x => hP w (x.1.getD x.2.toNat (0, 1))) w
theorem totD_sp {F : Int} : ∀ (t : Tb) (d : List Int) (w : Int × Int) (m : Nat), (∀ r ∈ t, (∀ a ∈ d, 0 ≤ a ∧ a < r.length) ∧ ∀ x ∈ r, GN x ∧ x.2 ∣ F) → Gx F w → Good m w → Gx F (totD w (t.zip d)) ∧ wt F (totD w (t.zip d)) = wt F w + wo (t.map (whR F)) d ∧ Good (m + 81 * t.length) (totD w (t.zip d))
 | [], _, w, m, _, hw, gw => ⟨hw, by unfold wo totD; simp, gw⟩
 | _ :: _, [], w, m, _, hw, gw => ⟨hw, by unfold wo totD; simp, gw.mono (by omega)⟩
 | r :: t, a :: d, w, m, h, hw, gw => by
  obtain ⟨h1, h2⟩ := h r (.head _)
  have ha := h1 a (.head _)
  have hk : a.toNat < r.length := by omega
  obtain ⟨g1, g2⟩ := h2 _ (getD_in hk (0, 1))
  obtain ⟨p1, p2⟩ := hw.p ⟨g1.f, g2⟩
  obtain ⟨i1, i2, i3⟩ := totD_sp t d (hP w (r.getD a.toNat (0, 1))) _ (fun x hx => ⟨fun y hy => (h x (.tail _ hx)).1 y (.tail _ hy), (h x (.tail _ hx)).2⟩) p1 (good_P gw g1.good)
  refine ⟨i1, ?_, i3.mono (by rw [List.length_cons]; omega)⟩
  show wt F (totD (hP w (r.getD a.toNat (0, 1))) (t.zip d)) = wt F w + ((whR F r).getD a.toNat 0 + wo (t.map (whR F)) d)
  have e : (whR F r).getD a.toNat 0 = wt F (r.getD a.toNat (0, 1)) := by
   unfold whR
   rw [getD_lt (by rw [List.length_map]; exact hk), getD_lt hk, List.getElem_map]
   rfl
  rw [i2, p2, e]
  omega
theorem lt_wt {G : Int} {x y : Int × Int} (hG : 1 ≤ G) (hx : Gx G x) (hy : Gx G y) : ltF x y = decide (wt G x < wt G y) := by
 unfold ltF
 by_cases h : x.1 * y.2 < y.1 * x.2
 ·rw [decide_eq_true h]
  have l := wt_le hG hx.f.pos hy.f.pos hx.d hy.d (Int.le_of_lt h)
  have n : wt G x ≠ wt G y := fun e => by
   have := wt_inj hG hx.f hy.f hx.d hy.d e
   rw [this] at h
   omega
  exact (decide_eq_true (by omega)).symm
 ·rw [decide_eq_false h]
  have l := wt_le hG hy.f.pos hx.f.pos hy.d hx.d (Int.not_lt.mp h)
  exact (decide_eq_false (by omega)).symm
theorem eq_wt {G : Int} {x y : Int × Int} (hG : 1 ≤ G) (hx : Gx G x) (hy : Gx G y) : (x = y) ↔ wt G x = wt G y := ⟨fun e => by rw [e], fun e => wt_inj hG hx.f hy.f hx.d hy.d e⟩
theorem mk_wt {G w : Int} {x : Int × Int} (hG : 1 ≤ G) (hx : Gx G x) (h : wt G x = w) : FR.mk w G = x := by
 obtain ⟨m1, m2⟩ := FR.mk_fr (t := w) (b := G) (by omega)
 have e1 : wt G x * x.2 = x.1 * G := w_mul hx.f.pos hx.d
 rw [h] at e1
 have e : (FR.mk w G).1 * x.2 = x.1 * (FR.mk w G).2 := by
  refine Int.eq_of_mul_eq_mul_right (a := G) (by omega) ?_
  have a1 : (FR.mk w G).1 * x.2 * G = (FR.mk w G).1 * G * x.2 := by ac_rfl
  have a2 : w * (FR.mk w G).2 * x.2 = w * x.2 * (FR.mk w G).2 := by ac_rfl
  rw [a1, m2, a2, e1]
  ac_rfl
 exact leF_eq m1 hx.f (Int.le_of_eq e) (Int.le_of_eq e.symm)
structure Fst (W : List Int → Int) (ps : List (List Int)) (l : List Int) (k : Nat) : Prop where
 i : l ∈ ps
 m : ∀ d ∈ ps, W d ≤ W l
 k : k = (ps.map W).count (W l)
 a : ps.getD ((ps.map W).idxOf (W l)) [] = l
theorem Fst.one (W : List Int → Int) (d : List Int) : Fst W [d] d 1 := ⟨.head _, fun e he => by rw [List.mem_singleton.mp he]; exact Int.le_refl _, by simp, by simp⟩
theorem Fst.new {W : List Int → Int} {ps : List (List Int)} {l : List Int} {k : Nat} (h : Fst W ps l k) {d : List Int} (hd : W l < W d) : Fst W (ps ++ [d]) d 1 := by
 have nm : W d ∉ ps.map W := fun z => by
  obtain ⟨e, he, q⟩ := List.mem_map.mp z
  have := h.m e he
  omega
 refine ⟨List.mem_append_right _ (.head _), fun e he => ?_, ?_, ?_⟩
 ·rcases List.mem_append.mp he with z | z
  ·have := h.m e z; omega
  ·rw [List.mem_singleton.mp z]; exact Int.le_refl _
 ·rw [List.map_append, List.count_append, List.count_eq_zero.mpr nm]
  simp
 ·rw [List.map_append, List.idxOf_append, if_neg nm]
  simp
theorem Fst.old {W : List Int → Int} {ps : List (List Int)} {l : List Int} {k : Nat} (h : Fst W ps l k) {d : List Int} (hd : W d ≤ W l) : Fst W (ps ++ [d]) l (k + if W d = W l then 1 else 0) := by
 have mm : W l ∈ ps.map W := List.mem_map.mpr ⟨l, h.i, rfl⟩
 have il := List.idxOf_lt_length_iff.mpr mm
 refine ⟨List.mem_append_left _ h.i, fun e he => ?_, ?_, ?_⟩
 ·rcases List.mem_append.mp he with z | z
  ·exact h.m e z
  ·rw [List.mem_singleton.mp z]; exact hd
 ·rw [List.map_append, List.count_append, ← h.k]
  simp [List.count_cons]
 ·have a := h.a
  rw [List.length_map] at il
  rw [getD_lt il] at a
  rw [List.map_append, List.idxOf_append, if_pos mm, getD_lt (by rw [List.length_append]; omega), List.getElem_append_left il]
  exact a
def dAt (t : Tb) (d : List Int) (w : Int × Int) (k : Nat) : Int × Int := hP w ((t.getD k []).getD (d.getD k 0).toNat (0, 1))
theorem dAt_eq {n : Nat} {t : Tb} {d : List Int} (h1 : t.length = n) (h2 : d.length = n) : (List.range' 0 n).foldl (dAt t d) (0, 1) = totD (0, 1) (t.zip d) := by
 have e := rg_zip t d [] 0 id h1 h2
 rw [List.map_id] at e
 unfold totD
 rw [← e, List.foldl_map]
 rfl
structure TG (t : Tb) : Prop where
 l : t.length ≤ 6
 r : ∀ r ∈ t, r.length = t.length
 g : ∀ r ∈ t, ∀ x ∈ r, GN x
theorem TG.gt {t : Tb} (h : TG t) : GT t := ⟨h.l, h.r, fun r hr x hx => by
 have g := h.g r hr x hx
 exact ⟨g.f.pos, g.t.mono (by decide), g.b.mono (by decide)⟩⟩
noncomputable def m__law_due (K : PySem.W.Frag) (c : Cls) : List L → Res L := mOf eT TG fun t => .ok (.p (bestT t))
noncomputable def f__law_due_b1 (K : PySem.W.Frag) (c : Cls) : MS := (mSet 5 (mCall 2 (m__law_sum K c) (mCons (mVar 5) (mCons (mBin ixE (mBin ixE (mVar 0) (mVar 6)) (mBin ixE (mVar 4) (mVar 6))) mNil))))
noncomputable def f__law_due_b2 (K : PySem.W.Frag) (c : Cls) : MS := (mSeq (mSet 5 (mCallB tupR' (mCons (mC (.int 0)) (mCons (mC (.int 1)) mNil)))) (mSeq (mFor (mItA rng1R (mCons (mCallB lenE (mCons (mVar 0) mNil)) mNil)) (mgName 6) (f__law_due_b1 K c)) (mSeq (mIfS (mOr (mTru (mUn (isnE false) (mVar 1))) (mTru (mCall 2 (m__law_before K c) (mCons (mVar 1) (mCons (mVar 5) mNil))))) (mSeq (mSet 1 (mVar 5)) (mSeq (mSet 2 (mC (.int 0))) (mSet 3 (mVar 4)))) mNext) (mIfS (mTru (mBin (eqE false) (mVar 5) (mVar 1))) (mAug 2 (mC (.int 1))) mNext))))
noncomputable def f__law_due (K : PySem.W.Frag) (c : Cls) : MS := (mSeq (mSet 1 (mC (.none))) (mSeq (mSet 2 (mC (.int 0))) (mSeq (mSet 3 (mCallB lstR' mNil)) (mSeq (mFor (mItL (mCall 1 (m__law_orders K c) (mCons (mCallB lenE (mCons (mVar 0) mNil)) mNil))) (mgName 4) (f__law_due_b2 K c)) (mRet (mCallB tupR' (mCons (mVar 1) (mCons (mVar 2) (mCons (mVar 3) mNil)))))))))
theorem du_in (K : PySem.W.Frag) (c : Cls) {t : Tb} {n : Nat} (ht : TG t) (hn : t.length = n) {d : List Int} (hd : d ∈ deal n) (a1 a2 a3 : Option L) : ∀ (m j : Nat) (w : Int × Int) (r6 : Option L), j + m = n → Good (2 + 81 * j) w → ∃ q6, mLoop (mgName 6) (f__law_due_b1 K c) (rgD j m) [some (.p (tbD t)), a1, a2, a3, some (.p (dD d)), some (.p (frD w)), r6] = some (.nx [some (.p (tbD t)), a1, a2, a3, some (.p (dD d)), some (.p (frD ((List.range' j m).foldl (dAt t d) w))), q6])
 | 0, j, w, r6, _, _ => ⟨r6, rfl⟩
 | m + 1, j, w, r6, hj, gw => by
  obtain ⟨d1, _, d3⟩ := (mem_deal n d).mp hd
  have l6 := ht.l
  have jt : j < t.length := by omega
  have jd : j < d.length := by omega
  have mr := getD_in jt []
  have lr := ht.r _ mr
  have ha := d3 _ (getD_in jd 0)
  have hk : (d.getD j 0).toNat < (t.getD j []).length := by omega
  have gx := (ht.g _ mr _ (getD_in hk (0, 1))).good
  have i1 := ix_tb jt
  have i2 : ixE (.p (dD d)) (.p (.int (j : Int))) = .ok (.p (.int (d.getD j 0))) := by
   have := ix_ints (r := d) (x := (j : Int)) (by omega) (by omega)
   rw [Int.toNat_natCast] at this
   exact this
  have i3 := ix_rw hk (0, 1)
  rw [Int.toNat_of_nonneg ha.1] at i3
  have ls := lsum_ok K c gw gx (by omega) (by omega)
  have hb : f__law_due_b1 K c [some (.p (tbD t)), a1, a2, a3, some (.p (dD d)), some (.p (frD w)), some (.p (.int (j : Int)))] = some (.nx [some (.p (tbD t)), a1, a2, a3, some (.p (dD d)), some (.p (frD (dAt t d w j))), some (.p (.int (j : Int)))]) := by
   unfold f__law_due_b1
   refine set_p ?_
   simp only [mBin, mVar, mCall, mCons, mNil, callR, argsL, argL, retE, List.getElem?_cons_zero, List.getElem?_cons_succ, List.set_cons_zero, List.set_cons_succ, List.length_cons, List.length_nil, List.length_map, List.length_append, if_true, if_false, ite_true, ite_false, decide_true, decide_false, Bool.false_eq_true, Nat.zero_add, Nat.reduceAdd, Nat.reduceEqDiff, Nat.reduceLeDiff, reduceIte, List.map_append, List.map_cons, List.map_nil, Res.bind, Ev.c, i1, i2, i3, ls]
   rfl
  obtain ⟨q6, ih⟩ := du_in K c ht hn hd a1 a2 a3 m (j + 1) (dAt t d w j) (some (.p (.int (j : Int)))) (by omega) ((good_P gw gx).mono (by omega))
  refine ⟨q6, ?_⟩
  rw [rgD_succ, lp_nx rfl hb]
  exact ih
abbrev tO (t : Tb) (d : List Int) : Int × Int := totD (0, 1) (t.zip d)
theorem du_pre (K : PySem.W.Frag) (c : Cls) {t : Tb} {n : Nat} (ht : TG t) (hn : t.length = n) {d : List Int} (hd : d ∈ deal n) (a1 a2 a3 r5 r6 : Option L) (g : MS) : ∃ q6, (mSeq (mSet 5 (mCallB tupR' (mCons (mC (.int 0)) (mCons (mC (.int 1)) mNil)))) (mSeq (mFor (mItA rng1R (mCons (mCallB lenE (mCons (mVar 0) mNil)) mNil)) (mgName 6) (f__law_due_b1 K c)) g)) [some (.p (tbD t)), a1, a2, a3, some (.p (dD d)), r5, r6] = g [some (.p (tbD t)), a1, a2, a3, some (.p (dD d)), some (.p (frD (tO t d))), q6] := by
 have l6 := ht.l
 obtain ⟨d1, _, _⟩ := (mem_deal n d).mp hd
 obtain ⟨q6, hi⟩ := du_in K c ht hn hd a1 a2 a3 n 0 (0, 1) r6 (by omega) ⟨Int.le_refl 1, by unfold Sz; decide, by unfold Sz; decide⟩
 rw [dAt_eq hn d1] at hi
 refine ⟨q6, ?_⟩
 refine (seq_nx (set_p (d := frD (0, 1)) rfl)).trans ?_
 simp only [List.set_cons_succ, List.set_cons_zero]
 have hlen : lenE [.p (tbD t)] = .ok (.p (.int (n : Nat))) := by rw [← hn]; simp [lenE, seqOf, tbD]
 have hit : (mItA rng1R (mCons (mCallB lenE (mCons (mVar 0) mNil)) mNil)) [some (.p (tbD t)), a1, a2, a3, some (.p (dD d)), some (.p (frD (0, 1))), r6] = .ok ((cols n).map .int) := by
  rw [← rng_cols]
  exact ita1 (a := .int (n : Int)) (by simp only [mCallB, mCons, mNil, mVar, List.getElem?_cons_zero, List.getElem?_cons_succ, List.set_cons_zero, List.set_cons_succ, List.length_cons, List.length_nil, List.length_map, List.length_append, if_true, if_false, ite_true, ite_false, decide_true, decide_false, Bool.false_eq_true, Nat.zero_add, Nat.reduceAdd, Nat.reduceEqDiff, Nat.reduceLeDiff, reduceIte, List.map_append, List.map_cons, List.map_nil, Res.bind, Ev.c, hlen]) (rng1_lit n (by omega))
 rw [rg_cols] at hit
 exact seq_nx ((for_l hit).trans hi)
theorem du_new (K : PySem.W.Frag) (c : Cls) {t : Tb} {n : Nat} (ht : TG t) (hn : t.length = n) {d : List Int} (hd : d ∈ deal n) (hz : FSz 2000 (tO t d)) {w1 : D} (hw : w1 = .none ∨ ∃ x, w1 = frD x ∧ FSz 2000 x ∧ ltF x (tO t d) = true) (k : Int) (a3 r5 r6 : Option L) : ∃ q6, f__law_due_b2 K c [some (.p (tbD t)), some (.p w1), some (.p (.int k)), a3, some (.p (dD d)), r5, r6] = some (.nx [some (.p (tbD t)), some (.p (frD (tO t d))), some (.p (.int 1)), some (.p (dD d)), some (.p (dD d)), some (.p (frD (tO t d))), q6]) := by
 obtain ⟨q6, hp⟩ := du_pre K c ht hn hd (some (.p w1)) (some (.p (.int k))) a3 r5 r6 _
 refine ⟨q6, ?_⟩
 unfold f__law_due_b2
 refine hp.trans ?_
 have t1 : (mOr (mTru (mUn (isnE false) (mVar 1))) (mTru (mCall 2 (m__law_before K c) (mCons (mVar 1) (mCons (mVar 5) mNil))))) [some (.p (tbD t)), some (.p w1), some (.p (.int k)), a3, some (.p (dD d)), some (.p (frD (tO t d))), q6] = .ok true := by
  rcases hw with rfl | ⟨x, rfl, hx, hl⟩
  ·rfl
  ·have b := before_ok K c hx hz
   rw [hl] at b
   have t1 : mTru (mUn (isnE false) (mVar 1)) [some (.p (tbD t)), some (.p (frD x)), some (.p (.int k)), a3, some (.p (dD d)), some (.p (frD (tO t d))), q6] = .ok false := rfl
   have t2 : mTru (mCall 2 (m__law_before K c) (mCons (mVar 1) (mCons (mVar 5) mNil))) [some (.p (tbD t)), some (.p (frD x)), some (.p (.int k)), a3, some (.p (dD d)), some (.p (frD (tO t d))), q6] = .ok true := by
    simp only [mTru, mVar, mCall, mCons, mNil, callR, argsL, argL, retE, List.getElem?_cons_zero, List.getElem?_cons_succ, List.set_cons_zero, List.set_cons_succ, List.length_cons, List.length_nil, List.length_map, List.length_append, if_true, if_false, ite_true, ite_false, decide_true, decide_false, Bool.false_eq_true, Nat.zero_add, Nat.reduceAdd, Nat.reduceEqDiff, Nat.reduceLeDiff, reduceIte, List.map_append, List.map_cons, List.map_nil, Res.bind, Ev.c, b, truthR]
   unfold mOr
   rw [t1, bind_ok]
   exact t2
 have t2 : mTru (mBin (eqE false) (mVar 5) (mVar 1)) [some (.p (tbD t)), some (.p (frD (tO t d))), some (.p (.int 0)), some (.p (dD d)), some (.p (dD d)), some (.p (frD (tO t d))), q6] = .ok true := by
  have := eqE_same (x := .p (frD (tO t d))) (y := .p (frD (tO t d))) rfl rfl (sh_fr _) false
  simp only [mTru, mBin, mVar, List.getElem?_cons_zero, List.getElem?_cons_succ, List.set_cons_zero, List.set_cons_succ, List.length_cons, List.length_nil, List.length_map, List.length_append, if_true, if_false, ite_true, ite_false, decide_true, decide_false, Bool.false_eq_true, Nat.zero_add, Nat.reduceAdd, Nat.reduceEqDiff, Nat.reduceLeDiff, reduceIte, List.map_append, List.map_cons, List.map_nil, Res.bind, Ev.c, this, truthR]
  rfl
 refine (seq_nx ((if_t t1).trans ((seq_nx (set_p (d := frD (tO t d)) rfl)).trans ((seq_nx (set_p (d := .int 0) rfl)).trans (set_p (d := dD d) rfl))))).trans ?_
 exact (if_t t2).trans rfl
theorem du_old (K : PySem.W.Frag) (c : Cls) {t : Tb} {n : Nat} (ht : TG t) (hn : t.length = n) {d : List Int} (hd : d ∈ deal n) (hz : FSz 2000 (tO t d)) {x : Int × Int} (hx : FSz 2000 x) (hl : ltF x (tO t d) = false) (k : Int) (a3 r5 r6 : Option L) : ∃ q6, f__law_due_b2 K c [some (.p (tbD t)), some (.p (frD x)), some (.p (.int k)), a3, some (.p (dD d)), r5, r6] = some (.nx [some (.p (tbD t)), some (.p (frD x)), some (.p (.int (k + if tO t d = x then 1 else 0))), a3, some (.p (dD d)), some (.p (frD (tO t d))), q6]) := by
 obtain ⟨q6, hp⟩ := du_pre K c ht hn hd (some (.p (frD x))) (some (.p (.int k))) a3 r5 r6 _
 refine ⟨q6, ?_⟩
 unfold f__law_due_b2
 refine hp.trans ?_
 have b := before_ok K c hx hz
 rw [hl] at b
 have t1 : (mOr (mTru (mUn (isnE false) (mVar 1))) (mTru (mCall 2 (m__law_before K c) (mCons (mVar 1) (mCons (mVar 5) mNil))))) [some (.p (tbD t)), some (.p (frD x)), some (.p (.int k)), a3, some (.p (dD d)), some (.p (frD (tO t d))), q6] = .ok false := by
  have t1 : mTru (mUn (isnE false) (mVar 1)) [some (.p (tbD t)), some (.p (frD x)), some (.p (.int k)), a3, some (.p (dD d)), some (.p (frD (tO t d))), q6] = .ok false := rfl
  have t2 : mTru (mCall 2 (m__law_before K c) (mCons (mVar 1) (mCons (mVar 5) mNil))) [some (.p (tbD t)), some (.p (frD x)), some (.p (.int k)), a3, some (.p (dD d)), some (.p (frD (tO t d))), q6] = .ok false := by
   simp only [mTru, mVar, mCall, mCons, mNil, callR, argsL, argL, retE, List.getElem?_cons_zero, List.getElem?_cons_succ, List.set_cons_zero, List.set_cons_succ, List.length_cons, List.length_nil, List.length_map, List.length_append, if_true, if_false, ite_true, ite_false, decide_true, decide_false, Bool.false_eq_true, Nat.zero_add, Nat.reduceAdd, Nat.reduceEqDiff, Nat.reduceLeDiff, reduceIte, List.map_append, List.map_cons, List.map_nil, Res.bind, Ev.c, b, truthR]
  unfold mOr
  rw [t1, bind_ok]
  exact t2
 refine (seq_nx (if_f t1)).trans ?_
 have t2 : mTru (mBin (eqE false) (mVar 5) (mVar 1)) [some (.p (tbD t)), some (.p (frD x)), some (.p (.int k)), a3, some (.p (dD d)), some (.p (frD (tO t d))), q6] = .ok (decide (tO t d = x)) := by
  have := eq_fr (tO t d) x
  simp only [mTru, mBin, mVar, List.getElem?_cons_zero, List.getElem?_cons_succ, List.set_cons_zero, List.set_cons_succ, List.length_cons, List.length_nil, List.length_map, List.length_append, if_true, if_false, ite_true, ite_false, decide_true, decide_false, Bool.false_eq_true, Nat.zero_add, Nat.reduceAdd, Nat.reduceEqDiff, Nat.reduceLeDiff, reduceIte, List.map_append, List.map_cons, List.map_nil, Res.bind, Ev.c, this, truthR]
 by_cases z : tO t d = x
 ·rw [decide_eq_true z] at t2
  rw [if_pos z]
  exact (if_t t2).trans rfl
 ·rw [decide_eq_false z] at t2
  rw [if_neg z, Int.add_zero]
  exact (if_f t2).trans rfl
theorem tO_sp {t : Tb} (ht : TG t) {d : List Int} (hd : d ∈ deal t.length) : Gx (cb t.flatten) (tO t d) ∧ wt (cb t.flatten) (tO t d) = wo (t.map (whR (cb t.flatten))) d ∧ FSz 2000 (tO t d) := by
 obtain ⟨_, f1, _⟩ := ht.gt.cb
 obtain ⟨d1, _, d3⟩ := (mem_deal _ d).mp hd
 obtain ⟨a, b, g⟩ := totD_sp (F := cb t.flatten) t d (0, 1) 2 (fun r hr => ⟨fun a ha => by rw [ht.r r hr]; exact d3 a ha, fun x hx => ⟨ht.g r hr x hx, f1 x (List.mem_flatten.mpr ⟨r, hr, hx⟩)⟩⟩) ⟨⟨Int.le_refl 1, Int.gcd_one⟩, Int.one_dvd _⟩ ⟨Int.le_refl 1, by unfold Sz; decide, by unfold Sz; decide⟩
 refine ⟨a, ?_, (g.mono (n := 2000) (by have := ht.l; omega)).fsz⟩
 have w0 : wt (cb t.flatten) (0, 1) = 0 := by unfold wt; simp
 rw [b, w0, Int.zero_add]
theorem du_loop (K : PySem.W.Frag) (c : Cls) {t : Tb} (ht : TG t) : ∀ (ds ps : List (List Int)) (l : List Int) (k : Nat) (r4 r5 r6 : Option L), (∀ d ∈ ps ++ ds, d ∈ deal t.length) → Fst (wo (t.map (whR (cb t.flatten)))) ps l k → ∃ l' k' q4 q5 q6, Fst (wo (t.map (whR (cb t.flatten)))) (ps ++ ds) l' k' ∧ mLoop (mgName 4) (f__law_due_b2 K c) (ds.map dD) [some (.p (tbD t)), some (.p (frD (tO t l))), some (.p (.int (k : Int))), some (.p (dD l)), r4, r5, r6] = some (.nx [some (.p (tbD t)), some (.p (frD (tO t l'))), some (.p (.int (k' : Int))), some (.p (dD l')), q4, q5, q6])
 | [], ps, l, k, r4, r5, r6, _, sp => ⟨l, k, r4, r5, r6, by rw [List.append_nil]; exact sp, rfl⟩
 | d :: ds, ps, l, k, r4, r5, r6, hd, sp => by
  obtain ⟨f0, _, _⟩ := ht.gt.cb
  have dd := hd d (List.mem_append_right _ (.head _))
  have dl := hd l (List.mem_append_left _ sp.i)
  obtain ⟨x1, x2, x3⟩ := tO_sp ht dd
  obtain ⟨y1, y2, y3⟩ := tO_sp ht dl
  have lw := lt_wt f0 y1 x1
  have ew := eq_wt f0 x1 y1
  rw [x2, y2] at lw ew
  have hd' : ∀ e ∈ (ps ++ [d]) ++ ds, e ∈ deal t.length := fun e he => hd e (by rw [List.append_assoc] at he; exact he)
  by_cases z : wo (t.map (whR (cb t.flatten))) l < wo (t.map (whR (cb t.flatten))) d
  ·rw [decide_eq_true z] at lw
   obtain ⟨q6, hb⟩ := du_new K c ht rfl dd x3 (.inr ⟨_, rfl, y3, lw⟩) (k : Int) (some (.p (dD l))) r5 r6
   obtain ⟨l', k', q4, q5, q6', s, ih⟩ := du_loop K c ht ds (ps ++ [d]) d 1 (some (.p (dD d))) (some (.p (frD (tO t d)))) q6 hd' (sp.new z)
   rw [List.append_assoc] at s
   exact ⟨l', k', q4, q5, q6', s, by rw [List.map_cons, lp_nx rfl hb]; exact ih⟩
  ·rw [decide_eq_false z] at lw
   obtain ⟨q6, hb⟩ := du_old K c ht rfl dd x3 y3 lw (k : Int) (some (.p (dD l))) r5 r6
   obtain ⟨l', k', q4, q5, q6', s, ih⟩ := du_loop K c ht ds (ps ++ [d]) l _ (some (.p (dD d))) (some (.p (frD (tO t d)))) q6 hd' (sp.old (Int.not_lt.mp z))
   rw [List.append_assoc] at s
   refine ⟨l', k', q4, q5, q6', s, ?_⟩
   have ek : ((k + if wo (t.map (whR (cb t.flatten))) d = wo (t.map (whR (cb t.flatten))) l then 1 else 0 : Nat) : Int) = (k : Int) + if tO t d = tO t l then 1 else 0 := by
    by_cases y : tO t d = tO t l
    ·rw [if_pos y, if_pos (ew.mp y)]; rfl
    ·rw [if_neg y, if_neg (fun w => y (ew.mpr w))]; rfl
   rw [ek] at ih
   rw [List.map_cons, lp_nx rfl hb]
   exact ih
theorem due_data {t : Tb} (ht : TG t) {l : List Int} {k : Nat} (sp : Fst (wo (t.map (whR (cb t.flatten)))) (deal t.length) l k) : bestT t = .tuple [frD (tO t l), .int (k : Int), dD l] := by
 obtain ⟨f0, _, _⟩ := ht.gt.cb
 obtain ⟨x1, x2, _⟩ := tO_sp ht sp.i
 have ne : wsOf t ≠ [] := fun z => deal_ne t.length (List.map_eq_nil_iff.mp z)
 obtain ⟨m1, m2⟩ := mxw_spec ne
 have e : mxw (wsOf t) = wo (t.map (whR (cb t.flatten))) l := by
  obtain ⟨d, hd, q⟩ := List.mem_map.mp m1
  have a := sp.m d hd
  have b := m2 _ (List.mem_map.mpr ⟨l, sp.i, rfl⟩)
  omega
 unfold bestT
 rw [e, mk_wt f0 x1 x2]
 have k1 := sp.k
 have a1 := sp.a
 unfold wsOf
 rw [← k1, a1]
theorem eq__law_due (K : PySem.W.Frag) (c : Cls) : ∀ ls, m__law_due K c ls = .bad ∨ runF 7 (f__law_due K c) ls = m__law_due K c ls := mOf_eq fun t ht => by
 refine run_rt ?_
 rw [show startE 7 (eT t) = [some (.p (tbD t)), none, none, none, none, none, none] from rfl]
 unfold f__law_due
 refine (seq_nx (set_p (d := .none) rfl)).trans ((seq_nx (set_p (d := .int 0) rfl)).trans ((seq_nx (set_f (d := .list []) rfl)).trans ?_))
 simp only [List.set_cons_succ, List.set_cons_zero]
 have hlen : lenE [.p (tbD t)] = .ok (.p (.int (t.length : Nat))) := by simp [lenE, seqOf, tbD]
 have ho := orders_good K c ht.l
 have hit : (mItL (mCall 1 (m__law_orders K c) (mCons (mCallB lenE (mCons (mVar 0) mNil)) mNil))) [some (.p (tbD t)), some (.p .none), some (.p (.int 0)), some (.o (.list [])), none, none, none] = .ok ((deal t.length).map dD) := by
  simp only [mItL, mCall, mCallB, mCons, mNil, mVar, callR, argsL, argL, retE, List.getElem?_cons_zero, List.getElem?_cons_succ, List.set_cons_zero, List.set_cons_succ, List.length_cons, List.length_nil, List.length_map, List.length_append, if_true, if_false, ite_true, ite_false, decide_true, decide_false, Bool.false_eq_true, Nat.zero_add, Nat.reduceAdd, Nat.reduceEqDiff, Nat.reduceLeDiff, reduceIte, List.map_append, List.map_cons, List.map_nil, Res.bind, Ev.c, hlen, ho, listR]
 obtain ⟨l, k, q4, q5, q6, sp, hlp⟩ : ∃ l k q4 q5 q6, Fst (wo (t.map (whR (cb t.flatten)))) (deal t.length) l k ∧ mLoop (mgName 4) (f__law_due_b2 K c) ((deal t.length).map dD) [some (.p (tbD t)), some (.p .none), some (.p (.int 0)), some (.o (.list [])), none, none, none] = some (.nx [some (.p (tbD t)), some (.p (frD (tO t l))), some (.p (.int (k : Int))), some (.p (dD l)), q4, q5, q6]) := by
  cases e : deal t.length with
  | nil => exact absurd e (deal_ne _)
  | cons d ds =>
   have dm : ∀ x ∈ d :: ds, x ∈ deal t.length := fun x hx => by rw [e]; exact hx
   obtain ⟨_, _, x3⟩ := tO_sp ht (dm d (.head _))
   obtain ⟨q6, hb⟩ := du_new K c ht rfl (dm d (.head _)) x3 (w1 := .none) (.inl rfl) 0 (some (.o (.list []))) none none
   obtain ⟨l', k', q4, q5, q6', s, ih⟩ := du_loop K c ht ds [d] d 1 (some (.p (dD d))) (some (.p (frD (tO t d)))) q6 dm (Fst.one _ d)
   exact ⟨l', k', q4, q5, q6', s, by rw [List.map_cons, lp_nx rfl hb]; exact ih⟩
 refine (seq_nx ((for_l hit).trans hlp)).trans ?_
 rw [due_data ht sp]
 rfl
theorem due_good (K : PySem.W.Frag) (c : Cls) {t : Tb} (h : TG t) : m__law_due K c [.p (tbD t)] = .ok (.p (bestT t)) := mOf_at (a := t) eT_inj h
theorem can_d (d : List Int) : PyData.canLay0 (dD d) = true := by
 unfold dD
 rw [PyData.canLay0]
 exact can_all PyData.int (fun _ => rfl) d
theorem dep_d (d : List Int) : PyData.depth (dD d) ≤ 1 := by
 unfold dD
 rw [PyData.depth]
 have := dep_all PyData.int 0 (fun _ => Nat.le_refl _) d
 omega
theorem sh_best (x : Int × Int) (k : Int) (d : List Int) : SeqAt.shaped (.tuple [frD x, .int k, dD d]) = true := by
 have a := can_d d
 have b := dep_d d
 unfold SeqAt.shaped
 rw [Bool.and_eq_true, decide_eq_true_iff]
 constructor
 ·simp [PyData.canLay0, PyData.canLayAll0, frD, a]
 ·simp [PyData.depth, PyData.depthAll, frD]
  omega
noncomputable def f__law_is_e1 (K : PySem.W.Frag) (c : Cls) : En → Res Ev := (mVar 0)
noncomputable def f__law_is (K : PySem.W.Frag) (c : Cls) : MS := (mSeq (mIfS (mOr (mNot (mTru (mUn (isiE K (.type "tuple")) (mVar 0)))) (mOr (mTru (mBin (eqE true) (mCallB lenE (mCons (mVar 0) mNil)) (mC (.int 3)))) (mTru (mBin (eqE true) (mVar 0) (mVar 1))))) (mRet (mC (.bool false))) mNext) (mSeq (mIfS (mOr (mNot (mTru (mCall 1 (m__law_is_fraction K c) (mCons (mBin ixE (mVar 0) (mC (.int 0))) mNil)))) (mOr (mNot (mTru (mCall 1 (m__law_whole K c) (mCons (mBin ixE (mVar 0) (mC (.int 1))) mNil)))) (mNot (mTru (mUn (isiE K (.type "list")) (mBin ixE (mVar 0) (mC (.int 2)))))))) (mRet (mC (.bool false))) mNext) (mRet (mBin (eqE false) (mCallB lenE (mCons (mComp 1 [] (mItL (mBin ixE (mVar 0) (mC (.int 2)))) (mgName 0) (mNot (mTru (mCall 1 (m__law_whole K c) (mCons (mVar 0) mNil)))) (f__law_is_e1 K c)) mNil)) (mC (.int 0))))))
noncomputable def m__law_is (K : PySem.W.Frag) (c : Cls) (ls : List L) : Res L := runF 2 (f__law_is K c) ls
theorem eq__law_is (K : PySem.W.Frag) (c : Cls) : ∀ ls, m__law_is K c ls = .bad ∨ runF 2 (f__law_is K c) ls = m__law_is K c ls := fun _ => .inr rfl
theorem is_ok (K : PySem.W.Frag) (c : Cls) (hk : KitF K c) {x : Int × Int} (hx : FR.Fr x) (hz : Sz 8000 x.2) (k : Int) (d : List Int) (hd : d.length ≤ 1000) : m__law_is K c [.p (.tuple [frD x, .int k, dD d]), .p (.tuple [frD x, .int k, dD d])] = .ok (.p (.bool true)) := by
 unfold m__law_is
 refine run_rt ?_
 rw [show startE 2 [.p (.tuple [frD x, .int k, dD d]), .p (.tuple [frD x, .int k, dD d])] = [some (.p (.tuple [frD x, .int k, dD d])), some (.p (.tuple [frD x, .int k, dD d]))] from rfl]
 unfold f__law_is
 have ty : tyD (PyData.tuple [frD x, .int k, dD d]) = "tuple" := rfl
 have ln : lenE [.p (.tuple [frD x, .int k, dD d])] = .ok (.p (.int 3)) := rfl
 have l3 : eqE true (.p (.int 3)) (.p (.int 3)) = .ok (.p (.bool false)) := eqE_same rfl rfl (sh_int 3) true
 have ee : eqE true (.p (.tuple [frD x, .int k, dD d])) (.p (.tuple [frD x, .int k, dD d])) = .ok (.p (.bool false)) := eqE_same rfl rfl (sh_best x k d) true
 have x0 : ixE (.p (.tuple [frD x, .int k, dD d])) (.p (.int 0)) = .ok (.p (frD x)) := rfl
 have x1 : ixE (.p (.tuple [frD x, .int k, dD d])) (.p (.int 1)) = .ok (.p (.int k)) := rfl
 have x2 : ixE (.p (.tuple [frD x, .int k, dD d])) (.p (.int 2)) = .ok (.p (dD d)) := rfl
 have isf := isf_ok K c hx hz
 have wh := whole_ok K c
 have tl : tyD (dD d) = "list" := rfl
 have t1 : (mOr (mNot (mTru (mUn (isiE K (.type "tuple")) (mVar 0)))) (mOr (mTru (mBin (eqE true) (mCallB lenE (mCons (mVar 0) mNil)) (mC (.int 3)))) (mTru (mBin (eqE true) (mVar 0) (mVar 1))))) [some (.p (.tuple [frD x, .int k, dD d])), some (.p (.tuple [frD x, .int k, dD d]))] = .ok false := by
  simp only [mOr, mNot, mTru, mBin, mUn, mVar, mC, mCallB, mCons, mNil, List.getElem?_cons_zero, List.getElem?_cons_succ, List.set_cons_zero, List.set_cons_succ, List.length_cons, List.length_nil, List.length_map, List.length_append, if_true, if_false, ite_true, ite_false, decide_true, decide_false, Bool.false_eq_true, Nat.zero_add, Nat.reduceAdd, Nat.reduceEqDiff, Nat.reduceLeDiff, reduceIte, List.map_append, List.map_cons, List.map_nil, Res.bind, Ev.c, isiE, dat, ty, hk.tt, truthR, ln, l3, ee, Bool.not_true]
 refine (seq_nx (if_f t1)).trans ?_
 have t2 : (mOr (mNot (mTru (mCall 1 (m__law_is_fraction K c) (mCons (mBin ixE (mVar 0) (mC (.int 0))) mNil)))) (mOr (mNot (mTru (mCall 1 (m__law_whole K c) (mCons (mBin ixE (mVar 0) (mC (.int 1))) mNil)))) (mNot (mTru (mUn (isiE K (.type "list")) (mBin ixE (mVar 0) (mC (.int 2)))))))) [some (.p (.tuple [frD x, .int k, dD d])), some (.p (.tuple [frD x, .int k, dD d]))] = .ok false := by
  simp only [mOr, mNot, mTru, mBin, mUn, mVar, mC, mCall, mCons, mNil, callR, argsL, argL, retE, List.getElem?_cons_zero, List.getElem?_cons_succ, List.set_cons_zero, List.set_cons_succ, List.length_cons, List.length_nil, List.length_map, List.length_append, if_true, if_false, ite_true, ite_false, decide_true, decide_false, Bool.false_eq_true, Nat.zero_add, Nat.reduceAdd, Nat.reduceEqDiff, Nat.reduceLeDiff, reduceIte, List.map_append, List.map_cons, List.map_nil, Res.bind, Ev.c, x0, x1, x2, isf, wh, isiE, dat, tl, hk.ll, truthR, Bool.not_true]
 refine (seq_nx (if_f t2)).trans ?_
 have hit : (mItL (mBin ixE (mVar 0) (mC (.int 2)))) [some (.p (.tuple [frD x, .int k, dD d])), some (.p (.tuple [frD x, .int k, dD d]))] = .ok (d.map .int) := by
  simp only [mItL, mBin, mVar, mC, List.getElem?_cons_zero, List.getElem?_cons_succ, List.set_cons_zero, List.set_cons_succ, List.length_cons, List.length_nil, List.length_map, List.length_append, if_true, if_false, ite_true, ite_false, decide_true, decide_false, Bool.false_eq_true, Nat.zero_add, Nat.reduceAdd, Nat.reduceEqDiff, Nat.reduceLeDiff, reduceIte, List.map_append, List.map_cons, List.map_nil, Res.bind, Ev.c, x2]
  rfl
 have hm : mapO (compItem 1 [] (mgName 0) (mNot (mTru (mCall 1 (m__law_whole K c) (mCons (mVar 0) mNil)))) (f__law_is_e1 K c) [some (.p (.tuple [frD x, .int k, dD d])), some (.p (.tuple [frD x, .int k, dD d]))]) (d.map .int) = some ((d.filter fun _ => false).map .int) := by
  refine mapO_flt _ fun y _ => ?_
  have t : mNot (mTru (mCall 1 (m__law_whole K c) (mCons (mVar 0) mNil))) [some (.p (.int y))] = .ok false := by
   simp only [mNot, mTru, mVar, mCall, mCons, mNil, callR, argsL, argL, retE, List.getElem?_cons_zero, List.getElem?_cons_succ, List.set_cons_zero, List.set_cons_succ, List.length_cons, List.length_nil, List.length_map, List.length_append, if_true, if_false, ite_true, ite_false, decide_true, decide_false, Bool.false_eq_true, Nat.zero_add, Nat.reduceAdd, Nat.reduceEqDiff, Nat.reduceLeDiff, reduceIte, List.map_append, List.map_cons, List.map_nil, Res.bind, Ev.c, wh, truthR, Bool.not_true]
  unfold compItem
  simp only [mgName, capE, List.getElem?_cons_zero, List.getElem?_cons_succ, List.set_cons_zero, List.set_cons_succ, List.length_cons, List.length_nil, List.length_map, List.length_append, if_true, if_false, ite_true, ite_false, decide_true, decide_false, Bool.false_eq_true, Nat.zero_add, Nat.reduceAdd, Nat.reduceEqDiff, Nat.reduceLeDiff, reduceIte, List.map_append, List.map_cons, List.map_nil, List.replicate, List.append_nil, t]
 have hc := comp_l (n := 1) (js := []) hit (by rw [List.length_map]; omega) hm
 rw [show d.filter (fun _ => false) = [] from List.filter_eq_nil_iff.mpr fun _ _ z => Bool.noConfusion z] at hc
 refine ret_p ?_
 have l0 : lenE [.p (.list (([] : List Int).map .int))] = .ok (.p (.int 0)) := rfl
 have e0 : eqE false (.p (.int 0)) (.p (.int 0)) = .ok (.p (.bool true)) := eqE_same rfl rfl (sh_int 0) false
 simp only [mBin, mCallB, mCons, mNil, mC, hc, Res.bind, Ev.c, l0, e0]
theorem spoil_f {i k : Nat} {j : Int} {fe : En → Res Ev} {fc : En → Res Bool} {fA g : MS} {en : En} {dk : D} {ds : List D} (h1 : en[k]? = some (some (.o dk))) (h2 : fe (onlyK k dk en) = .ok (.p (.tuple ds))) (h3 : SpOk2 ds j dk) (h4 : fc ((en.set i (some (.p (.tuple ds)))).set k (some (.p dk))) = .ok false) : mSpoil i k j fe fc fA g en = g (en.set i none) := by
 unfold mSpoil
 rw [h1]
 dsimp only
 rw [h2]
 dsimp only
 rw [if_pos h3, h4]
noncomputable def f_law_e1 (K : PySem.W.Frag) (c : Cls) : En → Res Ev := (mCallB listE (mCons (mVar 0) mNil))
noncomputable def f_law_b2 (K : PySem.W.Frag) (c : Cls) : MS := (mSeq (mSet 7 (mBin addE (mBin mulE (mVar 2) (mVar 4)) (mVar 6))) (mAppend 5 (mCall 2 (m__law_number K c) (mCons (mBin addE (mCall 2 (m__law_cell_at K c) (mCons (mVar 0) (mCons (mBin addE (mC (.int 1)) (mVar 7)) mNil))) (mBin mulE (mC (.int 7368787)) (mVar 7))) (mCons (mC (.int 20)) mNil)))))
noncomputable def f_law_b3 (K : PySem.W.Frag) (c : Cls) : MS := (mSeq (mSet 5 (mCallB lstR' mNil)) (mSeq (mFor (mItA rng1R (mCons (mVar 2) mNil)) (mgName 6) (f_law_b2 K c)) (mSeq (mIfS (mAnd (mTru (mBin (eqE false) (mBin modE (mBin fdivE (mVar 1) (mC (.int 8))) (mC (.int 4))) (mC (.int 1)))) (mTru (mBin gtE (mVar 4) (mC (.int 0))))) (mSet 5 (mCallB listE (mCons (mBin ixE (mVar 3) (mC (.int 0))) mNil))) mNext) (fun en => (mAppend 3 (mVar 5)) (frz 5 en)))))
noncomputable def f_law (K : PySem.W.Frag) (c : Cls) : MS := (mSeq (mSet 1 (mBin modE (mCall 2 (m__law_cell_at K c) (mCons (mVar 0) (mCons (mC (.int 0)) mNil))) (mC (.int 1000003)))) (mSeq (mSet 2 (mBin ixE (mCallB tupR' (mCons (mC (.int 2)) (mCons (mC (.int 3)) (mCons (mC (.int 4)) (mCons (mC (.int 5)) (mCons (mC (.int 1)) (mCons (mC (.int 0)) (mCons (mC (.int 4)) (mCons (mC (.int 3)) mNil))))))))) (mBin modE (mVar 1) (mC (.int 8))))) (mSeq (mSet 3 (mCallB lstR' mNil)) (mSeq (mFor (mItA rng1R (mCons (mVar 2) mNil)) (mgName 4) (f_law_b3 K c)) (fun en => (mSeq (mSet 8 (mCall 1 (m__law_due K c) (mCons (mVar 3) mNil))) (mSeq (mSet 9 (mComp 1 [] (mItL (mVar 3)) (mgName 0) mYes (f_law_e1 K c))) (mSpoil 10 9 2 (mCall 1 (m_best K c) (mCons (mVar 9) mNil)) (mOr (mNot (mTru (mCall 2 (m__law_is K c) (mCons (mVar 10) (mCons (mVar 8) mNil))))) (mTru (mBin (eqE true) (mVar 9) (mVar 3)))) (mRet (mC (.bool false))) (fun en => (mRet (mCall 2 (m__law_is K c) (mCons (mCall 1 (m_best K c) (mCons (mVar 9) mNil)) (mCons (mVar 8) mNil)))) (frz 9 en))))) (frz 3 en))))))
noncomputable def m_law (K : PySem.W.Frag) (c : Cls) (ls : List L) : Res L := runF 11 (f_law K c) ls
theorem eq_law (K : PySem.W.Frag) (c : Cls) : ∀ ls, m_law K c ls = .bad ∨ runF 11 (f_law K c) ls = m_law K c ls := fun _ => .inr rfl
theorem lw_b2 (K : PySem.W.Frag) (c : Cls) (ns : List Int) (cell : Int) {n k x : Nat} (n6 : n ≤ 6) (hk : k < n) (hx : x < n) (Tb0 : Tb) {rs : List (Int × Int)} (hr : rs.length ≤ 100) (r7 : Option L) : ∃ (e : Int × Int) (q7 : Option L), GN e ∧ f_law_b2 K c [some (.p (.list (ns.map .int))), some (.p (.int cell)), some (.p (.int (n : Int))), some (.o (.list (Tb0.map rwF))), some (.p (.int (k : Int))), some (.o (.list (rs.map frD))), some (.p (.int (x : Int))), r7, none, none, none] = some (.nx [some (.p (.list (ns.map .int))), some (.p (.int cell)), some (.p (.int (n : Int))), some (.o (.list (Tb0.map rwF))), some (.p (.int (k : Int))), some (.o (.list ((rs ++ [e]).map frD))), some (.p (.int (x : Int))), q7, none, none, none]) := by
 have hc : m__law_cell_at K c [.p (.list (ns.map .int)), .p (.int (1 + ((n : Int) * (k : Int) + (x : Int))))] = .ok (.p (.int (ns.getD (1 + (n * k + x)) 0))) := by
  have := cell_ok K c ns (1 + (n * k + x))
  rw [Int.natCast_add, Int.natCast_add, Int.natCast_mul] at this
  exact this
 generalize ns.getD (1 + (n * k + x)) 0 = cl at hc
 have hz : (n : Int) * (k : Int) ≤ 36 ∧ 0 ≤ (n : Int) * (k : Int) := by
  have := Nat.mul_le_mul n6 (show k ≤ 6 by omega)
  rw [← Int.natCast_mul]
  omega
 have q1 : CMulW (n : Int) (k : Int) := ⟨(show Sz 20 (n : Int) by unfold Sz; omega).mono (by decide), (show Sz 20 (k : Int) by unfold Sz; omega).mono (by decide)⟩
 have q2 : CMulW 7368787 ((n : Int) * (k : Int) + (x : Int)) := ⟨(show Sz 30 (7368787 : Int) by unfold Sz; decide).mono (by decide), (show Sz 20 ((n : Int) * (k : Int) + (x : Int)) by unfold Sz; omega).mono (by decide)⟩
 obtain ⟨e, ge, he⟩ := number_ok K c (cl + 7368787 * ((n : Int) * (k : Int) + (x : Int))) (k := 20) (by decide) (by decide)
 have s7 : (mBin addE (mBin mulE (mVar 2) (mVar 4)) (mVar 6)) [some (.p (.list (ns.map .int))), some (.p (.int cell)), some (.p (.int (n : Int))), some (.o (.list (Tb0.map rwF))), some (.p (.int (k : Int))), some (.o (.list (rs.map frD))), some (.p (.int (x : Int))), r7, none, none, none] = .ok (.p (.int ((n : Int) * (k : Int) + (x : Int)))) := by
  simp (disch := assumption) only [mSeq, mSet, mRet, mIfS, mVar, mC, mBin, mUn, mCons, mNil, mCall, callR, argsL, argL, argB, Res.bind, Ev.c, retL, retE, mCallB, tupR', lstR', pureL, mTru, truthR, mAnd, mOr, mNot, mAndV, mOrV, mNotV, mRaise, mNext, addE, intE0, negE, lstOf, dat, lenE, eqE, sh_int, eqv_ii, ix_pl2, ix_pl0, ix_pl1, ix_fr0, ix_fr1, ix_t0, ix_t1, ix_t2, mul_ok, fdiv_ok, mod_ok, pow_ok, List.getElem?_cons_zero, List.getElem?_cons_succ, List.set_cons_zero, List.set_cons_succ, List.length_cons, List.length_nil, List.length_map, List.length_append, if_true, if_false, ite_true, ite_false, decide_true, decide_false, Bool.false_eq_true, Nat.zero_add, Nat.reduceAdd, Nat.reduceEqDiff, Nat.reduceLeDiff, reduceIte, List.map_append, List.map_cons, List.map_nil]
 have a : (mCall 2 (m__law_number K c) (mCons (mBin addE (mCall 2 (m__law_cell_at K c) (mCons (mVar 0) (mCons (mBin addE (mC (.int 1)) (mVar 7)) mNil))) (mBin mulE (mC (.int 7368787)) (mVar 7))) (mCons (mC (.int 20)) mNil))) [some (.p (.list (ns.map .int))), some (.p (.int cell)), some (.p (.int (n : Int))), some (.o (.list (Tb0.map rwF))), some (.p (.int (k : Int))), some (.o (.list (rs.map frD))), some (.p (.int (x : Int))), some (.p (.int ((n : Int) * (k : Int) + (x : Int)))), none, none, none] = .ok (.p (frD e)) := by
  simp (disch := assumption) only [mSeq, mSet, mRet, mIfS, mVar, mC, mBin, mUn, mCons, mNil, mCall, callR, argsL, argL, argB, Res.bind, Ev.c, retL, retE, mCallB, tupR', lstR', pureL, mTru, truthR, mAnd, mOr, mNot, mAndV, mOrV, mNotV, mRaise, mNext, addE, intE0, negE, lstOf, dat, lenE, eqE, sh_int, eqv_ii, ix_pl2, ix_pl0, ix_pl1, ix_fr0, ix_fr1, ix_t0, ix_t1, ix_t2, mul_ok, fdiv_ok, mod_ok, pow_ok, List.getElem?_cons_zero, List.getElem?_cons_succ, List.set_cons_zero, List.set_cons_succ, List.length_cons, List.length_nil, List.length_map, List.length_append, if_true, if_false, ite_true, ite_false, decide_true, decide_false, Bool.false_eq_true, Nat.zero_add, Nat.reduceAdd, Nat.reduceEqDiff, Nat.reduceLeDiff, reduceIte, List.map_append, List.map_cons, List.map_nil, hc, he]
 refine ⟨e, some (.p (.int ((n : Int) * (k : Int) + (x : Int)))), ge, ?_⟩
 unfold f_law_b2
 refine (seq_nx (set_p s7)).trans ?_
 simp only [List.set_cons_succ, List.set_cons_zero]
 rw [app_nx (i := 5) (ds := rs.map frD) rfl (.inr a) (by rw [List.length_map]; omega), List.map_append]
 rfl
theorem lw_in (K : PySem.W.Frag) (c : Cls) (ns : List Int) (cell : Int) {n k : Nat} (n6 : n ≤ 6) (hk : k < n) (Tb0 : Tb) : ∀ (m j : Nat) (rs : List (Int × Int)) (r6 r7 : Option L), j + m = n → rs.length = j → (∀ y ∈ rs, GN y) → ∃ (rs' : List (Int × Int)) (q6 q7 : Option L), rs'.length = n ∧ (∀ y ∈ rs', GN y) ∧ mLoop (mgName 6) (f_law_b2 K c) (rgD j m) [some (.p (.list (ns.map .int))), some (.p (.int cell)), some (.p (.int (n : Int))), some (.o (.list (Tb0.map rwF))), some (.p (.int (k : Int))), some (.o (.list (rs.map frD))), r6, r7, none, none, none] = some (.nx [some (.p (.list (ns.map .int))), some (.p (.int cell)), some (.p (.int (n : Int))), some (.o (.list (Tb0.map rwF))), some (.p (.int (k : Int))), some (.o (.list (rs'.map frD))), q6, q7, none, none, none])
 | 0, j, rs, r6, r7, hj, h1, h2 => ⟨rs, r6, r7, by omega, h2, rfl⟩
 | m + 1, j, rs, r6, r7, hj, h1, h2 => by
  obtain ⟨e, q7, ge, hb⟩ := lw_b2 K c ns cell n6 hk (x := j) (by omega) Tb0 (rs := rs) (by omega) r7
  obtain ⟨rs', q6, q7', g1, g2, ih⟩ := lw_in K c ns cell n6 hk Tb0 m (j + 1) (rs ++ [e]) (some (.p (.int (j : Int)))) q7 (by omega) (by rw [List.length_append]; simp; omega) (fun y hy => by
   rcases List.mem_append.mp hy with z | z
   ·exact h2 y z
   ·rw [List.mem_singleton.mp z]; exact ge)
  refine ⟨rs', q6, q7', g1, g2, ?_⟩
  rw [rgD_succ, lp_nx rfl hb]
  exact ih
theorem lw_b3 (K : PySem.W.Frag) (c : Cls) (ns : List Int) {cell : Int} (hcz : 0 ≤ cell ∧ cell < 1000003) {n k : Nat} (n6 : n ≤ 6) (hk : k < n) {Tb0 : Tb} (ht : Tb0.length = k) (hg : ∀ l ∈ Tb0, l.length = n ∧ ∀ y ∈ l, GN y) (r5 r6 r7 : Option L) : ∃ (rs : List (Int × Int)) (q6 q7 : Option L), (rs.length = n ∧ ∀ y ∈ rs, GN y) ∧ f_law_b3 K c [some (.p (.list (ns.map .int))), some (.p (.int cell)), some (.p (.int (n : Int))), some (.o (.list (Tb0.map rwF))), some (.p (.int (k : Int))), r5, r6, r7, none, none, none] = some (.nx [some (.p (.list (ns.map .int))), some (.p (.int cell)), some (.p (.int (n : Int))), some (.o (.list ((Tb0 ++ [rs]).map rwF))), some (.p (.int (k : Int))), some (.p (rwF rs)), q6, q7, none, none, none]) := by
 obtain ⟨rs, q6, q7, g1, g2, hi⟩ := lw_in K c ns cell n6 hk Tb0 n 0 [] r6 r7 (by omega) rfl (fun _ h => nomatch h)
 have hit := rng_v (i := 2) (en := [some (.p (.list (ns.map .int))), some (.p (.int cell)), some (.p (.int (n : Int))), some (.o (.list (Tb0.map rwF))), some (.p (.int (k : Int))), some (.o (.list [])), r6, r7, none, none, none]) (n := n) (by omega) rfl
 rw [rg_cols] at hit
 have q8 : CDivW cell 8 := ⟨by decide, (show Sz 30 (8 : Int) by unfold Sz; decide).mono (by decide)⟩
 have d4 : (4 : Int) ≠ 0 := by decide
 have fin : ∀ ss : List (Int × Int), mAppend 3 (mVar 5) [some (.p (.list (ns.map .int))), some (.p (.int cell)), some (.p (.int (n : Int))), some (.o (.list (Tb0.map rwF))), some (.p (.int (k : Int))), some (.p (rwF ss)), q6, q7, none, none, none] = some (.nx [some (.p (.list (ns.map .int))), some (.p (.int cell)), some (.p (.int (n : Int))), some (.o (.list ((Tb0 ++ [ss]).map rwF))), some (.p (.int (k : Int))), some (.p (rwF ss)), q6, q7, none, none, none]) := fun ss => by
  rw [app_nx (i := 3) (ds := Tb0.map rwF) (d := rwF ss) rfl (.inr rfl) (by rw [List.length_map]; omega), List.map_append]
  rfl
 have t1 : (mTru (mBin (eqE false) (mBin modE (mBin fdivE (mVar 1) (mC (.int 8))) (mC (.int 4))) (mC (.int 1)))) [some (.p (.list (ns.map .int))), some (.p (.int cell)), some (.p (.int (n : Int))), some (.o (.list (Tb0.map rwF))), some (.p (.int (k : Int))), some (.o (.list (rs.map frD))), q6, q7, none, none, none] = .ok ((cell.fdiv 8).fmod 4 == 1) := by
  simp (disch := assumption) only [mTru, mBin, mVar, mC, List.getElem?_cons_zero, List.getElem?_cons_succ, List.set_cons_zero, List.set_cons_succ, List.length_cons, List.length_nil, List.length_map, List.length_append, if_true, if_false, ite_true, ite_false, decide_true, decide_false, Bool.false_eq_true, Nat.zero_add, Nat.reduceAdd, Nat.reduceEqDiff, Nat.reduceLeDiff, reduceIte, List.map_append, List.map_cons, List.map_nil, Res.bind, Ev.c, fdiv_ok, mod_ok, eq_ints, truthR]
 have t2 : (mTru (mBin gtE (mVar 4) (mC (.int 0)))) [some (.p (.list (ns.map .int))), some (.p (.int cell)), some (.p (.int (n : Int))), some (.o (.list (Tb0.map rwF))), some (.p (.int (k : Int))), some (.o (.list (rs.map frD))), q6, q7, none, none, none] = .ok (decide (0 < (k : Int))) := by
  simp only [mTru, mBin, mVar, mC, List.getElem?_cons_zero, List.getElem?_cons_succ, List.set_cons_zero, List.set_cons_succ, List.length_cons, List.length_nil, List.length_map, List.length_append, if_true, if_false, ite_true, ite_false, decide_true, decide_false, Bool.false_eq_true, Nat.zero_add, Nat.reduceAdd, Nat.reduceEqDiff, Nat.reduceLeDiff, reduceIte, List.map_append, List.map_cons, List.map_nil, Res.bind, Ev.c, intE0, truthR]
 have t : (mAnd (mTru (mBin (eqE false) (mBin modE (mBin fdivE (mVar 1) (mC (.int 8))) (mC (.int 4))) (mC (.int 1)))) (mTru (mBin gtE (mVar 4) (mC (.int 0))))) [some (.p (.list (ns.map .int))), some (.p (.int cell)), some (.p (.int (n : Int))), some (.o (.list (Tb0.map rwF))), some (.p (.int (k : Int))), some (.o (.list (rs.map frD))), q6, q7, none, none, none] = .ok (((cell.fdiv 8).fmod 4 == 1) && decide (0 < (k : Int))) := by
  unfold mAnd
  rw [t1, bind_ok]
  cases ((cell.fdiv 8).fmod 4 == 1)
  ·rfl
  ·exact t2
 unfold f_law_b3
 by_cases z : ((cell.fdiv 8).fmod 4 == 1) && decide (0 < (k : Int))
 ·rw [z] at t
  rw [Bool.and_eq_true, decide_eq_true_iff] at z
  have k0 : 0 < Tb0.length := by omega
  have m0 := getD_in k0 []
  refine ⟨Tb0.getD 0 [], q6, q7, hg _ m0, ?_⟩
  have i0 : ixE (.b (.list (Tb0.map rwF))) (.p (.int 0)) = .ok (.p (rwF (Tb0.getD 0 []))) := by
   have := at_map rwF Tb0 [] k0
   have this : atI (Tb0.map rwF) 0 = _ := this
   simp only [ixE, seqOf, this]
  have e5 : (mCallB listE (mCons (mBin ixE (mVar 3) (mC (.int 0))) mNil)) [some (.p (.list (ns.map .int))), some (.p (.int cell)), some (.p (.int (n : Int))), some (.o (.list (Tb0.map rwF))), some (.p (.int (k : Int))), some (.o (.list (rs.map frD))), q6, q7, none, none, none] = .ok (.f (rwF (Tb0.getD 0 []))) := by
   simp only [mCallB, mCons, mNil, mBin, mVar, mC, List.getElem?_cons_zero, List.getElem?_cons_succ, List.set_cons_zero, List.set_cons_succ, List.length_cons, List.length_nil, List.length_map, List.length_append, if_true, if_false, ite_true, ite_false, decide_true, decide_false, Bool.false_eq_true, Nat.zero_add, Nat.reduceAdd, Nat.reduceEqDiff, Nat.reduceLeDiff, reduceIte, List.map_append, List.map_cons, List.map_nil, Res.bind, Ev.c, i0]
   rfl
  refine (seq_nx (set_f (d := .list []) rfl)).trans ?_
  simp only [List.set_cons_succ, List.set_cons_zero]
  refine (seq_nx ((for_l hit).trans hi)).trans ((seq_nx ((if_t t).trans (set_f e5))).trans ?_)
  exact fin _
 ·rw [Bool.eq_false_iff.mpr z] at t
  refine ⟨rs, q6, q7, ⟨g1, g2⟩, ?_⟩
  refine (seq_nx (set_f (d := .list []) rfl)).trans ?_
  simp only [List.set_cons_succ, List.set_cons_zero]
  refine (seq_nx ((for_l hit).trans hi)).trans ((seq_nx (if_f t)).trans ?_)
  exact fin _
theorem lw_out (K : PySem.W.Frag) (c : Cls) (ns : List Int) {cell : Int} (hcz : 0 ≤ cell ∧ cell < 1000003) {n : Nat} (n6 : n ≤ 6) : ∀ (m j : Nat) (Tb0 : Tb) (r4 r5 r6 r7 : Option L), j + m = n → Tb0.length = j → (∀ l ∈ Tb0, l.length = n ∧ ∀ y ∈ l, GN y) → ∃ (t : Tb) (q4 q5 q6 q7 : Option L), t.length = n ∧ (∀ l ∈ t, l.length = n ∧ ∀ y ∈ l, GN y) ∧ mLoop (mgName 4) (f_law_b3 K c) (rgD j m) [some (.p (.list (ns.map .int))), some (.p (.int cell)), some (.p (.int (n : Int))), some (.o (.list (Tb0.map rwF))), r4, r5, r6, r7, none, none, none] = some (.nx [some (.p (.list (ns.map .int))), some (.p (.int cell)), some (.p (.int (n : Int))), some (.o (.list (t.map rwF))), q4, q5, q6, q7, none, none, none])
 | 0, j, Tb0, r4, r5, r6, r7, hj, h1, h2 => ⟨Tb0, r4, r5, r6, r7, by omega, h2, rfl⟩
 | m + 1, j, Tb0, r4, r5, r6, r7, hj, h1, h2 => by
  obtain ⟨rs, q6, q7, g1, hb⟩ := lw_b3 K c ns hcz n6 (k := j) (by omega) h1 h2 r5 r6 r7
  obtain ⟨t, q4, q5, q6', q7', k1, k2, ih⟩ := lw_out K c ns hcz n6 m (j + 1) (Tb0 ++ [rs]) (some (.p (.int (j : Int)))) (some (.p (rwF rs))) q6 q7 (by omega) (by rw [List.length_append]; simp; omega) (fun l hl => by
   rcases List.mem_append.mp hl with z | z
   ·exact h2 l z
   ·rw [List.mem_singleton.mp z]; exact g1)
  refine ⟨t, q4, q5, q6', q7', k1, k2, ?_⟩
  rw [rgD_succ, lp_nx rfl hb]
  exact ih
theorem unl_cons (l : List Int) (es : List D) (hl : l ≠ []) (he : es.length = l.length) (h : ∀ d ∈ es, ∀ j, d ≠ .int j) : Unl (l.map .int) es := by
 cases l with
 | nil => exact absurd rfl hl
 | cons i l =>
  cases es with
  | nil => simp at he
  | cons d es => exact .inr ⟨i, l.map .int, d, es, rfl, rfl, h d (.head _)⟩
theorem sp_ok {t : Tb} (ht : TG t) {l : List Int} (hl : l.length = t.length) : SpOk (l.map .int) (tbD t) := by
 refine ⟨t.map rwF, rfl, ?_, fun r hr => ?_⟩
 ·by_cases z : l = []
  ·exact .inl (by rw [z]; rfl)
  ·refine .inr (unl_cons l _ z (by rw [List.length_map, hl]) fun d hd j e => ?_)
   obtain ⟨r, _, rfl⟩ := List.mem_map.mp hd
   unfold rwF at e
   cases e
 ·obtain ⟨r0, h0, rfl⟩ := List.mem_map.mp hr
  have lr := ht.r r0 h0
  have tp := List.length_pos_of_mem h0
  refine .inr ⟨r0.map frD, rfl, unl_cons l _ (fun z => by rw [z] at hl; simp at hl; omega) (by rw [List.length_map, lr, hl]) fun d hd j e => ?_, lfA_map frD lf_fr r0⟩
  obtain ⟨x, _, rfl⟩ := List.mem_map.mp hd
  unfold frD at e
  cases e
theorem can_rw (r : List (Int × Int)) : PyData.canLay0 (rwF r) = true := by
 unfold rwF
 rw [PyData.canLay0]
 exact can_all frD (fun x => by simp [frD, PyData.canLay0, PyData.canLayAll0]) r
theorem dep_rw (r : List (Int × Int)) : PyData.depth (rwF r) ≤ 9 := by
 unfold rwF
 rw [PyData.depth]
 have := dep_all frD 5 (fun x => by simp [frD, PyData.depth, PyData.depthAll]) r
 omega
theorem sh_tb (t : Tb) : SeqAt.shaped (tbD t) = true := sh_list rwF can_rw dep_rw t
theorem hd_cm (K : PySem.W.Frag) (c : Cls) (t : Tb) (en : En) : mapO (compItem 1 [] (mgName 0) mYes (f_law_e1 K c) en) (t.map rwF) = some (t.map rwF) := mapO_map _ fun x _ => rfl
theorem law_ok (K : PySem.W.Frag) (c : Cls) (hk : KitF K c) (ns : List Int) (hn : ns.length ≤ 63) : m_law K c [.p (.list (ns.map .int))] = .ok (.p (.bool true)) := by
 have c0 : m__law_cell_at K c [.p (.list (ns.map .int)), .p (.int 0)] = _ := cell_ok K c ns 0
 generalize ns.getD 0 0 = v0 at c0
 have d3 : (1000003 : Int) ≠ 0 := by decide
 have d8 : (8 : Int) ≠ 0 := by decide
 have hcz := fmod_pos (a := v0) (b := 1000003) (by decide)
 show runF 11 (f_law K c) [.p (.list (ns.map .int))] = _
 refine run_rt ?_
 rw [show startE 11 [.p (.list (ns.map .int))] = [some (.p (.list (ns.map .int))), none, none, none, none, none, none, none, none, none, none] from rfl]
 unfold f_law
 have e0 : (mBin modE (mCall 2 (m__law_cell_at K c) (mCons (mVar 0) (mCons (mC (.int 0)) mNil))) (mC (.int 1000003))) [some (.p (.list (ns.map .int))), none, none, none, none, none, none, none, none, none, none] = .ok (.p (.int (v0.fmod 1000003))) := by
  simp (disch := assumption) only [mBin, mVar, mC, mCall, mCons, mNil, callR, argsL, argL, retE, List.getElem?_cons_zero, List.getElem?_cons_succ, List.set_cons_zero, List.set_cons_succ, List.length_cons, List.length_nil, List.length_map, List.length_append, if_true, if_false, ite_true, ite_false, decide_true, decide_false, Bool.false_eq_true, Nat.zero_add, Nat.reduceAdd, Nat.reduceEqDiff, Nat.reduceLeDiff, reduceIte, List.map_append, List.map_cons, List.map_nil, Res.bind, Ev.c, c0, mod_ok]
 refine (seq_nx (set_p e0)).trans ?_
 simp only [List.set_cons_succ, List.set_cons_zero]
 generalize v0.fmod 1000003 = cell at hcz ⊢
 obtain ⟨n, n6, hsz⟩ : ∃ n : Nat, n ≤ 6 ∧ ixE (.p (.tuple [.int 2, .int 3, .int 4, .int 5, .int 1, .int 0, .int 4, .int 3])) (.p (.int (cell.fmod 8))) = .ok (.p (.int (n : Int))) := by
  have m := fmod_pos (a := cell) (b := 8) (by decide)
  rcases (show cell.fmod 8 = 0 ∨ cell.fmod 8 = 1 ∨ cell.fmod 8 = 2 ∨ cell.fmod 8 = 3 ∨ cell.fmod 8 = 4 ∨ cell.fmod 8 = 5 ∨ cell.fmod 8 = 6 ∨ cell.fmod 8 = 7 by omega) with z | z | z | z | z | z | z | z <;> rw [z]
  ·exact ⟨2, by decide, rfl⟩
  ·exact ⟨3, by decide, rfl⟩
  ·exact ⟨4, by decide, rfl⟩
  ·exact ⟨5, by decide, rfl⟩
  ·exact ⟨1, by decide, rfl⟩
  ·exact ⟨0, by decide, rfl⟩
  ·exact ⟨4, by decide, rfl⟩
  ·exact ⟨3, by decide, rfl⟩
 have e1 : (mBin ixE (mCallB tupR' (mCons (mC (.int 2)) (mCons (mC (.int 3)) (mCons (mC (.int 4)) (mCons (mC (.int 5)) (mCons (mC (.int 1)) (mCons (mC (.int 0)) (mCons (mC (.int 4)) (mCons (mC (.int 3)) mNil))))))))) (mBin modE (mVar 1) (mC (.int 8)))) [some (.p (.list (ns.map .int))), some (.p (.int cell)), none, none, none, none, none, none, none, none, none] = .ok (.p (.int (n : Int))) := by
  simp (disch := assumption) only [mBin, mVar, mC, mCallB, tupR', pureL, mCons, mNil, List.getElem?_cons_zero, List.getElem?_cons_succ, List.set_cons_zero, List.set_cons_succ, List.length_cons, List.length_nil, List.length_map, List.length_append, if_true, if_false, ite_true, ite_false, decide_true, decide_false, Bool.false_eq_true, Nat.zero_add, Nat.reduceAdd, Nat.reduceEqDiff, Nat.reduceLeDiff, reduceIte, List.map_append, List.map_cons, List.map_nil, Res.bind, Ev.c, mod_ok, hsz]
 refine (seq_nx (set_p e1)).trans ((seq_nx (set_f (d := .list []) rfl)).trans ?_)
 simp only [List.set_cons_succ, List.set_cons_zero]
 obtain ⟨t, q4, q5, q6, q7, t1, t2, hlp⟩ := lw_out K c ns hcz n6 n 0 [] none none none none (by omega) rfl (fun _ h => nomatch h)
 have hit := rng_v (i := 2) (en := [some (.p (.list (ns.map .int))), some (.p (.int cell)), some (.p (.int (n : Int))), some (.o (.list [])), none, none, none, none, none, none, none]) (n := n) (by omega) rfl
 rw [rg_cols] at hit
 refine (seq_nx ((for_l hit).trans hlp)).trans ?_
 simp only [List.set_cons_succ, List.set_cons_zero, frz, List.getElem?_cons_succ, List.getElem?_cons_zero]
 have ht : TG t := ⟨by omega, fun r hr => by rw [(t2 r hr).1, t1], fun r hr => (t2 r hr).2⟩
 have hdue := due_good K c ht
 have hbe := best_good K c ht.gt
 obtain ⟨x, k, l, fx, zx, ll, eb⟩ : ∃ (x : Int × Int) (k : Int) (l : List Int), FR.Fr x ∧ Sz 8000 x.2 ∧ l.length = t.length ∧ bestT t = .tuple [frD x, .int k, dD l] := by
  obtain ⟨f0, _, f2⟩ := ht.gt.cb
  have ne : wsOf t ≠ [] := fun z => deal_ne t.length (List.map_eq_nil_iff.mp z)
  have li : (wsOf t).idxOf (mxw (wsOf t)) < (deal t.length).length := by
   have := List.idxOf_lt_length_iff.mpr (mxw_spec ne).1
   unfold wsOf at this
   rw [List.length_map] at this
   exact this
  exact ⟨_, _, _, (FR.mk_fr (by omega)).1, Sz.le (f2.mono (by decide)) (natAbs_fdiv_le _ _), ((mem_deal _ _).mp (getD_in li [])).1, rfl⟩
 rw [eb] at hdue hbe
 have his := is_ok K c hk fx zx k l (by rw [ll]; have := ht.l; omega)
 have hdue' : m__law_due K c [.p (.list (t.map rwF))] = _ := hdue
 have e8 : (mCall 1 (m__law_due K c) (mCons (mVar 3) mNil)) [some (.p (.list (ns.map .int))), some (.p (.int cell)), some (.p (.int (n : Int))), some (.p (.list (t.map rwF))), q4, q5, q6, q7, none, none, none] = .ok (.p (.tuple [frD x, .int k, dD l])) := by
  simp only [mCall, mCons, mNil, mVar, List.getElem?_cons_zero, List.getElem?_cons_succ, List.set_cons_zero, List.set_cons_succ, List.length_cons, List.length_nil, List.length_map, List.length_append, if_true, if_false, ite_true, ite_false, decide_true, decide_false, Bool.false_eq_true, Nat.zero_add, Nat.reduceAdd, Nat.reduceEqDiff, Nat.reduceLeDiff, reduceIte, List.map_append, List.map_cons, List.map_nil, Res.bind, Ev.c, callR, argsL, argL, hdue', retE]
 refine (seq_nx (set_p e8)).trans ?_
 simp only [List.set_cons_succ, List.set_cons_zero]
 have hc := comp_l (n := 1) (js := []) (fi := mItL (mVar 3)) (tg := mgName 0) (ft := mYes) (fe := f_law_e1 K c) (en := [some (.p (.list (ns.map .int))), some (.p (.int cell)), some (.p (.int (n : Int))), some (.p (.list (t.map rwF))), q4, q5, q6, q7, some (.p (.tuple [frD x, .int k, dD l])), none, none]) (ds := t.map rwF) rfl (by rw [List.length_map]; omega) (hd_cm K c t _)
 refine (seq_nx (set_f hc)).trans ?_
 simp only [List.set_cons_succ, List.set_cons_zero]
 have eqT : eqE true (.p (tbD t)) (.p (tbD t)) = .ok (.p (.bool false)) := eqE_same rfl rfl (sh_tb t) true
 have ef : (mCall 1 (m_best K c) (mCons (mVar 9) mNil)) (onlyK 9 (tbD t) [some (.p (.list (ns.map .int))), some (.p (.int cell)), some (.p (.int (n : Int))), some (.p (.list (t.map rwF))), q4, q5, q6, q7, some (.p (.tuple [frD x, .int k, dD l])), some (.o (.list (t.map rwF))), none]) = .ok (.p (.tuple [frD x, .int k, dD l])) := by
  have : onlyK 9 (tbD t) [some (.p (.list (ns.map .int))), some (.p (.int cell)), some (.p (.int (n : Int))), some (.p (.list (t.map rwF))), q4, q5, q6, q7, some (.p (.tuple [frD x, .int k, dD l])), some (.o (.list (t.map rwF))), none] = [none, none, none, none, none, none, none, none, none, some (.p (tbD t)), none] := rfl
  rw [this]
  simp only [mCall, mCons, mNil, mVar, List.getElem?_cons_zero, List.getElem?_cons_succ, List.set_cons_zero, List.set_cons_succ, List.length_cons, List.length_nil, List.length_map, List.length_append, if_true, if_false, ite_true, ite_false, decide_true, decide_false, Bool.false_eq_true, Nat.zero_add, Nat.reduceAdd, Nat.reduceEqDiff, Nat.reduceLeDiff, reduceIte, List.map_append, List.map_cons, List.map_nil, Res.bind, Ev.c, callR, argsL, argL, hbe, retE]
 have tf : (mOr (mNot (mTru (mCall 2 (m__law_is K c) (mCons (mVar 10) (mCons (mVar 8) mNil))))) (mTru (mBin (eqE true) (mVar 9) (mVar 3)))) [some (.p (.list (ns.map .int))), some (.p (.int cell)), some (.p (.int (n : Int))), some (.p (.list (t.map rwF))), q4, q5, q6, q7, some (.p (.tuple [frD x, .int k, dD l])), some (.p (tbD t)), some (.p (.tuple [frD x, .int k, dD l]))] = .ok false := by
  have eqT' : eqE true (.p (tbD t)) (.p (.list (t.map rwF))) = .ok (.p (.bool false)) := eqT
  simp only [mOr, mNot, mTru, mBin, mVar, mCall, mCons, mNil, callR, argsL, argL, retE, List.getElem?_cons_zero, List.getElem?_cons_succ, List.set_cons_zero, List.set_cons_succ, List.length_cons, List.length_nil, List.length_map, List.length_append, if_true, if_false, ite_true, ite_false, decide_true, decide_false, Bool.false_eq_true, Nat.zero_add, Nat.reduceAdd, Nat.reduceEqDiff, Nat.reduceLeDiff, reduceIte, List.map_append, List.map_cons, List.map_nil, Res.bind, Ev.c, his, eqT', truthR, Bool.not_true]
 have so : SpOk2 [frD x, .int k, dD l] 2 (tbD t) := ⟨l.map .int, rfl, sp_ok ht ll⟩
 have eg : (fun en => (mRet (mCall 2 (m__law_is K c) (mCons (mCall 1 (m_best K c) (mCons (mVar 9) mNil)) (mCons (mVar 8) mNil)))) (frz 9 en)) [some (.p (.list (ns.map .int))), some (.p (.int cell)), some (.p (.int (n : Int))), some (.p (.list (t.map rwF))), q4, q5, q6, q7, some (.p (.tuple [frD x, .int k, dD l])), some (.o (.list (t.map rwF))), none] = some (.rt (.p (.bool true))) := by
  simp only [frz, List.set_cons_succ, List.set_cons_zero, List.getElem?_cons_succ, List.getElem?_cons_zero]
  refine ret_p ?_
  have hbe' : m_best K c [.p (.list (t.map rwF))] = _ := hbe
  simp only [mCall, mCons, mNil, mVar, List.getElem?_cons_zero, List.getElem?_cons_succ, List.set_cons_zero, List.set_cons_succ, List.length_cons, List.length_nil, List.length_map, List.length_append, if_true, if_false, ite_true, ite_false, decide_true, decide_false, Bool.false_eq_true, Nat.zero_add, Nat.reduceAdd, Nat.reduceEqDiff, Nat.reduceLeDiff, reduceIte, List.map_append, List.map_cons, List.map_nil, Res.bind, Ev.c, callR, argsL, argL, hbe', his, retE]
 exact (spoil_f (dk := tbD t) rfl ef so tf).trans eg
section
variable {P : Program} {w : World} {K : PySem.W.Frag} {mg : Str → Option Value} {base : Heap}
theorem sc_whole : FnScope ["number", "factor"] ["number", "factor"] (defScope s_whole) := ⟨rfl, rfl, rfl, by decide +kernel, rfl, by decide +kernel, by decide +kernel⟩
theorem ok_whole {c : Cls} (Df : Def K mg "whole" ["number", "factor"] s_whole) (B : Blt mg) (C : ClsM mg c) (O : ClsO mg base c) (hk : KitF K c) : Cal P w K mg base 1 "whole" 2 (m_whole K c) := by
 refine calM (k := 0) Df sc_whole rfl (fun f cdv A outer s H E hr => ⟨f_whole K c, ?_, eq_whole K c⟩)
 exact (dss_one (ds_ret (de_op op_mulW om_mul noX_intE (de_ix (dv 0) de_int (fun _ _ => rfl)) (de_op op_fdivW om_fdiv noX_intE (dv 1) (de_ix (dv 0) de_int (fun _ _ => rfl))))))
theorem sc_law : FnScope ["_law_script", "_law_cell", "_law_size", "_law_table", "_law_k", "_law_row", "_law_at", "_law_spot", "_law_due_here", "_law_handed", "_law_found"] ["_law_script"] (defScope s_law) := ⟨rfl, rfl, rfl, by decide +kernel, rfl, by decide +kernel, by decide +kernel⟩
theorem ok_law {c : Cls} {f : Addr} {fd : FuncData} (F : Fun K "law" "law" s_law f fd) (B : Blt mg) (C : ClsM mg c) (O : ClsO mg base c) (hk : KitF K c) (c_best : Cal P w K mg base 3 "best" 1 (m_best K c)) (c__law_is : Cal P w K mg base 3 "_law_is" 2 (m__law_is K c)) (c__law_due : Cal P w K mg base 3 "_law_due" 1 (m__law_due K c)) (c__law_number : Cal P w K mg base 2 "_law_number" 2 (m__law_number K c)) (c__law_cell_at : Cal P w K mg base 1 "_law_cell_at" 2 (m__law_cell_at K c)) : FnOk P w K mg base (CXr P w) 4 f fd ["_law_script"] (spM K 1 (m_law K c)) := by
 refine fnM (k := 3) F sc_law rfl (fun cdv A outer s H E hr => ⟨f_law K c, ?_, eq_law K c⟩)
 exact (dss_cons (ds_set (i := 1) sc_law.nd rfl (Or.inl rfl) (de_op op_modN om_mod noX_intE (de_callC c__law_cell_at hr passS (da_cons (dv 0) (da_cons de_int da_nil))) de_int)) (dss_cons (ds_set (i := 2) sc_law.nd rfl (Or.inl rfl) (de_ix (de_tup (da_cons de_int (da_cons de_int (da_cons de_int (da_cons de_int (da_cons de_int (da_cons de_int (da_cons de_int (da_cons de_int da_nil))))))))) (de_op op_modN om_mod noX_intE (dv 1) de_int) (fun _ _ => rfl))) (dss_cons (ds_set (i := 3) sc_law.nd rfl (Or.inl rfl) (de_lst da_nil)) (dss_cons (ds_for PassesOwn.leaving rfl (di_range1 rfl B.range_ (da_cons (dv 2) da_nil)) (dg_name (i := 4) sc_law.nd rfl (Or.inl rfl)) (dss_cons (ds_set (i := 5) sc_law.nd rfl (Or.inl rfl) (de_lst da_nil)) (dss_cons (ds_for PassesOwn.leaving rfl (di_range1 rfl B.range_ (da_cons (dv 2) da_nil)) (dg_name (i := 6) sc_law.nd rfl (Or.inl rfl)) (dss_cons (ds_set (i := 7) sc_law.nd rfl (Or.inl rfl) (de_op op_addA om_add noX_add (de_op op_mulW om_mul noX_intE (dv 2) (dv 4)) (dv 6))) (dss_one (ds_append (i := 5) (de_callC c__law_number hr passS (da_cons (de_op op_addA om_add noX_add (de_callC c__law_cell_at hr passS (da_cons (dv 0) (da_cons (de_op op_addA om_add noX_add de_int (dv 7)) da_nil))) (de_op op_mulW om_mul noX_intE de_int (dv 7))) (da_cons de_int da_nil))) (fun t q => ps_expr (pe_bm PySem.F.plainAttrs_list PySem.F.slot_list_append PySem.F.type_list_append mt_append (pv 5) (pa_cons q pa_nil))))))) (dss_cons (ds_if (DW.t (dw_and (dt_cmp (op_eqP (u64 hr)) om_eq noX_eq (de_op op_modN om_mod noX_intE (de_op op_fdivW om_fdiv noX_intE (dv 1) de_int) de_int) de_int (nomark _)) (dw_and1 (dt_cmp op_gt om_cmp noX_intE0 (dv 4) de_int (nomark _))))) (dss_one (ds_set (i := 5) sc_law.nd rfl (Or.inl rfl) (de_callTy call_list_of cm_list noX_list rfl B.list_ bT_list (da_cons (de_ix (dv 3) de_int (fun _ _ => rfl)) da_nil)))) dss_nil) (dss_frz 5 (dss_one (ds_append (i := 3) (dv 5) (fun t q => ps_expr (pe_bm PySem.F.plainAttrs_list PySem.F.slot_list_append PySem.F.type_list_append mt_append (pv 3) (pa_cons q pa_nil)))))))))) (dss_frz 3 (dss_cons (ds_set (i := 8) sc_law.nd rfl (Or.inl rfl) (de_callC c__law_due hr passS (da_cons (dv 3) da_nil))) (dss_cons (ds_setC (i := 9) sc_law.nd rfl (Or.inl rfl) (xs := ["_law_row"]) (ys := []) (js := []) (cl := []) rfl (di_list (dv 3)) (cl_ok (ys := []) (js := []) rfl (fun _ h => nomatch h) cap_nil (by decide +kernel) (by decide +kernel)) cap_nil (by decide +kernel) rfl (by decide +kernel) rfl (by decide) (fun C s₀ H₀ ex pn => (dg_name (i := 0) (show (["_law_row"] : List Str).Nodup by decide +kernel) rfl (Or.inl rfl))) (fun C s₀ H₀ ex pn => dts_nil) (fun C s₀ H₀ ex pn => (de_callTy call_list_of cm_list noX_list rfl B.list_ bT_list (da_cons (dv 0) da_nil)))) (dss_spoil (i := 10) (k := 9) (j := 2) (by decide) sc_law.nd rfl (Or.inl rfl) (de_callC c_best hr passS (da_cons (dv 9) da_nil)) (DW.t (dw_or (dt_not (dt_val (de_callC c__law_is hr passS (da_cons (dv 10) (da_cons (dv 8) da_nil))))) (dw_or1 (dt_cmp (op_neP (u64 hr)) om_eq noX_eq (dv 9) (dv 3) (nomark _))))) (dss_one (ds_ret de_bl)) (ps_expr (pe_bm0 PySem.F.plainAttrs_list PySem.F.slot_list_clear PySem.F.type_list_clear mt_clearN (pe_ix ix_A (pv 10) pe_int (fun _ _ => rfl)))) (dss_frz 9 (dss_one (ds_ret (de_callC c__law_is hr passS (da_cons (de_callC c_best hr passS (da_cons (dv 9) da_nil)) (da_cons (dv 8) da_nil))))))))))))))
end
section
variable {P : Program} {w : World} {K : PySem.W.Frag} {mg : Str → Option Value} {base : Heap}
theorem sc_fraction : FnScope ["top", "bottom", "divisor"] ["top", "bottom"] (defScope s_fraction) := ⟨rfl, rfl, rfl, by decide +kernel, rfl, by decide +kernel, by decide +kernel⟩
theorem ok_fraction {c : Cls} (Df : Def K mg "fraction" ["top", "bottom"] s_fraction) (B : Blt mg) (C : ClsM mg c) (O : ClsO mg base c) (hk : KitF K c) (c_greatest_divisor : Cal P w K mg base 1 "greatest_divisor" 2 (m_greatest_divisor K c)) : Cal P w K mg base 2 "fraction" 2 (m_fraction K c) := by
 refine calM (k := 1) Df sc_fraction rfl (fun f cdv A outer s H E hr => ⟨f_fraction K c, ?_, eq_fraction K c⟩)
 exact (dss_cons (ds_if (dt_cmp (op_eqP (u64 hr)) om_eq noX_eq (dv 1) de_int (nomark _)) (dss_one (ds_raise raisesR rfl rfl O.NoFraction PySem.F.excBase_ValueError (da_cons de_str da_nil))) dss_nil) (dss_cons (ds_set (i := 2) sc_fraction.nd rfl (Or.inl rfl) (de_callC c_greatest_divisor hr passS (da_cons (dv 0) (da_cons (dv 1) da_nil)))) (dss_cons (ds_if (dt_cmp op_lt om_cmp noX_intE0 (dv 1) de_int (nomark _)) (dss_one (ds_set (i := 2) sc_fraction.nd rfl (Or.inl rfl) (de_neg (dv 2)))) dss_nil) (dss_one (ds_ret (de_tup (da_cons (de_op op_fdivW om_fdiv noX_intE (dv 0) (dv 2)) (da_cons (de_op op_fdivW om_fdiv noX_intE (dv 1) (dv 2)) da_nil))))))))
theorem sc_best : FnScope ["table", "numbers", "row", "factor", "rows", "dealings", "worths", "top"] ["table"] (defScope s_best) := ⟨rfl, rfl, rfl, by decide +kernel, rfl, by decide +kernel, by decide +kernel⟩
theorem ok_best {c : Cls} (Df : Def K mg "best" ["table"] s_best) (B : Blt mg) (C : ClsM mg c) (O : ClsO mg base c) (hk : KitF K c) (c_fraction : Cal P w K mg base 2 "fraction" 2 (m_fraction K c)) (c_worth_of : Cal P w K mg base 1 "worth_of" 2 (m_worth_of K c)) (c_dealings_of : Cal P w K mg base 1 "dealings_of" 1 (m_dealings_of K c)) (c_whole_rows : Cal P w K mg base 2 "whole_rows" 2 (m_whole_rows K c)) (c_common_bottom : Cal P w K mg base 2 "common_bottom" 1 (m_common_bottom K c)) : Cal P w K mg base 3 "best" 1 (m_best K c) := by
 refine calM (k := 2) Df sc_best rfl (fun f cdv A outer s H E hr => ⟨f_best K c, ?_, eq_best K c⟩)
 exact (dss_cons (ds_set (i := 1) sc_best.nd rfl (Or.inl rfl) (de_lst da_nil)) (dss_cons (ds_for PassesOwn.leaving rfl (di_list (dv 0)) (dg_name (i := 2) sc_best.nd rfl (Or.inl rfl)) (dss_one (ds_extP (i := 1) (dv 2) (fun t q => ps_expr (pe_bm PySem.F.plainAttrs_list PySem.F.slot_list_extend PySem.F.type_list_extend mt_extR (pv 1) (pa_cons q pa_nil)))))) (dss_cons (ds_set (i := 3) sc_best.nd rfl (Or.inl rfl) (de_callC c_common_bottom hr passS (da_cons (dv 1) da_nil))) (dss_cons (ds_set (i := 4) sc_best.nd rfl (Or.inr rfl) (de_callC c_whole_rows hr passS (da_cons (dv 0) (da_cons (dv 3) da_nil)))) (dss_cons (ds_set (i := 5) sc_best.nd rfl (Or.inl rfl) (de_callC c_dealings_of hr passS (da_cons (de_callB call_len_seq cm_len noX_len rfl B.len_ PySem.boot_len (da_cons (dv 4) da_nil)) da_nil))) (dss_frz 4 (dss_cons (ds_setC (i := 6) sc_best.nd rfl (Or.inl rfl) (xs := ["dealing"]) (ys := ["rows"]) (js := [4]) (cl := [("rows", s.heap.objs.size + 1)]) rfl (di_list (dv 5)) (cl_ok (ys := ["rows"]) (js := [4]) rfl (List.forall_mem_cons.mpr ⟨rfl, (fun _ h => nomatch h)⟩) (cap_cons ⟨rfl, .inl rfl, .inl rfl, rfl, rfl⟩ cap_nil) (by decide +kernel) (by decide +kernel)) (cap_cons ⟨rfl, .inl rfl, .inl rfl, rfl, rfl⟩ cap_nil) (by decide +kernel) rfl (by decide +kernel) rfl (by decide) (fun C s₀ H₀ ex pn => (dg_name (i := 0) (show (["dealing", "rows"] : List Str).Nodup by decide +kernel) rfl (Or.inl rfl))) (fun C s₀ H₀ ex pn => dts_nil) (fun C s₀ H₀ ex pn => (de_callC c_worth_of hr passF (da_cons (dv 1) (da_cons (dv 0) da_nil))))) (dss_cons (ds_set (i := 7) sc_best.nd rfl (Or.inl rfl) (de_callB (call_maxL rfl rfl) cm_maxL noX_max rfl B.max_ bB_max (da_cons (dv 6) da_nil))) (dss_one (ds_ret (de_tup (da_cons (de_callC c_fraction hr passS (da_cons (dv 7) (da_cons (dv 3) da_nil))) (da_cons (de_mt PySem.F.slot_list_count PySem.F.type_list_count (mt_count rfl) om_count noX_count (dv 6) (dv 7)) (da_cons (de_ix (dv 5) (de_mt PySem.F.slot_list_index PySem.F.type_list_index (mt_index rfl) om_index noX_index (dv 6) (dv 7)) (fun _ _ => rfl)) da_nil))))))))))))))
theorem sc__law_whole : FnScope ["_law_found"] ["_law_found"] (defScope s__law_whole) := ⟨rfl, rfl, rfl, by decide +kernel, rfl, by decide +kernel, by decide +kernel⟩
theorem ok__law_whole {c : Cls} (Df : Def K mg "_law_whole" ["_law_found"] s__law_whole) (B : Blt mg) (C : ClsM mg c) (O : ClsO mg base c) (hk : KitF K c) : Cal P w K mg base 1 "_law_whole" 1 (m__law_whole K c) := by
 refine calM (k := 0) Df sc__law_whole rfl (fun f cdv A outer s H E hr => ⟨f__law_whole K c, ?_, eq__law_whole K c hk⟩)
 exact (dss_one (ds_ret (de_and (de_isi (cv := .type "int") rfl B.isinstance_ (.inl ⟨_, rfl⟩) rfl (dv 0) (pe_bltn (v := .ty "int") rfl B.int_ bT_int rfl)) (de_one (de_not (de_isi (cv := .type "bool") rfl B.isinstance_ (.inl ⟨_, rfl⟩) rfl (dv 0) (pe_bltn (v := .ty "bool") rfl B.bool_ bT_bool rfl)))))))
end
section
variable {P : Program} {w : World} {K : PySem.W.Frag} {mg : Str → Option Value} {base : Heap}
theorem sc_worth_of : FnScope ["rows", "dealing"] ["rows", "dealing"] (defScope s_worth_of) := ⟨rfl, rfl, rfl, by decide +kernel, rfl, by decide +kernel, by decide +kernel⟩
theorem ok_worth_of {c : Cls} (Df : Def K mg "worth_of" ["rows", "dealing"] s_worth_of) (B : Blt mg) (C : ClsM mg c) (O : ClsO mg base c) (hk : KitF K c) : Cal P w K mg base 1 "worth_of" 2 (m_worth_of K c) := by
 refine calM (k := 0) Df sc_worth_of rfl (fun f cdv A outer s H E hr => ⟨f_worth_of K c, ?_, eq_worth_of K c⟩)
 exact (dss_one (ds_ret (de_callB (call_sumL rfl rfl) cm_sum noX_sum rfl B.sum_ bB_sum (da_cons (de_comp (xs := ["row", "column"]) (ys := []) (js := []) (cl := []) rfl (di_zip rfl B.zip_ (da_cons (dv 0) (da_cons (dv 1) da_nil))) (cl_ok (ys := []) (js := []) rfl (fun _ h => nomatch h) cap_nil (by decide +kernel) (by decide +kernel)) cap_nil (by decide +kernel) rfl (by decide +kernel) rfl (by decide) (fun C s₀ H₀ ex pn => (dg_tup (n := 2) rfl (dgs_cons (dg_name (i := 0) (show (["row", "column"] : List Str).Nodup by decide +kernel) rfl (Or.inl rfl)) (dgs_cons (dg_name (i := 1) (show (["row", "column"] : List Str).Nodup by decide +kernel) rfl (Or.inl rfl)) dgs_nil)))) (fun C s₀ H₀ ex pn => dts_nil) (fun C s₀ H₀ ex pn => (de_ix (dv 0) (dv 1) (fun _ _ => rfl)))) da_nil))))
theorem sc__law_sum : FnScope ["_law_a", "_law_b"] ["_law_a", "_law_b"] (defScope s__law_sum) := ⟨rfl, rfl, rfl, by decide +kernel, rfl, by decide +kernel, by decide +kernel⟩
theorem ok__law_sum {c : Cls} (Df : Def K mg "_law_sum" ["_law_a", "_law_b"] s__law_sum) (B : Blt mg) (C : ClsM mg c) (O : ClsO mg base c) (hk : KitF K c) (c__law_lowest : Cal P w K mg base 1 "_law_lowest" 2 (m__law_lowest K c)) : Cal P w K mg base 2 "_law_sum" 2 (m__law_sum K c) := by
 refine calM (k := 1) Df sc__law_sum rfl (fun f cdv A outer s H E hr => ⟨f__law_sum K c, ?_, eq__law_sum K c⟩)
 exact (dss_one (ds_ret (de_callC c__law_lowest hr passS (da_cons (de_op op_addA om_add noX_add (de_op op_mulW om_mul noX_intE (de_ix (dv 0) de_int (fun _ _ => rfl)) (de_ix (dv 1) de_int (fun _ _ => rfl))) (de_op op_mulW om_mul noX_intE (de_ix (dv 1) de_int (fun _ _ => rfl)) (de_ix (dv 0) de_int (fun _ _ => rfl)))) (da_cons (de_op op_mulW om_mul noX_intE (de_ix (dv 0) de_int (fun _ _ => rfl)) (de_ix (dv 1) de_int (fun _ _ => rfl))) da_nil)))))
theorem sc__law_due : FnScope ["_law_table", "_law_worth", "_law_many", "_law_least", "_law_order", "_law_total", "_law_k"] ["_law_table"] (defScope s__law_due) := ⟨rfl, rfl, rfl, by decide +kernel, rfl, by decide +kernel, by decide +kernel⟩
theorem ok__law_due {c : Cls} (Df : Def K mg "_law_due" ["_law_table"] s__law_due) (B : Blt mg) (C : ClsM mg c) (O : ClsO mg base c) (hk : KitF K c) (c__law_orders : Cal P w K mg base 1 "_law_orders" 1 (m__law_orders K c)) (c__law_before : Cal P w K mg base 1 "_law_before" 2 (m__law_before K c)) (c__law_sum : Cal P w K mg base 2 "_law_sum" 2 (m__law_sum K c)) : Cal P w K mg base 3 "_law_due" 1 (m__law_due K c) := by
 refine calM (k := 2) Df sc__law_due rfl (fun f cdv A outer s H E hr => ⟨f__law_due K c, ?_, eq__law_due K c⟩)
 exact (dss_cons (ds_set (i := 1) sc__law_due.nd rfl (Or.inl rfl) de_non) (dss_cons (ds_set (i := 2) sc__law_due.nd rfl (Or.inl rfl) de_int) (dss_cons (ds_set (i := 3) sc__law_due.nd rfl (Or.inl rfl) (de_lst da_nil)) (dss_cons (ds_for PassesOwn.leaving rfl (di_list (de_callC c__law_orders hr passS (da_cons (de_callB call_len_seq cm_len noX_len rfl B.len_ PySem.boot_len (da_cons (dv 0) da_nil)) da_nil))) (dg_name (i := 4) sc__law_due.nd rfl (Or.inl rfl)) (dss_cons (ds_set (i := 5) sc__law_due.nd rfl (Or.inl rfl) (de_tup (da_cons de_int (da_cons de_int da_nil)))) (dss_cons (ds_for PassesOwn.leaving rfl (di_range1 rfl B.range_ (da_cons (de_callB call_len_seq cm_len noX_len rfl B.len_ PySem.boot_len (da_cons (dv 0) da_nil)) da_nil)) (dg_name (i := 6) sc__law_due.nd rfl (Or.inl rfl)) (dss_one (ds_set (i := 5) sc__law_due.nd rfl (Or.inl rfl) (de_callC c__law_sum hr passS (da_cons (dv 5) (da_cons (de_ix (de_ix (dv 0) (dv 6) (fun _ _ => rfl)) (de_ix (dv 4) (dv 6) (fun _ _ => rfl)) (fun _ _ => rfl)) da_nil)))))) (dss_cons (ds_if (DW.t (dw_or (dt_isN (dv 1)) (dw_or1 (dt_val (de_callC c__law_before hr passS (da_cons (dv 1) (da_cons (dv 5) da_nil))))))) (dss_cons (ds_set (i := 1) sc__law_due.nd rfl (Or.inl rfl) (dv 5)) (dss_cons (ds_set (i := 2) sc__law_due.nd rfl (Or.inl rfl) de_int) (dss_one (ds_set (i := 3) sc__law_due.nd rfl (Or.inl rfl) (dv 4))))) dss_nil) (dss_one (ds_if (dt_cmp (op_eqP (u64 hr)) om_eq noX_eq (dv 5) (dv 1) (nomark _)) (dss_one (ds_aug (i := 2) sc__law_due.nd rfl (Or.inl rfl) de_int)) dss_nil)))))) (dss_one (ds_ret (de_tup (da_cons (dv 1) (da_cons (dv 2) (da_cons (dv 3) da_nil))))))))))
end
section
variable {P : Program} {w : World} {K : PySem.W.Frag} {mg : Str → Option Value} {base : Heap}
theorem sc_greatest_divisor : FnScope ["a", "b", "larger", "smaller", "rest"] ["a", "b"] (defScope s_greatest_divisor) := ⟨rfl, rfl, rfl, by decide +kernel, rfl, by decide +kernel, by decide +kernel⟩
theorem ok_greatest_divisor {c : Cls} (Df : Def K mg "greatest_divisor" ["a", "b"] s_greatest_divisor) (B : Blt mg) (C : ClsM mg c) (O : ClsO mg base c) (hk : KitF K c) : Cal P w K mg base 1 "greatest_divisor" 2 (m_greatest_divisor K c) := by
 refine calM (k := 0) Df sc_greatest_divisor rfl (fun f cdv A outer s H E hr => ⟨f_greatest_divisor K c, ?_, eq_greatest_divisor K c⟩)
 exact (dss_cons (ds_set (i := 2) sc_greatest_divisor.nd rfl (Or.inl rfl) (de_callB call_abs cm_abs noX_abs rfl B.abs_ bB_abs (da_cons (dv 0) da_nil))) (dss_cons (ds_set (i := 3) sc_greatest_divisor.nd rfl (Or.inl rfl) (de_callB call_abs cm_abs noX_abs rfl B.abs_ bB_abs (da_cons (dv 1) da_nil))) (dss_cons (ds_while PassesOwn.leaving (dt_cmp (op_neP (u64 hr)) om_eq noX_eq (dv 3) de_int (nomark _)) (dss_cons (ds_set (i := 4) sc_greatest_divisor.nd rfl (Or.inl rfl) (de_op op_modN om_mod noX_intE (dv 2) (dv 3))) (dss_cons (ds_set (i := 2) sc_greatest_divisor.nd rfl (Or.inl rfl) (dv 3)) (dss_one (ds_set (i := 3) sc_greatest_divisor.nd rfl (Or.inl rfl) (dv 4)))))) (dss_one (ds_ret (dv 2))))))
theorem sc__law_mix : FnScope ["_law_cell", "_law_k", "_law_blend"] ["_law_cell", "_law_k"] (defScope s__law_mix) := ⟨rfl, rfl, rfl, by decide +kernel, rfl, by decide +kernel, by decide +kernel⟩
theorem ok__law_mix {c : Cls} (Df : Def K mg "_law_mix" ["_law_cell", "_law_k"] s__law_mix) (B : Blt mg) (C : ClsM mg c) (O : ClsO mg base c) (hk : KitF K c) : Cal P w K mg base 1 "_law_mix" 2 (m__law_mix K c) := by
 refine calM (k := 0) Df sc__law_mix rfl (fun f cdv A outer s H E hr => ⟨f__law_mix K c, ?_, eq__law_mix K c⟩)
 exact (dss_cons (ds_set (i := 2) sc__law_mix.nd rfl (Or.inl rfl) (de_op op_addA om_add noX_add (de_op op_addA om_add noX_add (de_op op_mulW om_mul noX_intE (de_op op_modN om_mod noX_intE (dv 0) (de_op op_pow om_pow noX_intE de_int de_int)) (de_op op_addA om_add noX_add (de_op op_mulW om_mul noX_intE de_int (dv 1)) de_int)) (de_op op_mulW om_mul noX_intE (de_op op_mulW om_mul noX_intE de_int (dv 1)) (dv 1))) (dv 1))) (dss_one (ds_ret (de_op op_modN om_mod noX_intE (de_op op_mulW om_mul noX_intE (de_op op_modN om_mod noX_intE (dv 2) de_int) de_int) de_int))))
theorem sc__law_number : FnScope ["_law_cell", "_law_k", "_law_way"] ["_law_cell", "_law_k"] (defScope s__law_number) := ⟨rfl, rfl, rfl, by decide +kernel, rfl, by decide +kernel, by decide +kernel⟩
theorem ok__law_number {c : Cls} (Df : Def K mg "_law_number" ["_law_cell", "_law_k"] s__law_number) (B : Blt mg) (C : ClsM mg c) (O : ClsO mg base c) (hk : KitF K c) (c__law_mix : Cal P w K mg base 1 "_law_mix" 2 (m__law_mix K c)) (c__law_lowest : Cal P w K mg base 1 "_law_lowest" 2 (m__law_lowest K c)) : Cal P w K mg base 2 "_law_number" 2 (m__law_number K c) := by
 refine calM (k := 1) Df sc__law_number rfl (fun f cdv A outer s H E hr => ⟨f__law_number K c, ?_, eq__law_number K c⟩)
 exact (dss_cons (ds_set (i := 2) sc__law_number.nd rfl (Or.inl rfl) (de_op op_modN om_mod noX_intE (de_callC c__law_mix hr passS (da_cons (dv 0) (da_cons (dv 1) da_nil))) de_int)) (dss_cons (ds_if (dt_cmp (op_eqP (u64 hr)) om_eq noX_eq (dv 2) de_int (nomark _)) (dss_one (ds_ret (de_callC c__law_lowest hr passS (da_cons (de_op op_sub om_sub noX_intE0 (de_op op_modN om_mod noX_intE (de_op op_addA om_add noX_add (de_op op_mulX om_mulX noX_intE (dv 0) de_int) (dv 1)) (de_op op_addA om_add noX_add (de_op op_mulX om_mulX noX_intE de_int (de_op op_pow om_pow noX_intE de_int de_int)) de_int)) (de_op op_pow om_pow noX_intE de_int de_int)) (da_cons (de_op op_addA om_add noX_add de_int (de_op op_modN om_mod noX_intE (de_callC c__law_mix hr passS (da_cons (dv 0) (da_cons (de_op op_addA om_add noX_add (dv 1) de_int) da_nil))) de_int)) da_nil))))) dss_nil) (dss_cons (ds_if (dt_cmp (op_eqP (u64 hr)) om_eq noX_eq (dv 2) de_int (nomark _)) (dss_one (ds_ret (de_callC c__law_lowest hr passS (da_cons (de_op op_sub om_sub noX_intE0 (de_op op_modN om_mod noX_intE (de_callC c__law_mix hr passS (da_cons (dv 0) (da_cons (de_op op_addA om_add noX_add (dv 1) de_int) da_nil))) de_int) de_int) (da_cons (de_op op_addA om_add noX_add de_int (de_op op_modN om_mod noX_intE (de_callC c__law_mix hr passS (da_cons (dv 0) (da_cons (de_op op_addA om_add noX_add (dv 1) de_int) da_nil))) de_int)) da_nil))))) dss_nil) (dss_one (ds_ret (de_tup (da_cons (de_op op_sub om_sub noX_intE0 (de_op op_modN om_mod noX_intE (de_callC c__law_mix hr passS (da_cons (dv 0) (da_cons (de_op op_addA om_add noX_add (dv 1) de_int) da_nil))) de_int) de_int) (da_cons de_int da_nil))))))))
end
section
variable {P : Program} {w : World} {K : PySem.W.Frag} {mg : Str → Option Value} {base : Heap}
theorem sc__law_cell_at : FnScope ["_law_script", "_law_k"] ["_law_script", "_law_k"] (defScope s__law_cell_at) := ⟨rfl, rfl, rfl, by decide +kernel, rfl, by decide +kernel, by decide +kernel⟩
theorem ok__law_cell_at {c : Cls} (Df : Def K mg "_law_cell_at" ["_law_script", "_law_k"] s__law_cell_at) (B : Blt mg) (C : ClsM mg c) (O : ClsO mg base c) (hk : KitF K c) : Cal P w K mg base 1 "_law_cell_at" 2 (m__law_cell_at K c) := by
 refine calM (k := 0) Df sc__law_cell_at rfl (fun f cdv A outer s H E hr => ⟨f__law_cell_at K c, ?_, eq__law_cell_at K c⟩)
 exact (dss_cons (ds_if (dt_cmp op_lt om_cmp noX_intE0 (dv 1) (de_callB call_len_seq cm_len noX_len rfl B.len_ PySem.boot_len (da_cons (dv 0) da_nil)) (nomark _)) (dss_one (ds_ret (de_ix (dv 0) (dv 1) (fun _ _ => rfl)))) dss_nil) (dss_one (ds_ret de_int)))
theorem sc__law_lowest : FnScope ["_law_top", "_law_bottom", "_law_one", "_law_other", "_law_rest"] ["_law_top", "_law_bottom"] (defScope s__law_lowest) := ⟨rfl, rfl, rfl, by decide +kernel, rfl, by decide +kernel, by decide +kernel⟩
theorem ok__law_lowest {c : Cls} (Df : Def K mg "_law_lowest" ["_law_top", "_law_bottom"] s__law_lowest) (B : Blt mg) (C : ClsM mg c) (O : ClsO mg base c) (hk : KitF K c) : Cal P w K mg base 1 "_law_lowest" 2 (m__law_lowest K c) := by
 refine calM (k := 0) Df sc__law_lowest rfl (fun f cdv A outer s H E hr => ⟨f__law_lowest K c, ?_, eq__law_lowest K c⟩)
 exact (dss_cons (ds_set (i := 2) sc__law_lowest.nd rfl (Or.inl rfl) (de_callB call_abs cm_abs noX_abs rfl B.abs_ bB_abs (da_cons (dv 0) da_nil))) (dss_cons (ds_set (i := 3) sc__law_lowest.nd rfl (Or.inl rfl) (de_callB call_abs cm_abs noX_abs rfl B.abs_ bB_abs (da_cons (dv 1) da_nil))) (dss_cons (ds_while PassesOwn.leaving (dt_cmp (op_neP (u64 hr)) om_eq noX_eq (dv 3) de_int (nomark _)) (dss_cons (ds_set (i := 4) sc__law_lowest.nd rfl (Or.inl rfl) (de_op op_modN om_mod noX_intE (dv 2) (dv 3))) (dss_cons (ds_set (i := 2) sc__law_lowest.nd rfl (Or.inl rfl) (dv 3)) (dss_one (ds_set (i := 3) sc__law_lowest.nd rfl (Or.inl rfl) (dv 4)))))) (dss_cons (ds_if (dt_cmp op_lt om_cmp noX_intE0 (dv 1) de_int (nomark _)) (dss_one (ds_set (i := 2) sc__law_lowest.nd rfl (Or.inl rfl) (de_neg (dv 2)))) dss_nil) (dss_one (ds_ret (de_tup (da_cons (de_op op_fdivW om_fdiv noX_intE (dv 0) (dv 2)) (da_cons (de_op op_fdivW om_fdiv noX_intE (dv 1) (dv 2)) da_nil)))))))))
theorem sc__law_is : FnScope ["_law_found", "_law_due_here"] ["_law_found", "_law_due_here"] (defScope s__law_is) := ⟨rfl, rfl, rfl, by decide +kernel, rfl, by decide +kernel, by decide +kernel⟩
theorem ok__law_is {c : Cls} (Df : Def K mg "_law_is" ["_law_found", "_law_due_here"] s__law_is) (B : Blt mg) (C : ClsM mg c) (O : ClsO mg base c) (hk : KitF K c) (c__law_whole : Cal P w K mg base 1 "_law_whole" 1 (m__law_whole K c)) (c__law_is_fraction : Cal P w K mg base 2 "_law_is_fraction" 1 (m__law_is_fraction K c)) : Cal P w K mg base 3 "_law_is" 2 (m__law_is K c) := by
 refine calM (k := 2) Df sc__law_is rfl (fun f cdv A outer s H E hr => ⟨f__law_is K c, ?_, eq__law_is K c⟩)
 exact (dss_cons (ds_if (DW.t (dw_or (dt_not (dt_val (de_isi (cv := .type "tuple") rfl B.isinstance_ (.inl ⟨_, rfl⟩) rfl (dv 0) (pe_bltn (v := .ty "tuple") rfl B.tuple_ bT_tuple rfl)))) (dw_or (dt_cmp (op_neP (u64 hr)) om_eq noX_eq (de_callB call_len_seq cm_len noX_len rfl B.len_ PySem.boot_len (da_cons (dv 0) da_nil)) de_int (nomark _)) (dw_or1 (dt_cmp (op_neP (u64 hr)) om_eq noX_eq (dv 0) (dv 1) (nomark _)))))) (dss_one (ds_ret de_bl)) dss_nil) (dss_cons (ds_if (DW.t (dw_or (dt_not (dt_val (de_callC c__law_is_fraction hr passS (da_cons (de_ix (dv 0) de_int (fun _ _ => rfl)) da_nil)))) (dw_or (dt_not (dt_val (de_callC c__law_whole hr passS (da_cons (de_ix (dv 0) de_int (fun _ _ => rfl)) da_nil)))) (dw_or1 (dt_not (dt_val (de_isi (cv := .type "list") rfl B.isinstance_ (.inl ⟨_, rfl⟩) rfl (de_ix (dv 0) de_int (fun _ _ => rfl)) (pe_bltn (v := .ty "list") rfl B.list_ bT_list rfl)))))))) (dss_one (ds_ret de_bl)) dss_nil) (dss_one (ds_ret (de_cmp (op_eqP (u64 hr)) om_eq noX_eq (de_callB call_len_seq cm_len noX_len rfl B.len_ PySem.boot_len (da_cons (de_comp (xs := ["_law_number_here"]) (ys := []) (js := []) (cl := []) rfl (di_list (de_ix (dv 0) de_int (fun _ _ => rfl))) (cl_ok (ys := []) (js := []) rfl (fun _ h => nomatch h) cap_nil (by decide +kernel) (by decide +kernel)) cap_nil (by decide +kernel) rfl (by decide +kernel) rfl (by decide) (fun C s₀ H₀ ex pn => (dg_name (i := 0) (show (["_law_number_here"] : List Str).Nodup by decide +kernel) rfl (Or.inl rfl))) (fun C s₀ H₀ ex pn => (dts_one (dt_not (dt_val (de_callC c__law_whole hr passF (da_cons (dv 0) da_nil)))))) (fun C s₀ H₀ ex pn => (dv 0))) da_nil)) de_int (nomark _))))))
end
section
variable {P : Program} {w : World} {K : PySem.W.Frag} {mg : Str → Option Value} {base : Heap}
theorem sc_dealings_of : FnScope ["n", "made", "row", "longer", "start"] ["n"] (defScope s_dealings_of) := ⟨rfl, rfl, rfl, by decide +kernel, rfl, by decide +kernel, by decide +kernel⟩
theorem ok_dealings_of {c : Cls} (Df : Def K mg "dealings_of" ["n"] s_dealings_of) (B : Blt mg) (C : ClsM mg c) (O : ClsO mg base c) (hk : KitF K c) : Cal P w K mg base 1 "dealings_of" 1 (m_dealings_of K c) := by
 refine calM (k := 0) Df sc_dealings_of rfl (fun f cdv A outer s H E hr => ⟨f_dealings_of K c, ?_, eq_dealings_of K c⟩)
 exact (dss_cons (ds_set (i := 1) sc_dealings_of.nd rfl (Or.inl rfl) (de_lst (da_cons (de_lst da_nil) da_nil))) (dss_frz 1 (dss_cons (ds_for PassesOwn.leaving rfl (di_range1 rfl B.range_ (da_cons (dv 0) da_nil)) (dg_name (i := 2) sc_dealings_of.nd rfl (Or.inl rfl)) (dss_cons (ds_set (i := 3) sc_dealings_of.nd rfl (Or.inl rfl) (de_lst da_nil)) (dss_cons (ds_for PassesOwn.leaving rfl (di_list (dv 1)) (dg_name (i := 4) sc_dealings_of.nd rfl (Or.inr rfl)) (dss_one (ds_extend (i := 3) (de_comp (xs := ["column"]) (ys := ["start"]) (js := [4]) (cl := [("start", s.heap.objs.size + 1)]) rfl (di_range1 rfl B.range_ (da_cons (dv 0) da_nil)) (cl_ok (ys := ["start"]) (js := [4]) rfl (List.forall_mem_cons.mpr ⟨rfl, (fun _ h => nomatch h)⟩) (cap_cons ⟨rfl, .inl rfl, .inl rfl, rfl, rfl⟩ cap_nil) (by decide +kernel) (by decide +kernel)) (cap_cons ⟨rfl, .inl rfl, .inl rfl, rfl, rfl⟩ cap_nil) (by decide +kernel) rfl (by decide +kernel) rfl (by decide) (fun C s₀ H₀ ex pn => (dg_name (i := 0) (show (["column", "start"] : List Str).Nodup by decide +kernel) rfl (Or.inl rfl))) (fun C s₀ H₀ ex pn => (dts_one (dt_cmp (op_ninE rfl) om_in noX_in (dv 0) (dv 1) (by with_unfolding_all rfl)))) (fun C s₀ H₀ ex pn => (de_op op_addA om_add noX_add (dv 1) (de_lst (da_cons (dv 0) da_nil))))) (fun t q => ps_expr (pe_bm PySem.F.plainAttrs_list PySem.F.slot_list_extend PySem.F.type_list_extend mt_extend (pv 3) (pa_cons q pa_nil)))))) (dss_frz 3 (dss_one (ds_set (i := 1) sc_dealings_of.nd rfl (Or.inl rfl) (dv 3))))))) (dss_one (ds_ret (dv 1))))))
theorem sc__law_before : FnScope ["_law_a", "_law_b"] ["_law_a", "_law_b"] (defScope s__law_before) := ⟨rfl, rfl, rfl, by decide +kernel, rfl, by decide +kernel, by decide +kernel⟩
theorem ok__law_before {c : Cls} (Df : Def K mg "_law_before" ["_law_a", "_law_b"] s__law_before) (B : Blt mg) (C : ClsM mg c) (O : ClsO mg base c) (hk : KitF K c) : Cal P w K mg base 1 "_law_before" 2 (m__law_before K c) := by
 refine calM (k := 0) Df sc__law_before rfl (fun f cdv A outer s H E hr => ⟨f__law_before K c, ?_, eq__law_before K c⟩)
 exact (dss_one (ds_ret (de_cmp op_lt om_cmp noX_intE0 (de_op op_mulW om_mul noX_intE (de_ix (dv 0) de_int (fun _ _ => rfl)) (de_ix (dv 1) de_int (fun _ _ => rfl))) (de_op op_mulW om_mul noX_intE (de_ix (dv 1) de_int (fun _ _ => rfl)) (de_ix (dv 0) de_int (fun _ _ => rfl))) (nomark _))))
theorem sc__law_is_fraction : FnScope ["_law_found"] ["_law_found"] (defScope s__law_is_fraction) := ⟨rfl, rfl, rfl, by decide +kernel, rfl, by decide +kernel, by decide +kernel⟩
theorem ok__law_is_fraction {c : Cls} (Df : Def K mg "_law_is_fraction" ["_law_found"] s__law_is_fraction) (B : Blt mg) (C : ClsM mg c) (O : ClsO mg base c) (hk : KitF K c) (c__law_lowest : Cal P w K mg base 1 "_law_lowest" 2 (m__law_lowest K c)) (c__law_whole : Cal P w K mg base 1 "_law_whole" 1 (m__law_whole K c)) : Cal P w K mg base 2 "_law_is_fraction" 1 (m__law_is_fraction K c) := by
 refine calM (k := 1) Df sc__law_is_fraction rfl (fun f cdv A outer s H E hr => ⟨f__law_is_fraction K c, ?_, eq__law_is_fraction K c hk⟩)
 exact (dss_cons (ds_if (DW.t (dw_or (dt_not (dt_val (de_isi (cv := .type "tuple") rfl B.isinstance_ (.inl ⟨_, rfl⟩) rfl (dv 0) (pe_bltn (v := .ty "tuple") rfl B.tuple_ bT_tuple rfl)))) (dw_or (dt_cmp (op_neP (u64 hr)) om_eq noX_eq (de_callB call_len_seq cm_len noX_len rfl B.len_ PySem.boot_len (da_cons (dv 0) da_nil)) de_int (nomark _)) (dw_or (dt_not (dt_val (de_callC c__law_whole hr passS (da_cons (de_ix (dv 0) de_int (fun _ _ => rfl)) da_nil)))) (dw_or1 (dt_not (dt_val (de_callC c__law_whole hr passS (da_cons (de_ix (dv 0) de_int (fun _ _ => rfl)) da_nil))))))))) (dss_one (ds_ret de_bl)) dss_nil) (dss_one (ds_ret (de_and (de_cmp op_gt om_cmp noX_intE0 (de_ix (dv 0) de_int (fun _ _ => rfl)) de_int (nomark _)) (de_one (de_cmp (op_eqP (u64 hr)) om_eq noX_eq (de_callC c__law_lowest hr passS (da_cons (de_ix (dv 0) de_int (fun _ _ => rfl)) (da_cons (de_ix (dv 0) de_int (fun _ _ => rfl)) da_nil))) (dv 0) (nomark _)))))))
end
section
variable {P : Program} {w : World} {K : PySem.W.Frag} {mg : Str → Option Value} {base : Heap}
theorem sc_common_bottom : FnScope ["numbers", "common", "number"] ["numbers"] (defScope s_common_bottom) := ⟨rfl, rfl, rfl, by decide +kernel, rfl, by decide +kernel, by decide +kernel⟩
theorem ok_common_bottom {c : Cls} (Df : Def K mg "common_bottom" ["numbers"] s_common_bottom) (B : Blt mg) (C : ClsM mg c) (O : ClsO mg base c) (hk : KitF K c) (c_greatest_divisor : Cal P w K mg base 1 "greatest_divisor" 2 (m_greatest_divisor K c)) : Cal P w K mg base 2 "common_bottom" 1 (m_common_bottom K c) := by
 refine calM (k := 1) Df sc_common_bottom rfl (fun f cdv A outer s H E hr => ⟨f_common_bottom K c, ?_, eq_common_bottom K c⟩)
 exact (dss_cons (ds_set (i := 1) sc_common_bottom.nd rfl (Or.inl rfl) de_int) (dss_cons (ds_for PassesOwn.leaving rfl (di_list (dv 0)) (dg_name (i := 2) sc_common_bottom.nd rfl (Or.inl rfl)) (dss_one (ds_set (i := 1) sc_common_bottom.nd rfl (Or.inl rfl) (de_op op_fdivW om_fdiv noX_intE (de_op op_mulW om_mul noX_intE (dv 1) (de_ix (dv 2) de_int (fun _ _ => rfl))) (de_callC c_greatest_divisor hr passS (da_cons (dv 1) (da_cons (de_ix (dv 2) de_int (fun _ _ => rfl)) da_nil))))))) (dss_one (ds_ret (dv 1)))))
theorem sc_whole_rows : FnScope ["table", "factor", "rows", "row"] ["table", "factor"] (defScope s_whole_rows) := ⟨rfl, rfl, rfl, by decide +kernel, rfl, by decide +kernel, by decide +kernel⟩
theorem ok_whole_rows {c : Cls} (Df : Def K mg "whole_rows" ["table", "factor"] s_whole_rows) (B : Blt mg) (C : ClsM mg c) (O : ClsO mg base c) (hk : KitF K c) (c_whole : Cal P w K mg base 1 "whole" 2 (m_whole K c)) : Cal P w K mg base 2 "whole_rows" 2 (m_whole_rows K c) := by
 refine calM (k := 1) Df sc_whole_rows rfl (fun f cdv A outer s H E hr => ⟨f_whole_rows K c, ?_, eq_whole_rows K c⟩)
 exact (dss_cons (ds_set (i := 2) sc_whole_rows.nd rfl (Or.inl rfl) (de_lst da_nil)) (dss_cons (ds_for PassesOwn.leaving rfl (di_list (dv 0)) (dg_name (i := 3) sc_whole_rows.nd rfl (Or.inl rfl)) (dss_one (ds_append (i := 2) (de_comp (xs := ["number"]) (ys := ["factor"]) (js := [1]) (cl := [("factor", s.heap.objs.size + 1)]) rfl (di_list (dv 3)) (cl_ok (ys := ["factor"]) (js := [1]) rfl (List.forall_mem_cons.mpr ⟨rfl, (fun _ h => nomatch h)⟩) (cap_cons ⟨rfl, .inl rfl, .inl rfl, rfl, rfl⟩ cap_nil) (by decide +kernel) (by decide +kernel)) (cap_cons ⟨rfl, .inl rfl, .inl rfl, rfl, rfl⟩ cap_nil) (by decide +kernel) rfl (by decide +kernel) rfl (by decide) (fun C s₀ H₀ ex pn => (dg_name (i := 0) (show (["number", "factor"] : List Str).Nodup by decide +kernel) rfl (Or.inl rfl))) (fun C s₀ H₀ ex pn => dts_nil) (fun C s₀ H₀ ex pn => (de_callC c_whole hr passF (da_cons (dv 0) (da_cons (dv 1) da_nil))))) (fun t q => ps_expr (pe_bm PySem.F.plainAttrs_list PySem.F.slot_list_append PySem.F.type_list_append mt_append (pv 2) (pa_cons q pa_nil)))))) (dss_one (ds_ret (dv 2)))))
theorem sc__law_orders : FnScope ["_law_size", "_law_found", "_law_k", "_law_longer", "_law_order", "_law_number_here"] ["_law_size"] (defScope s__law_orders) := ⟨rfl, rfl, rfl, by decide +kernel, rfl, by decide +kernel, by decide +kernel⟩
theorem ok__law_orders {c : Cls} (Df : Def K mg "_law_orders" ["_law_size"] s__law_orders) (B : Blt mg) (C : ClsM mg c) (O : ClsO mg base c) (hk : KitF K c) : Cal P w K mg base 1 "_law_orders" 1 (m__law_orders K c) := by
 refine calM (k := 0) Df sc__law_orders rfl (fun f cdv A outer s H E hr => ⟨f__law_orders K c, ?_, eq__law_orders K c⟩)
 exact (dss_cons (ds_set (i := 1) sc__law_orders.nd rfl (Or.inl rfl) (de_lst (da_cons (de_lst da_nil) da_nil))) (dss_frz 1 (dss_cons (ds_for PassesOwn.leaving rfl (di_range1 rfl B.range_ (da_cons (dv 0) da_nil)) (dg_name (i := 2) sc__law_orders.nd rfl (Or.inl rfl)) (dss_cons (ds_set (i := 3) sc__law_orders.nd rfl (Or.inl rfl) (de_lst da_nil)) (dss_cons (ds_for PassesOwn.leaving rfl (di_list (dv 1)) (dg_name (i := 4) sc__law_orders.nd rfl (Or.inl rfl)) (dss_one (ds_for PassesOwn.leaving rfl (di_range1 rfl B.range_ (da_cons (dv 0) da_nil)) (dg_name (i := 5) sc__law_orders.nd rfl (Or.inl rfl)) (dss_one (ds_if (dt_cmp (op_ninE rfl) om_in noX_in (dv 5) (dv 4) (by with_unfolding_all rfl)) (dss_one (ds_append (i := 3) (de_op op_addA om_add noX_add (dv 4) (de_lst (da_cons (dv 5) da_nil))) (fun t q => ps_expr (pe_bm PySem.F.plainAttrs_list PySem.F.slot_list_append PySem.F.type_list_append mt_append (pv 3) (pa_cons q pa_nil))))) dss_nil))))) (dss_frz 3 (dss_one (ds_set (i := 1) sc__law_orders.nd rfl (Or.inl rfl) (dv 3))))))) (dss_one (ds_ret (dv 1))))))
end
theorem own_at {K : PySem.W.Frag} {h₀ : Heap} {mg : Str → Option Value} {x : Str} {C : Addr} {bmB : List Value} {newId : String} (X : K.In h₀) (G : h₀.Ns mainGlobals mg) (e : PySem.W.nsIn K mainGlobals x = some (some (.ref C))) (q : PySem.W.excIn K C bmB newId = true) : PyProof.Rows.OwnCls x C bmB newId mg h₀ := by
 refine ⟨PySem.W.mg_of X G e, ?_⟩
 unfold PySem.W.excIn at q
 split at q
 ·rename_i d1 cd1 sl1 ho1
  split at q
  ·rename_i C1 bm1 s0 s1 s2 s3 n1 s5 hm1 hs1
   simp only [Bool.and_eq_true, beq_iff_eq, Bool.not_eq_true'] at q
   obtain ⟨⟨⟨⟨⟨rfl, rfl⟩, hdl⟩, htl⟩, hnok⟩, hini⟩ := q
   obtain ⟨c1, c2, c3, c4, c5, c6, c7, c8, c9, c10, c11⟩ := cd1
   dsimp only at hm1 hdl hnok hini
   subst hm1 hdl
   obtain ⟨sll⟩ := sl1
   simp only at hs1
   subst hs1
   exact ⟨bm1, c4, c1, c5, c2, c6, c7, c8, c9, c10, d1, s0, s1, s2, s3, s5, _, X _ _ ho1, .of_isNs (PySem.W.isNs_of_in X hnok), PySem.W.nsMap_none_of_in X hnok hini, PySem.W.tail_of_in X htl⟩
  ·cases q
 ·cases q
theorem len_1 {α : Type} {us : List α} (h : us.length = 1) : ∃ a, us = [a] := List.length_eq_one_iff.mp h
theorem len_2 {α : Type} {us : List α} (h : us.length = 2) : ∃ a b, us = [a, b] := by
 cases us with
 | nil => cases h
 | cons a r => obtain ⟨b, rfl⟩ := len_1 (Nat.succ.inj h); exact ⟨a, b, rfl⟩
def noLists (K : PySem.W.Frag) : Bool := K.all fun p => match p.2.cls with
 | .type n => !(n == "list")
 | _ => true
theorem lookup_mem {a : Addr} {o : Obj} : ∀ {l : List (Addr × Obj)}, l.lookup a = some o → (a, o) ∈ l
 | (k, v) :: r, h => by
  unfold List.lookup at h
  split at h
  ·rename_i z
   have e : a = k := by simpa using z
   cases h
   rw [e]
   exact .head _
  ·exact .tail _ (lookup_mem h)
theorem noLists_no {K : PySem.W.Frag} (h : noLists K = true) {a : Addr} {o : Obj} (e : K.lookup a = some o) (hc : o.cls = .type "list") : False := by
 have := List.all_eq_true.mp h (a, o) (lookup_mem e)
 dsimp only at this
 rw [hc] at this
 cases this
def spLaw : Sp := fun vs H Q _ => ∃ (a : Addr) (ns : List Int), vs = [.ref a] ∧ Rd H a (.lst (ns.map V.int)) ∧ ns.length ≤ 63 ∧ ∀ H', Q (.bl true) H'
theorem reps_ints {K : PySem.W.Frag} {G : Hp} : ∀ ns : List Int, Reps K G (ns.map V.int) (ns.map PyData.int)
 | [] => .nil
 | i :: r => .cons (.int i) (reps_ints r)
theorem law_sp {P : Program} {w : World} {K : PySem.W.Frag} {mg : Str → Option Value} {base : Heap} {f : Addr} {fd : FuncData} {c : Cls} (hk : KitF K c) (F : FnOk P w K mg base (CXr P w) 4 f fd ["_law_script"] (spM K 1 (m_law K c))) : FnOk P w K mg base (CXr P w) 4 f fd ["_law_script"] spLaw :=
 F.imp fun vs H Q E h => by
  obtain ⟨a, ns, rfl, rd, hl, hq⟩ := h
  refine ⟨rfl, H, [.p (.list (ns.map .int))], Same.refl _, ⟨.lst rd (reps_ints ns), trivial⟩, ?_⟩
  rw [law_ok K c hk ns hl]
  intro G' H' v st r
  cases r
  exact hq H'
theorem all_mk {l : PySem.W.OpenLaw} {w : World} {K : PySem.W.Frag} {h : Heap} {mg : Str → Option Value} {fa : Addr} {f1 f2 f3 f4 f5 f6 f7 f8 f9 f10 f11 f12 f13 f14 f15 f16 f17 f18 f19 f20 CRoofError CNoFraction : Addr} (X : K.In h) (G : h.Ns mainGlobals mg) (hfa : mg "law" = some (.ref fa))
  {od1 an1 od2 an2 od3 an3 od4 an4 od5 an5 od6 an6 od7 an7 od8 an8 od9 an9 od10 an10 od11 an11 od12 an12 od13 an13 od14 an14 od15 an15 od16 an16 od17 an17 od18 an18 od19 an19 od20 an20 : Option Addr} {sl1 sl2 sl3 sl4 sl5 sl6 sl7 sl8 sl9 sl10 sl11 sl12 sl13 sl14 sl15 sl16 sl17 sl18 sl19 sl20 : Array (Option Value)} {oc1 kV1 dc1 pm1 cd1 ct1 oc2 kV2 dc2 pm2 cd2 ct2 oc3 kV3 dc3 pm3 cd3 ct3 oc4 kV4 dc4 pm4 cd4 ct4 oc5 kV5 dc5 pm5 cd5 ct5 oc6 kV6 dc6 pm6 cd6 ct6 oc7 kV7 dc7 pm7 cd7 ct7 oc8 kV8 dc8 pm8 cd8 ct8 oc9 kV9 dc9 pm9 cd9 ct9 oc10 kV10 dc10 pm10 cd10 ct10 oc11 kV11 dc11 pm11 cd11 ct11 oc12 kV12 dc12 pm12 cd12 ct12 oc13 kV13 dc13 pm13 cd13 ct13 oc14 kV14 dc14 pm14 cd14 ct14 oc15 kV15 dc15 pm15 cd15 ct15 oc16 kV16 dc16 pm16 cd16 ct16 oc17 kV17 dc17 pm17 cd17 ct17 oc18 kV18 dc18 pm18 cd18 ct18 oc19 kV19 dc19 pm19 cd19 ct19 oc20 kV20 dc20 pm20 cd20 ct20 : Value}
  (a1 : PySem.W.nsIn K mainGlobals "greatest_divisor" = some (some (.ref f1)))
  (l1 : K.lookup f1 = some ⟨oc1, od1, .func (PySem.W.fnOf "greatest_divisor" "greatest_divisor" (defArgs s_greatest_divisor) (defBody s_greatest_divisor) (defScope s_greatest_divisor) .none kV1 dc1 pm1 an1 cd1 ct1), sl1⟩)
  (c1 : PySem.W.codeIn K cd1 "greatest_divisor" = true)
  (k1 : PySem.W.keepIn K (.ref f1) = true)
  (a2 : PySem.W.nsIn K mainGlobals "fraction" = some (some (.ref f2)))
  (l2 : K.lookup f2 = some ⟨oc2, od2, .func (PySem.W.fnOf "fraction" "fraction" (defArgs s_fraction) (defBody s_fraction) (defScope s_fraction) .none kV2 dc2 pm2 an2 cd2 ct2), sl2⟩)
  (c2 : PySem.W.codeIn K cd2 "fraction" = true)
  (k2 : PySem.W.keepIn K (.ref f2) = true)
  (a3 : PySem.W.nsIn K mainGlobals "common_bottom" = some (some (.ref f3)))
  (l3 : K.lookup f3 = some ⟨oc3, od3, .func (PySem.W.fnOf "common_bottom" "common_bottom" (defArgs s_common_bottom) (defBody s_common_bottom) (defScope s_common_bottom) .none kV3 dc3 pm3 an3 cd3 ct3), sl3⟩)
  (c3 : PySem.W.codeIn K cd3 "common_bottom" = true)
  (k3 : PySem.W.keepIn K (.ref f3) = true)
  (a4 : PySem.W.nsIn K mainGlobals "whole" = some (some (.ref f4)))
  (l4 : K.lookup f4 = some ⟨oc4, od4, .func (PySem.W.fnOf "whole" "whole" (defArgs s_whole) (defBody s_whole) (defScope s_whole) .none kV4 dc4 pm4 an4 cd4 ct4), sl4⟩)
  (c4 : PySem.W.codeIn K cd4 "whole" = true)
  (k4 : PySem.W.keepIn K (.ref f4) = true)
  (a5 : PySem.W.nsIn K mainGlobals "dealings_of" = some (some (.ref f5)))
  (l5 : K.lookup f5 = some ⟨oc5, od5, .func (PySem.W.fnOf "dealings_of" "dealings_of" (defArgs s_dealings_of) (defBody s_dealings_of) (defScope s_dealings_of) .none kV5 dc5 pm5 an5 cd5 ct5), sl5⟩)
  (c5 : PySem.W.codeIn K cd5 "dealings_of" = true)
  (k5 : PySem.W.keepIn K (.ref f5) = true)
  (a6 : PySem.W.nsIn K mainGlobals "whole_rows" = some (some (.ref f6)))
  (l6 : K.lookup f6 = some ⟨oc6, od6, .func (PySem.W.fnOf "whole_rows" "whole_rows" (defArgs s_whole_rows) (defBody s_whole_rows) (defScope s_whole_rows) .none kV6 dc6 pm6 an6 cd6 ct6), sl6⟩)
  (c6 : PySem.W.codeIn K cd6 "whole_rows" = true)
  (k6 : PySem.W.keepIn K (.ref f6) = true)
  (a7 : PySem.W.nsIn K mainGlobals "worth_of" = some (some (.ref f7)))
  (l7 : K.lookup f7 = some ⟨oc7, od7, .func (PySem.W.fnOf "worth_of" "worth_of" (defArgs s_worth_of) (defBody s_worth_of) (defScope s_worth_of) .none kV7 dc7 pm7 an7 cd7 ct7), sl7⟩)
  (c7 : PySem.W.codeIn K cd7 "worth_of" = true)
  (k7 : PySem.W.keepIn K (.ref f7) = true)
  (a8 : PySem.W.nsIn K mainGlobals "best" = some (some (.ref f8)))
  (l8 : K.lookup f8 = some ⟨oc8, od8, .func (PySem.W.fnOf "best" "best" (defArgs s_best) (defBody s_best) (defScope s_best) .none kV8 dc8 pm8 an8 cd8 ct8), sl8⟩)
  (c8 : PySem.W.codeIn K cd8 "best" = true)
  (k8 : PySem.W.keepIn K (.ref f8) = true)
  (a9 : PySem.W.nsIn K mainGlobals "_law_whole" = some (some (.ref f9)))
  (l9 : K.lookup f9 = some ⟨oc9, od9, .func (PySem.W.fnOf "_law_whole" "_law_whole" (defArgs s__law_whole) (defBody s__law_whole) (defScope s__law_whole) .none kV9 dc9 pm9 an9 cd9 ct9), sl9⟩)
  (c9 : PySem.W.codeIn K cd9 "_law_whole" = true)
  (k9 : PySem.W.keepIn K (.ref f9) = true)
  (a10 : PySem.W.nsIn K mainGlobals "_law_cell_at" = some (some (.ref f10)))
  (l10 : K.lookup f10 = some ⟨oc10, od10, .func (PySem.W.fnOf "_law_cell_at" "_law_cell_at" (defArgs s__law_cell_at) (defBody s__law_cell_at) (defScope s__law_cell_at) .none kV10 dc10 pm10 an10 cd10 ct10), sl10⟩)
  (c10 : PySem.W.codeIn K cd10 "_law_cell_at" = true)
  (k10 : PySem.W.keepIn K (.ref f10) = true)
  (a11 : PySem.W.nsIn K mainGlobals "_law_mix" = some (some (.ref f11)))
  (l11 : K.lookup f11 = some ⟨oc11, od11, .func (PySem.W.fnOf "_law_mix" "_law_mix" (defArgs s__law_mix) (defBody s__law_mix) (defScope s__law_mix) .none kV11 dc11 pm11 an11 cd11 ct11), sl11⟩)
  (c11 : PySem.W.codeIn K cd11 "_law_mix" = true)
  (k11 : PySem.W.keepIn K (.ref f11) = true)
  (a12 : PySem.W.nsIn K mainGlobals "_law_lowest" = some (some (.ref f12)))
  (l12 : K.lookup f12 = some ⟨oc12, od12, .func (PySem.W.fnOf "_law_lowest" "_law_lowest" (defArgs s__law_lowest) (defBody s__law_lowest) (defScope s__law_lowest) .none kV12 dc12 pm12 an12 cd12 ct12), sl12⟩)
  (c12 : PySem.W.codeIn K cd12 "_law_lowest" = true)
  (k12 : PySem.W.keepIn K (.ref f12) = true)
  (a13 : PySem.W.nsIn K mainGlobals "_law_sum" = some (some (.ref f13)))
  (l13 : K.lookup f13 = some ⟨oc13, od13, .func (PySem.W.fnOf "_law_sum" "_law_sum" (defArgs s__law_sum) (defBody s__law_sum) (defScope s__law_sum) .none kV13 dc13 pm13 an13 cd13 ct13), sl13⟩)
  (c13 : PySem.W.codeIn K cd13 "_law_sum" = true)
  (k13 : PySem.W.keepIn K (.ref f13) = true)
  (a14 : PySem.W.nsIn K mainGlobals "_law_before" = some (some (.ref f14)))
  (l14 : K.lookup f14 = some ⟨oc14, od14, .func (PySem.W.fnOf "_law_before" "_law_before" (defArgs s__law_before) (defBody s__law_before) (defScope s__law_before) .none kV14 dc14 pm14 an14 cd14 ct14), sl14⟩)
  (c14 : PySem.W.codeIn K cd14 "_law_before" = true)
  (k14 : PySem.W.keepIn K (.ref f14) = true)
  (a15 : PySem.W.nsIn K mainGlobals "_law_is_fraction" = some (some (.ref f15)))
  (l15 : K.lookup f15 = some ⟨oc15, od15, .func (PySem.W.fnOf "_law_is_fraction" "_law_is_fraction" (defArgs s__law_is_fraction) (defBody s__law_is_fraction) (defScope s__law_is_fraction) .none kV15 dc15 pm15 an15 cd15 ct15), sl15⟩)
  (c15 : PySem.W.codeIn K cd15 "_law_is_fraction" = true)
  (k15 : PySem.W.keepIn K (.ref f15) = true)
  (a16 : PySem.W.nsIn K mainGlobals "_law_number" = some (some (.ref f16)))
  (l16 : K.lookup f16 = some ⟨oc16, od16, .func (PySem.W.fnOf "_law_number" "_law_number" (defArgs s__law_number) (defBody s__law_number) (defScope s__law_number) .none kV16 dc16 pm16 an16 cd16 ct16), sl16⟩)
  (c16 : PySem.W.codeIn K cd16 "_law_number" = true)
  (k16 : PySem.W.keepIn K (.ref f16) = true)
  (a17 : PySem.W.nsIn K mainGlobals "_law_orders" = some (some (.ref f17)))
  (l17 : K.lookup f17 = some ⟨oc17, od17, .func (PySem.W.fnOf "_law_orders" "_law_orders" (defArgs s__law_orders) (defBody s__law_orders) (defScope s__law_orders) .none kV17 dc17 pm17 an17 cd17 ct17), sl17⟩)
  (c17 : PySem.W.codeIn K cd17 "_law_orders" = true)
  (k17 : PySem.W.keepIn K (.ref f17) = true)
  (a18 : PySem.W.nsIn K mainGlobals "_law_due" = some (some (.ref f18)))
  (l18 : K.lookup f18 = some ⟨oc18, od18, .func (PySem.W.fnOf "_law_due" "_law_due" (defArgs s__law_due) (defBody s__law_due) (defScope s__law_due) .none kV18 dc18 pm18 an18 cd18 ct18), sl18⟩)
  (c18 : PySem.W.codeIn K cd18 "_law_due" = true)
  (k18 : PySem.W.keepIn K (.ref f18) = true)
  (a19 : PySem.W.nsIn K mainGlobals "_law_is" = some (some (.ref f19)))
  (l19 : K.lookup f19 = some ⟨oc19, od19, .func (PySem.W.fnOf "_law_is" "_law_is" (defArgs s__law_is) (defBody s__law_is) (defScope s__law_is) .none kV19 dc19 pm19 an19 cd19 ct19), sl19⟩)
  (c19 : PySem.W.codeIn K cd19 "_law_is" = true)
  (k19 : PySem.W.keepIn K (.ref f19) = true)
  (a20 : PySem.W.nsIn K mainGlobals "law" = some (some (.ref f20)))
  (l20 : K.lookup f20 = some ⟨oc20, od20, .func (PySem.W.fnOf "law" "law" (defArgs s_law) (defBody s_law) (defScope s_law) .none kV20 dc20 pm20 an20 cd20 ct20), sl20⟩)
  (c20 : PySem.W.codeIn K cd20 "law" = true)
  (k20 : PySem.W.keepIn K (.ref f20) = true)
  (z0 : PySem.W.nsIn K mainGlobals "abs" = some none)
  (z1 : PySem.W.nsIn K mainGlobals "bool" = some none)
  (z2 : PySem.W.nsIn K mainGlobals "int" = some none)
  (z3 : PySem.W.nsIn K mainGlobals "isinstance" = some none)
  (z4 : PySem.W.nsIn K mainGlobals "len" = some none)
  (z5 : PySem.W.nsIn K mainGlobals "list" = some none)
  (z6 : PySem.W.nsIn K mainGlobals "max" = some none)
  (z7 : PySem.W.nsIn K mainGlobals "range" = some none)
  (z8 : PySem.W.nsIn K mainGlobals "sum" = some none)
  (z9 : PySem.W.nsIn K mainGlobals "tuple" = some none)
  (z10 : PySem.W.nsIn K mainGlobals "zip" = some none)
  (nRoofError : PySem.W.nsIn K mainGlobals "RoofError" = some (some (.ref CRoofError)))
  (nNoFraction : PySem.W.nsIn K mainGlobals "NoFraction" = some (some (.ref CNoFraction)))
  (eNoFraction : PySem.W.excIn K CNoFraction [.type "ValueError", .type "Exception", .type "BaseException", .type "object"] "ValueError.__new__" = true)
  (xii : PySem.W.kitOne K (.type "int") (.type "int") = some true)
  (xib : PySem.W.kitOne K (.type "int") (.type "bool") = some false)
  (xtt : PySem.W.kitOne K (.type "tuple") (.type "tuple") = some true)
  (xll : PySem.W.kitOne K (.type "list") (.type "list") = some true)
  : ∃ fd : FuncData, (∀ (s : Shared) (v : Value), BindsTo s fd ⟨[v], []⟩ [("_law_script", v)]) ∧ ∀ base : Heap, K.In base → base.Ns mainGlobals mg → FnOk l.prog w K mg base (CXr l.prog w) 4 fa fd ["_law_script"] spLaw := by
 have e := hfa.symm.trans (PySem.W.mg_of X G a20)
 cases e
 have F1 := fun_mk (st := s_greatest_divisor) l1 c1 k1
 have D1 : Def K mg "greatest_divisor" ["a", "b"] s_greatest_divisor := ⟨_, _, F1, F1.binds (ps := ["a", "b"]) (fun _ _ _ _ _ _ us hl => by obtain ⟨_, _, rfl⟩ := len_2 hl; rfl), k1, PySem.W.mg_of X G a1⟩
 have F2 := fun_mk (st := s_fraction) l2 c2 k2
 have D2 : Def K mg "fraction" ["top", "bottom"] s_fraction := ⟨_, _, F2, F2.binds (ps := ["top", "bottom"]) (fun _ _ _ _ _ _ us hl => by obtain ⟨_, _, rfl⟩ := len_2 hl; rfl), k2, PySem.W.mg_of X G a2⟩
 have F3 := fun_mk (st := s_common_bottom) l3 c3 k3
 have D3 : Def K mg "common_bottom" ["numbers"] s_common_bottom := ⟨_, _, F3, F3.binds (ps := ["numbers"]) (fun _ _ _ _ _ _ us hl => by obtain ⟨_, rfl⟩ := len_1 hl; rfl), k3, PySem.W.mg_of X G a3⟩
 have F4 := fun_mk (st := s_whole) l4 c4 k4
 have D4 : Def K mg "whole" ["number", "factor"] s_whole := ⟨_, _, F4, F4.binds (ps := ["number", "factor"]) (fun _ _ _ _ _ _ us hl => by obtain ⟨_, _, rfl⟩ := len_2 hl; rfl), k4, PySem.W.mg_of X G a4⟩
 have F5 := fun_mk (st := s_dealings_of) l5 c5 k5
 have D5 : Def K mg "dealings_of" ["n"] s_dealings_of := ⟨_, _, F5, F5.binds (ps := ["n"]) (fun _ _ _ _ _ _ us hl => by obtain ⟨_, rfl⟩ := len_1 hl; rfl), k5, PySem.W.mg_of X G a5⟩
 have F6 := fun_mk (st := s_whole_rows) l6 c6 k6
 have D6 : Def K mg "whole_rows" ["table", "factor"] s_whole_rows := ⟨_, _, F6, F6.binds (ps := ["table", "factor"]) (fun _ _ _ _ _ _ us hl => by obtain ⟨_, _, rfl⟩ := len_2 hl; rfl), k6, PySem.W.mg_of X G a6⟩
 have F7 := fun_mk (st := s_worth_of) l7 c7 k7
 have D7 : Def K mg "worth_of" ["rows", "dealing"] s_worth_of := ⟨_, _, F7, F7.binds (ps := ["rows", "dealing"]) (fun _ _ _ _ _ _ us hl => by obtain ⟨_, _, rfl⟩ := len_2 hl; rfl), k7, PySem.W.mg_of X G a7⟩
 have F8 := fun_mk (st := s_best) l8 c8 k8
 have D8 : Def K mg "best" ["table"] s_best := ⟨_, _, F8, F8.binds (ps := ["table"]) (fun _ _ _ _ _ _ us hl => by obtain ⟨_, rfl⟩ := len_1 hl; rfl), k8, PySem.W.mg_of X G a8⟩
 have F9 := fun_mk (st := s__law_whole) l9 c9 k9
 have D9 : Def K mg "_law_whole" ["_law_found"] s__law_whole := ⟨_, _, F9, F9.binds (ps := ["_law_found"]) (fun _ _ _ _ _ _ us hl => by obtain ⟨_, rfl⟩ := len_1 hl; rfl), k9, PySem.W.mg_of X G a9⟩
 have F10 := fun_mk (st := s__law_cell_at) l10 c10 k10
 have D10 : Def K mg "_law_cell_at" ["_law_script", "_law_k"] s__law_cell_at := ⟨_, _, F10, F10.binds (ps := ["_law_script", "_law_k"]) (fun _ _ _ _ _ _ us hl => by obtain ⟨_, _, rfl⟩ := len_2 hl; rfl), k10, PySem.W.mg_of X G a10⟩
 have F11 := fun_mk (st := s__law_mix) l11 c11 k11
 have D11 : Def K mg "_law_mix" ["_law_cell", "_law_k"] s__law_mix := ⟨_, _, F11, F11.binds (ps := ["_law_cell", "_law_k"]) (fun _ _ _ _ _ _ us hl => by obtain ⟨_, _, rfl⟩ := len_2 hl; rfl), k11, PySem.W.mg_of X G a11⟩
 have F12 := fun_mk (st := s__law_lowest) l12 c12 k12
 have D12 : Def K mg "_law_lowest" ["_law_top", "_law_bottom"] s__law_lowest := ⟨_, _, F12, F12.binds (ps := ["_law_top", "_law_bottom"]) (fun _ _ _ _ _ _ us hl => by obtain ⟨_, _, rfl⟩ := len_2 hl; rfl), k12, PySem.W.mg_of X G a12⟩
 have F13 := fun_mk (st := s__law_sum) l13 c13 k13
 have D13 : Def K mg "_law_sum" ["_law_a", "_law_b"] s__law_sum := ⟨_, _, F13, F13.binds (ps := ["_law_a", "_law_b"]) (fun _ _ _ _ _ _ us hl => by obtain ⟨_, _, rfl⟩ := len_2 hl; rfl), k13, PySem.W.mg_of X G a13⟩
 have F14 := fun_mk (st := s__law_before) l14 c14 k14
 have D14 : Def K mg "_law_before" ["_law_a", "_law_b"] s__law_before := ⟨_, _, F14, F14.binds (ps := ["_law_a", "_law_b"]) (fun _ _ _ _ _ _ us hl => by obtain ⟨_, _, rfl⟩ := len_2 hl; rfl), k14, PySem.W.mg_of X G a14⟩
 have F15 := fun_mk (st := s__law_is_fraction) l15 c15 k15
 have D15 : Def K mg "_law_is_fraction" ["_law_found"] s__law_is_fraction := ⟨_, _, F15, F15.binds (ps := ["_law_found"]) (fun _ _ _ _ _ _ us hl => by obtain ⟨_, rfl⟩ := len_1 hl; rfl), k15, PySem.W.mg_of X G a15⟩
 have F16 := fun_mk (st := s__law_number) l16 c16 k16
 have D16 : Def K mg "_law_number" ["_law_cell", "_law_k"] s__law_number := ⟨_, _, F16, F16.binds (ps := ["_law_cell", "_law_k"]) (fun _ _ _ _ _ _ us hl => by obtain ⟨_, _, rfl⟩ := len_2 hl; rfl), k16, PySem.W.mg_of X G a16⟩
 have F17 := fun_mk (st := s__law_orders) l17 c17 k17
 have D17 : Def K mg "_law_orders" ["_law_size"] s__law_orders := ⟨_, _, F17, F17.binds (ps := ["_law_size"]) (fun _ _ _ _ _ _ us hl => by obtain ⟨_, rfl⟩ := len_1 hl; rfl), k17, PySem.W.mg_of X G a17⟩
 have F18 := fun_mk (st := s__law_due) l18 c18 k18
 have D18 : Def K mg "_law_due" ["_law_table"] s__law_due := ⟨_, _, F18, F18.binds (ps := ["_law_table"]) (fun _ _ _ _ _ _ us hl => by obtain ⟨_, rfl⟩ := len_1 hl; rfl), k18, PySem.W.mg_of X G a18⟩
 have F19 := fun_mk (st := s__law_is) l19 c19 k19
 have D19 : Def K mg "_law_is" ["_law_found", "_law_due_here"] s__law_is := ⟨_, _, F19, F19.binds (ps := ["_law_found", "_law_due_here"]) (fun _ _ _ _ _ _ us hl => by obtain ⟨_, _, rfl⟩ := len_2 hl; rfl), k19, PySem.W.mg_of X G a19⟩
 have F20 := fun_mk (st := s_law) l20 c20 k20
 have B : Blt mg := ⟨PySem.W.mg_none_of X G z0, PySem.W.mg_none_of X G z1, PySem.W.mg_none_of X G z2, PySem.W.mg_none_of X G z3, PySem.W.mg_none_of X G z4, PySem.W.mg_none_of X G z5, PySem.W.mg_none_of X G z6, PySem.W.mg_none_of X G z7, PySem.W.mg_none_of X G z8, PySem.W.mg_none_of X G z9, PySem.W.mg_none_of X G z10⟩
 let c : Cls := ⟨CRoofError, CNoFraction⟩
 have C : ClsM mg c := ⟨PySem.W.mg_of X G nRoofError, PySem.W.mg_of X G nNoFraction⟩
 have hk : KitF K c := ⟨xii, xib, xtt, xll⟩
 refine ⟨PySem.W.fnOf "law" "law" (defArgs s_law) (defBody s_law) (defScope s_law) .none kV20 dc20 pm20 an20 cd20 ct20, fun s v => .of_eq rfl, fun base kb nb => ?_⟩
 have O : ClsO mg base c := ⟨own_at kb nb nNoFraction eNoFraction⟩
 have G1 : Cal l.prog w K mg base 1 "greatest_divisor" 2 (m_greatest_divisor K c) := ok_greatest_divisor D1 B C O hk
 have G4 : Cal l.prog w K mg base 1 "whole" 2 (m_whole K c) := ok_whole D4 B C O hk
 have G5 : Cal l.prog w K mg base 1 "dealings_of" 1 (m_dealings_of K c) := ok_dealings_of D5 B C O hk
 have G7 : Cal l.prog w K mg base 1 "worth_of" 2 (m_worth_of K c) := ok_worth_of D7 B C O hk
 have G9 : Cal l.prog w K mg base 1 "_law_whole" 1 (m__law_whole K c) := ok__law_whole D9 B C O hk
 have G10 : Cal l.prog w K mg base 1 "_law_cell_at" 2 (m__law_cell_at K c) := ok__law_cell_at D10 B C O hk
 have G11 : Cal l.prog w K mg base 1 "_law_mix" 2 (m__law_mix K c) := ok__law_mix D11 B C O hk
 have G12 : Cal l.prog w K mg base 1 "_law_lowest" 2 (m__law_lowest K c) := ok__law_lowest D12 B C O hk
 have G14 : Cal l.prog w K mg base 1 "_law_before" 2 (m__law_before K c) := ok__law_before D14 B C O hk
 have G17 : Cal l.prog w K mg base 1 "_law_orders" 1 (m__law_orders K c) := ok__law_orders D17 B C O hk
 have G2 : Cal l.prog w K mg base 2 "fraction" 2 (m_fraction K c) := ok_fraction D2 B C O hk G1
 have G3 : Cal l.prog w K mg base 2 "common_bottom" 1 (m_common_bottom K c) := ok_common_bottom D3 B C O hk G1
 have G6 : Cal l.prog w K mg base 2 "whole_rows" 2 (m_whole_rows K c) := ok_whole_rows D6 B C O hk G4
 have G13 : Cal l.prog w K mg base 2 "_law_sum" 2 (m__law_sum K c) := ok__law_sum D13 B C O hk G12
 have G15 : Cal l.prog w K mg base 2 "_law_is_fraction" 1 (m__law_is_fraction K c) := ok__law_is_fraction D15 B C O hk G12 G9
 have G16 : Cal l.prog w K mg base 2 "_law_number" 2 (m__law_number K c) := ok__law_number D16 B C O hk G11 G12
 have G8 : Cal l.prog w K mg base 3 "best" 1 (m_best K c) := ok_best D8 B C O hk G2 G7 G5 G6 G3
 have G18 : Cal l.prog w K mg base 3 "_law_due" 1 (m__law_due K c) := ok__law_due D18 B C O hk G17 G14 G13
 have G19 : Cal l.prog w K mg base 3 "_law_is" 2 (m__law_is K c) := ok__law_is D19 B C O hk G9 G15
 exact law_sp hk (ok_law F20 B C O hk G8 G19 G18 G16 G10)
theorem walk {l : PySem.W.OpenLaw} {q : Program} {loose : List Str} {XP : (Str → Option Value) → Heap → Prop} {YP : World → Heap → Prop} {d : DefRec} {K : Params → PySem.W.Frag} (hn : l.most = some 63) (hdf : d.params.defaults = [])
  (hY : ∀ (w : World) (h : Heap), YP w h → (K w.params).In h) (hK : ∀ w : World, noLists (K w.params) = true)
  (F : ∀ (w : World) (mg : Str → Option Value) (fa : Addr) (h : Heap), (K w.params).In h → h.Ns mainGlobals mg → mg d.name = some (.ref fa) →
   ∃ fd : FuncData, (∀ (s : Shared) (u : Value), BindsTo s fd ⟨[u], []⟩ [("_law_script", u)]) ∧ ∀ base : Heap, (K w.params).In base → base.Ns mainGlobals mg → FnOk l.prog w (K w.params) mg base (CXr l.prog w) 4 fa fd ["_law_script"] spLaw) :
  PySem.W.WalkO q loose XP YP l.row.toRowW d [] (fun f vs => PySem.call f vs) :=
 L2.walk_of (n := 63) (k := 4) (x := "_law_script") (CX := fun w => CXr l.prog w) (sp := fun _ => spLaw) hn (by decide) hdf ⟨rfl, by decide, by decide⟩ hY F (fun w _ a ns hl _ hS => ⟨a, ns, rfl, hS.elim id (fun ⟨_, _, _, e, hc, _⟩ => (noLists_no (hK w) e hc).elim), hl, fun _ => rfl⟩) fun _ _ _ _ _ ⟨_, _, _, _, _, _, _, z⟩ => z
end My
open PySem PySem.W PyProof.Rows
set_option maxRecDepth 100000 in
set_option maxHeartbeats 0 in
theorem PySem.Challenge.cw_creasecurve_k41_best_dealings_holds : PySem.Challenge.rw_creasecurve_k41_best_dealings.Holds := by
 w_on; o_law; k_head; (case hw => w_witness2)
 k_fill
 refine My.walk (l := PySem.Challenge.rw_creasecurve_k41_best_dealings) rfl rfl (fun w h Y => PySem.W.kIn_of Y) ?noL ?F
 case noL => intro w; rfl
 case F =>
  intro w mg fa h KX G hmg
  refine' My.all_mk KX G hmg ?a1 ?l1 ?c1 ?k1 ?a2 ?l2 ?c2 ?k2 ?a3 ?l3 ?c3 ?k3 ?a4 ?l4 ?c4 ?k4 ?a5 ?l5 ?c5 ?k5 ?a6 ?l6 ?c6 ?k6 ?a7 ?l7 ?c7 ?k7 ?a8 ?l8 ?c8 ?k8 ?a9 ?l9 ?c9 ?k9 ?a10 ?l10 ?c10 ?k10 ?a11 ?l11 ?c11 ?k11 ?a12 ?l12 ?c12 ?k12 ?a13 ?l13 ?c13 ?k13 ?a14 ?l14 ?c14 ?k14 ?a15 ?l15 ?c15 ?k15 ?a16 ?l16 ?c16 ?k16 ?a17 ?l17 ?c17 ?k17 ?a18 ?l18 ?c18 ?k18 ?a19 ?l19 ?c19 ?k19 ?a20 ?l20 ?c20 ?k20 ?z0 ?z1 ?z2 ?z3 ?z4 ?z5 ?z6 ?z7 ?z8 ?z9 ?z10 ?nRoofError ?nNoFraction ?eNoFraction ?xii ?xib ?xtt ?xll
  (case a1 => k_is)
  (case l1 => k_is)
  (case c1 => k_is)
  (case k1 => k_is)
  (case a2 => k_is)
  (case l2 => k_is)
  (case c2 => k_is)
  (case k2 => k_is)
  (case a3 => k_is)
  (case l3 => k_is)
  (case c3 => k_is)
  (case k3 => k_is)
  (case a4 => k_is)
  (case l4 => k_is)
  (case c4 => k_is)
  (case k4 => k_is)
  (case a5 => k_is)
  (case l5 => k_is)
  (case c5 => k_is)
  (case k5 => k_is)
  (case a6 => k_is)
  (case l6 => k_is)
  (case c6 => k_is)
  (case k6 => k_is)
  (case a7 => k_is)
  (case l7 => k_is)
  (case c7 => k_is)
  (case k7 => k_is)
  (case a8 => k_is)
  (case l8 => k_is)
  (case c8 => k_is)
  (case k8 => k_is)
  (case a9 => k_is)
  (case l9 => k_is)
  (case c9 => k_is)
  (case k9 => k_is)
  (case a10 => k_is)
  (case l10 => k_is)
  (case c10 => k_is)
  (case k10 => k_is)
  (case a11 => k_is)
  (case l11 => k_is)
  (case c11 => k_is)
  (case k11 => k_is)
  (case a12 => k_is)
  (case l12 => k_is)
  (case c12 => k_is)
  (case k12 => k_is)
  (case a13 => k_is)
  (case l13 => k_is)
  (case c13 => k_is)
  (case k13 => k_is)
  (case a14 => k_is)
  (case l14 => k_is)
  (case c14 => k_is)
  (case k14 => k_is)
  (case a15 => k_is)
  (case l15 => k_is)
  (case c15 => k_is)
  (case k15 => k_is)
  (case a16 => k_is)
  (case l16 => k_is)
  (case c16 => k_is)
  (case k16 => k_is)
  (case a17 => k_is)
  (case l17 => k_is)
  (case c17 => k_is)
  (case k17 => k_is)
  (case a18 => k_is)
  (case l18 => k_is)
  (case c18 => k_is)
  (case k18 => k_is)
  (case a19 => k_is)
  (case l19 => k_is)
  (case c19 => k_is)
  (case k19 => k_is)
  (case a20 => k_is)
  (case l20 => k_is)
  (case c20 => k_is)
  (case k20 => k_is)
  (case z0 => k_is)
  (case z1 => k_is)
  (case z2 => k_is)
  (case z3 => k_is)
  (case z4 => k_is)
  (case z5 => k_is)
  (case z6 => k_is)
  (case z7 => k_is)
  (case z8 => k_is)
  (case z9 => k_is)
  (case z10 => k_is)
  (case nRoofError => k_is)
  (case nNoFraction => k_is)
  (case eNoFraction => k_exc)
  (case xii => kit_is)
  (case xib => kit_is)
  (case xtt => kit_is)
  (case xll => kit_is)

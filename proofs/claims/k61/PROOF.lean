import PyProof.Rows.All
import Wide.All
import OpenK.AllK
import Wide.FinOn
import Lean
import PyProof.EqAt
import PyProof.EqKinds
import PyProof.TupleCall
import PySem.Challenge.RW_creasecurve_k61_whole_thinned_tells_the
set_option Elab.async false
set_option linter.all false
set_option maxRecDepth 100000
namespace L2
open PySem PySem.Spec PyProof.Rows
abbrev Key:=Sum Int Str
def zU:Key->Value->Bool
 | .inl k,v=>Value.isInt k v
 | .inr x,v=>Value.isStrOf x v
def aOw (w:World):Key->Int
 | .inl k=>hashInt k
 | .inr x=>hashStr w x
theorem dY:∀ {k:Key} {v:Value},zU k v=true->(∃ i t,k=Sum.inl i/\v=Value.int i t)\/(∃ x t,k=Sum.inr x/\v=Value.str x t)
 | .inl i,v,h=>by
  obtain ⟨t,e⟩:=Value.isInt_shape (k:=i) (v:=v) h
  exact .inl ⟨i,t,rfl,e⟩
 | .inr x,v,h=>by
  obtain ⟨t,e⟩:=Value.isStrOf_shape (x:=x) (v:=v) h
  exact .inr ⟨x,t,rfl,e⟩
theorem aCz (i:Int) (t:Tok):zU (.inl i) (.int i t)=true:=by simp [zU,Value.isInt]
theorem aCd (x:Str) (t:Tok):zU (.inr x) (.str x t)=true:=by simp [zU,Value.isStrOf]
theorem aKe (a b:Int):decide ((Sum.inl a:Key)=Sum.inl b)=(a == b):=by
 by_cases e:a=b
 ·subst e;simp
 ·have h:¬ (Sum.inl a:Key)=Sum.inl b:=fun q=>e (Sum.inl.inj q)
  rw [decide_eq_false h]
  exact (beq_eq_false_iff_ne.mpr e).symm
theorem aKd (a b:Str):decide ((Sum.inr a:Key)=Sum.inr b)=decide (a=b):=by
 by_cases e:a=b
 ·subst e;simp
 ·have h:¬ (Sum.inr a:Key)=Sum.inr b:=fun q=>e (Sum.inr.inj q)
  rw [decide_eq_false h,decide_eq_false e]
theorem aKc (a:Int) (b:Str):decide ((Sum.inl a:Key)=Sum.inr b)=false:=decide_eq_false (fun q=>nomatch q)
theorem aK0 (a:Str) (b:Int):decide ((Sum.inr a:Key)=Sum.inl b)=false:=decide_eq_false (fun q=>nomatch q)
def gJ (prog:Program) (w:World):PySem.KeyKind prog w Key where
 is:=zU
 hash:=aOw w
 inj:=fun v a b ha hb=>by
  rcases dY ha with ⟨i,t,rfl,rfl⟩ | ⟨x,t,rfl,rfl⟩
  ·rcases dY hb with ⟨j,u,rfl,e⟩ | ⟨y,u,rfl,e⟩
   ·injection e with e1 _;rw [e1]
   ·exact nomatch e
  ·rcases dY hb with ⟨j,u,rfl,e⟩ | ⟨y,u,rfl,e⟩
   ·exact nomatch e
   ·injection e with e1 _;rw [e1]
 byValue:=fun k v h=>by
  rcases dY h with ⟨i,t,rfl,rfl⟩ | ⟨x,t,rfl,rfl⟩<;>rfl
 pyHash:=fun hv h=>by
  rcases dY hv with ⟨i,t,rfl,rfl⟩ | ⟨x,t,rfl,rfl⟩
  ·exact wpAny_pyHash_int h
  ·exact wpAny_pyHash_str h
 eqBool:=fun hu hv h=>by
  rcases dY hu with ⟨i,t,rfl,rfl⟩ | ⟨x,t,rfl,rfl⟩
  ·rcases dY hv with ⟨j,u,rfl,rfl⟩ | ⟨y,u,rfl,rfl⟩
   ·rw [aKe] at h;exact wpAny_eqBool_int h
   ·rw [aKc] at h;exact SeqAt.EqAt.int_str i t y u _ _ _ _ h
  ·rcases dY hv with ⟨j,u,rfl,rfl⟩ | ⟨y,u,rfl,rfl⟩
   ·rw [aK0] at h;exact SeqAt.EqAt.str_int x t j u _ _ _ _ h
   ·rw [aKd] at h;exact wpAny_eqBool_str h
 «strs»:=fun k x t v h=>by
  rcases dY h with ⟨i,u,rfl,e⟩ | ⟨y,u,rfl,e⟩
  ·exact nomatch e
  ·injection e with e1 _
   subst e1
   cases v<;>rfl
theorem wA (prog:Program) (w:World) (i:Int) (t:Tok):(gJ prog w).is (.inl i) (.int i t)=true:=aCz i t
theorem wV (prog:Program) (w:World) (x:Str) (t:Tok):(gJ prog w).is (.inr x) (.str x t)=true:=aCd x t
inductive V where
 | non | bl (b:Bool) | int (i:Int) | str (x:Str) | byt (b:Array UInt8) | flt (b:UInt64) | ref (a:Addr) | ty (n:String)
 deriving DecidableEq
def RelV:V->Value->Prop
 | .non,u=>u=Value.none
 | .bl b,u=>u=Value.bool b
 | .int i,u=>∃ t,u=Value.int i t
 | .str x,u=>∃ t,u=Value.str x t
 | .byt b,u=>∃ t,u=Value.bytes b t
 | .flt b,u=>∃ t,u=Value.float b t
 | .ref a,u=>u=Value.ref a
 | .ty n,u=>u=Value.type n
abbrev Vals:List V->List Value->Prop:=Paired RelV
theorem Vals.length {xs:List V} {us:List Value} (r:Vals xs us):xs.length=us.length:=Paired.length r
theorem Vals.get:∀ {xs:List V} {us:List Value} {i:Nat} {x:V},Vals xs us->xs[i]? = some x->∃ u,us[i]? = some u/\RelV x u
 | _,_,_,_,.nil,e=>by simp at e
 | _,_,0,_,.cons r _,e=>by simp at e;subst e;exact ⟨_,rfl,r⟩
 | _,_,i+1,x,.cons _ t,e=>by
  obtain ⟨u,h1,h2⟩:=Vals.get (i:=i) (x:=x) t (by simpa using e)
  exact ⟨u,by simpa using h1,h2⟩
theorem Vals.set {x:V} {u:Value} (r:RelV x u):∀ {xs:List V} {us:List Value} (i:Nat),Vals xs us->Vals (xs.set i x) (us.set i u)
 | _,_,_,.nil=>.nil
 | _,_,0,.cons _ t=>.cons r t
 | _,_,i+1,.cons q t=>.cons q (Vals.set r i t)
theorem Vals.append:∀ {xs ys:List V} {us ws:List Value},Vals xs us->Vals ys ws->Vals (xs++ys) (us++ws)
 | _,_,_,_,.nil,s=>s
 | _,_,_,_,.cons r t,s=>.cons r (Vals.append t s)
theorem Vals.take:∀ {xs:List V} {us:List Value} (n:Nat),Vals xs us->Vals (xs.take n) (us.take n)
 | _,_,0,_=>.nil
 | _,_,_+1,.nil=>.nil
 | _,_,n+1,.cons r t=>.cons r (Vals.take n t)
theorem Vals.drop:∀ {xs:List V} {us:List Value} (n:Nat),Vals xs us->Vals (xs.drop n) (us.drop n)
 | _,_,0,r=>r
 | _,_,_+1,.nil=>.nil
 | _,_,n+1,.cons _ t=>Vals.drop n t
def RelO:Option V->Option Value->Prop
 | some v,some u=>RelV v u
 | none,none=>True
 | _,_=>False
def KV {κ:Type}:List (κ×V)->List (κ×Value)->Prop:=Paired fun (p:κ×V) (q:κ×Value)=>p.1=q.1/\RelV p.2 q.2
def kV:Key->V
 | .inl i=>.int i
 | .inr x=>.str x
inductive HO where
 /-- a list -/
 | lst (xs:List V)
 /-- a tuple (never changes) -/
 | tup (xs:List V)
 /-- a dict whose keys are ints and texts;one whose keys are tuples of ints and texts (the empty one is both) -/
 | dK (kvs:List (Key×V)) | dT (kvs:List (List Key×V))
 /-- a set of ints: its members,its size -/
 | set (S:Int->Bool) (n:Nat)
 /-- an instance of the class at C,its dict at dx,its attributes -/
 | ins (C dx:Addr) (fs:List (Str×V))
 /-- the dict of the instance at x -/
 | own (x:Addr)
 /-- the dict of an exception -/
 | xd (fs:List (Str×V))
 /-- a bound method,f of x -/
 | met (f x:Addr)
 /-- a range object lo,lo+1,.. below hi -/
 | rng (lo hi:Int)
 /-- a thing that is known to the object (the script;a dict while a loop walks it): read,never written while it is so -/
 | frz (o:Obj) (u:HO)
 /-- a code object's table -/
 | tbl (ps:Array Value)
 /-- any other thing,by what is true of its one object (a def of one's own: SetO a S n:=HO.ext fun h=>..) -/
 | ext (φ:Heap->Prop)
abbrev Hp:=Addr->Option HO
def upd (H:Hp) (a:Addr) (o:HO):Hp:=fun b=>if b=a then some o else H b
theorem cS {H:Hp} {a:Addr} {o:HO}:upd H a o a=some o:=by unfold upd;rw [if_pos rfl]
theorem cI {H:Hp} {a b:Addr} {o:HO} (h:b≠a):upd H a o b=H b:=by unfold upd;rw [if_neg h]
theorem aNz {H:Hp} {a b:Addr} {o u:HO} (h:H a=some o) (h':H b=some u) (d:o≠u):a≠b:=by
 intro e;subst e;rw [h] at h';exact d (Option.some.inj h')
theorem dS {H:Hp} {a b:Addr} {o:HO} (h:H a=some o) (h':H b=none):a≠b:=by
 intro e;subst e;rw [h] at h';cases h'
section
variable (P:Program) (w:World)
def ObjOk (H:Hp) (h:Heap) (a:Addr):HO->Prop
 | .lst xs=>xs.length<=sizeLine/\∃ (its:List Value) (n:Nat),Vals xs its/\h.get? a=some { cls:=.type "list",data:=.seq its.toArray n }
 | .tup xs=>xs.length<=sizeLine/\∃ its:List Value,Vals xs its/\IsTup h a its.toArray
 | .dK kvs=>kvs.length<=sizeLine/\(a == sysModules)=false/\∃ vs,KV kvs vs/\h.DictOf (gJ P w) a vs
 | .dT kvs=>kvs.length<=sizeLine/\(a == sysModules)=false/\∃ xs:List (List Key×Addr×Value),
   Paired (fun (p:List Key×V) (q:List Key×Addr×Value)=>p.1=q.1/\H q.2.1=some (.tup (p.1.map kV))/\RelV p.2 q.2.2) kvs xs /\
   ∃ o es ep,h.get? a=some o/\o.ExactDict/\o.data=.dict es ep/\es.toList=xs.map (entryOfKey (tupleKind (gJ P w)))/\(xs.map (·.1)).Nodup
 | .set S n=>h.SetOf (intKind P w) a S n
 | .ins C dx fs=>H dx=some (.own a)/\fs.length<=1000/\dx≠a/\h.get? a=some (PySem.W.instObj C dx) /\
   ∃ mA,h.Ns1 dx mA/\(∀ f,RelO (fs.lookup f) (mA f))/\PySem.Within mA (fs.map (·.1))
 | .own _=>∃ o,h.get? a=some o
 | .xd fs=>∃ mA,h.Ns1 a mA/\∀ f,RelO (fs.lookup f) (mA f)
 | .rng lo hi=>∃ t u v,h.get? a=some { cls:=.type "range",data:=.fields #[.int lo t,.int hi u,.int 1 v] }
 | .frz o u=>h.get? a=some o/\ObjOk H h a u
 | .tbl ps=>h.get? a=some { cls:=.none,data:=.fields ps }
 | .met f x=>h.get? a=some (PySem.W.methodObj (.ref f) (.ref x))
 | .ext φ=>φ h/\(∃ o,h.get? a=some o)/\∀ h1 h2:Heap,φ h1->(∀ o,h1.get? a=some o->h2.get? a=some o)->φ h2
def HOk (H:Hp) (h:Heap):Prop:=∀ a o,H a=some o->ObjOk P w H h a o
end
section
variable {P:Program} {w:World} {H H':Hp} {h h':Heap} {a:Addr} {o:HO}
theorem ObjOk.lt (x:ObjOk P w H h a o):a < h.objs.size:=by
 cases o with
 | lst xs=>obtain ⟨_,_,_,_,e⟩:=x;exact Heap.lt_size e
 | tup xs=>obtain ⟨_,_,_,p⟩:=x;exact p.lt
 | dK kvs=>obtain ⟨_,_,_,_,o,_,_,e,_⟩:=x;exact Heap.lt_size e
 | dT kvs=>obtain ⟨_,_,_,_,o,_,_,e,_⟩:=x;exact Heap.lt_size e
 | set S n=>obtain ⟨o,_,_,_,e,_⟩:=x;exact Heap.lt_size e
 | ins C dx fs=>obtain ⟨_,_,_,e,_⟩:=x;exact Heap.lt_size e
 | own y=>obtain ⟨_,e⟩:=x;exact Heap.lt_size e
 | xd fs=>obtain ⟨_,⟨_,_,_,e,_⟩,_⟩:=x;exact Heap.lt_size e
 | rng lo hi=>obtain ⟨_,_,_,e⟩:=x;exact Heap.lt_size e
 | frz ob u=>obtain ⟨e,_⟩:=x;exact Heap.lt_size e
 | tbl ps=>exact Heap.lt_size (show h.get? a=some _ from x)
 | met f y=>exact Heap.lt_size (show h.get? a=some _ from x)
 | ext φ=>obtain ⟨_,⟨_,e⟩,_⟩:=x;exact Heap.lt_size e
theorem Paired.mapP {α β:Type} {F G:α->β->Prop}:∀ {l₁:List α} {l₂:List β},Paired F l₁ l₂->(∀ a b,F a b->G a b)->Paired G l₁ l₂
 | _,_,.nil,_=>.nil
 | _,_,.cons r t,f=>.cons (f _ _ r) (Paired.mapP t f)
theorem ObjOk.stay (x:ObjOk P w H h a o) (k:∀ b u,(b=a\/H b=some (.own a))->h.get? b=some u->h'.get? b=some u)
  (ho:∀ b,H b=some (.own a)->H' b=some (.own a)) (ht:∀ b xs,H b=some (.tup xs)->H' b=some (.tup xs)):ObjOk P w H' h' a o:=by
 induction o with
 | lst xs=>obtain ⟨z,its,n,r,e⟩:=x;exact ⟨z,its,n,r,k _ _ (.inl rfl) e⟩
 | tup xs=>obtain ⟨z,its,r,ob,e,c⟩:=x;exact ⟨z,its,r,ob,k _ _ (.inl rfl) e,c⟩
 | dK kvs=>obtain ⟨z,y,vs,r,ob,es,ep,e,c⟩:=x;exact ⟨z,y,vs,r,ob,es,ep,k _ _ (.inl rfl) e,c⟩
 | dT kvs =>
  obtain ⟨z,y,xs,r,ob,es,ep,e,c⟩:=x
  exact ⟨z,y,xs,Paired.mapP r fun p q z=>⟨z.1,ht _ _ z.2.1,z.2.2⟩,ob,es,ep,k _ _ (.inl rfl) e,c⟩
 | set S n=>obtain ⟨ob,es,ep,t,e,c⟩:=x;exact ⟨ob,es,ep,t,k _ _ (.inl rfl) e,c⟩
 | ins C dx fs =>
  obtain ⟨d,z,ne,e,mA,⟨od,es,ep,e2,c⟩,r⟩:=x
  exact ⟨ho _ d,z,ne,k _ _ (.inl rfl) e,mA,⟨od,es,ep,k _ _ (.inr d) e2,c⟩,r⟩
 | own y=>obtain ⟨ob,e⟩:=x;exact ⟨ob,k _ _ (.inl rfl) e⟩
 | xd fs=>obtain ⟨mA,⟨od,es,ep,e,c⟩,r⟩:=x;exact ⟨mA,⟨od,es,ep,k _ _ (.inl rfl) e,c⟩,r⟩
 | rng lo hi=>obtain ⟨t,u,v,e⟩:=x;exact ⟨t,u,v,k _ _ (.inl rfl) e⟩
 | frz ob u ih=>obtain ⟨e,q⟩:=x;exact ⟨k _ _ (.inl rfl) e,ih q⟩
 | tbl ps =>
  have e:h.get? a=some { cls:=.none,data:=.fields ps }:=x
  show h'.get? a=some { cls:=.none,data:=.fields ps }
  exact k a _ (.inl rfl) e
 | met f y =>
  have e:h.get? a=some (PySem.W.methodObj (.ref f) (.ref y)):=x
  show h'.get? a=some (PySem.W.methodObj (.ref f) (.ref y))
  exact k a _ (.inl rfl) e
 | ext φ=>obtain ⟨p,⟨o,e⟩,st⟩:=x;exact ⟨st _ _ p fun o q=>k _ _ (.inl rfl) q,⟨o,k _ _ (.inl rfl) e⟩,st⟩
theorem HOk.lt (x:HOk P w H h) (e:H a=some o):a < h.objs.size:=(x a o e).lt
theorem HOk.fresh (x:HOk P w H h) (e:h.objs.size<=a):H a=none:=by
 cases q:H a with
 | none=>rfl
 | some u=>exact absurd (Nat.lt_of_lt_of_le (x.lt q) e) (Nat.lt_irrefl _)
theorem HOk.kept (x:HOk P w H h) (k:∀ b u,h.get? b=some u->h'.get? b=some u):HOk P w H h':=fun a o e =>
 (x a o e).stay (fun b u _ q=>k b u q) (fun _ q=>q) fun _ _ q=>q
theorem HOk.laid (x:HOk P w H h) (k:∀ b u,h.get? b=some u->h'.get? b=some u) (hp:h.objs.size<=a) (new:ObjOk P w (upd H a o) h' a o):HOk P w (upd H a o) h':=fun b u e=>by
 have hn:=x.fresh hp
 by_cases hb:b=a
 ·subst hb;rw [cS] at e;cases e;exact new
 ·rw [cI hb] at e
  exact (x b u e).stay (fun c v _ q=>k c v q) (fun c q=>by rw [cI (dS q hn)];exact q) fun c xs q=>by rw [cI (dS q hn)];exact q
end
def Rd (H:Hp) (a:Addr) (u:HO):Prop:=H a=some u\/∃ o,H a=some (.frz o u)
theorem Rd.ok {P:Program} {w:World} {H:Hp} {h:Heap} {a:Addr} {u:HO} (r:Rd H a u) (x:HOk P w H h):ObjOk P w H h a u:=by
 rcases r with r | ⟨o,r⟩
 ·exact x a u r
 ·obtain ⟨_,q⟩:=x a _ r
  exact q
def Mut:Option HO->Prop
 | some (.lst _)=>True
 | some (.dK _)=>True
 | some (.dT _)=>True
 | some (.set _ _)=>True
 | some (.ins _ _ _)=>True
 | some (.ext _)=>True
 | _=>False
section
variable {P:Program} {w:World} {H:Hp} {h h':Heap} {x e:Addr} {o':HO}
theorem HOk.write (ok:HOk P w H h) (mu:Mut (H x)) (he:e=x\/H e=some (.own x)) (k:∀ b u,b≠e->h.get? b=some u->h'.get? b=some u) (heo:∃ u,h'.get? e=some u)
  (new:ObjOk P w (upd H x o') h' x o'):HOk P w (upd H x o') h':=fun b u q=>by
 have nown:∀ c y,H c=some (.own y)->c≠x:=fun c y r z=>by subst z;rw [r] at mu;exact mu
 have ntup:∀ c xs,H c=some (.tup xs)->c≠x:=fun c xs r z=>by subst z;rw [r] at mu;exact mu
 by_cases hb:b=x
 ·subst hb;rw [cS] at q;cases q;exact new
 ·rw [cI hb] at q
  by_cases hbe:b=e
  ·have q':H b=some (.own x):=by
    rcases he with z | z
    ·exact absurd (hbe.trans z) hb
    ·rw [hbe];exact z
   rw [q] at q';cases q'
   obtain ⟨v,hv⟩:=heo
   exact ⟨v,by rw [hbe];exact hv⟩
  ·refine (ok b u q).stay (fun c v hc r=>k c v ?_ r) (fun c r=>by rw [cI (nown c b r)];exact r) fun c xs r=>by rw [cI (ntup c xs r)];exact r
   rcases hc with rfl | hc
   ·exact hbe
   ·rintro rfl
    rcases he with z | z
    ·exact nown c b hc z
    ·rw [hc] at z;cases z;exact hb rfl
end
structure Un (fs ex:List Addr) (H H':Hp) (h h':Heap):Prop where
 keep:∀ b o,h.get? b=some o->H b=none->b∉fs->b∉ex->h'.get? b=some o
 slot:∀ b o,h.get? b=some o->H b=none->b∈fs->b∉ex->∃ sl,h'.get? b=some { o with slots:=sl }
 free:∀ b o,h.get? b=some o->H b=none->b∉ex->H' b=none
 there:∀ b o,h.get? b=some o->b∉ex->∃ o',h'.get? b=some o'
 tups:∀ b xs,H b=some (.tup xs)->H' b=some (.tup xs)
 frzs:∀ b o u,H b=some (.frz o u)->H' b=some (.frz o u)
 tbls:∀ b ps,H b=some (.tbl ps)->∃ more,H' b=some (.tbl (ps++more))
section
variable {fs fs' ex ex':List Addr} {H H1 H2:Hp} {h h1 h2 h':Heap} {a x e:Addr} {o:HO}
theorem Un.any (u:Un fs ex H H1 h h1) {b:Addr} {ob:Obj} (q:h.get? b=some ob) (n:H b=none) (hx:b∉ex):∃ sl,h1.get? b=some { ob with slots:=sl }:=by
 by_cases hb:b∈fs
 ·exact u.slot b ob q n hb hx
 ·exact ⟨ob.slots,u.keep b ob q n hb hx⟩
theorem Un.kept (k:∀ b u,h.get? b=some u->h'.get? b=some u):Un fs ex H H h h' :=
 ⟨fun b ob q _ _ _=>k b ob q,fun b ob q _ _ _=>⟨ob.slots,k b ob q⟩,fun _ _ _ n _=>n,fun b ob q _=>⟨ob,k b ob q⟩,fun _ _ q=>q,fun _ _ _ q=>q,fun _ ps q=>⟨#[],by rw [q];simp⟩⟩
theorem Un.refl:Un fs ex H H h h:=Un.kept fun _ _ q=>q
theorem Un.laid (k:∀ b u,h.get? b=some u->h'.get? b=some u) (hp:h.objs.size<=a) (hn:H a=none):Un fs ex H (upd H a o) h h' where
 keep:=fun b u q _ _ _=>k b u q
 slot:=fun b u q _ _ _=>⟨u.slots,k b u q⟩
 free:=fun b u q n _=>by rw [cI (Nat.ne_of_lt (Nat.lt_of_lt_of_le (Heap.lt_size q) hp))];exact n
 there:=fun b u q _=>⟨u,k b u q⟩
 tups:=fun b xs q=>by rw [cI (dS q hn)];exact q
 frzs:=fun b u xs q=>by rw [cI (dS q hn)];exact q
 tbls:=fun b ps q=>⟨#[],by rw [cI (dS q hn),q];simp⟩
theorem Un.write (mu:Mut (H x)) (he:e=x\/H e=some (.own x)) (k:∀ b u,b≠e->h.get? b=some u->h'.get? b=some u) (heo:∃ u,h'.get? e=some u):Un fs ex H (upd H x o) h h':=by
 have hx:∀ b,H b=none->b≠x:=fun b n z=>by subst z;rw [n] at mu;exact mu
 have hb:∀ b,H b=none->b≠e:=fun b n z=>by
  subst z
  rcases he with r | r
  ·exact hx b n r
  ·rw [n] at r;cases r
 have hm:∀ b u,H b=some u->¬ Mut (some u)->b≠x:=fun b u q nm z=>by subst z;rw [q] at mu;exact nm mu
 refine ⟨fun b u q n _ _=>k b u (hb b n) q,fun b u q n _ _=>⟨u.slots,k b u (hb b n) q⟩,fun b u q n _=>by rw [cI (hx b n)];exact n,fun b u q _=>?_,
  fun b xs q=>by rw [cI (hm b _ q fun z=>z)];exact q,fun b u xs q=>by rw [cI (hm b _ q fun z=>z)];exact q,fun b ps q=>⟨#[],by rw [cI (hm b _ q fun z=>z),q];simp⟩⟩
 by_cases hbe:b=e
 ·subst hbe;exact heo
 ·exact ⟨u,k b u hbe q⟩
end
def trk (h:Heap) (H:Hp):List Addr:=(List.range h.objs.size).filter fun a=>(H a).isSome
def aEs (h:Heap) (H:Hp):Heap:=PySem.W.hideAll h (trk h H)
theorem aC5 (h:Heap) (H:Hp):(aEs h H).objs.size=h.objs.size:=PySem.W.hideAll_size _ _
theorem aE7 {h:Heap} {H:Hp} {b:Addr} {o:Obj} (e:h.get? b=some o) (n:H b=none):(aEs h H).get? b=some o :=
 PySem.W.hideAll_get _ e fun hm=>by
  have q:(H b).isSome=true:=(List.mem_filter.mp hm).2
  rw [n] at q;simp at q
theorem aIk {h:Heap} {H:Hp} {b:Addr} {o:Obj} (e:(aEs h H).get? b=some o):h.get? b=some o/\H b=none:=by
 have e':h.get? b=some o:=PySem.W.of_hideAll (trk h H) e
 refine ⟨e',?_⟩
 cases q:H b with
 | none=>rfl
 | some x =>
  have hm:b∈trk h H:=List.mem_filter.mpr ⟨List.mem_range.mpr (Heap.lt_size e'),by simp [q]⟩
  have z:(aEs h H).get? b=none:=PySem.W.hideAll_none (trk h H) hm
  rw [z] at e;cases e
def aH8 (g h:Heap) (L:Addr):List (Addr×Obj):=(List.range h.objs.size).filterMap fun a=>if a=L\/(g.get? a).isSome=true then none else (h.get? a).map fun o=>(a,o)
def rest (g h:Heap) (L d:Addr):List (Addr×Obj):=(aH8 g h L).filter fun p=>decide (p.1≠d)
structure Mod (K:PySem.W.Frag) (mg:Str->Option Value) (base:Heap):Prop where
 kin:K.In base
 glob:base.Ns mainGlobals mg
 blt:∃ mb,base.Ns builtinsNs mb/\∀ x:Str,x≠"__name__"->mb x=bootBuiltins x
 nolimit:base.NoLimit
structure Cx where
 prog:Program
 w:World
 K:PySem.W.Frag
 mg:Str->Option Value
 base:Heap
 A:Around
 N:List Str
 s₀:Shared
 H₀:Hp
 env:Env
 outer:List Env
 stack:List Env
 ex:List Addr
 fn:Str->Bool
 calm:Bool
 pn:List (Addr×Obj)
 xe:Value->Shared->Prop
def frs (l:List Env):List Addr:=l.filterMap (·.frame)
abbrev Cx.fs (X:Cx):List Addr:=frs X.outer
def Vis (sc:Scope) (x:Str):Prop:=sc.names.lookup x=some .local\/sc.names.lookup x=some .cell\/sc.names.lookup x=some .free
def Loc (sc:Scope) (x:Str):Prop:=sc.names.lookup x=some .local\/sc.names.lookup x=some .cell
def Look (env:Env) (h:Heap) (m:Str->Option Value) (x:Str) (u:Value):Prop :=
 (env.kindOf x=some .local/\m x=some u)\/((env.kindOf x=some .cell\/env.kindOf x=some .free)/\∃ c,env.cells.lookup x=some c/\h.IsCell c (some u))
structure Cx.Ok (X:Cx):Prop where
 mod:Mod X.K X.mg X.base
 kind:X.env.scope.kind=.function
 glob:X.env.globals=mainGlobals
 blt:X.env.builtins=builtinsNs
 above:X.s₀.heap.objs.size<=X.env.locals
 inj:∀ x y c,X.env.cells.lookup x=some c->X.env.cells.lookup y=some c->x=y
 has:∀ x,(X.env.kindOf x=some .cell\/X.env.kindOf x=some .free)->∃ c,X.env.cells.lookup x=some c
 cab:∀ x c,X.fn x=true->X.env.cells.lookup x=some c->X.s₀.heap.objs.size<=c
 hd:X.calm=true->X.A.handled=none
 frames:X.A.frames=some X.stack
 stk:X.stack=X.outer\/(X.stack=X.env :: X.outer/\X.env.frame=some X.env.locals)
 exf:∀ b∈X.ex,b≠X.env.locals/\∀ x c,X.env.cells.lookup x=some c->c≠b
 bs:∀ b o,X.base.get? b=some o->X.s₀.heap.get? b=some o/\X.H₀ b=none
 bsz:X.base.objs.size<=X.s₀.heap.objs.size
 noex:∀ b o,X.base.get? b=some o->b∉X.ex
 exfs:∀ b∈X.ex,b∉X.fs
 funs:X.s₀.heap.FunFrames X.base X.outer
 frf:∀ b∈X.fs,X.H₀ b=none
structure Inv (X:Cx) (pins:List (Addr×Obj)) (σ:List (Option V)) (H:Hp) (s:Shared):Prop where
 ok:X.Ok
 os:s.os=X.s₀.os
 bare:AllBare s.gens
 base:Un X.fs X.ex X.H₀ H X.s₀.heap s.heap
 loc:∃ m,s.heap.Ns X.env.locals m/\∀ (i:Nat) (x:Str) (v:V),X.N[i]? = some x->σ[i]? = some (some v)->Vis X.env.scope x->∃ u,RelV v u/\Look X.env s.heap m x u
 cell:∀ x c,X.env.cells.lookup x=some c->∃ v,s.heap.IsCell c v
 free:H X.env.locals=none
 freeC:∀ x c,X.env.cells.lookup x=some c->H c=none
 pin:∀ p∈X.pn++pins,s.heap.get? p.1=some p.2/\H p.1=none/\p.1≠X.env.locals/\p.1∉X.fs/\∀ v,p.2.data≠.cell v
 hok:HOk X.prog X.w H s.heap
 len:σ.length=X.N.length
section
variable {X:Cx} {pins:List (Addr×Obj)} {σ:List (Option V)} {H H':Hp} {s:Shared} {h':Heap}
theorem Cx.Ok.nofr (ok:X.Ok) {b:Addr} {o:Obj} (e:X.base.get? b=some o):b∉X.fs:=fun hb=>by
 have:=(ok.funs.mem hb).1
 rw [e] at this;cases this
theorem Inv.bs (I:Inv X pins σ H s):∀ b o,X.base.get? b=some o->s.heap.get? b=some o/\H b=none:=fun b o e =>
 ⟨I.base.keep b o (I.ok.bs b o e).1 (I.ok.bs b o e).2 (I.ok.nofr e) (I.ok.noex b o e),I.base.free b o (I.ok.bs b o e).1 (I.ok.bs b o e).2 (I.ok.noex b o e)⟩
theorem Inv.bk (I:Inv X pins σ H s):∀ b o,X.base.get? b=some o->s.heap.get? b=some o:=fun b o e=>(I.bs b o e).1
theorem Inv.mod (I:Inv X pins σ H s):Mod X.K X.mg X.base:=I.ok.mod
theorem Inv.kIn (I:Inv X pins σ H s):X.K.In s.heap:=I.ok.mod.kin.keeps I.bk
theorem Inv.lt (I:Inv X pins σ H s):X.env.locals < s.heap.objs.size:=let ⟨_,hn,_⟩:=I.loc;hn.lt
theorem Inv.sz (I:Inv X pins σ H s):X.s₀.heap.objs.size<=s.heap.objs.size:=Nat.le_trans I.ok.above (Nat.le_of_lt I.lt)
theorem Inv.nofs (I:Inv X pins σ H s) {a:Addr} (h:s.heap.objs.size<=a):a∉X.fs:=fun hb=>by
 obtain ⟨_,o,ho,_⟩:=I.ok.funs.mem hb
 exact absurd (Nat.lt_of_lt_of_le (Heap.lt_size ho) (Nat.le_trans I.sz h)) (Nat.lt_irrefl _)
theorem Inv.cne (I:Inv X pins σ H s):∀ x c,X.env.cells.lookup x=some c->c≠X.env.locals:=fun x c e z=>by
 obtain ⟨v,o,ho,hd⟩:=I.cell x c e
 obtain ⟨m,⟨o',es,ep,ho',hd',_⟩,_⟩:=I.loc
 rw [z,ho'] at ho;cases ho;rw [hd'] at hd;cases hd
theorem Inv.funs (I:Inv X pins σ H s):s.heap.FunFrames X.base X.outer:=by
 have all:∀ (l:List Env),(∀ b∈frs l,b∈X.fs)->X.s₀.heap.FunFrames X.base l->s.heap.FunFrames X.base l:=by
  intro l
  induction l with
  | nil=>intro _ _;trivial
  | cons env r ih =>
   intro hs hl
   obtain ⟨hk,⟨L,o,hf,hn,ho,hd⟩,hr⟩:=hl
   have hL:L∈X.fs:=hs L (by unfold frs;rw [List.filterMap_cons,hf];exact List.mem_cons_self)
   obtain ⟨sl,e⟩:=I.base.slot L o ho (I.ok.frf L hL) hL fun z=>I.ok.exfs L z hL
   exact ⟨hk,⟨L,_,hf,hn,e,hd⟩,ih (fun b hb=>hs b (by unfold frs;rw [List.filterMap_cons,hf];exact List.mem_cons_of_mem _ hb)) hr⟩
 exact all X.outer (fun _ hb=>hb) I.ok.funs
theorem Inv.stack (I:Inv X pins σ H s):s.heap.FunFrames X.base X.stack:=by
 rcases I.ok.stk with e | ⟨e,hf⟩
 ·rw [e];exact I.funs
 ·rw [e]
  obtain ⟨m,hn,_⟩:=I.loc
  refine .cons (by rw [I.ok.kind];decide) hf hn ?_ I.funs
  exact Heap.get?_none_of_le (Nat.le_trans I.ok.bsz I.ok.above)
theorem Inv.stkSub (I:Inv X pins σ H s):∀ b∈frs X.stack,b∈X.env.locals :: X.fs:=fun b hb=>by
 rcases I.ok.stk with e | ⟨e,hf⟩
 ·rw [e] at hb;exact List.mem_cons_of_mem _ hb
 ·rw [e] at hb
  unfold frs at hb
  rw [List.filterMap_cons,hf] at hb
  exact hb
theorem Inv.stkFree (I:Inv X pins σ H s):∀ b∈frs X.stack,H b=none:=fun b hb=>by
 rcases List.mem_cons.mp (I.stkSub b hb) with e | hb
 ·rw [e];exact I.free
 ·obtain ⟨_,o,ho,_⟩:=I.ok.funs.mem hb
  exact I.base.free b o ho (I.ok.frf b hb) fun z=>I.ok.exfs b z hb
theorem Inv.step {g':Array GenState} {t':Nat} {d':Drawn} {ch:List Addr} (I:Inv X pins σ H s)
  (hch:∀ b∈ch,(b∈X.ex\/X.s₀.heap.objs.size<=b)/\b≠X.env.locals/\(∀ x c,X.env.cells.lookup x=some c->c≠b)/\∀ p∈X.pn++pins,p.1≠b)
  (keep:∀ b o,b≠X.env.locals->b∉X.fs->b∉ch->s.heap.get? b=some o->H b=none->h'.get? b=some o)
  (slot:∀ b o,b≠X.env.locals->b∈X.fs->b∉ch->s.heap.get? b=some o->H b=none->∃ sl,h'.get? b=some { o with slots:=sl }) (free:∀ b o,b∉ch->s.heap.get? b=some o->H b=none->H' b=none)
  (there:∀ b o,b∉ch->s.heap.get? b=some o->∃ o',h'.get? b=some o')
  (tups:∀ b xs,H b=some (.tup xs)->H' b=some (.tup xs)) (frzs:∀ b o u,H b=some (.frz o u)->H' b=some (.frz o u)) (tbls:∀ b ps,H b=some (.tbl ps)->∃ more,H' b=some (.tbl (ps++more)))
  (ns:∀ m,s.heap.Ns X.env.locals m->h'.Ns X.env.locals m) (hok:HOk X.prog X.w H' h') (hg:AllBare g') :
  Inv X pins σ H' { s with heap:=h',gens:=g',drawn:=d',toks:=t' }:=by
 have neL:∀ b o,X.s₀.heap.get? b=some o->b≠X.env.locals:=fun b o e=>Nat.ne_of_lt (Nat.lt_of_lt_of_le (Heap.lt_size e) I.ok.above)
 have neC:∀ b o,X.s₀.heap.get? b=some o->b∉X.ex->b∉ch:=fun b o e hx hb=>by
  rcases (hch b hb).1 with z | z
  ·exact hx z
  ·exact absurd (Nat.lt_of_lt_of_le (Heap.lt_size e) z) (Nat.lt_irrefl _)
 have cellK:∀ x c,X.env.cells.lookup x=some c->∀ v,s.heap.IsCell c v->h'.IsCell c v:=fun x c e v ⟨o,ho,hd⟩=>by
  have nch:c∉ch:=fun z=>(hch c z).2.2.1 x c e rfl
  by_cases hc:c∈X.fs
  ·obtain ⟨sl,q⟩:=slot c o (I.cne x c e) hc nch ho (I.freeC x c e)
   exact ⟨_,q,hd⟩
  ·exact ⟨o,keep c o (I.cne x c e) hc nch ho (I.freeC x c e),hd⟩
 refine ⟨I.ok,I.os,hg,⟨fun b o e n hb hx=>?_,fun b o e n hb hx=>?_,fun b o e n hx=>?_,fun b o e hx=>?_,fun b xs e=>tups b xs (I.base.tups b xs e),fun b o xs e=>frzs b o xs (I.base.frzs b o xs e),fun b ps e=>?_⟩,?_,fun x c e=>?_,?_,fun x c e=>?_,fun p hp=>?_,hok,I.len⟩
 ·exact keep b o (neL b o e) hb (neC b o e hx) (I.base.keep b o e n hb hx) (I.base.free b o e n hx)
 ·obtain ⟨sl,e1⟩:=I.base.slot b o e n hb hx
  obtain ⟨sl',e2⟩:=slot b _ (neL b o e) hb (neC b o e hx) e1 (I.base.free b o e n hx)
  exact ⟨sl',e2⟩
 ·obtain ⟨o',e1⟩:=I.base.there b o e hx
  exact free b o' (neC b o e hx) e1 (I.base.free b o e n hx)
 ·obtain ⟨o',e1⟩:=I.base.there b o e hx
  exact there b o' (neC b o e hx) e1
 ·obtain ⟨m1,e1⟩:=I.base.tbls b ps e
  obtain ⟨m2,e2⟩:=tbls b _ e1
  exact ⟨m1++m2,by rw [e2,Array.append_assoc]⟩
 ·obtain ⟨m,hn,hl⟩:=I.loc
  refine ⟨m,ns m hn,fun i x v e1 e2 e3=>?_⟩
  obtain ⟨u,r,l⟩:=hl i x v e1 e2 e3
  refine ⟨u,r,?_⟩
  rcases l with l | ⟨k,c,e,z⟩
  ·exact .inl l
  ·exact .inr ⟨k,c,e,cellK x c e _ z⟩
 ·obtain ⟨v,z⟩:=I.cell x c e
  exact ⟨v,cellK x c e v z⟩
 ·obtain ⟨m,⟨o,_,_,ho,_⟩,_⟩:=I.loc
  exact free _ o (fun z=>(hch _ z).2.1 rfl) ho I.free
 ·obtain ⟨v,o,ho,hd⟩:=I.cell x c e
  exact free c o (fun z=>(hch c z).2.2.1 x c e rfl) ho (I.freeC x c e)
 ·obtain ⟨e,n,ne,nf,d⟩:=I.pin p hp
  have nch:p.1∉ch:=fun z=>(hch p.1 z).2.2.2 p hp rfl
  exact ⟨keep p.1 p.2 ne nf nch e n,free p.1 p.2 nch e n,ne,nf,d⟩
theorem Inv.un {t':Nat} (I:Inv X pins σ H s) (u:Un X.fs [] H H' s.heap h') (hok:HOk X.prog X.w H' h'):Inv X pins σ H' { s with heap:=h',toks:=t' }:=by
 obtain ⟨m,⟨o,es,ep,ho,r⟩,_⟩:=id I.loc
 obtain ⟨sl,hL⟩:=u.any ho I.free (by simp)
 exact I.step (g':=s.gens) (d':=s.drawn) (ch:=[]) (fun _ z=>nomatch z) (fun b o _ hb _ e n=>u.keep b o e n hb (by simp)) (fun b o _ hb _ e n=>u.slot b o e n hb (by simp)) (fun b o _ e n=>u.free b o e n (by simp)) (fun b o _ e=>u.there b o e (by simp)) u.tups u.frzs u.tbls (fun m' hm=>by
  obtain ⟨o',es',ep',ho',r'⟩:=hm
  rw [ho] at ho';cases ho'
  exact ⟨_,es',ep',hL,r'⟩) hok I.bare
theorem Inv.call {g':Array GenState} {t':Nat} {d':Drawn} {ch:List Addr} (I:Inv X pins σ H s) (u:Un (frs X.stack) ch H H' s.heap h') (hok:HOk X.prog X.w H' h') (hg:AllBare g')
  (hch:∀ b∈ch,(b∈X.ex\/X.s₀.heap.objs.size<=b)/\b≠X.env.locals/\(∀ x c,X.env.cells.lookup x=some c->c≠b)/\∀ p∈X.pn++pins,p.1≠b) :
  Inv X pins σ H' { s with heap:=h',gens:=g',drawn:=d',toks:=t' }:=by
 obtain ⟨m,⟨o,es,ep,ho,r⟩,_⟩:=id I.loc
 obtain ⟨sl,hL⟩:=u.any ho I.free fun z=>(hch _ z).2.1 rfl
 exact I.step (ch:=ch) hch (fun b o hL hb hc e n=>u.keep b o e n (fun z=>(List.mem_cons.mp (I.stkSub b z)).elim hL hb) hc) (fun b o _ _ hc e n=>u.any e n hc) (fun b o hc e n=>u.free b o e n hc) (fun b o hc e=>u.there b o e hc) u.tups u.frzs u.tbls (fun m' hm=>by
  obtain ⟨o',es',ep',ho',r'⟩:=hm
  rw [ho] at ho';cases ho'
  exact ⟨_,es',ep',hL,r'⟩) hok hg
theorem Inv.turned {t':Nat} {it:Addr} (I:Inv X pins σ H s) (k:∀ b o,b≠it->s.heap.get? b=some o->h'.get? b=some o) (hn:H it=none) (hL:it≠X.env.locals)
  (h1:it∈X.ex\/X.s₀.heap.objs.size<=it) (h2:∀ x c,X.env.cells.lookup x=some c->c≠it) (h3:∀ p∈X.pn++pins,p.1≠it):Inv X pins σ H { s with heap:=h',toks:=t' }:=by
 have nit:∀ b u,H b=some u->b≠it:=fun b u e z=>by rw [z,hn] at e;cases e
 refine I.step (g':=s.gens) (d':=s.drawn) (ch:=[it]) (fun b hb=>?_) (fun b o _ _ hc e _=>k b o (fun z=>hc (by simp [z])) e) (fun b o _ _ hc e _=>⟨o.slots,k b o (fun z=>hc (by simp [z])) e⟩) (fun _ _ _ _ n=>n)
  (fun b o hc e=>⟨o,k b o (fun z=>hc (by simp [z])) e⟩) (fun _ _ e=>e) (fun _ _ _ e=>e) (fun b ps e=>⟨#[],by rw [e];simp⟩) (fun m hm=>?_) (fun b u e=>?_) I.bare
 ·have e:b=it:=by simpa using hb
  subst e
  exact ⟨h1,hL,h2,h3⟩
 ·obtain ⟨o,es,ep,ho,r⟩:=hm
  exact ⟨o,es,ep,k _ o (Ne.symm hL) ho,r⟩
 ·refine (I.hok b u e).stay (fun c v hc q=>k c v ?_ q) (fun _ q=>q) fun _ _ q=>q
  rcases hc with z | z
  ·rw [z];exact nit b u e
  ·exact nit c _ z
theorem Inv.tok (I:Inv X pins σ H s) (t:Nat):Inv X pins σ H { s with toks:=t }:=I.un (h':=s.heap) (t':=t) Un.refl I.hok
theorem Inv.kept {t':Nat} (I:Inv X pins σ H s) (k:∀ b u,s.heap.get? b=some u->h'.get? b=some u):Inv X pins σ H { s with heap:=h',toks:=t' }:=I.un (Un.kept k) (I.hok.kept k)
theorem Inv.laid {a:Addr} {o:HO} {t':Nat} (I:Inv X pins σ H s) (k:∀ b u,s.heap.get? b=some u->h'.get? b=some u) (hp:s.heap.objs.size<=a) (new:ObjOk X.prog X.w (upd H a o) h' a o) :
  Inv X pins σ (upd H a o) { s with heap:=h',toks:=t' }:=I.un (Un.laid k hp (I.hok.fresh hp)) (I.hok.laid k hp new)
theorem Inv.write {x e:Addr} {o:HO} {t':Nat} (I:Inv X pins σ H s) (mu:Mut (H x)) (he:e=x\/H e=some (.own x)) (k:∀ b u,b≠e->s.heap.get? b=some u->h'.get? b=some u) (heo:∃ u,h'.get? e=some u)
  (new:ObjOk X.prog X.w (upd H x o) h' x o):Inv X pins σ (upd H x o) { s with heap:=h',toks:=t' }:=I.un (Un.write mu he k heo) (I.hok.write mu he k heo new)
theorem Inv.weak {σ':List (Option V)} (I:Inv X pins σ H s) (hl:σ'.length=σ.length) (w:∀ (i:Nat) v,σ'[i]? = some (some v)->σ[i]? = some (some v)):Inv X pins σ' H s :=
 ⟨I.ok,I.os,I.bare,I.base,let ⟨m,hn,hl'⟩:=I.loc;⟨m,hn,fun i x v e1 e2 e3=>hl' i x v e1 (w i v e2) e3⟩,I.cell,I.free,I.freeC,I.pin,I.hok,hl.trans I.len⟩
theorem Inv.pins_of {pins':List (Addr×Obj)} (I:Inv X pins σ H s) (h:∀ p∈pins',s.heap.get? p.1=some p.2/\H p.1=none/\p.1≠X.env.locals/\p.1∉X.fs/\∀ v,p.2.data≠.cell v):Inv X pins' σ H s :=
 ⟨I.ok,I.os,I.bare,I.base,I.loc,I.cell,I.free,I.freeC,fun p hp=>(List.mem_append.mp hp).elim (fun z=>I.pin p (List.mem_append_left _ z)) (h p),I.hok,I.len⟩
theorem yY {N:List Str} (hN:N.Nodup) {i j:Nat} {x:Str} (a:N[i]? = some x) (b:N[j]? = some x):i=j:=by
 obtain ⟨h1,e1⟩:=List.getElem?_eq_some_iff.mp a
 obtain ⟨h2,e2⟩:=List.getElem?_eq_some_iff.mp b
 exact (List.getElem_inj hN).mp (e1.trans e2.symm)
theorem aD3 {M:Model} {A:Around} {E:Value->Shared->Prop} {i:Nat} {x:Str} {v:V} {u:Value} {Q:Unit->Shared->Prop} (I:Inv X pins σ H s) (hN:X.N.Nodup) (hi:X.N[i]? = some x) (hx:Loc X.env.scope x) (r:RelV v u)
  (h:∀ s',Inv X pins (σ.set i (some v)) H s'->(∃ a,Heap.SameBut a s.heap s'.heap/\(a=X.env.locals\/X.env.cells.lookup x=some a))->Q () s') (hf:X.fn x=true\/X.env.scope.names.lookup x=some .local:=by first | exact .inl rfl | exact .inr rfl | assumption):wpAny M A (storeName X.env x u) Q E s:=by
 obtain ⟨m,hn,hl⟩:=id I.loc
 have hcls:(X.env.scope.kind == .class || (X.env.scope.kind == .module && X.env.locals != X.env.globals))=false:=by rw [I.ok.kind];rfl
 have hiσ:i < σ.length:=by rw [I.len];exact (List.getElem?_eq_some_iff.mp hi).1
 have cne:=I.cne
 have tracked:∀ {a:Addr} {h':Heap},(∃ o,s.heap.get? a=some o/\H a=none)->Heap.SameBut a s.heap h'->HOk X.prog X.w H h':=fun {a h'} ha hs b ob e=>by
  obtain ⟨_,_,hfree⟩:=ha
  refine (I.hok b ob e).stay (fun c w' hc q=>(hs.2 c ?_).trans q) (fun _ q=>q) fun _ _ q=>q
  rintro rfl
  rcases hc with rfl | hc
  ·rw [hfree] at e;cases e
  ·rw [hfree] at hc;cases hc
 rcases hx with hk | hk
 ·refine wpAny_storeName_local hk hn (fun h' hn' hs=>?_) hcls
  obtain ⟨oL,_,_,hoL,_⟩:=id hn
  refine h _ ⟨I.ok,I.os,I.bare,⟨fun b o e n hb hx=>?_,fun b o e n hb hx=>?_,I.base.free,fun b o e hx=>?_,I.base.tups,I.base.frzs,I.base.tbls⟩,⟨_,hn',fun j y v' e1 e2 e3=>?_⟩,fun y c e=>?_,I.free,I.freeC,fun p hp=>?_,tracked ⟨oL,hoL,I.free⟩ hs,by simpa using I.len⟩ ⟨_,hs,.inl rfl⟩
  ·exact (hs.2 b (Nat.ne_of_lt (Nat.lt_of_lt_of_le (Heap.lt_size e) I.ok.above))).trans (I.base.keep b o e n hb hx)
  ·obtain ⟨sl,e1⟩:=I.base.slot b o e n hb hx
   exact ⟨sl,(hs.2 b (Nat.ne_of_lt (Nat.lt_of_lt_of_le (Heap.lt_size e) I.ok.above))).trans e1⟩
  ·obtain ⟨o',e1⟩:=I.base.there b o e hx
   exact ⟨o',(hs.2 b (Nat.ne_of_lt (Nat.lt_of_lt_of_le (Heap.lt_size e) I.ok.above))).trans e1⟩
  ·by_cases hj:j=i
   ·subst hj
    rw [hi] at e1;cases e1
    rw [List.getElem?_set_self hiσ] at e2
    cases e2
    exact ⟨u,r,.inl ⟨hk,by simp⟩⟩
   ·rw [List.getElem?_set_ne (Ne.symm hj)] at e2
    obtain ⟨u',r',q⟩:=hl j y v' e1 e2 e3
    refine ⟨u',r',?_⟩
    rcases q with ⟨k,e⟩ | ⟨k,c,e,z⟩
    ·refine .inl ⟨k,?_⟩
     have:y≠x:=fun e=>hj (yY hN e1 (e▸hi))
     simp [this,e]
    ·exact .inr ⟨k,c,e,z.sameBut hs (cne y c e)⟩
  ·obtain ⟨w',z⟩:=I.cell y c e
   exact ⟨w',z.sameBut hs (cne y c e)⟩
  ·obtain ⟨e,n,ne,nf,d⟩:=I.pin p hp
   exact ⟨(hs.2 p.1 ne).trans e,n,ne,nf,d⟩
 ·have hfn:X.fn x=true:=by
   rcases hf with z | z
   ·exact z
   ·rw [z] at hk;cases hk
  obtain ⟨c,hc⟩:=I.ok.has x (.inl hk)
  obtain ⟨w',z⟩:=I.cell x c hc
  refine wpAny_storeName_cell I.ok.kind hk hc z (fun h' hc' hs=>?_)
  obtain ⟨oc,hoc,hocd⟩:=id z
  refine h { s with heap:=h' } ⟨I.ok,I.os,I.bare,⟨fun b o e n hb hx=>?_,fun b o e n hb hx=>?_,I.base.free,fun b o e hx=>?_,I.base.tups,I.base.frzs,I.base.tbls⟩,⟨m,hn.sameBut hs (Ne.symm (cne x c hc)),fun j y v' e1 e2 e3=>?_⟩,fun y c' e=>?_,I.free,I.freeC,fun p hp=>?_,tracked ⟨oc,hoc,I.freeC x c hc⟩ hs,by simpa using I.len⟩ ⟨c,hs,.inr hc⟩
  ·exact (hs.2 b (Nat.ne_of_lt (Nat.lt_of_lt_of_le (Heap.lt_size e) (I.ok.cab x c hfn hc)))).trans (I.base.keep b o e n hb hx)
  ·obtain ⟨sl,e1⟩:=I.base.slot b o e n hb hx
   exact ⟨sl,(hs.2 b (Nat.ne_of_lt (Nat.lt_of_lt_of_le (Heap.lt_size e) (I.ok.cab x c hfn hc)))).trans e1⟩
  ·obtain ⟨o',e1⟩:=I.base.there b o e hx
   exact ⟨o',(hs.2 b (Nat.ne_of_lt (Nat.lt_of_lt_of_le (Heap.lt_size e) (I.ok.cab x c hfn hc)))).trans e1⟩
  ·by_cases hj:j=i
   ·subst hj
    rw [hi] at e1;cases e1
    rw [List.getElem?_set_self hiσ] at e2
    cases e2
    exact ⟨u,r,.inr ⟨.inl hk,c,hc,hc'⟩⟩
   ·rw [List.getElem?_set_ne (Ne.symm hj)] at e2
    obtain ⟨u',r',q⟩:=hl j y v' e1 e2 e3
    refine ⟨u',r',?_⟩
    rcases q with q | ⟨k,c',e,z'⟩
    ·exact .inl q
    ·refine .inr ⟨k,c',e,z'.sameBut hs ?_⟩
     rintro rfl
     exact hj (yY hN e1 (I.ok.inj _ _ _ e hc▸hi))
  ·by_cases hcc:c'=c
   ·subst hcc;exact ⟨_,hc'⟩
   ·obtain ⟨w2,z2⟩:=I.cell y c' e
    exact ⟨w2,z2.sameBut hs hcc⟩
  ·obtain ⟨e,n,ne,nf,d⟩:=I.pin p hp
   refine ⟨(hs.2 p.1 ?_).trans e,n,ne,nf,d⟩
   intro q
   rw [q,hoc] at e
   have q':oc=p.2:=Option.some.inj e
   exact d w' (by rw [<- q'];exact hocd)
theorem oK {M:Model} {A:Around} {E:Value->Shared->Prop} {i:Nat} {x:Str} {v:V} {u:Value} {Q:Unit->Shared->Prop} (I:Inv X pins σ H s) (hN:X.N.Nodup) (hi:X.N[i]? = some x) (hx:Loc X.env.scope x) (r:RelV v u)
  (h:∀ s',Inv X pins (σ.set i (some v)) H s'->Q () s') (hf:X.fn x=true\/X.env.scope.names.lookup x=some .local:=by first | exact .inl rfl | exact .inr rfl | assumption):wpAny M A (storeName X.env x u) Q E s :=
 aD3 I hN hi hx r (fun s' I' _=>h s' I') hf
theorem Inv.call' {s':Shared} {ch:List Addr} (I:Inv X pins σ H s) (ho:s'.os=s.os) (u:Un (frs X.stack) ch H H' s.heap s'.heap) (hok:HOk X.prog X.w H' s'.heap) (hg:AllBare s'.gens)
  (hch:∀ b∈ch,(b∈X.ex\/X.s₀.heap.objs.size<=b)/\b≠X.env.locals/\(∀ x c,X.env.cells.lookup x=some c->c≠b)/\∀ p∈X.pn++pins,p.1≠b):Inv X pins σ H' s':=by
 obtain ⟨h',g',d',t',o'⟩:=s'
 have e:o'=s.os:=ho
 subst e
 exact I.call (g':=g') (t':=t') (d':=d') u hok hg hch
end
abbrev XK:=Value->Option Addr->Hp->Prop
abbrev St:=List (Option V)
abbrev VK:=V->Hp->Prop
abbrev TE:=St->Hp->VK->Prop
abbrev TT:=St->Hp->(Bool->Hp->Prop)->Prop
abbrev TA:=St->Hp->(List V->Hp->Prop)->Prop
structure Ends where
 nx:St->Hp->Prop
 rt:VK
 bk:St->Hp->Prop:=fun _ _=>False
 ct:St->Hp->Prop:=fun _ _=>False
abbrev TS:=Ends->St->Hp->Prop
def EP (X:Cx) (pins:List (Addr×Obj)) (σ:St) (Q:VK) (u:Value) (s':Shared):Prop:=∃ v H',Inv X pins σ H' s'/\RelV v u/\Q v H'
def TP (X:Cx) (pins:List (Addr×Obj)) (σ:St) (Q:Bool->Hp->Prop) (b:Bool) (s':Shared):Prop:=∃ H',Inv X pins σ H' s'/\Q b H'
def AP (X:Cx) (pins:List (Addr×Obj)) (σ:St) (Q:List V->Hp->Prop) (us:List Value) (s':Shared):Prop:=∃ vs H',Inv X pins σ H' s'/\Vals vs us/\Q vs H'
def SP (X:Cx) (pins:List (Addr×Obj)) (D:Ends) (f:Flow) (s':Shared):Prop :=
 match f with
 | .next=>∃ σ' H',Inv X pins σ' H' s'/\D.nx σ' H'
 | .brk=>∃ σ' H',Inv X pins σ' H' s'/\D.bk σ' H'
 | .cont=>∃ σ' H',Inv X pins σ' H' s'/\D.ct σ' H'
 | .ret u=>∃ v σ' H',Inv X pins σ' H' s'/\RelV v u/\D.rt v H'
def PE (X:Cx) (e:Expr) (t:TE):Prop :=
 ∀ (pins:List (Addr×Obj)) (s:Shared) (σ:St) (H:Hp) (Q:VK),Inv X pins σ H s->t σ H Q->wpAny (model X.prog X.w) X.A (eval e X.env) (EP X pins σ Q) X.xe s
def PT (X:Cx) (e:Expr) (t:TT):Prop :=
 ∀ (pins:List (Addr×Obj)) (s:Shared) (σ:St) (H:Hp) (Q:Bool->Hp->Prop),Inv X pins σ H s->t σ H Q->wpAny (model X.prog X.w) X.A (isTrue e X.env (eval e X.env)) (TP X pins σ Q) X.xe s
def PW (X:Cx) (e:Expr) (t:TT):Prop :=
 ∀ (whole:Sem Value) (pins:List (Addr×Obj)) (s:Shared) (σ:St) (H:Hp) (Q:Bool->Hp->Prop),Inv X pins σ H s->t σ H Q->wpAny (model X.prog X.w) X.A (isTrue e X.env whole) (TP X pins σ Q) X.xe s
def PA (X:Cx) (es:List Expr) (t:TA):Prop :=
 ∀ (pos:Pos) (pins:List (Addr×Obj)) (s:Shared) (σ:St) (H:Hp) (Q:List V->Hp->Prop),Inv X pins σ H s->t σ H Q->wpAny (model X.prog X.w) X.A (spliced (backTo pos (starEach es X.env))) (AP X pins σ Q) X.xe s
def PS (X:Cx) (st:Stmt) (t:TS):Prop :=
 ∀ (pins:List (Addr×Obj)) (s:Shared) (σ:St) (H:Hp) (D:Ends),Inv X pins σ H s->t D σ H->wpAny (model X.prog X.w) X.A (exec st X.env) (SP X pins D) X.xe s
def PSs (X:Cx) (st:List Stmt) (t:TS):Prop :=
 ∀ (pins:List (Addr×Obj)) (s:Shared) (σ:St) (H:Hp) (D:Ends),Inv X pins σ H s->t D σ H->wpAny (model X.prog X.w) X.A (execs st X.env) (SP X pins D) X.xe s
theorem thn {α:Type} {t:Sem α} {Q Q':α->Shared->Prop} {M:Model} {A:Around} {E:Value->Shared->Prop} {s:Shared} (h:wpAny M A t Q E s) (hQ:∀ a s,Q a s->Q' a s):wpAny M A t Q' E s:=wpAny_mono h hQ fun _ _ x=>x
section
variable {X:Cx}
def aJ3 (i:Nat):TE:=fun σ H Q=>∃ v,σ[i]? = some (some v)/\Q v H
def tC (v:V):TE:=fun _ H Q=>Q v H
theorem aHd {i:Nat} {x:Str} {pos:Pos} (hN:X.N[i]? = some x) (hv:Vis X.env.scope x) (hd:(x == ("__debug__" : Str))=false:=by decide) (hcd:(x == ("__classdict__" : Str))=false:=by decide):PE X (.Name x pos) (aJ3 i):=by
 intro pins s σ H Q I h
 obtain ⟨v,e,h⟩:=h
 obtain ⟨m,hn,hl⟩:=I.loc
 obtain ⟨u,r,l⟩:=hl i x v hN e hv
 have fin:EP X pins σ Q u s:=⟨v,H,I,r,h⟩
 rcases l with ⟨hk,hm⟩ | ⟨hk,c,hc,hcell⟩
 ·exact wpAny_Name (wpAny_loadName_local I.ok.kind hk hn hm fin) hd
 ·rcases hk with hk | hk
  ·exact wpAny_Name (wpAny_loadName_cell I.ok.kind hk hc hcell fin) hd
  ·exact wpAny_Name (wpAny_loadName_free I.ok.kind hk hc hcell fin hcd) hd
theorem aL9 {i j pos}:PE X (.Constant (.int i) j pos) (tC (.int i)):=fun _ _ _ H _ I h=>wpAny_Constant_int ⟨.int i,H,I.tok _,⟨_,rfl⟩,h⟩
theorem aN0 {b j pos}:PE X (.Constant (.bool b) j pos) (tC (.bl b)):=fun _ _ _ H _ I h=>Constant_bool ⟨.bl b,H,I,rfl,h⟩
theorem aKl {j pos}:PE X (.Constant .none j pos) (tC .non):=fun _ _ _ H _ I h=>Constant_none ⟨.non,H,I,rfl,h⟩
theorem aNb {x j pos}:PE X (.Constant (.str x) j pos) (tC (.str x)):=fun _ _ _ H _ I h=>Calls.Constant_str ⟨.str x,H,I.tok _,⟨_,rfl⟩,h⟩
def Gl (X:Cx) (x:Str):Prop:=X.env.kindOf x=some .globalImplicit
theorem aDr {E:Value->Shared->Prop} {pins:List (Addr×Obj)} {s:Shared} {σ:St} {H:Hp} {x:Str} {u:Value} {pos:Pos} {Q:Value->Shared->Prop} (I:Inv X pins σ H s) (hg:Gl X x) (hm:X.mg x=some u) (h:Q u s)
  (hd:(x == ("__debug__" : Str))=false:=by decide):wpAny (model X.prog X.w) X.A (eval (.Name x pos) X.env) Q E s :=
 Calls.Name_function_global I.ok.kind hg (Calls.loadGlobal_global (by rw [I.ok.glob];exact I.mod.glob.keeps I.bk) hm h) hd
theorem yH {E:Value->Shared->Prop} {pins:List (Addr×Obj)} {s:Shared} {σ:St} {H:Hp} {x:Str} {u:Value} {pos:Pos} {Q:Value->Shared->Prop} (I:Inv X pins σ H s) (hg:Gl X x) (hm:X.mg x=none) (hv:bootBuiltins x=some u) (h:Q u s)
  (hn:x≠"__name__":=by decide) (hd:(x == ("__debug__" : Str))=false:=by decide):wpAny (model X.prog X.w) X.A (eval (.Name x pos) X.env) Q E s:=by
 obtain ⟨mb,h1,h2⟩:=I.mod.blt
 exact Calls.Name_function_global I.ok.kind hg (Calls.loadGlobal_builtin (by rw [I.ok.glob];exact I.mod.glob.keeps I.bk) hm (by rw [I.ok.blt];exact h1.keeps I.bk) ((h2 x hn).trans hv) h) hd
variable {a b:Expr} {ta tb:TE} {pos:Pos}
def PC (X:Cx) (op:CmpOp) (a b:Expr) (t:TE):Prop :=
 ∀ (pins:List (Addr×Obj)) (s:Shared) (σ:St) (H:Hp) (Q:VK),Inv X pins σ H s->t σ H Q ->
  wpAny (model X.prog X.w) X.A (eval a X.env) (fun v s₁=>wpAny (model X.prog X.w) X.A (eval b X.env) (fun u s₂=>wpAny (model X.prog X.w) X.A (compareOp op v u) (EP X pins σ Q) X.xe s₂) X.xe s₁) X.xe s
theorem xR (b:Expr) {op:CmpOp} (h:op≠.In) (h2:op≠.NotIn):behindInMarks op b=false:=by
 have e1:(op == CmpOp.In)=false:=by cases op<;>first | rfl | exact absurd rfl h
 have e2:(op == CmpOp.NotIn)=false:=by cases op<;>first | rfl | exact absurd rfl h2
 cases b<;>simp [behindInMarks,e1,e2]
def aPw (ta:TE):TE:=fun σ H Q=>ta σ H fun x H1=>Q (.bl (decide (x=.non))) H1
def aLh (ta:TE):TE:=fun σ H Q=>ta σ H fun x H1=>Q (.bl (!decide (x=.non))) H1
theorem RelV.none_iff {x:V} {v:Value} (r:RelV x v):(v == Value.none)=decide (x=.non):=by
 cases x with
 | non=>cases r;rfl
 | bl _=>cases r;rfl
 | int _=>obtain ⟨t,rfl⟩:=r;rfl
 | str _=>obtain ⟨t,rfl⟩:=r;rfl
 | byt _=>obtain ⟨t,rfl⟩:=r;rfl
 | flt _=>obtain ⟨t,rfl⟩:=r;rfl
 | ref _=>cases r;rfl
 | ty _=>cases r;rfl
theorem aGl {j pos'} (ha:PE X a ta):PC X .Is a (.Constant .none j pos') (aPw ta):=by
 intro pins s σ H Q I h
 refine thn (ha pins s σ H _ I h) fun v s1 ⟨x,H1,I1,r1,q1⟩=>?_
 exact Constant_none (is_none_gen ⟨.bl _,H1,I1,by rw [r1.none_iff];rfl,q1⟩)
theorem aJd {j pos'} (ha:PE X a ta):PC X .IsNot a (.Constant .none j pos') (aLh ta):=by
 intro pins s σ H Q I h
 refine thn (ha pins s σ H _ I h) fun v s1 ⟨x,H1,I1,r1,q1⟩=>?_
 exact Constant_none (isnot_none_gen ⟨.bl _,H1,I1,by rw [r1.none_iff];rfl,q1⟩)
def tB (t:TE):TT:=fun σ H Q=>t σ H fun x H1=>∃ c,x=.bl c/\Q c H1
theorem aLy {op:CmpOp} {t:TE} (h:PC X op a b t) (h1:behindInMarks op b=false:=by first | exact xR _ (by decide) (by decide) | rfl):PE X (.Compare a [op] [b] pos) t:=fun pins s σ H Q I hw=>wpAny_Compare1 (h pins s σ H Q I hw) h1
theorem x4 {op:CmpOp} {t:TE} (h:PC X op a b t) (h1:behindInMarks op b=false:=by first | exact xR _ (by decide) (by decide) | rfl):PT X (.Compare a [op] [b] pos) (tB t):=by
 intro pins s σ H Q I hw
 refine wpAny_isTrue_Compare1 (thn (h pins s σ H _ I hw) fun v s1 h1=>thn h1 fun u s2 h2=>thn h2 fun c s3 ⟨x,H1,I1,r1,q1⟩=>?_) h1
 obtain ⟨d,rfl,q⟩:=q1
 cases r1
 exact wpAny_truthy_bool ⟨H1,I1,q⟩
theorem aK7 {e:Expr} {t:TE} (h:PE X e t) (he:∀ whole,isTrue e X.env whole=(do let v <- whole;standAt e.pos;holding [v] (truthy v)):=by intro _;rfl):PT X e (tB t):=by
 intro pins s σ H Q I hw
 refine isTrue_plain (thn (h pins s σ H _ I hw) fun v s1 ⟨x,H1,I1,r1,q1⟩=>?_) (he _)
 obtain ⟨d,rfl,q⟩:=q1
 cases r1
 exact wpAny_truthy_bool ⟨H1,I1,q⟩
variable {tA tB':TT} {rest:List Expr}
def aP8 (t u:TT):TT:=fun σ H Q=>t σ H fun c H1=>if c=true then u σ H1 Q else Q false H1
def tOr (t u:TT):TT:=fun σ H Q=>t σ H fun c H1=>if c=true then Q true H1 else u σ H1 Q
def aQf (t:TT):TT:=fun σ H Q=>t σ H fun c H1=>Q (!c) H1
theorem aIu (ha:PT X a tA):PW X (.BoolOp .And [a] pos) tA:=by
 intro wh pins s σ H Q I h
 refine isTrue_and (thn (ha pins s σ H Q I h) fun c s1 e=>?_)
 cases c with
 | true=>exact isTrue_and_nil e
 | false=>exact e
theorem aKr (ha:PT X a tA):PW X (.BoolOp .Or [a] pos) tA:=by
 intro wh pins s σ H Q I h
 refine isTrue_or (thn (ha pins s σ H Q I h) fun c s1 e=>?_)
 cases c with
 | false=>exact isTrue_or_nil e
 | true=>exact e
theorem aM8 (ha:PT X a tA) (hb:PW X (.BoolOp .And (b :: rest) pos) tB'):PW X (.BoolOp .And (a :: b :: rest) pos) (aP8 tA tB'):=by
 intro wh pins s σ H Q I h
 refine isTrue_and (thn (ha pins s σ H _ I h) fun c s1 ⟨H1,I1,q1⟩=>?_)
 cases c with
 | true=>exact hb wh pins s1 σ H1 Q I1 q1
 | false=>exact ⟨H1,I1,q1⟩
theorem aNv (ha:PT X a tA) (hb:PW X (.BoolOp .Or (b :: rest) pos) tB'):PW X (.BoolOp .Or (a :: b :: rest) pos) (tOr tA tB'):=by
 intro wh pins s σ H Q I h
 refine isTrue_or (thn (ha pins s σ H _ I h) fun c s1 ⟨H1,I1,q1⟩=>?_)
 cases c with
 | true=>exact ⟨H1,I1,q1⟩
 | false=>exact hb wh pins s1 σ H1 Q I1 q1
theorem aKq (ha:PT X a tA):PT X (.UnaryOp .Not a pos) (aQf tA):=by
 intro pins s σ H Q I h
 exact isTrue_not (ha pins s σ H (fun c H1=>Q (!c) H1) I h)
def aN2 (ta tb:TE):TE:=fun σ H Q=>ta σ H fun x H1=>∃ c,x=.bl c/\if c=true then tb σ H1 Q else Q (.bl false) H1
theorem aMy {op} {t:TE} (h:PE X a t):PE X (.BoolOp op [a] pos) t:=fun pins s σ H Q I hw=>BoolOp_one (h pins s σ H Q I hw)
theorem aNc (ha:PE X a ta) (hb:PE X (.BoolOp .And (b :: rest) pos) tb):PE X (.BoolOp .And (a :: b :: rest) pos) (aN2 ta tb):=by
 intro pins s σ H Q I h
 refine BoolOp_and (thn (ha pins s σ H _ I h) fun v s1 ⟨x,H1,I1,r1,q1⟩=>?_)
 obtain ⟨c,rfl,q1⟩:=q1
 cases r1
 refine wpAny_truthy_bool ?_
 cases c with
 | true=>exact hb pins s1 σ H1 Q I1 q1
 | false=>exact ⟨.bl false,H1,I1,rfl,q1⟩
def tIf (t:TT) (ta tb:TE):TE:=fun σ H Q=>t σ H fun c H1=>if c=true then ta σ H1 Q else tb σ H1 Q
theorem aE3 {c:Expr} (hc:PT X c tA) (ha:PE X a ta) (hb:PE X b tb):PE X (.IfExp c a b pos) (tIf tA ta tb):=by
 intro pins s σ H Q I h
 refine wpAny_IfExp (thn (hc pins s σ H _ I h) fun d s1 ⟨H1,I1,q1⟩=>?_)
 cases d with
 | true=>exact ha pins s1 σ H1 Q I1 q1
 | false=>exact hb pins s1 σ H1 Q I1 q1
end
def SqL (K:PySem.W.Frag) (H:Hp) (a:Addr) (xs:List V):Prop :=
 Rd H a (.lst xs) \/
  ∃ (o:Obj) (its:Array Value) (n:Nat),K.lookup a=some o/\o.cls=.type "list"/\o.dict=none/\o.data=.seq its n/\its.size<=sizeLine/\Vals xs its.toList
def SqT (K:PySem.W.Frag) (H:Hp) (a:Addr) (xs:List V):Prop :=
 Rd H a (.tup xs) \/
  ∃ (o:Obj) (its:Array Value) (n:Nat),K.lookup a=some o/\o.cls=.type "tuple"/\o.data=.seq its n/\its.size<=sizeLine/\Vals xs its.toList
def aQe:Value->Option V
 | .none=>some .non
 | .bool b=>some (.bl b)
 | .int i _=>some (.int i)
 | .str x _=>some (.str x)
 | .bytes b _=>some (.byt b)
 | .float b _=>some (.flt b)
 | .ref a=>some (.ref a)
 | .type n=>some (.ty n)
 | _=>none
theorem RelV.abs {x:V} {u:Value} (r:RelV x u):aQe u=some x:=by
 cases x with
 | non=>cases r;rfl
 | bl _=>cases r;rfl
 | int _=>obtain ⟨t,rfl⟩:=r;rfl
 | str _=>obtain ⟨t,rfl⟩:=r;rfl
 | byt _=>obtain ⟨t,rfl⟩:=r;rfl
 | flt _=>obtain ⟨t,rfl⟩:=r;rfl
 | ref _=>cases r;rfl
 | ty _=>cases r;rfl
theorem RelV.inj {x y:V} {u:Value} (r:RelV x u) (q:RelV y u):x=y:=Option.some.inj (r.abs.symm.trans q.abs)
theorem Vals.inj:∀ {xs ys:List V} {us:List Value},Vals xs us->Vals ys us->xs=ys
 | _,_,_,.nil,.nil=>rfl
 | _,_,_,.cons r t,.cons r' t'=>by rw [r.inj r',Vals.inj t t']
section
variable {X:Cx} {pins:List (Addr×Obj)} {σ:St} {H:Hp} {s:Shared} {a:Addr} {xs ys:List V}
theorem SqL.of {K:PySem.W.Frag} (h:H a=some (.lst xs)):SqL K H a xs:=.inl (.inl h)
theorem SqT.of {K:PySem.W.Frag} (h:H a=some (.tup xs)):SqT K H a xs:=.inl (.inl h)
theorem Inv.list (I:Inv X pins σ H s) (h:SqL X.K H a xs):∃ its:List Value,Vals xs its/\PlainL s.heap a its.toArray/\xs.length<=sizeLine:=by
 rcases h with h | ⟨o,its,n,hk,hc,hd,hs,hz,r⟩
 ·obtain ⟨z,its,n,r,e⟩:=h.ok I.hok
  exact ⟨its,r,⟨_,n,e,rfl,rfl,rfl⟩,z⟩
 ·refine ⟨its.toList,r,⟨o,n,I.kIn a o hk,hc,hd,by simpa using hs⟩,?_⟩
  have e:=r.length
  simp only [Array.length_toList] at e
  omega
theorem Inv.tuple (I:Inv X pins σ H s) (h:SqT X.K H a xs):∃ its:List Value,Vals xs its/\IsTup s.heap a its.toArray/\xs.length<=sizeLine:=by
 rcases h with h | ⟨o,its,n,hk,hc,hs,hz,r⟩
 ·obtain ⟨z,its,r,p⟩:=h.ok I.hok
  exact ⟨its,r,p,z⟩
 ·refine ⟨its.toList,r,⟨o,I.kIn a o hk,hc,n,by simpa using hs⟩,?_⟩
  have e:=r.length
  simp only [Array.length_toList] at e
  omega
theorem Inv.list_inj (I:Inv X pins σ H s) (h:SqL X.K H a xs) (h':SqL X.K H a ys):xs=ys:=by
 obtain ⟨its,r,⟨o,n,e,_,_,d⟩,_⟩:=I.list h
 obtain ⟨its',r',⟨o',n',e',_,_,d'⟩,_⟩:=I.list h'
 rw [e] at e';cases e'
 rw [d] at d'
 injection d' with d1 _
 have:its=its':=by simpa using congrArg Array.toList d1
 subst this
 exact r.inj r'
end
section
variable {X:Cx} {pins:List (Addr×Obj)} {σ:St} {H:Hp} {s:Shared} {E:Value->Shared->Prop}
end
section
variable {X:Cx} {st:Stmt} {rest:List Stmt} {t u:TS} {e:Expr} {te:TE} {pos:Pos}
def aOe:TS:=fun D σ H=>D.nx σ H
def aQa (t u:TS):TS:=fun D σ H=>t { D with nx:=u D } σ H
theorem aI4:PSs X [] aOe:=fun _ _ σ H _ I h=>wpAny_execs_nil ⟨σ,H,I,h⟩
theorem aGd (h1:PS X st t) (h2:PSs X rest u):PSs X (st :: rest) (aQa t u):=by
 intro pins s σ H D I h
 refine wpAny_execs_cons (thn (h1 pins s σ H { D with nx:=u D } I h) fun f s1 q=>?_)
 cases f with
 | next =>
  obtain ⟨σ',H',I',q⟩:=q
  exact h2 pins s1 σ' H' D I' q
 | ret v=>exact q
 | brk=>exact q
 | cont=>exact q
theorem aI8 (h1:PS X st t):PSs X [st] t:=by
 intro pins s σ H D I h
 refine wpAny_execs_cons (thn (h1 pins s σ H D I h) fun f s1 q=>?_)
 cases f with
 | next=>exact wpAny_execs_nil q
 | ret v=>exact q
 | brk=>exact q
 | cont=>exact q
theorem Inv.quiet {pins:List (Addr×Obj)} {σ:St} {H:Hp} {s:Shared} (I:Inv X pins σ H s):interactive X.env=false:=by simp [interactive,I.ok.kind]
def aIx (te:TE):TS:=fun D σ H=>te σ H fun _ H1=>D.nx σ H1
theorem o9 (he:PE X e te) (hs:swapsWith e none pos.line X.env=pure false:=by rfl):PS X (.Expr e pos) (aIx te):=by
 intro pins s σ H D I h
 exact wpAny_Expr_any (thn (he pins s σ H _ I h) fun v s1 ⟨x,H1,I1,r1,q1⟩=>⟨σ,H1,I1,q1⟩) I.quiet hs
def aQs (te:TE):TS:=fun D σ H=>te σ H D.rt
theorem aLl (he:PE X e te):PS X (.Return (some e) pos) (aQs te):=by
 intro pins s σ H D I h
 exact wpAny_Return_some (thn (he pins s σ H _ I h) fun v s1 ⟨x,H1,I1,r1,q1⟩=>⟨x,σ,H1,I1,r1,q1⟩)
def aQc (c:TT) (t u:TS):TS:=fun D σ H=>c σ H fun b H1=>if b=true then t D σ H1 else u D σ H1
theorem aOn {c:Expr} {a b:List Stmt} {tc:TT} (hc:PT X c tc) (ha:PSs X a t) (hb:PSs X b u):PS X (.If c a b pos) (aQc tc t u):=by
 intro pins s σ H D I h
 refine wpAny_If (thn (hc pins s σ H _ I h) fun d s1 ⟨H1,I1,q1⟩=>?_)
 cases d with
 | true=>exact ha pins s1 σ H1 D I1 q1
 | false=>exact hb pins s1 σ H1 D I1 q1
end
abbrev TG:=V->St->Hp->(St->Hp->Prop)->Prop
abbrev TGs:=List V->St->Hp->(St->Hp->Prop)->Prop
def PG (X:Cx) (target:Expr) (t:TG):Prop :=
 ∀ (pins:List (Addr×Obj)) (s:Shared) (σ:St) (H:Hp) (v:V) (u:Value) (Q:St->Hp->Prop),Inv X pins σ H s->RelV v u->t v σ H Q ->
  wpAny (model X.prog X.w) X.A (assign target X.env u) (fun _ s'=>∃ σ' H',Inv X pins σ' H' s'/\Q σ' H') X.xe s
def PGs (X:Cx) (ts:List Expr) (t:TGs):Prop :=
 ∀ (pins:List (Addr×Obj)) (s:Shared) (σ:St) (H:Hp) (vs:List V) (us:List Value) (Q:St->Hp->Prop),Inv X pins σ H s->Vals vs us->t vs σ H Q ->
  wpAny (model X.prog X.w) X.A (assignInOrder ((assignEach ts X.env).map (·.2)) us) (fun _ s'=>∃ σ' H',Inv X pins σ' H' s'/\Q σ' H') X.xe s
abbrev aOc:=V->V->V->Hp->(Hp->Prop)->Prop
def aPt (X:Cx) (t:aOc):Prop :=
 ∀ (pins:List (Addr×Obj)) (s:Shared) (σ:St) (H:Hp) (o i v:V) (ov iv u:Value) (Q:Hp->Prop),Inv X pins σ H s->RelV o ov->RelV i iv->RelV v u->t o i v H Q ->
  wpAny (model X.prog X.w) X.A (setItem ov iv u) (fun _ s'=>∃ H',Inv X pins σ H' s'/\Q H') X.xe s
section
variable {X:Cx} {pos:Pos}
def aI6 (i:Nat):TG:=fun v σ H Q=>Q (σ.set i (some v)) H
theorem aCj {i:Nat} {x:Str} (hN:X.N.Nodup) (hi:X.N[i]? = some x) (hx:Loc X.env.scope x) (hf:X.fn x=true\/X.env.scope.names.lookup x=some .local:=by first | exact .inl rfl | exact .inr rfl | assumption):PG X (.Name x pos) (aI6 i):=by
 intro pins s σ H v u Q I r h
 exact wpAny_assign_Name (oK I hN hi hx r (fun s' I'=>⟨_,H,I',h⟩) hf)
def aQn:TGs:=fun vs σ H Q=>vs=[]/\Q σ H
def aOj (t:TG) (u:TGs):TGs:=fun vs σ H Q=>∃ v r,vs=v :: r/\t v σ H fun σ' H'=>u r σ' H' Q
theorem aHz:PGs X [] aQn:=by
 intro pins s σ H vs us Q I r h
 obtain ⟨e,h⟩:=h
 subst e
 cases r
 exact assignInOrder_nil ⟨σ,H,I,h⟩
theorem aFh {e:Expr} {es:List Expr} {t:TG} {u:TGs} (h1:PG X e t) (h2:PGs X es u)
  (hs:(assignEach (e :: es) X.env).map (·.2)=assign e X.env :: (assignEach es X.env).map (·.2):=by rfl):PGs X (e :: es) (aOj t u):=by
 intro pins s σ H vs us Q I r h
 obtain ⟨v,vr,e1,h⟩:=h
 subst e1
 cases r with
 | cons r rr =>
  rw [hs]
  refine assignInOrder_cons (thn (h1 pins s σ H _ _ _ I r h) fun _ s1 ⟨σ1,H1,I1,q1⟩=>?_)
  exact h2 pins s1 σ1 H1 _ _ Q I1 rr q1
def aQl (K:PySem.W.Frag) (n:Nat) (t:TGs):TG:=fun v σ H Q=>∃ a xs,v=.ref a/\SqT K H a xs/\xs.length=n/\t xs σ H Q
theorem aL6 {es:List Expr} {k:Nat} {t:TGs} {n:Nat} (hc:X.calm=true) (h:PGs X es t)
  (hn:(assignEach es X.env).length=n:=by rfl) (hst:(assignEach es X.env).findIdx? (·.1)=none:=by rfl):PG X (.Tuple es k pos) (aQl X.K n t):=by
 intro pins s σ H v u Q I r hw
 obtain ⟨a,xs,e1,hq,hl,hw⟩:=hw
 subst e1
 cases r
 obtain ⟨its,rv,ht,hz⟩:=I.tuple hq
 refine assign_Tuple_tuple (I.ok.hd hc) ht (by simp [hn,<- hl,rv.length]) hst fun h' hx=>?_
 have I1:Inv X pins σ H { s with heap:=h' }:=I.kept (t':=s.toks) fun b o e=>hx b o (Nat.ne_of_lt (Heap.lt_size e)) e
 exact h pins _ σ H xs _ Q I1 (by simpa using rv) hw
def aPz (to ti:TE) (t:aOc):TG:=fun v σ H Q=>to σ H fun o H1=>ti σ H1 fun i H2=>t o i v H2 fun H3=>Q σ H3
theorem aLj {o i:Expr} {to ti:TE} {t:aOc} (ho:PE X o to) (hi:PE X i ti) (hs:aPt X t)
  (ha:∀ v,assign (.Subscript o i pos) X.env v=(do
   let ov <- holding [v] (eval o X.env)
   let iv <- holding [v,ov] (eval i X.env)
   standAt pos
   holding [v,ov,iv] (setItem ov iv v)
   release [v,ov,iv] []):=by intro _;rfl):PG X (.Subscript o i pos) (aPz to ti t):=by
 intro pins s σ H v u Q I r h
 rw [ha]
 refine wpAny_bind (wpAny_holding (thn (ho pins s σ H _ I h) fun ov s1 ⟨x,H1,I1,r1,q1⟩=>?_))
 refine wpAny_bind (wpAny_holding (thn (hi pins s1 σ H1 _ I1 q1) fun iv s2 ⟨y,H2,I2,r2,q2⟩=>?_))
 refine wpAny_bind (wpAny_standAt (wpAny_bind (wpAny_holding (thn (hs pins s2 σ H2 x y v ov iv u _ I2 r1 r2 r q2) fun _ s3 ⟨H3,I3,q3⟩=>?_))))
 exact wpAny_release ⟨σ,H3,I3,q3⟩
def aNk (te:TE) (g:TG):TS:=fun D σ H=>te σ H fun x H1=>g x σ H1 D.nx
theorem aHb {tg e:Expr} {te:TE} {g:TG} (he:PE X e te) (hg:PG X tg g) (hs:swapsWithSole [tg] e pos.line X.env=pure false:=by rfl) (hw:swappedStores [tg] e X.env=pure none:=by rfl)
  (h1:(assignEach [tg] X.env).map (·.2)=[assign tg X.env]:=by rfl):PS X (.Assign [tg] e pos) (aNk te g):=by
 intro pins s σ H D I h
 refine wpAny_Assign_stores (thn (he pins s σ H _ I h) fun v s1 ⟨x,H1,I1,r1,q1⟩=>?_) hs hw
 rw [h1]
 exact thn (hg pins s1 σ H1 x v _ I1 r1 q1) fun _ s2 q=>q
theorem aKn {i:Nat} {x:Str} {e:Expr} {te:TE} {pos':Pos} (hN:X.N.Nodup) (hi:X.N[i]? = some x) (hx:Loc X.env.scope x) (he:PE X e te) (hs:swapsWith e (some (.Name x pos')) pos.line X.env=pure false:=by rfl) (hf:X.fn x=true\/X.env.scope.names.lookup x=some .local:=by first | exact .inl rfl | exact .inr rfl | assumption) :
  PS X (.Assign [.Name x pos'] e pos) (aNk te (aI6 i)):=by
 intro pins s σ H D I h
 refine wpAny_Assign_Name (thn (he pins s σ H _ I h) fun v s1 ⟨y,H1,I1,r1,q1⟩=>?_) hs
 exact oK I1 hN hi hx r1 (fun s2 I2=>⟨_,H1,I2,q1⟩) hf
def aQt (i j:Nat) (ta:TA):TS:=fun D σ H=>ta σ H fun vs H1=>∃ v w,vs=[v,w]/\D.nx ((σ.set i (some v)).set j (some w)) H1
theorem aMf {i j:Nat} {x y:Str} {a b:Expr} {ta:TA} {px py pt:Pos} {kt k2 pt2} (hc:X.calm=true) (hN:X.N.Nodup) (hi:X.N[i]? = some x) (hj:X.N[j]? = some y) (hij:i≠j)
  (hx:X.env.scope.names.lookup x=some .local) (hy:X.env.scope.names.lookup y=some .local) (ha:PA X [a,b] ta)
  (hw:swappedStores [.Tuple [.Name x px,.Name y py] kt pt] (.Tuple [a,b] k2 pt2) X.env=pure (some [x,y]))
  (hs:swapsWithSole [.Tuple [.Name x px,.Name y py] kt pt] (.Tuple [a,b] k2 pt2) pos.line X.env=pure false:=by rfl) :
  PS X (.Assign [.Tuple [.Name x px,.Name y py] kt pt] (.Tuple [a,b] k2 pt2) pos) (aQt i j ta):=by
 intro pins s σ H D I h
 rw [exec_Assign_arm]
 refine wpAny_bind (wpAny_standAt ?_)
 rw [hs]
 refine wpAny_bind (wpAny_pure ?_)
 rw [if_neg (by decide)]
 refine wpAny_bind (Tuple_ (thn (ha _ pins s σ H _ I h) fun us s1 ⟨vs,H1,I1,r1,q1⟩=>?_))
 obtain ⟨v,w,e1,q1⟩:=q1
 subst e1
 obtain ⟨u1,u2,rfl,rv,rw'⟩:∃ u1 u2,us=[u1,u2]/\RelV v u1/\RelV w u2:=by
  cases r1 with
  | cons p q =>
   cases q with
   | cons p' q' =>
    cases q'
    exact ⟨_,_,rfl,p,p'⟩
 refine wpAny_newObj_type ?_ (by show 2<=sizeLine;decide)
 have I2:Inv X pins σ H1 { s1 with heap:=s1.heap.push { cls:=.type "tuple",data:=.seq [u1,u2].toArray } }:=I1.kept (t':=s1.toks) fun b o e=>Heap.get?_push_of_some _ e
 rw [hw]
 refine wpAny_bind (wpAny_pure ?_)
 show wpAny (model X.prog X.w) X.A (do rule "assign.swapped-stores";let items <- unpackItems (.ref s1.heap.objs.size) 2 none;assignInOrder [fun v=>bindName X.env y v,fun v=>bindName X.env x v] items.reverse;pure Flow.next) _ _ _
 refine wpAny_bind (wpAny_rule (wpAny_bind (unpackItems_tuple (items:=#[u1,u2]) (I.ok.hd hc) (IsTup.new s1.heap _) fun h' hx'=>?_)))
 have I3:=I2.kept (h':=h') (t':=s1.toks) fun b o e=>hx' b o (Nat.ne_of_lt (Heap.lt_size e)) e
 show wpAny _ _ (assignInOrder [fun v=>bindName X.env y v,fun v=>bindName X.env x v] [u2,u1] >>= fun _=>pure Flow.next) _ _ _
 refine wpAny_bind (assignInOrder_cons (wpAny_bindName (oK I3 hN hj (.inl hy) rw' (fun s2 I4=>?_) (.inr hy))))
 refine assignInOrder_cons (wpAny_bindName (oK I4 hN hi (.inl hx) rv (fun s3 I5=>assignInOrder_nil (wpAny_pure ?_)) (.inr hx)))
 rw [List.set_comm _ _ (Ne.symm hij)] at I5
 exact ⟨_,H1,I5,q1⟩
end
section
variable {X:Cx} {pos:Pos}
def aMu (c:TT) (tb:TS):TS:=fun D σ H=>∃ W:Nat->St->Hp->Prop,(∃ m,W m σ H)/\∀ m σ H,W m σ H ->
 c σ H fun b H1=>if b=true then ∃ N:St->Hp->Prop,(∀ σ' H',N σ' H'->∃ m',m' < m/\W m' σ' H')/\tb { D with nx:=N,ct:=N,bk:=D.nx } σ H1 else D.nx σ H1
theorem aFm {c:Expr} {body:List Stmt} {tc:TT} {tb:TS} (hp:PassesOwn (model X.prog X.w) X.A X.env X.xe) (hc:PT X c tc) (hb:PSs X body tb):PS X (.While c body [] pos) (aMu tc tb):=by
 intro pins s σ H D I h
 obtain ⟨W,⟨m0,w0⟩,turn⟩:=h
 refine wpAny_While (codeAny_whileLoop (fun n s'=>∃ σ' H',Inv X pins σ' H' s'/\W n σ' H') ?_ m0 ⟨σ,H,I,w0⟩)
 rintro n s1 ⟨σ1,H1,I1,w1⟩
 refine wpAny_passesOwn hp (thn (hc pins s1 σ1 H1 _ I1 (turn n σ1 H1 w1)) fun b s2 ⟨H2,I2,q2⟩=>?_)
 cases b with
 | true =>
  obtain ⟨N,hN,q2⟩:=q2
  rw [if_pos rfl]
  refine wpAny_passesOwn hp (thn (hb pins s2 σ1 H2 _ I2 q2) fun f s3 q3=>?_)
  cases f with
  | next =>
   obtain ⟨σ3,H3,I3,n3⟩:=q3
   obtain ⟨m',hm,w3⟩:=hN σ3 H3 n3
   exact ⟨m',hm,σ3,H3,I3,w3⟩
  | cont =>
   obtain ⟨σ3,H3,I3,n3⟩:=q3
   obtain ⟨m',hm,w3⟩:=hN σ3 H3 n3
   exact ⟨m',hm,σ3,H3,I3,w3⟩
  | brk=>exact q3
  | ret v=>exact q3
 | false =>
  rw [if_neg Bool.false_ne_true]
  exact wpAny_execs_nil ⟨σ1,H2,I2,q2⟩
end
structure It where
 go:Nat->Hp->Prop
 yld:Nat->Hp->V->Hp->Prop
 stop:Nat->Hp->Prop
def aE1 (X:Cx) (pins:List (Addr×Obj)) (H:Hp) (b:Addr):Prop :=
 H b=none/\b≠X.env.locals/\b∉X.fs/\(b∈X.ex\/X.s₀.heap.objs.size<=b)/\(∀ x c,X.env.cells.lookup x=some c->c≠b)/\∀ p∈X.pn++pins,p.1≠b
theorem Inv.fpOk {X:Cx} {pins:List (Addr×Obj)} {σ:St} {H H':Hp} {s:Shared} {b:Addr} (I:Inv X pins σ H s) (hb:s.heap.objs.size<=b) (hn:H' b=none):aE1 X pins H' b:=by
 refine ⟨hn,Nat.ne_of_gt (Nat.lt_of_lt_of_le I.lt hb),I.nofs hb,.inr (Nat.le_trans I.sz hb),fun x c e z=>?_,fun p hp z=>?_⟩
 ·obtain ⟨v,q⟩:=I.cell x c e
  exact absurd (Nat.lt_of_lt_of_le q.lt (by rw [z];exact hb)) (Nat.lt_irrefl _)
 ·exact absurd (Nat.lt_of_lt_of_le (Heap.lt_size (I.pin p hp).1) (by rw [z];exact hb)) (Nat.lt_irrefl _)
structure Turn (P:Program) (w:World) (K:PySem.W.Frag) (tg:Expr) (J:It) (fp:List Addr) (it:Addr) (tn:Nat->Heap->Prop):Prop where
 mem:it∈fp
 obj:∀ i h,tn i h->∀ b∈fp,∃ o,h.get? b=some o/\∀ v,o.data≠.cell v
 keep:∀ i h h',tn i h->(∀ b∈fp,∀ o,h.get? b=some o->h'.get? b=some o)->tn i h'
 item:∀ (X:Cx),X.prog=P->X.w=w->X.K=K->X.calm=true->∀ (i:Nat) (pins:List (Addr×Obj)) (s:Shared) (σ:St) (H:Hp) (E:Value->Shared->Prop),Inv X pins σ H s->(∀ b∈fp,aE1 X pins H b)->tn i s.heap->J.go i H ->
  wpAny (model P w) X.A (pyNext (.ref it)) (fun r s1=>∃ u,r=some u /\
   wpAny (model P w) X.A (letOwnedTupleGo tg (.ref it) u) (fun _ s2=>∃ x H',Inv X pins σ H' s2/\RelV x u/\J.yld i H x H'/\tn (i+1) s2.heap/\∀ b∈fp,H' b=none) E s1) E s
 done:∀ (X:Cx),X.prog=P->X.w=w->X.K=K->X.calm=true->∀ (i:Nat) (pins:List (Addr×Obj)) (s:Shared) (σ:St) (H:Hp) (E:Value->Shared->Prop),Inv X pins σ H s->(∀ b∈fp,aE1 X pins H b)->tn i s.heap->J.stop i H ->
  wpAny (model P w) X.A (pyNext (.ref it)) (fun r s1=>r=none/\Inv X pins σ H s1) E s
 self:∀ (A:Around) (i:Nat) (s:Shared) (Q:Value->Shared->Prop) (E:Value->Shared->Prop),tn i s.heap->Q (.ref it) s->wpAny (model P w) A (pyIter (.ref it)) Q E s
abbrev TI:=St->Hp->(It->Hp->Prop)->Prop
def PIE (X:Cx) (pins:List (Addr×Obj)) (σ:St) (tg:Expr) (R:It->Hp->Prop) (itv:Value) (s2:Shared):Prop :=
 ∃ (it:Addr) (fp:List Addr) (tn:Nat->Heap->Prop) (J:It) (H':Hp),itv=.ref it/\Inv X pins σ H' s2/\Turn X.prog X.w X.K tg J fp it tn/\tn 0 s2.heap/\(∀ b∈fp,aE1 X pins H' b)/\R J H'
def PI (X:Cx) (tg iter:Expr) (wi:TI):Prop :=
 ∀ (pins:List (Addr×Obj)) (s:Shared) (σ:St) (H:Hp) (R:It->Hp->Prop),Inv X pins σ H s->wi σ H R ->
  wpAny (model X.prog X.w) X.A (eval iter X.env) (fun v s1=>wpAny (model X.prog X.w) X.A (pyIter v) (PIE X pins σ tg R) X.xe s1) X.xe s
theorem aMk {M:Model} {A:Around} {E:Value->Shared->Prop} {s:Shared} {tg:Expr} {it:Addr} {u:Value} {o:Obj} {n:String} {vs:Array Value} {Q:Unit->Shared->Prop} (ho:s.heap.get? it=some o) (hc:o.cls=.type n) (hd:o.data=.fields vs)
  (hn:["enumerate","zip","dict_itemiterator","dict_reverseitemiterator","odict_iterator","itertools.zip_longest","itertools.pairwise"].contains n=false) (hQ:Q () s):wpAny M A (letOwnedTupleGo tg (.ref it) u) Q E s:=by
 unfold letOwnedTupleGo
 cases tg<;>first
  | exact wpAny_pure hQ
  | (cases u<;>first
    | exact wpAny_pure hQ
    | (refine wpAny_bind (wpAny_load ho ?_)
       rw [hc,hd]
       show wpAny M A (if (["enumerate","zip","dict_itemiterator","dict_reverseitemiterator","odict_iterator","itertools.zip_longest","itertools.pairwise"].contains n && vs[0]? == some (rawInt _))=true then _ else _) Q E s
       rw [if_neg (by intro h;rw [hn,Bool.false_and] at h;cases h)]
       exact wpAny_pure hQ))
def Itl (K:PySem.W.Frag) (a:Addr):It :=
 ⟨fun i H=>∃ xs x,SqL K H a xs/\xs[i]? = some x,fun i H x H'=>H'=H/\∀ xs,SqL K H a xs->xs[i]? = some x,fun i H=>∃ xs,SqL K H a xs/\xs.length<=i⟩
def Itr (lo:Int) (n:Nat):It:=⟨fun i _=>i < n,fun i H x H'=>H'=H/\x=.int (lo+i),fun i _=>n<=i⟩
theorem aC7 {P:Program} {w:World} {K:PySem.W.Frag} {tg:Expr} (a it:Addr):Turn P w K tg (Itl K a) [it] it (fun i h=>h.IsListIter it a i) where
 mem:=by simp
 obj:=fun i h st b hb=>by
  have e:b=it:=by simpa using hb
  subst e
  obtain ⟨o,e,c,d⟩:=st
  exact ⟨o,e,fun v z=>by rw [d] at z;cases z⟩
 keep:=fun i h h' st k=>st.at fun o e=>k it (by simp) o e
 item:=by
  intro X hP hw hK hc i pins s σ H E I hf st hg
  subst hP hw hK
  obtain ⟨xs,x,hq,hx⟩:=hg
  obtain ⟨its,rv,p,hz⟩:=I.list hq
  obtain ⟨u,hu,ru⟩:=rv.get hx
  obtain ⟨f0,f1,f2,f3,f4,f5⟩:=hf it (by simp)
  refine wpAny_pyNext_list_item st p.isList (x:=u) (by simpa using hu) fun h' st' sb=>?_
  have I1:Inv X pins σ H { s with heap:=h' }:=I.turned (t':=s.toks) (fun b o hb e=>(sb.2 b hb).trans e) f0 f1 f3 f4 f5
  obtain ⟨o,e,c,d⟩:=id st'
  exact ⟨u,rfl,aMk (s:={ s with heap:=h' }) e c d (by decide) ⟨x,H,I1,ru,⟨rfl,fun ys hy=>by rw [I.list_inj hy hq];exact hx⟩,st',fun b hb=>(hf b hb).1⟩⟩
 done:=by
  intro X hP hw hK hc i pins s σ H E I hf st hg
  subst hP hw hK
  obtain ⟨xs,hq,hx⟩:=hg
  obtain ⟨its,rv,p,hz⟩:=I.list hq
  obtain ⟨f0,f1,f2,f3,f4,f5⟩:=hf it (by simp)
  have hl:=rv.length
  exact wpAny_pyNext_list_end (I.ok.hd hc) st p.isList (by simp;omega) fun h' eb=>⟨rfl,I.turned (t':=s.toks) (fun b o hb e=>eb b o hb e) f0 f1 f3 f4 f5⟩
 self:=fun _ _ _ _ _ st h=>wpAny_pyIter_listiter st h
theorem aAc {P:Program} {w:World} {K:PySem.W.Frag} {tg:Expr} (it:Addr) (lo:Int) (n:Nat):Turn P w K tg (Itr lo n) [it] it (fun i h=>IsRangeIter h it (lo+(i:Nat)*1) ((n:Int) - (i:Nat)) 1) where
 mem:=by simp
 obj:=fun i h st b hb=>by
  have e:b=it:=by simpa using hb
  subst e
  exact ⟨_,st,fun v z=>by
   have z':Data.fields _=Data.cell v:=z
   cases z'⟩
 keep:=fun i h h' st k=>k it (by simp) _ st
 item:=by
  intro X hP hw hK hc i pins s σ H E I hf st hg
  subst hP hw hK
  obtain ⟨f0,f1,f2,f3,f4,f5⟩:=hf it (by simp)
  have W:=Walks.range (prog:=X.prog) (w:=X.w) (I.ok.hd hc) it lo 1 n
  refine W.item i s _ _ hg st fun v h' tk hv st' kk=>?_
  obtain ⟨t,rfl⟩:=hv
  have I1:Inv X pins σ H { s with heap:=h',toks:=tk }:=I.turned (fun b o hb e=>kk b o (by simpa using hb) e) f0 f1 f3 f4 f5
  refine ⟨_,rfl,aMk (s:={ s with heap:=h',toks:=tk }) (n:="range_iterator") st' rfl rfl (by decide) ⟨.int (lo+i),H,I1,⟨t,?_⟩,⟨rfl,rfl⟩,st',fun b hb=>(hf b hb).1⟩⟩
  rw [Int.mul_one]
 done:=by
  intro X hP hw hK hc i pins s σ H E I hf st hg
  subst hP hw hK
  obtain ⟨f0,f1,f2,f3,f4,f5⟩:=hf it (by simp)
  exact wpAny_pyNext_range_end (I.ok.hd hc) st (by have:n<=i:=hg;omega) fun h' eb=>⟨rfl,I.turned (t':=s.toks) (fun b o hb e=>eb b o hb e) f0 f1 f3 f4 f5⟩
 self:=fun _ _ _ _ _ st h=>wpAny_pyIter_rangeiter st h
section
variable {X:Cx} {tg:Expr}
def aOy (K:PySem.W.Frag) (tl:TE):TI:=fun σ H R=>tl σ H fun x H1=>∃ a,x=.ref a/\(∃ xs,SqL K H1 a xs)/\R (Itl K a) H1
theorem aIm {l:Expr} {tl:TE} (hl:PE X l tl):PI X tg l (aOy X.K tl):=by
 intro pins s σ H R I h
 refine thn (hl pins s σ H _ I h) fun v s1 ⟨x,H1,I1,r1,q1⟩=>?_
 obtain ⟨a,e,⟨xs,hq⟩,q⟩:=q1
 subst e
 cases r1
 obtain ⟨its,rv,p,hz⟩:=I1.list hq
 refine wpAny_pyIter_list p.isList ?_
 refine ⟨s1.heap.objs.size,[s1.heap.objs.size],_,_,H1,rfl,I1.kept (t':=s1.toks) fun b o e=>Heap.get?_push_of_some _ e,aC7 a _,⟨_,Heap.get?_push_size _ rfl,rfl,rfl⟩,fun b hb=>?_,q⟩
 have e:b=s1.heap.objs.size:=by simpa using hb
 subst e
 exact I1.fpOk (Nat.le_refl _) (I1.hok.fresh (Nat.le_refl _))
theorem aGa {pins:List (Addr×Obj)} {σ:St} {H:Hp} {s:Shared} {R:It->Hp->Prop} {E:Value->Shared->Prop} {lo hi:Int} {t u v:Tok} {tk:Nat} (I:Inv X pins σ H s) (h1:-(2 ^ 62)<=lo) (h2:lo < 2 ^ 62) (h3:-(2 ^ 62)<=hi) (h4:hi < 2 ^ 62)
  (q:R (Itr lo (hi - lo).toNat) H):wpAny (model X.prog X.w) X.A (pyIter (.ref s.heap.objs.size)) (PIE X pins σ tg R) E { s with heap:=s.heap.push { cls:=.type "range",data:=.fields #[.int lo t,.int hi u,.int 1 v] },toks:=tk }:=by
 refine wpAny_pyIter_range (IsRange.new ..) (small_one h1 h2 h3 h4) ?_
 have I1:Inv X pins σ H { s with heap:=s.heap.push { cls:=.type "range",data:=.fields #[.int lo t,.int hi u,.int 1 v] },toks:=tk }:=I.kept fun b o e=>Heap.get?_push_of_some _ e
 refine ⟨(s.heap.push { cls:=.type "range",data:=.fields #[.int lo t,.int hi u,.int 1 v] }).objs.size,[(s.heap.push { cls:=.type "range",data:=.fields #[.int lo t,.int hi u,.int 1 v] }).objs.size],_,_,H,rfl,
  I1.kept (t':=tk) fun b o e=>Heap.get?_push_of_some _ e,aAc _ lo (hi - lo).toNat,?_,fun b hb=>?_,q⟩
 ·have e1:lo+((0:Nat):Int)*1=lo:=by simp
  have e2:(((hi - lo).toNat:Nat):Int) - ((0:Nat):Int)=Builtin.Range.rangeSize lo hi 1:=by rw [rangeSize_one];split<;>omega
  show IsRangeIter _ _ (lo+((0:Nat):Int)*1) ((((hi - lo).toNat:Nat):Int) - ((0:Nat):Int)) 1
  rw [e1,e2]
  exact Heap.get?_push_size _ rfl
 ·have e:b=(s.heap.push { cls:=.type "range",data:=.fields #[.int lo t,.int hi u,.int 1 v] }).objs.size:=by simpa using hb
  subst e
  exact I1.fpOk (Nat.le_refl _) (I1.hok.fresh (Nat.le_refl _))
def aPh (ta:TA):TI:=fun σ H R=>ta σ H fun vs H1=>∃ j:Int,vs=[.int j]/\-(2 ^ 62)<=j/\j < 2 ^ 62/\R (Itr 0 j.toNat) H1
theorem aAw {a:Expr} {ta:TA} {p pos:Pos} (hg:Gl X "range") (hm:X.mg "range" = none) (ha:PA X [a] ta) (hs:starEach [a] X.env=[(false,eval a X.env)]:=by rfl):PI X tg (.Call (.Name "range" p) [a] [] pos) (aPh ta):=by
 intro pins s σ H R I h
 refine Call_ (yH I hg hm boot_range (PyProof.Rows.callWith_type1 (thn (ha pos pins s σ H _ I h) fun us s1 ⟨vs,H1,I1,r1,q1⟩=>?_) hs rfl))
 obtain ⟨j,e,q1,q2,q⟩:=q1
 subst e
 cases r1 with
 | cons r rr =>
  cases rr
  obtain ⟨t,rfl⟩:=r
  exact call_range_1 (aGa I1 (by omega) (by omega) q1 q2 (by simpa using q))
def aQq (wi:TI) (g:TG) (tb:TS):TS:=fun D σ H=>wi σ H fun J H1=>∃ W:Nat->Nat->St->Hp->Prop,(∃ m,W 0 m σ H1)/\∀ i m σ H,W i m σ H ->
 (J.stop i H/\D.nx σ H)\/(J.go i H/\∃ N:St->Hp->Prop,(∀ σ' H',N σ' H'->∃ m',m' < m/\W (i+1) m' σ' H')/\∀ x H',J.yld i H x H'->g x σ H' fun σ2 H2=>tb { D with nx:=N,ct:=N,bk:=D.nx } σ2 H2)
def yA (fp:List Addr) (h:Heap):List (Addr×Obj):=fp.filterMap fun b=>(h.get? b).map fun o=>(b,o)
theorem gF {fp:List Addr} {h:Heap} {b:Addr} {o:Obj} (hb:b∈fp) (e:h.get? b=some o):(b,o)∈yA fp h:=List.mem_filterMap.mpr ⟨b,hb,by rw [e];rfl⟩
theorem aD9 {fp:List Addr} {h:Heap} {p:Addr×Obj} (hp:p∈yA fp h):p.1∈fp/\h.get? p.1=some p.2:=by
 obtain ⟨b,hb,e⟩:=List.mem_filterMap.mp hp
 cases q:h.get? b with
 | none=>rw [q] at e;cases e
 | some o =>
  rw [q] at e
  have e':(b,o)=p:=Option.some.inj e
  subst e'
  exact ⟨hb,q⟩
theorem Inv.pinned {pins:List (Addr×Obj)} {σ:St} {H:Hp} {s:Shared} {fp:List Addr} (I:Inv X pins σ H s) (hf:∀ b∈fp,aE1 X pins H b) (ho:∀ b∈fp,∃ o,s.heap.get? b=some o/\∀ v,o.data≠.cell v):Inv X (pins++yA fp s.heap) σ H s :=
 I.pins_of fun p hp=>(List.mem_append.mp hp).elim (fun z=>I.pin p (List.mem_append_right _ z)) fun z=>by
  obtain ⟨hb,e⟩:=aD9 z
  obtain ⟨f0,f1,f2,_⟩:=hf p.1 hb
  obtain ⟨o,e',d⟩:=ho p.1 hb
  rw [e] at e';cases e'
  exact ⟨e,f0,f1,f2,d⟩
theorem Inv.unpinned {pins pl:List (Addr×Obj)} {σ:St} {H:Hp} {s:Shared} (I:Inv X (pins++pl) σ H s):Inv X pins σ H s:=I.pins_of fun p hp=>I.pin p (List.mem_append_right _ (List.mem_append_left _ hp))
theorem aL1 {iter:Expr} {body:List Stmt} {wi:TI} {g:TG} {tb:TS} {pos:Pos} (hp:PassesOwn (model X.prog X.w) X.A X.env X.xe) (hc:X.calm=true) (hi:PI X tg iter wi) (hg:PG X tg g) (hb:PSs X body tb)
  (hs:∀ x,foldedSetIterable iter X.env x=pure x:=by intro _;rfl):PS X (.For tg iter body [] pos) (aQq wi g tb):=by
 intro pins s σ H D I h
 refine wpAny_For (thn (hi pins s σ H _ I h) fun v s1 h1=>thn h1 fun itv s2 h2=>?_) hs
 obtain ⟨it,fp,tn,J,H2,e,I2,T,st2,f2,W,⟨m0,w0⟩,turn⟩:=h2
 subst e
 have stat:∀ {H':Hp},(∀ b∈fp,H' b=none)->∀ b∈fp,aE1 X pins H' b:=fun hn b hb=>⟨hn b hb,(f2 b hb).2⟩
 refine codeAny_forLoop_any (fun n s'=>∃ i σ' H',Inv X pins σ' H' s'/\tn i s'.heap/\(∀ b∈fp,H' b=none)/\W i n σ' H') ?_ m0 ⟨0,σ,H2,I2,st2,fun b hb=>(f2 b hb).1,w0⟩
 rintro n s3 ⟨i,σ3,H3,I3,st3,fr3,w3⟩
 rcases turn i n σ3 H3 w3 with ⟨stop,qn⟩ | ⟨go,N,hN,step⟩
 ·refine wpAny_passesOwn hp (thn (T.done X rfl rfl rfl hc i pins s3 σ3 H3 X.xe I3 (stat fr3) st3 stop) fun r s4 ⟨hr,I4⟩=>?_)
  subst hr
  exact wpAny_execs_nil ⟨σ3,H3,I4,qn⟩
 ·refine wpAny_passesOwn hp (thn (T.item X rfl rfl rfl hc i pins s3 σ3 H3 X.xe I3 (stat fr3) st3 go) fun r s4 ⟨u,hr,h4⟩=>?_)
  subst hr
  refine wpAny_passesOwn hp (thn h4 fun _ s5 ⟨x,H5,I5,r5,y5,st5,fr5⟩=>?_)
  have I5':=I5.pinned (stat fr5) (T.obj _ _ st5)
  refine wpAny_passesOwn hp (thn (hg _ s5 σ3 H5 x u _ I5' r5 (step x H5 y5)) fun _ s6 ⟨σ6,H6,I6,q6⟩=>?_)
  refine wpAny_passesOwn hp (thn (hb _ s6 σ6 H6 _ I6 q6) fun f s7 q7=>?_)
  have again:∀ {σ7:St} {H7:Hp},Inv X (pins++yA fp s5.heap) σ7 H7 s7->N σ7 H7->∃ m,m < n/\∃ i σ' H',Inv X pins σ' H' s7/\tn i s7.heap/\(∀ b∈fp,H' b=none)/\W i m σ' H':=fun {σ7 H7} I7 n7=>by
   obtain ⟨m',hm,w7⟩:=hN σ7 H7 n7
   refine ⟨m',hm,i+1,σ7,H7,I7.unpinned,T.keep _ _ _ st5 fun b hb o e=>(I7.pin (b,o) (List.mem_append_right _ (List.mem_append_right _ (gF hb e)))).1,fun b hb=>?_,w7⟩
   obtain ⟨o,e,d⟩:=T.obj _ _ st5 b hb
   exact (I7.pin (b,o) (List.mem_append_right _ (List.mem_append_right _ (gF hb e)))).2.1
  cases f with
  | next=>obtain ⟨σ7,H7,I7,n7⟩:=q7;exact again I7 n7
  | cont=>obtain ⟨σ7,H7,I7,n7⟩:=q7;exact again I7 n7
  | brk=>obtain ⟨σ7,H7,I7,q7⟩:=q7;exact ⟨σ7,H7,I7.unpinned,q7⟩
  | ret v=>obtain ⟨x7,σ7,H7,I7,r7,q7⟩:=q7;exact ⟨x7,σ7,H7,I7.unpinned,r7,q7⟩
end
abbrev R2:=V->V->Hp->VK->Prop
def OpR (X:Cx) (f:Value->Value->Sem Value) (r:R2):Prop :=
 ∀ (pins:List (Addr×Obj)) (s:Shared) (σ:St) (H:Hp) (x y:V) (v u:Value) (Q:VK),Inv X pins σ H s->RelV x v->RelV y u->r x y H Q ->
  wpAny (model X.prog X.w) X.A (f v u) (EP X pins σ Q) X.xe s
def UnR (X:Cx) (f:Value->Sem Value) (r:V->Hp->VK->Prop):Prop :=
 ∀ (pins:List (Addr×Obj)) (s:Shared) (σ:St) (H:Hp) (x:V) (v:Value) (Q:VK),Inv X pins σ H s->RelV x v->r x H Q ->
  wpAny (model X.prog X.w) X.A (f v) (EP X pins σ Q) X.xe s
def qD (X:Cx) (f:Value) (r:List V->Hp->VK->Prop):Prop :=
 ∀ (pins:List (Addr×Obj)) (s:Shared) (σ:St) (H:Hp) (xs:List V) (us:List Value) (Q:VK),Inv X pins σ H s->Vals xs us->r xs H Q ->
  wpAny (model X.prog X.w) X.A (call f us) (EP X pins σ Q) X.xe s
def tOp (r:R2) (ta tb:TE):TE:=fun σ H Q=>ta σ H fun x H1=>tb σ H1 fun y H2=>r x y H2 Q
def tUn (r:V->Hp->VK->Prop) (ta:TE):TE:=fun σ H Q=>ta σ H fun x H1=>r x H1 Q
def rI (C:Int->Int->Prop) (g:Int->Int->V):R2:=fun x y H Q=>∃ i j,x=.int i/\y=.int j/\C i j/\Q (g i j) H
def rI0 (g:Int->Int->V):R2:=fun x y H Q=>∃ i j,x=.int i/\y=.int j/\Q (g i j) H
def rU (g:Int->V):V->Hp->VK->Prop:=fun x H Q=>∃ i,x=.int i/\Q (g i) H
section
variable {X:Cx} {a b c:Expr} {ta tb tc:TE} {pos:Pos}
theorem aNu (ha:PE X a ta) (hb:PE X b tb) {pins:List (Addr×Obj)} {s:Shared} {σ:St} {H:Hp} {R:V->V->Hp->Prop} (I:Inv X pins σ H s)
  (h:ta σ H fun x H1=>tb σ H1 fun y H2=>R x y H2) {Q:Value->Shared->Prop} {f:Value->Value->Sem Value}
  (hf:∀ v u s2 x y H2,Inv X pins σ H2 s2->RelV x v->RelV y u->R x y H2->wpAny (model X.prog X.w) X.A (f v u) Q X.xe s2) :
  wpAny (model X.prog X.w) X.A (eval a X.env) (fun v s₁=>wpAny (model X.prog X.w) X.A (eval b X.env) (fun u s₂=>wpAny (model X.prog X.w) X.A (f v u) Q X.xe s₂) X.xe s₁) X.xe s:=by
 refine thn (ha pins s σ H _ I h) fun v s1 ⟨x,H1,I1,r1,q1⟩=>?_
 refine thn (hb pins s1 σ H1 _ I1 q1) fun u s2 ⟨y,H2,I2,r2,q2⟩=>?_
 exact hf v u s2 x y H2 I2 r1 r2 q2
theorem aPi {op:Operator} {r:R2} (ho:OpR X (binaryOp op) r) (ha:PE X a ta) (hb:PE X b tb):PE X (.BinOp a op b pos) (tOp r ta tb):=by
 intro pins s σ H Q I h
 exact wpAny_BinOp (aNu ha hb I h fun v u s2 x y H2 I2 rx ry q=>ho pins s2 σ H2 x y v u Q I2 rx ry q)
theorem aPo {op:UnaryOp} {r:V->Hp->VK->Prop} (ho:UnR X (unaryOp op) r) (ha:PE X a ta):PE X (.UnaryOp op a pos) (tUn r ta):=by
 intro pins s σ H Q I h
 exact UnaryOp_ (thn (ha pins s σ H _ I h) fun v s1 ⟨x,H1,I1,r1,q1⟩=>ho pins s1 σ H1 x v Q I1 r1 q1)
theorem opI {f:Value->Value->Sem Value} {C:Int->Int->Prop} {g:Int->Int->Int}
  (rule:∀ (i j:Int) (t u:Tok) (s:Shared) (Q:Value->Shared->Prop) (E:Value->Shared->Prop),C i j->Q (.int (g i j) s.toks) { s with toks:=s.toks+1 }->wpAny (model X.prog X.w) X.A (f (.int i t) (.int j u)) Q E s) :
  OpR X f (rI C fun i j=>.int (g i j)):=by
 intro pins s σ H x y v u Q I rx ry h
 obtain ⟨i,j,rfl,rfl,hc,q⟩:=h
 obtain ⟨t,rfl⟩:=rx
 obtain ⟨t',rfl⟩:=ry
 exact rule i j t t' s _ _ hc ⟨.int (g i j),H,I.tok _,⟨_,rfl⟩,q⟩
theorem aP1 {f:Value->Value->Sem Value} {g:Int->Int->Int}
  (rule:∀ (i j:Int) (t u:Tok) (s:Shared) (Q:Value->Shared->Prop) (E:Value->Shared->Prop),Q (.int (g i j) s.toks) { s with toks:=s.toks+1 }->wpAny (model X.prog X.w) X.A (f (.int i t) (.int j u)) Q E s) :
  OpR X f (rI0 fun i j=>.int (g i j)):=by
 intro pins s σ H x y v u Q I rx ry h
 obtain ⟨i,j,rfl,rfl,q⟩:=h
 obtain ⟨t,rfl⟩:=rx
 obtain ⟨t',rfl⟩:=ry
 exact rule i j t t' s _ _ ⟨.int (g i j),H,I.tok _,⟨_,rfl⟩,q⟩
theorem aPl {f:Value->Value->Sem Value} {g:Int->Int->Bool}
  (rule:∀ (i j:Int) (t u:Tok) (s:Shared) (Q:Value->Shared->Prop) (E:Value->Shared->Prop),Q (.bool (g i j)) s->wpAny (model X.prog X.w) X.A (f (.int i t) (.int j u)) Q E s) :
  OpR X f (rI0 fun i j=>.bl (g i j)):=by
 intro pins s σ H x y v u Q I rx ry h
 obtain ⟨i,j,rfl,rfl,q⟩:=h
 obtain ⟨t,rfl⟩:=rx
 obtain ⟨t',rfl⟩:=ry
 exact rule i j t t' s _ _ ⟨.bl (g i j),H,I,rfl,q⟩
def aHg (i j:Int):Prop:=0<=j/\j<=1000000/\i.natAbs < 2 ^ 64
theorem aLu:OpR X (binaryOp .Add) (rI0 fun i j=>.int (i+j)):=aP1 fun _ _ _ _ _ _ _ q=>add_int q
theorem d9:OpR X (binaryOp .Sub) (rI0 fun i j=>.int (i - j)):=aP1 fun _ _ _ _ _ _ _ q=>sub_int q
theorem aZ:OpR X (binaryOp .Mod) (rI (fun _ j=>j≠0) fun i j=>.int (i.fmod j)):=opI fun _ _ _ _ _ _ _ hc q=>mod_int' hc q
theorem kL:OpR X (binaryOp .Pow) (rI aHg fun i j=>.int (i ^ j.toNat)):=opI fun _ _ _ _ _ _ _ hc q=>pow_int_small hc.1 hc.2.1 hc.2.2 q
theorem unI {f:Value->Sem Value} {g:Int->Int}
  (rule:∀ (i:Int) (t:Tok) (s:Shared) (Q:Value->Shared->Prop) (E:Value->Shared->Prop),Q (.int (g i) s.toks) { s with toks:=s.toks+1 }->wpAny (model X.prog X.w) X.A (f (.int i t)) Q E s) :
  UnR X f (rU fun i=>.int (g i)):=by
 intro pins s σ H x v Q I rx h
 obtain ⟨i,rfl,q⟩:=h
 obtain ⟨t,rfl⟩:=rx
 exact rule i t s _ _ ⟨.int (g i),H,I.tok _,⟨_,rfl⟩,q⟩
theorem aLe:UnR X (unaryOp .USub) (rU fun i=>.int (-i)):=unI fun _ _ _ _ _ q=>neg_int q
end
section
variable {X:Cx} {a b c:Expr} {ta tb tc:TE} {pos:Pos}
theorem sV:OpR X (compareOp .Lt) (rI0 fun i j=>.bl (decide (i < j))):=aPl fun _ _ _ _ _ _ _ q=>lt_int q
theorem aOi:OpR X (compareOp .LtE) (rI0 fun i j=>.bl (decide (i<=j))):=aPl fun _ _ _ _ _ _ _ q=>le_int q
theorem aBi:OpR X (compareOp .Gt) (rI0 fun i j=>.bl (decide (j < i))):=aPl fun _ _ _ _ _ _ _ q=>gt_int q
theorem OpR.or {f:Value->Value->Sem Value} {r r':R2} (h:OpR X f r) (h':OpR X f r'):OpR X f (fun x y H Q=>r x y H Q\/r' x y H Q):=by
 intro pins s σ H x y v u Q I rx ry q
 rcases q with q | q
 ·exact h pins s σ H x y v u Q I rx ry q
 ·exact h' pins s σ H x y v u Q I rx ry q
theorem b9 (b:Expr) {op:CmpOp} (h:op≠.In:=by decide) (h2:op≠.NotIn:=by decide):behindInMarks op b=false:=by
 have e1:(op == CmpOp.In)=false:=by cases op<;>first | rfl | exact absurd rfl h
 have e2:(op == CmpOp.NotIn)=false:=by cases op<;>first | rfl | exact absurd rfl h2
 cases b<;>simp [behindInMarks,e1,e2]
theorem aJm {op:CmpOp} {r:R2} (ho:OpR X (compareOp op) r) (ha:PE X a ta) (hb:PE X b tb) (hm:behindInMarks op b=false):PE X (.Compare a [op] [b] pos) (tOp r ta tb):=by
 intro pins s σ H Q I h
 exact wpAny_Compare1 (aNu ha hb I h fun v u s2 x y H2 I2 rx ry q=>ho pins s2 σ H2 x y v u Q I2 rx ry q) hm
def aO6 (t:TE):TT:=fun σ H Q=>t σ H fun x H'=>∃ k,x=.bl k/\Q k H'
theorem aIn {op:CmpOp} {r:R2} (ho:OpR X (compareOp op) r) (ha:PE X a ta) (hb:PE X b tb) (hm:behindInMarks op b=false):PT X (.Compare a [op] [b] pos) (aO6 (tOp r ta tb)):=by
 intro pins s σ H Q I h
 refine wpAny_isTrue_Compare1 (thn (ha pins s σ H _ I h) fun v s1 ⟨x,H1,I1,r1,q1⟩=>thn (hb pins s1 σ H1 _ I1 q1) fun u s2 ⟨y,H2,I2,r2,q2⟩ =>
  thn (ho pins s2 σ H2 x y v u _ I2 r1 r2 q2) fun c s3 ⟨z,H3,I3,r3,k,e,q3⟩=>?_) hm
 subst e
 cases r3
 exact wpAny_truthy_bool ⟨H3,I3,q3⟩
theorem xN:(sizeLine:Nat) < 2 ^ 63:=by rw [sizeLine_eq];decide
theorem aAa:OpR X (binaryOp .Add) (fun x y H Q=>∃ i j,x=.str i/\y=.str j/\i.length+j.length<=sizeLine/\Q (.str (i++j)) H):=by
 intro pins s σ H x y v u Q I rx ry h
 obtain ⟨i,j,rfl,rfl,hz,q⟩:=h
 obtain ⟨t,rfl⟩:=rx
 obtain ⟨t',rfl⟩:=ry
 exact add_str (fun t' tk=>⟨.str (i++j),H,I.tok _,⟨_,rfl⟩,q⟩) hz
theorem vals1 {x:V} {us:List Value} (r:Vals [x] us):∃ u,us=[u]/\RelV x u:=by
 cases r with
 | cons r1 r2=>cases r2;exact ⟨_,rfl,r1⟩
theorem vals2 {x y:V} {us:List Value} (r:Vals [x,y] us):∃ u w',us=[u,w']/\RelV x u/\RelV y w':=by
 cases r with
 | cons r1 r2 =>
  cases r2 with
  | cons r3 r4=>cases r4;exact ⟨_,_,rfl,r1,r3⟩
theorem oN:qD X (.builtin "abs") (fun xs H Q=>∃ i,xs=[.int i]/\Q (.int (if i < 0 then -i else i)) H):=by
 intro pins s σ H xs us Q I r h
 obtain ⟨i,rfl,q⟩:=h
 obtain ⟨u,rfl,t,rfl⟩:=vals1 r
 exact call_abs_int fun u tk=>⟨.int (if i < 0 then -i else i),H,I.tok _,⟨_,rfl⟩,q⟩
theorem aC3 (hc:X.calm=true):qD X (.builtin "max") (fun xs H Q=>∃ i j,xs=[.int i,.int j]/\Q (.int (if j > i then j else i)) H):=by
 intro pins s σ H xs us Q I r h
 obtain ⟨i,j,rfl,q⟩:=h
 obtain ⟨u,w',rfl,⟨t,rfl⟩,⟨t',rfl⟩⟩:=vals2 r
 refine max_two_ints (I.ok.hd hc) fun h' tk k=>⟨_,H,I.kept k,?_,q⟩
 by_cases hj:j > i
 ·rw [if_pos hj,if_pos hj];exact ⟨_,rfl⟩
 ·rw [if_neg hj,if_neg hj];exact ⟨_,rfl⟩
end
section
variable {prog:Program} {w:World} {A:Around} {E:Value->Shared->Prop} {s:Shared} {K:PySem.W.Frag} {x dx C f:Addr} {mA:Str->Option Value} {name:Str} {v:Value}
end
theorem RelO.some_of {v:V} {o:Option Value} (r:RelO (some v) o):∃ u,o=some u/\RelV v u:=by
 cases o with
 | none=>exact (show False from r).elim
 | some u=>exact ⟨u,rfl,r⟩
section
variable {P:Program} {w:World} {H H':Hp} {h h':Heap} {a C dx:Addr} {fs fs':List (Str×V)}
end
structure Cls (K:PySem.W.Frag) (C:Addr):Prop where
 pg:PySem.W.plainGet K C Str.empty=true
 hd:PySem.W.hasDictIn K C=true
 po:PySem.W.plainOver K C=true
 sa:PySem.W.findIn K (.ref C) "__setattr__" = some (some (.builtin "object.__setattr__"))
section
variable {X:Cx} {pins:List (Addr×Obj)} {σ:St} {H:Hp} {s:Shared} {a C dx:Addr} {fs:List (Str×V)} {f:Str} {v:V} {A:Around} {E:Value->Shared->Prop}
end
section
variable {X:Cx} {o e value:Expr} {f:Str} {pos pos' tpos:Pos} {ta tv:TE}
end
section
variable {X:Cx} {pins:List (Addr×Obj)} {σ:St} {H:Hp} {s:Shared} {A:Around} {E:Value->Shared->Prop} {Q:Value->Shared->Prop} {c:Value} {b:Bool}
end
structure Room (k:Nat) (A:Around):Prop where
 hd:A.handled=none
 dp:A.depth+3*k+5 < recursionLimit
 un:A.units+16*k+200 < cLine
theorem Room.mono {j k:Nat} {A:Around} (r:Room k A) (h:j<=k):Room j A:=⟨r.hd,by have:=r.dp;omega,by have:=r.un;omega⟩
theorem Room.deeper {k:Nat} {A:Around} (r:Room (k+1) A) (env:Env):Room k (A.deeper env) :=
 ⟨r.hd,by have:=r.dp;show A.depth+1+3*k+5 < _;omega,by have:=r.un;show A.units+3+16*k+200 < _;omega⟩
theorem Room.depth {k:Nat} {A:Around} (r:Room k A):A.depth < recursionLimit:=by have:=r.dp;omega
def aO4:TA:=fun _ H Q=>Q [] H
def aH4 (ta:TE) (tr:TA):TA:=fun σ H Q=>ta σ H fun x H1=>tr σ H1 fun xs H2=>Q (x :: xs) H2
section
variable {X:Cx} {e:Expr} {es:List Expr} {te:TE} {t:TA} {pos:Pos}
theorem qX:PA X [] aO4:=fun _ _ _ _ H Q I h=>Calls.spliced_nil ⟨[],H,I,.nil,h⟩
theorem nG (ha:PE X e te) (hr:PA X es t) (hs:starEach (e :: es) X.env=(false,eval e X.env) :: starEach es X.env:=by rfl):PA X (e :: es) (aH4 te t):=by
 intro pos pins s σ H Q I h
 rw [hs]
 show wpAny _ _ (spliced ((false,eval e X.env) :: backTo pos (starEach es X.env))) _ _ s
 refine Calls.spliced_cons (thn (ha pins s σ H _ I h) fun u s1 ⟨x,H1,I1,r1,q1⟩=>?_)
 exact thn (hr pos pins s1 σ H1 _ I1 q1) fun us s2 ⟨xs,H2,I2,r2,q2⟩=>⟨x :: xs,H2,I2,.cons r1 r2,q2⟩
def aQk (t:TA):TE:=fun σ H Q=>t σ H fun xs H1=>xs.length<=sizeLine/\∀ p,H1 p=none->Q (.ref p) (upd H1 p (.tup xs))
def aQh (t:TA):TE:=fun σ H Q=>t σ H fun xs H1=>xs.length<=sizeLine/\∀ p,H1 p=none->Q (.ref p) (upd H1 p (.lst xs))
theorem aKx {x1} (h:PA X es t):PE X (.Tuple es x1 pos) (aQk t):=by
 intro pins s σ H Q I hq
 refine wpAny_Tuple_spliced (thn (h pos pins s σ H _ I hq) fun us s1 ⟨xs,H1,I1,r,z,q⟩=>⟨by rw [<- r.length];exact z,?_⟩)
 have hf:H1 s1.heap.objs.size=none:=I1.hok.fresh (Nat.le_refl _)
 refine ⟨.ref s1.heap.objs.size,upd H1 s1.heap.objs.size (.tup xs),I1.laid (t':=s1.toks) (fun b u e=>Heap.get?_push_of_some _ e) (Nat.le_refl _) ?_,rfl,q _ hf⟩
 exact ⟨z,us,r,⟨_,Heap.get?_push_size _ rfl,rfl,_,rfl⟩⟩
theorem aL2 (h:PA X es t):PE X (.List es pos) (aQh t):=by
 intro pins s σ H Q I hq
 refine wpAny_List_spliced (thn (h pos pins s σ H _ I hq) fun us s1 ⟨xs,H1,I1,r,z,q⟩=>⟨by rw [<- r.length];exact z,?_⟩)
 have hf:H1 s1.heap.objs.size=none:=I1.hok.fresh (Nat.le_refl _)
 refine ⟨.ref s1.heap.objs.size,upd H1 s1.heap.objs.size (.lst xs),I1.laid (t':=s1.toks) (fun b u e=>Heap.get?_push_of_some _ e) (Nat.le_refl _) ?_,rfl,q _ hf⟩
 exact ⟨z,us,0,r,Heap.get?_push_size _ rfl⟩
end
abbrev Sp:=List V->Hp->VK->XK->Prop
abbrev CXT:=List Env->Hp->Shared->XK->Value->Shared->Prop
structure aNg (P:Program) (w:World) (K:PySem.W.Frag) (mg:Str->Option Value) (base:Heap) (A:Around) (outer:List Env) (s:Shared) (H:Hp):Prop where
 frames:A.frames=some outer
 mod:Mod K mg base
 bs:∀ b o,base.get? b=some o->s.heap.get? b=some o/\H b=none
 bsz:base.objs.size<=s.heap.objs.size
 funs:s.heap.FunFrames base outer
 frf:∀ b∈frs outer,H b=none
 hok:HOk P w H s.heap
 bare:AllBare s.gens
def CE (outer:List Env) (P:Program) (w:World) (H:Hp) (s:Shared) (Q:VK) (u:Value) (s':Shared):Prop :=
 ∃ v H',s'.os=s.os/\AllBare s'.gens/\Un (frs outer) [] H H' s.heap s'.heap/\HOk P w H' s'.heap/\RelV v u/\Q v H'
def CR (CX:CXT) (outer:List Env) (P:Program) (w:World) (H:Hp) (s:Shared) (Q:VK) (E:XK) (r:Result) (s':Shared):Prop :=
 match r with
 | .ok (.ret u)=>CE outer P w H s Q u s'
 | .ok _=>False
 | .error e=>CX outer H s E e s'
structure FnOk (P:Program) (w:World) (K:PySem.W.Frag) (mg:Str->Option Value) (base:Heap) (CX:CXT) (k:Nat) (f:Addr) (fd:FuncData) (ps:List Str) (sp:Sp):Prop where
 len:∀ vs H Q E,sp vs H Q E->vs.length=ps.length
 run:∀ (A:Around) (outer:List Env) (s:Shared) (H:Hp) (args:Args) (us:List Value) (vs:List V) (Q:VK) (E:XK),Room k A->aNg P w K mg base A outer s H->BindsTo s fd args (ps.zip us)->Vals vs us->sp vs H Q E ->
  codeAny (model P w) A (.call (.ref f) args) (CR CX outer P w H s Q E) s
theorem FnOk.mono {P:Program} {w:World} {K:PySem.W.Frag} {mg:Str->Option Value} {base:Heap} {CX:CXT} {j k:Nat} {f:Addr} {fd:FuncData} {ps:List Str} {sp:Sp} (F:FnOk P w K mg base CX j f fd ps sp) (h:j<=k) :
  FnOk P w K mg base CX k f fd ps sp:=⟨F.len,fun A outer s H args us vs Q E hr=>F.run A outer s H args us vs Q E (hr.mono h)⟩
theorem FnOk.imp {P:Program} {w:World} {K:PySem.W.Frag} {mg:Str->Option Value} {base:Heap} {CX:CXT} {k:Nat} {f:Addr} {fd:FuncData} {ps:List Str} {sp sp':Sp} (F:FnOk P w K mg base CX k f fd ps sp)
  (h:∀ vs H Q E,sp' vs H Q E->sp vs H Q E):FnOk P w K mg base CX k f fd ps sp' :=
 ⟨fun vs H Q E q=>F.len vs H Q E (h _ _ _ _ q),fun A outer s H args us vs Q E hr he hb hv hs=>F.run A outer s H args us vs Q E hr he hb hv (h _ _ _ _ hs)⟩
section
variable {X:Cx} {pins:List (Addr×Obj)} {σ:St} {H:Hp} {s s':Shared}
theorem Inv.env0 (I:Inv X pins σ H s):aNg X.prog X.w X.K X.mg X.base X.A X.stack s H :=
 ⟨I.ok.frames,I.ok.mod,I.bs,Nat.le_trans I.ok.bsz I.sz,I.stack,I.stkFree,I.hok,I.bare⟩
theorem Inv.after {Q:VK} {u:Value} (I:Inv X pins σ H s) (h:CE X.stack X.prog X.w H s Q u s'):EP X pins σ Q u s':=by
 obtain ⟨v,H',os,bare,un,hok,r,q⟩:=h
 obtain ⟨hh,g,d,t,os'⟩:=s'
 obtain rfl:os'=s.os:=os
 exact ⟨v,H',I.call (h':=hh) (g':=g) (d':=d) (t':=t) (ch:=[]) un hok bare (fun b z=>absurd z (by simp)),r,q⟩
end
def Binds (K:PySem.W.Frag) (fd:FuncData) (ps:List Str) (ds:List Value):Prop :=
 ∀ (s:Shared) (us:List Value),K.In s.heap->(us++ds).length=ps.length->BindsTo s fd ⟨us,[]⟩ (ps.zip (us++ds))
theorem Binds.all {K:PySem.W.Frag} {fd:FuncData} {ps:List Str} (h:∀ us:List Value,us.length=ps.length->bindArgs fd ⟨us,[]⟩=pure (ps.zip us)):Binds K fd ps []:=fun s us _ hl=>by
 rw [List.append_nil] at hl ⊢
 exact .of_eq (h us hl)
def aLt (CX:CXT) (X:Cx) (E:XK):Prop:=∀ (pins:List (Addr×Obj)) (σ:St) (H:Hp) (s:Shared) (e:Value) (s':Shared),Inv X pins σ H s->CX X.stack H s E e s'->X.xe e s'
section
variable {X:Cx} {CX:CXT} {k:Nat} {f C:Addr} {fd:FuncData} {ps:List Str} {sp:Sp} {dvs:List V} {ds:List Value} {E:XK} {x m:Str} {p pos apos:Pos} {e o:Expr} {es:List Expr} {ta:TE} {t:TA}
end
section
variable {X:Cx} {CX:CXT} {k:Nat} {f C:Addr} {fd:FuncData} {ps ks:List Str} {sp:Sp} {E:XK} {x m:Str} {p pos apos kpos:Pos} {e o:Expr} {es:List Expr} {kws:List Keyword} {te ta:TE} {t tk:TA} {nm:Option Str}
variable {g:List Value->List Value->List Value} {gV:List V->List V->List V}
end
structure bC (N P:List Str) (sc:Scope):Prop where
 kind:sc.kind=.function
 co:sc.isCoroutine=false
 gen:sc.isGenerator=false
 nd:N.Nodup
 pre:N.take P.length=P
 par:∀ x∈P,sc.names.lookup x=some .local\/sc.names.lookup x=some .cell
 nofree:∀ y∈sc.names,y.2≠.free
theorem uC {kindOf:Str->Option NameKind} {x:Str}:∀ {binds:List (Str×Value)} {m:Str->Option Value},(∀ v,(x,v)∉binds)->bindL kindOf binds m x=m x
 | [],_,_=>rfl
 | (n,v) :: r,m,h=>by
  unfold bindL
  rw [uC fun w hw=>h w (List.mem_cons_of_mem _ hw)]
  split
  ·have:x≠n:=by rintro rfl;exact h v List.mem_cons_self
   simp [this]
  ·rfl
theorem vE {kindOf:Str->Option NameKind} {x:Str}:∀ {binds:List (Str×Value)} {m:Str->Option Value},(∀ v,(x,v)∉binds)->bindC kindOf binds m x=m x
 | [],_,_=>rfl
 | (n,v) :: r,m,h=>by
  unfold bindC
  rw [vE fun w hw=>h w (List.mem_cons_of_mem _ hw)]
  split
  ·rfl
  ·have:x≠n:=by rintro rfl;exact h v List.mem_cons_self
   simp [this]
theorem uS {kindOf:Str->Option NameKind} {x:Str} {v:Value}:∀ {P:List Str} {vs:List Value} {i:Nat} {m:Str->Option Value},P.Nodup->P[i]? = some x->vs[i]? = some v->kindOf x=some .local ->
  bindL kindOf (P.zip vs) m x=some v
 | [],_,_,_,_,h,_,_=>by simp at h
 | _ :: _,[],_,_,_,_,h,_=>by simp at h
 | p :: P,w :: vs,0,m,nd,h1,h2,hk=>by
  simp at h1 h2;subst h1;subst h2
  show bindL kindOf ((p,w) :: P.zip vs) m p=_
  unfold bindL
  rw [uC fun v hv=>(List.nodup_cons.mp nd).1 (List.of_mem_zip hv).1,if_pos hk]
  simp
 | p :: P,w :: vs,i+1,m,nd,h1,h2,hk=>by
  show bindL kindOf ((p,w) :: P.zip vs) m x=_
  unfold bindL
  exact uS (i:=i) (List.nodup_cons.mp nd).2 (by simpa using h1) (by simpa using h2) hk
theorem uA {kindOf:Str->Option NameKind} {x:Str} {v:Value}:∀ {P:List Str} {vs:List Value} {i:Nat} {m:Str->Option Value},P.Nodup->P[i]? = some x->vs[i]? = some v->kindOf x≠some .local ->
  bindC kindOf (P.zip vs) m x=some v
 | [],_,_,_,_,h,_,_=>by simp at h
 | _ :: _,[],_,_,_,_,h,_=>by simp at h
 | p :: P,w :: vs,0,m,nd,h1,h2,hk=>by
  simp at h1 h2;subst h1;subst h2
  show bindC kindOf ((p,w) :: P.zip vs) m p=_
  unfold bindC
  rw [vE fun v hv=>(List.nodup_cons.mp nd).1 (List.of_mem_zip hv).1,if_neg hk]
  simp
 | p :: P,w :: vs,i+1,m,nd,h1,h2,hk=>by
  show bindC kindOf ((p,w) :: P.zip vs) m x=_
  unfold bindC
  exact uA (i:=i) (List.nodup_cons.mp nd).2 (by simpa using h1) (by simpa using h2) hk
def start (N:List Str) (vs:List V):St:=vs.map some++List.replicate (N.length - vs.length) none
def tV (CX:CXT) (P:Program) (w:World) (K:PySem.W.Frag) (mg:Str->Option Value) (base:Heap) (N:List Str) (qual:Str) (scope:Scope) (f:Addr) (cd:Value) (A:Around) (outer:List Env) (s:Shared) (H:Hp) (E:XK):Cx where
 prog:=P
 w:=w
 K:=K
 mg:=mg
 base:=base
 A:=A.deeper (envOfC qual scope s.heap.objs.size f cd)
 N:=N
 s₀:=s
 H₀:=H
 env:=envOfC qual scope s.heap.objs.size f cd
 outer:=outer
 stack:=envOfC qual scope s.heap.objs.size f cd :: outer
 ex:=[]
 calm:=true
 fn:=fun _=>true
 pn:=[]
 xe:=fun e s'=>wpAny (model P w) (A.deeper (envOfC qual scope s.heap.objs.size f cd)) (leaving (envOfC qual scope s.heap.objs.size f cd) e) (fun _ s''=>CX outer H s E e s'') (fun e' s''=>CX outer H s E e' s'') s'
theorem yU {sc:Scope} {n:Nat} {x:Str} (h:sc.names.lookup x=some .cell):∃ c,(cellsFrom n sc.names []).lookup x=some c:=by
 have q:=PySem.W.cellsFrom_some sc.names n [] (.inl h)
 exact Option.isSome_iff_exists.mp q
theorem aBa {CX:CXT} {P:Program} {w:World} {K:PySem.W.Frag} {mg:Str->Option Value} {base:Heap} {N ps:List Str} {qual:Str} {scope:Scope} {f:Addr} {cd:Value} {A:Around} {outer:List Env} {s s1:Shared} {H:Hp} {E:XK} {us:List Value} {vs:List V}
  (S:bC N ps scope) (hd:A.handled=none) (e0:aNg P w K mg base A outer s H) (hl:vs.length=ps.length) (r:Vals vs us)
  (x:InCallC s s.heap.objs.size (bindL (envOfC qual scope s.heap.objs.size f cd).kindOf (ps.zip us) fun _=>none) (cellsFrom (s.heap.objs.size+1) scope.names []) (bindC (envOfC qual scope s.heap.objs.size f cd).kindOf (ps.zip us) fun _=>none) s1) :
  Inv (tV CX P w K mg base N qual scope f cd A outer s H E) [] (start N vs) H s1:=by
 have hpl:ps.length<=N.length:=by have:=congrArg List.length S.pre;rw [List.length_take] at this;omega
 obtain ⟨h1,tk,rfl,hk⟩:=x.done
 have noA:∀ b:Addr,b∉(tV CX P w K mg base N qual scope f cd A outer s H E).ex:=fun b z=>absurd (show b∈([]:List Addr) from z) (by simp)
 refine ⟨⟨e0.mod,S.kind,rfl,rfl,Nat.le_refl _,fun y z c h1 h2=>?_,fun y hy=>?_,fun y c _ h=>?_,fun _=>hd,Around.frames_deeper e0.frames,.inr ⟨rfl,rfl⟩,fun b z=>absurd z (noA b),e0.bs,e0.bsz,fun b _ _=>noA b,fun b z=>absurd z (noA b),e0.funs,e0.frf⟩,
  rfl,e0.bare,Un.kept hk,⟨_,x.toInCall.ns,fun i y v h1 h2 h3=>?_⟩,fun y c h=>⟨_,x.cell y c h⟩,e0.hok.fresh (Nat.le_refl _),fun y c h=>?_,fun p hp=>absurd (show p∈([]:List (Addr×Obj)) from hp) (by simp),e0.hok.kept hk,?_⟩
 ·exact name_of_addr x.apart (PySem.mem_of_lookup h1) (PySem.mem_of_lookup h2)
 ·have hy:scope.names.lookup y=some .cell\/scope.names.lookup y=some .free:=hy
  rcases hy with hy | hy
  ·exact yU hy
  ·exact absurd rfl (S.nofree _ (PySem.mem_of_lookup hy))
 ·exact Nat.le_of_lt (x.above y c (PySem.mem_of_lookup h))
 ·have hi:i < vs.length:=by
   unfold start at h2
   by_cases hi:i < vs.length
   ·exact hi
   ·rw [List.getElem?_append_right (by simpa using hi)] at h2
    rw [List.getElem?_replicate] at h2
    split at h2<;>cases h2
  have ha:vs[i]? = some v:=by
   unfold start at h2
   rw [List.getElem?_append_left (by simpa using hi),List.getElem?_map] at h2
   cases e:vs[i]? with
   | none=>rw [e] at h2;cases h2
   | some a=>rw [e] at h2;cases h2;rfl
  obtain ⟨u,hu,rv⟩:=r.get ha
  have hp:ps[i]? = some y:=by
   rw [<- S.pre,List.getElem?_take_of_lt (by omega)];exact h1
  have ndP:ps.Nodup:=by rw [<- S.pre];exact S.nd.sublist (List.take_sublist _ _)
  refine ⟨u,rv,?_⟩
  rcases S.par y (List.mem_of_getElem? hp) with k | k
  ·exact .inl ⟨k,uS ndP hp hu k⟩
  ·obtain ⟨c,e⟩:=yU (n:=s.heap.objs.size+1) k
   refine .inr ⟨.inl k,c,e,?_⟩
   have q:=x.cell y c e
   rw [uA ndP hp hu (by show scope.names.lookup y≠_;rw [k];decide)] at q
   exact q
 ·exact e0.hok.fresh (Nat.le_of_lt (x.above y c (PySem.mem_of_lookup h)))
 ·unfold start
  show _=N.length
  rw [List.length_append,List.length_map,List.length_replicate]
  omega
theorem aPn {CX:CXT} {P:Program} {w:World} {K:PySem.W.Frag} {mg:Str->Option Value} {base:Heap} {k:Nat} {f:Addr} {name qual:Str} {params:Arguments} {body:List Stmt} {scope:Scope} {dV kV doc pm cdv ct oc:Value} {an od:Option Addr}
  {osl:Array (Option Value)} {N ps:List Str} {sp:Sp} (lk:K.lookup f=some ⟨oc,od,.func (PySem.W.fnOf name qual params body scope dV kV doc pm an cdv ct),osl⟩) (hcd:PySem.W.codeIn K cdv qual=true) (S:bC N ps scope)
  (len:∀ vs H Q E,sp vs H Q E->vs.length=ps.length)
  (hbody:∀ (A:Around) (outer:List Env) (s:Shared) (H:Hp) (vs:List V) (Q:VK) (E:XK),Room k (A.deeper (envOfC qual scope s.heap.objs.size f cdv))->sp vs H Q E ->
   ∃ t,PSs (tV CX P w K mg base N qual scope f cdv A outer s H E) body t/\t { nx:=fun _ H'=>Q .non H',rt:=Q } (start N vs) H) :
  FnOk P w K mg base CX (k+1) f (PySem.W.fnOf name qual params body scope dV kV doc pm an cdv ct) ps sp:=by
 refine ⟨len,fun A outer s H args us vs Q E hr e0 hb r hsp=>?_⟩
 have hl:=len _ _ _ _ hsp
 have KX:K.In s.heap:=e0.mod.kin.keeps fun b o e=>(e0.bs b o e).1
 have lim:s.heap.NoLimit:=e0.mod.nolimit.keeps fun b o e=>(e0.bs b o e).1
 have hkind:∀ y∈ps.zip us,scope.names.lookup y.1=some .local\/(scope.names.lookup y.1=some .cell/\((cellsFrom (s.heap.objs.size+1) scope.names []).lookup y.1).isSome=true):=fun ⟨n,v⟩ hy=>by
  rcases S.par n (List.of_mem_zip hy).1 with q | q
  ·exact .inl q
  ·exact .inr ⟨q,PySem.W.cellsFrom_some _ _ _ (.inl q)⟩
 refine codeAny_call_function hr.depth (KX _ _ lk) rfl S.co S.gen rfl (PySem.W.codeRec_of KX hcd) (hb _ _ _ _ ?_)
 refine wpAny_newFunctionEnv_cells S.kind hkind fun env he s1 x=>?_
 subst he
 refine ⟨lim.keeps x.toInCall.keep,codeAny_func ?_⟩
 obtain ⟨t,ht,hq⟩:=hbody A outer s H vs Q E (hr.deeper _) hsp
 have I:Inv (tV CX P w K mg base N qual scope f cdv A outer s H E) [] (start N vs) H s1:=aBa S hr.hd e0 hl r x
 refine wpAny_mono (ht [] s1 (start N vs) H _ I hq) (fun fl s' hs=>?_) fun e s' hs=>hs
 have fin:∀ {σ':St} {H':Hp} {v:V} {u:Value},Inv (tV CX P w K mg base N qual scope f cdv A outer s H E) [] σ' H' s'->RelV v u->Q v H'->CE outer P w H s Q u s' :=
  fun {σ' H' v u} J rv q=>⟨v,H',J.os,J.bare,J.base,J.hok,rv,q⟩
 cases fl with
 | ret u =>
  obtain ⟨v,σ',H',J,rv,q⟩:=hs
  exact fin J rv q
 | next =>
  obtain ⟨σ',H',J,q⟩:=hs
  exact fin (v:=V.non) (u:=Value.none) J rfl q
 | brk =>
  obtain ⟨_,_,_,q⟩:=hs
  exact False.elim q
 | cont =>
  obtain ⟨_,_,_,q⟩:=hs
  exact False.elim q
section
variable {X:Cx} {x:Str} {p pos:Pos} {e:Expr} {es:List Expr} {t:TA} {id T:String} {r:List V->Hp->VK->Prop}
def tCB (r:List V->Hp->VK->Prop) (t:TA):TE:=fun σ H Q=>t σ H fun vs H1=>r vs H1 Q
theorem aGc (hc:qD X (.builtin id) r) (hg:Gl X x) (hm:X.mg x=none) (hv:bootBuiltins x=some (.builtin id)) (ha:PA X (e :: es) t) (hn:x≠"__name__":=by decide) (hdb:(x == ("__debug__" : Str))=false:=by decide)
  (he:starEach (e :: es) X.env=(false,eval e X.env) :: starEach es X.env:=by rfl) (hpl:(backTo pos (starEach es X.env)).any (·.1)=false:=by rfl):PE X (.Call (.Name x p) (e :: es) [] pos) (tCB r t):=by
 intro pins s σ H Q I h
 refine wpAny_Call_Name_kw (yH I hg hm hv ?_ hn hdb)
 exact PyProof.Rows.callWith_builtin1 (thn (ha pos pins s σ H _ I h) fun us s1 ⟨vs,H1,I1,r1,q1⟩=>hc pins s1 σ H1 vs us Q I1 r1 q1) he hpl
theorem aBy (hc:qD X (.type T) r) (hg:Gl X x) (hm:X.mg x=none) (hv:bootBuiltins x=some (.type T)) (ha:PA X (e :: es) t) (hn:x≠"__name__":=by decide) (hdb:(x == ("__debug__" : Str))=false:=by decide)
  (he:starEach (e :: es) X.env=(false,eval e X.env) :: starEach es X.env:=by rfl) (hpl:(backTo pos (starEach es X.env)).any (·.1)=false:=by rfl):PE X (.Call (.Name x p) (e :: es) [] pos) (tCB r t):=by
 intro pins s σ H Q I h
 refine wpAny_Call_Name_kw (yH I hg hm hv ?_ hn hdb)
 exact PyProof.Rows.callWith_type1 (thn (ha pos pins s σ H _ I h) fun us s1 ⟨vs,H1,I1,r1,q1⟩=>hc pins s1 σ H1 vs us Q I1 r1 q1) he hpl
end
end L2
namespace HT
open PySem PyProof.Rows
def lexLt:List Int->List Int->Bool
 | [],[]=>false
 | [],_ :: _=>true
 | _ :: _,[]=>false
 | x :: xs,y :: ys=>if x=y then lexLt xs ys else decide (x < y)
theorem gH (x y:Int) (xs ys:List Int):lexLt (x :: xs) (y :: ys)=if x=y then lexLt xs ys else decide (x < y):=rfl
section
open PySem.SeqAt
open PySem.AutoSeq1 (wpAny_loadPart')
open PySem.MeetsSeq PySem.MeetsSeq2 PySem.MeetsSeq3
end
section
variable {prog:Program} {w:World} {A:Around} {E:Value->Shared->Prop} {s:Shared}
def sIx (n d:Nat):Option Int->Nat
 | none=>d
 | some v=>if v < 0 then (v+(n:Int)).toNat else min v.toNat n
theorem aBm (n d k:Nat):sIx n d (some (k:Int))=min k n:=by
 show (if (k:Int) < 0 then ((k:Int)+(n:Int)).toNat else min (k:Int).toNat n)=min k n
 rw [if_neg (by omega),Int.toNat_natCast]
end
end HT
namespace L2
open PySem PySem.Spec PyProof.Rows
abbrev TO:=St->Hp->(Option Int->Hp->Prop)->Prop
def PO (X:Cx) (e:Option Expr) (t:TO):Prop :=
 ∀ (pins:List (Addr×Obj)) (s:Shared) (σ:St) (H:Hp) (Q:Option Int->Hp->Prop),Inv X pins σ H s->t σ H Q ->
  wpAny (model X.prog X.w) X.A (evalPart e X.env) (fun u s'=>∃ o H',Inv X pins σ H' s'/\IsPart u o/\Q o H') X.xe s
def aNs (t:TE):TO:=fun σ H Q=>t σ H fun x H1=>∃ i,x=.int i/\Q (some i) H1
theorem intsAre_of {ns:List Int}:∀ {us:List Value},Vals (ns.map V.int) us->IntsAre us ns:=by
 induction ns with
 | nil=>intro us r;rw [List.map_nil] at r;cases r;exact .nil
 | cons n ns ih =>
  intro us r
  rw [List.map_cons] at r
  cases r with
  | cons r1 r2 =>
   obtain ⟨t,e⟩:=r1
   subst e
   exact .cons n t (ih r2)
section
variable {X:Cx} {e:Expr} {te:TE} {lo hi:Option Expr} {tl th:TO} {pos p2:Pos}
theorem aIa (h:PE X e te):PO X (some e) (aNs te):=by
 intro pins s σ H Q I hw
 rw [evalPart_some]
 refine thn (h pins s σ H _ I hw) fun u s1 ⟨x,H1,I1,r1,q1⟩=>?_
 obtain ⟨i,rfl,q⟩:=q1
 obtain ⟨t,rfl⟩:=r1
 exact ⟨some i,H1,I1,.int i t,q⟩
def SlR (X:Cx) (r:V->Option Int->Option Int->Hp->VK->Prop):Prop :=
 ∀ (pins:List (Addr×Obj)) (s:Shared) (σ:St) (H:Hp) (x:V) (v vl vu:Value) (lo hi:Option Int) (sl:Addr) (Q:VK),Inv X pins σ H s->RelV x v->s.heap.IsSliceOf sl vl vu .none->IsPart vl lo->IsPart vu hi->r x lo hi H Q ->
  ∃ T id,typeLookup (.type T) "__getitem__" = pure (some (.builtin id))/\s.TypeIs v T/\wpAny (model X.prog X.w) X.A (getItem v (.ref sl)) (EP X pins σ Q) X.xe s
def tSl (r:V->Option Int->Option Int->Hp->VK->Prop) (te:TE) (tl th:TO):TE:=fun σ H Q=>te σ H fun x H1=>tl σ H1 fun l H2=>th σ H2 fun u H3=>r x l u H3 Q
theorem aFv {r:V->Option Int->Option Int->Hp->VK->Prop} (hr:SlR X r) (he:PE X e te) (hl:PO X lo tl) (hu:PO X hi th):PE X (.Subscript e (.Slice lo hi none p2) pos) (tSl r te tl th):=by
 intro pins s σ H Q I h
 refine Subscript_ (thn (he pins s σ H _ I h) fun v s1 ⟨x,H1,I1,r1,q1⟩=>?_)
 refine wpAny_Slice (thn (hl pins s1 σ H1 _ I1 q1) fun vl s2 ⟨l,H2,I2,pl,q2⟩=>thn (hu pins s2 σ H2 _ I2 q2) fun vu s3 ⟨u,H3,I3,pu,q3⟩=>?_)
 rw [evalPart_none]
 refine wpAny_pure ?_
 have I4:Inv X pins σ H3 { s3 with heap:=s3.heap.push { cls:=.type "slice",data:=.fields #[vl,vu,.none] } }:=I3.kept (t':=s3.toks) fun b ob q=>Heap.get?_push_of_some _ q
 obtain ⟨T,id,hT,ht,hg⟩:=hr pins { s3 with heap:=s3.heap.push { cls:=.type "slice",data:=.fields #[vl,vu,.none] } } σ H3 x v vl vu l u s3.heap.objs.size Q I4 r1 (Heap.IsSliceOf.new ..) pl pu q3
 show wpAny (model X.prog X.w) X.A (subscriptTail e (.Slice lo hi none p2) v (.ref s3.heap.objs.size)) (EP X pins σ Q) X.xe { s3 with heap:=s3.heap.push { cls:=.type "slice",data:=.fields #[vl,vu,.none] } }
 exact tail_any (ops:=[.ref s3.heap.objs.size,v]) ht hT hg (by with_unfolding_all rfl)
def aJ2 (xs:List V) (lo hi:Option Int):List V:=(xs.drop (HT.sIx xs.length 0 lo)).take (HT.sIx xs.length xs.length hi - HT.sIx xs.length 0 lo)
theorem xD (xs:List V) (lo hi:Option Int):(aJ2 xs lo hi).length<=xs.length:=by
 unfold aJ2
 rw [List.length_take,List.length_drop]
 omega
end
def ixN (n:Nat) (i:Int):Option Nat:=if 0<=i then (if i < n then some i.toNat else none) else if -(n:Int)<=i then some (i+n).toNat else none
def atI {α:Type} (xs:List α) (i:Int):Option α:=(ixN xs.length i).bind fun j=>xs[j]?
theorem aBb {n:Nat} {i:Int} {j:Nat} (h:ixN n i=some j):seqIndex? i n=some j/\j < n/\-(n:Int)<=i/\i < n:=by
 unfold ixN at h
 by_cases h0:0<=i
 ·rw [if_pos h0] at h
  by_cases h1:i < n
  ·rw [if_pos h1] at h
   have e:i.toNat=j:=Option.some.inj h
   exact ⟨by rw [seqIndex_of h0 h1,e],by omega,by omega,h1⟩
  ·rw [if_neg h1] at h;cases h
 ·rw [if_neg h0] at h
  by_cases h1:-(n:Int)<=i
  ·rw [if_pos h1] at h
   have e:(i+n).toNat=j:=Option.some.inj h
   exact ⟨by rw [seqIndex_neg (by omega) h1,e],by omega,h1,by omega⟩
  ·rw [if_neg h1] at h;cases h
theorem aBk {α:Type} {xs:List α} {i:Int} {v:α} (h:atI xs i=some v):∃ j,seqIndex? i xs.length=some j/\xs[j]? = some v/\j < xs.length/\-(xs.length:Int)<=i/\i < xs.length:=by
 unfold atI at h
 cases e:ixN xs.length i with
 | none=>rw [e] at h;cases h
 | some j =>
  rw [e] at h
  obtain ⟨h1,h2,h3,h4⟩:=aBb e
  exact ⟨j,h1,h,h2,h3,h4⟩
theorem kU {α:Type} {xs:List α} {j:Nat} {v:α} (h:xs[j]? = some v):atI xs (j:Int)=some v:=by
 have hj:j < xs.length:=(List.getElem?_eq_some_iff.mp h).1
 have e:ixN xs.length (j:Int)=some j:=by
  unfold ixN
  rw [if_pos (by omega),if_pos (by omega)];simp
 unfold atI;rw [e];exact h
def aB2 (b:Expr):Prop:=∀ o i,subscripted b false o i=operate [o,i] (getItem o i)
def IxR (X:Cx) (r:R2):Prop :=
 ∀ (value slice:Expr) (pins:List (Addr×Obj)) (s:Shared) (σ:St) (H:Hp) (x y:V) (v u:Value) (Q:VK),Inv X pins σ H s->RelV x v->RelV y u->r x y H Q ->
  subscripted slice false v u=operate [v,u] (getItem v u)->wpAny (model X.prog X.w) X.A (subscriptTail value slice v u) (EP X pins σ Q) X.xe s
def MtR (X:Cx) (id:String) (r:V->List V->Hp->VK->Prop):Prop :=
 ∀ (pins:List (Addr×Obj)) (s:Shared) (σ:St) (H:Hp) (x:V) (xs:List V) (v:Value) (us:List Value) (Q:VK),Inv X pins σ H s->RelV x v->Vals xs us->r x xs H Q ->
  wpAny (model X.prog X.w) X.A (call (.builtin id) (v :: us)) (EP X pins σ Q) X.xe s
section
variable {X:Cx} {a b:Expr} {ta tb:TE} {pos:Pos}
theorem IxR.or {r r':R2} (h:IxR X r) (h':IxR X r'):IxR X (fun x y H Q=>r x y H Q\/r' x y H Q):=by
 intro value slice pins s σ H x y v u Q I rx ry q hs
 rcases q with q | q
 ·exact h value slice pins s σ H x y v u Q I rx ry q hs
 ·exact h' value slice pins s σ H x y v u Q I rx ry q hs
theorem aPm {r:R2} (hr:IxR X r) (ha:PE X a ta) (hb:PE X b tb) (hs:aB2 b):PE X (.Subscript a b pos) (tOp r ta tb):=by
 intro pins s σ H Q I h
 exact Subscript_ (aNu ha hb I h fun v u s2 x y H2 I2 rx ry q=>hr a b pins s2 σ H2 x y v u Q I2 rx ry q (hs _ _))
def aP0 (K:PySem.W.Frag):R2:=fun x y H Q=>∃ p xs i v,x=.ref p/\y=.int i/\SqL K H p xs/\atI xs i=some v/\Q v H
def aPx (K:PySem.W.Frag):R2:=fun x y H Q=>∃ p xs i v,x=.ref p/\y=.int i/\SqT K H p xs/\atI xs i=some v/\Q v H
theorem ix_list:IxR X (aP0 X.K):=by
 intro value slice pins s σ H x y v u Q I rx ry h hs
 obtain ⟨p,xs,i,z,rfl,rfl,hq,he,q⟩:=h
 cases rx
 obtain ⟨t,rfl⟩:=ry
 obtain ⟨its,r,pl,hz⟩:=I.list hq
 obtain ⟨j,h1,h2,h3,h4,h5⟩:=aBk he
 obtain ⟨w,ew,rw'⟩:=r.get h2
 have hl:=r.length
 have hn:=xN
 have fin:EP X pins σ Q w s:=⟨z,H,I,rw',q⟩
 by_cases h0:0<=i
 ·have hj:i.toNat=j:=by
   rw [seqIndex_of h0 h5] at h1
   exact Option.some.inj h1
  exact item_listR pl.isList h0 (by omega) (by rw [hj];simpa using ew) fin hs
 ·have hj:(i+(its.toArray.size:Int)).toNat=j:=by
   rw [seqIndex_neg (by omega) h4] at h1
   rw [List.size_toArray,<- hl]
   exact Option.some.inj h1
  exact subscriptTail_builtinR (x:=w) pl.isList.typeIs slot_list_getitem.lookup
   (wpAny_getItem_list_neg (Q:=fun r s'=>r=w/\EP X pins σ Q r s') pl.isList (by omega) (by rw [List.size_toArray]<;>omega) (by omega) (by rw [hj];simpa using ew) ⟨rfl,fin⟩) hs
theorem aLb:IxR X (aPx X.K):=by
 intro value slice pins s σ H x y v u Q I rx ry h hs
 obtain ⟨p,xs,i,z,rfl,rfl,hq,he,q⟩:=h
 cases rx
 obtain ⟨t,rfl⟩:=ry
 obtain ⟨its,r,pl,hz⟩:=I.tuple hq
 obtain ⟨j,h1,h2,h3,h4,h5⟩:=aBk he
 obtain ⟨w,ew,rw'⟩:=r.get h2
 have hl:=r.length
 have hn:=xN
 have fin:EP X pins σ Q w s:=⟨z,H,I,rw',q⟩
 exact subscriptTail_builtinR (x:=w) pl.typeIs slot_tuple_getitem.lookup
  (getItem_tuple (j:=j) (Q:=fun r s'=>r=w/\EP X pins σ Q r s') pl (by omega) (by omega) (by rw [List.size_toArray,<- hl];exact h1) (by simpa using ew) ⟨rfl,fin⟩) hs
theorem aAb (its:List Value) (n j:Nat) (u:Value):Obj.mapSeq (·.setIfInBounds j u) { cls:=.type "list",data:=.seq its.toArray n }={ cls:=.type "list",data:=.seq (its.set j u).toArray n }:=by
 simp [Obj.mapSeq]
theorem Inv.lst {pins:List (Addr×Obj)} {σ:St} {H:Hp} {s:Shared} {p:Addr} {xs:List V} (I:Inv X pins σ H s) (h:H p=some (.lst xs)) :
  ∃ (its:List Value) (n:Nat),Vals xs its/\s.heap.get? p=some { cls:=.type "list",data:=.seq its.toArray n }/\xs.length<=sizeLine:=by
 obtain ⟨z,its,n,r,e⟩:=I.hok p _ h
 exact ⟨its,n,r,e,z⟩
theorem Inv.lstUpd {pins:List (Addr×Obj)} {σ:St} {H:Hp} {s:Shared} {p:Addr} {xs ys:List V} {its its':List Value} {n n':Nat} {f:Obj->Obj} (I:Inv X pins σ H s) (h:H p=some (.lst xs))
  (ho:s.heap.get? p=some { cls:=.type "list",data:=.seq its.toArray n }) (hf:f { cls:=.type "list",data:=.seq its.toArray n }={ cls:=.type "list",data:=.seq its'.toArray n' }) (r:Vals ys its') (hz:ys.length<=sizeLine) (t:Nat) :
  Inv X pins σ (upd H p (.lst ys)) { s with heap:=s.heap.update p f,toks:=t }:=by
 have e:(s.heap.update p f).get? p=some { cls:=.type "list",data:=.seq its'.toArray n' }:=by
  rw [Heap.get?_update_self f ho (by rw [hf]<;>rfl),hf]
 refine I.write (x:=p) (e:=p) (by rw [h];trivial) (.inl rfl) (fun b u hb q=>(Heap.get?_update_other _ _ (Ne.symm hb)).trans q) ⟨_,e⟩ ?_
 exact ⟨hz,its',n',r,e⟩
def aMj:V->V->V->Hp->(Hp->Prop)->Prop:=fun o i v H Q=>∃ p xs k j,o=.ref p/\i=.int k/\H p=some (.lst xs)/\ixN xs.length k=some j/\Q (upd H p (.lst (xs.set j v)))
theorem set_list:aPt X aMj:=by
 intro pins s σ H o i v ov iv u Q I ro ri rv h
 obtain ⟨p,xs,k,j,rfl,rfl,hp,hj,q⟩:=h
 cases ro
 obtain ⟨t,rfl⟩:=ri
 obtain ⟨its,n,r,ho,hz⟩:=I.lst hp
 obtain ⟨h1,h2,h3,h4⟩:=aBb hj
 have hl:=r.length
 have hn:=xN
 have I':Inv X pins σ (upd H p (.lst (xs.set j v))) { s with heap:=s.heap.update p (Obj.mapSeq (·.setIfInBounds j u)) } :=
  I.lstUpd hp ho (aAb its n j u) (r.set rv j) (by rw [List.length_set];exact hz) s.toks
 by_cases h0:0<=k
 ·have hk:k.toNat=j:=by
   rw [seqIndex_of h0 h4] at h1
   exact Option.some.inj h1
  exact PySem.W.ki_setAt ho h0 (by omega) (by rw [List.size_toArray,<- hl];exact h4) (by rw [hk];exact ⟨_,I',q⟩)
 ·have hk:(k+(its.toArray.size:Int)).toNat=j:=by
   rw [seqIndex_neg (by omega) h3] at h1
   rw [List.size_toArray,<- hl]
   exact Option.some.inj h1
  exact PySem.W.ki_setBack ho (by omega) (by rw [List.size_toArray,<- hl];exact h3) (by omega) (by rw [hk];exact ⟨_,I',q⟩)
theorem tZ (lo hi:Option Int) (n:Nat):(sliceBounds lo hi none n).1=((HT.sIx n 0 lo:Nat):Int)/\(sliceBounds lo hi none n).2.1=((HT.sIx n n hi:Nat):Int)/\(sliceBounds lo hi none n).2.2=1:=by
 refine ⟨?_,?_,rfl⟩
 ·cases lo with
  | none=>simp [sliceBounds,HT.sIx]
  | some i =>
   simp only [sliceBounds,HT.sIx,Option.getD_none,show (1:Int) > 0 by decide,if_true]
   by_cases h:i < 0
   ·simp only [h,if_true]<;>omega
   ·simp only [h,if_false]<;>omega
 ·cases hi with
  | none=>simp [sliceBounds,HT.sIx]
  | some i =>
   simp only [sliceBounds,HT.sIx,Option.getD_none,show (1:Int) > 0 by decide,if_true]
   by_cases h:i < 0
   ·simp only [h,if_true]<;>omega
   ·simp only [h,if_false]<;>omega
theorem tN (its:List Value) (lo hi:Option Int):slicePick its.toArray lo hi none=((its.drop (HT.sIx its.length 0 lo)).take (HT.sIx its.length its.length hi - HT.sIx its.length 0 lo)).toArray:=by
 obtain ⟨h1,h2,h3⟩:=tZ lo hi its.toArray.size
 unfold slicePick
 rw [h1,h2,h3]
 simp only [sliceRange_one,pick_run,List.size_toArray]<;>rfl
def aQo (K:PySem.W.Frag):V->Option Int->Option Int->Hp->VK->Prop:=fun x lo hi H Q=>∃ a xs,x=.ref a/\SqL K H a xs/\∀ p,H p=none->Q (.ref p) (upd H p (.lst (aJ2 xs lo hi)))
theorem aIc:SlR X (aQo X.K):=by
 intro pins s σ H x v vl vu lo hi sl Q I rx hs pl pu h
 obtain ⟨a,xs,rfl,hx,q⟩:=h
 cases rx
 obtain ⟨its,r,ht,hz⟩:=I.list hx
 have hlen:=r.length
 refine ⟨"list",_,slot_list_getitem.lookup,ht.isList.typeIs,?_⟩
 refine wpAny_getItem_list_slice ht.isList hs pl pu .none (by simp) ?_ (by rw [List.size_toArray]<;>omega)
 rw [tN,<- hlen]
 refine ⟨.ref s.heap.objs.size,_,I.laid (t':=s.toks) (o:=.lst (aJ2 xs lo hi)) (fun b ob q=>Heap.get?_push_of_some _ q) (Nat.le_refl _) ?_,rfl,q _ (I.hok.fresh (Nat.le_refl _))⟩
 exact ⟨Nat.le_trans (xD xs lo hi) hz,_,0,(r.drop (HT.sIx xs.length 0 lo)).take (HT.sIx xs.length xs.length hi - HT.sIx xs.length 0 lo),Heap.get?_push_size _ rfl⟩
theorem cR:qD X (.builtin "len") (fun xs H Q=>∃ p ys,xs=[.ref p]/\(SqL X.K H p ys\/SqT X.K H p ys)/\Q (.int ys.length) H):=by
 intro pins s σ H xs us Q I r h
 obtain ⟨p,ys,rfl,hq,q⟩:=h
 obtain ⟨u,rfl,rx⟩:=vals1 r
 cases rx
 have hn:=xN
 rcases hq with hq | hq
 ·obtain ⟨its,r',pl,hz⟩:=I.list hq
  have hlen:=r'.length
  exact Calls.call_len_list pl.isList (by simp only [List.size_toArray]<;>omega) ⟨.int ys.length,H,I.tok _,⟨s.toks+1,by rw [List.size_toArray,hlen]⟩,q⟩
 ·obtain ⟨its,r',pl,hz⟩:=I.tuple hq
  have hlen:=r'.length
  exact len_tuple pl (by simp only [List.size_toArray]<;>omega) ⟨.int ys.length,H,I.tok _,⟨s.toks+1,by rw [List.size_toArray,hlen]⟩,q⟩
theorem gX:qD X (.type "list") (fun xs H Q=>∃ p ys,xs=[.ref p]/\(SqL X.K H p ys\/SqT X.K H p ys)/\∀ l,H l=none->Q (.ref l) (upd H l (.lst ys))):=by
 intro pins s σ H xs us Q I r h
 obtain ⟨p,ys,rfl,hq,q⟩:=h
 obtain ⟨u,rfl,rx⟩:=vals1 r
 cases rx
 have fin:∀ (its:List Value),Vals ys its->ys.length<=sizeLine->∀ (h':Heap) (c':Nat),(∀ b o',s.heap.get? b=some o'->h'.get? b=some o') ->
   h'.get? s.heap.objs.size=some { cls:=.type "list",dict:=none,data:=.seq its.toArray c',slots:=#[] }->EP X pins σ Q (.ref s.heap.objs.size) { s with heap:=h' }:=fun its r' hz h' c' kp e =>
  ⟨.ref s.heap.objs.size,_,I.laid (t':=s.toks) kp (Nat.le_refl _) (show ObjOk X.prog X.w _ h' _ (.lst ys) from ⟨hz,its,c',r',e⟩),rfl,q _ (I.hok.fresh (Nat.le_refl _))⟩
 rcases hq with hq | hq
 ·obtain ⟨its,r',pl,hz⟩:=I.list hq
  have hlen:=r'.length
  obtain ⟨o,ho,hc,n,hd⟩:=pl.isList
  exact call_list_seq p (.inl rfl) ho hc hd (fun h' c' kp e=>fin its r' hz h' c' kp e) (by simp only [List.size_toArray]<;>omega)
 ·obtain ⟨its,r',pl,hz⟩:=I.tuple hq
  have hlen:=r'.length
  obtain ⟨o,ho,hc,n,hd⟩:=pl
  exact call_list_seq p (.inr rfl) ho hc hd (fun h' c' kp e=>fin its r' hz h' c' kp e) (by simp only [List.size_toArray]<;>omega)
def tyV (K:PySem.W.Frag) (T:String) (x:V) (H:Hp):Prop:=match x with
 | .str _=>T = "str"
 | .int _=>T = "int"
 | .ref p=>(T = "list"/\∃ xs,SqL K H p xs)\/(T = "tuple"/\∃ o,K.lookup p=some o/\o.cls=.type "tuple"/\o.dict=none) \/
   (T = "dict"/\((∃ kvs,H p=some (.dK kvs))\/∃ kvs,H p=some (.dT kvs)))\/(T = "set"/\∃ S n,H p=some (.set S n))
 | _=>False
theorem aMh {pins:List (Addr×Obj)} {σ:St} {H:Hp} {s:Shared} {T:String} {x:V} {v:Value} (I:Inv X pins σ H s) (r:RelV x v) (ty:tyV X.K T x H) :
  s.TypeIs v T/\∀ a,v=.ref a->∃ ob,s.heap.get? a=some ob/\ob.dict=none:=by
 cases x with
 | str z =>
  obtain ⟨t,rfl⟩:=r
  cases (show T = "str" from ty)
  exact ⟨typeIs_str s z t,fun _ e=>nomatch e⟩
 | int i =>
  obtain ⟨t,rfl⟩:=r
  cases (show T = "int" from ty)
  exact ⟨typeIs_int s i t,fun _ e=>nomatch e⟩
 | ref p =>
  cases r
  rcases ty with ⟨rfl,xs,hq⟩ | ⟨rfl,o,hk,hc,hd⟩ | ⟨rfl,hk⟩ | ⟨rfl,S,n,hk⟩
  ·obtain ⟨its,_,pl,_⟩:=I.list hq
   refine ⟨pl.isList.typeIs,fun a e=>?_⟩
   cases e
   obtain ⟨o,n,e,c,hd,_⟩:=pl
   exact ⟨o,e,hd⟩
  ·refine ⟨⟨o,I.kIn p o hk,hc⟩,fun a e=>?_⟩
   cases e
   exact ⟨o,I.kIn _ o hk,hd⟩
  ·have z:∃ o,s.heap.get? p=some o/\o.ExactDict:=by
    rcases hk with ⟨kvs,hk⟩ | ⟨kvs,hk⟩
    ·obtain ⟨_,_,_,_,o,_,_,e,ex,_⟩:=I.hok p _ hk
     exact ⟨o,e,ex⟩
    ·obtain ⟨_,_,_,_,o,_,_,e,ex,_⟩:=I.hok p _ hk
     exact ⟨o,e,ex⟩
   obtain ⟨o,e,ex⟩:=z
   refine ⟨⟨o,e,ex.1⟩,fun a e2=>?_⟩
   cases e2
   exact ⟨o,e,ex.2.1⟩
  ·obtain ⟨o,_,_,_,e,ex,_⟩:=I.hok p _ hk
   refine ⟨⟨o,e,ex.1⟩,fun a e2=>?_⟩
   cases e2
   exact ⟨o,e,ex.2.1⟩
 | _=>exact False.elim ty
def tBM (K:PySem.W.Frag) (T:String) (r:V->List V->Hp->VK->Prop) (to:TE) (t:TA):TE:=fun σ H Q=>to σ H fun x H1=>tyV K T x H1/\t σ H1 fun xs H2=>r x xs H2 Q
variable {o e:Expr} {es:List Expr} {to:TE} {t:TA} {name:Str} {apos cpos:Pos} {T id:String} {r:V->List V->Hp->VK->Prop}
theorem aB7 (pa:PlainAttrs T) (slot:Slot T name id) (hty:typeOf (.builtin id)=pure (.type "method_descriptor")) (hm:MtR X id r) (ho:PE X o to) (ha:PA X (e :: es) t)
  (hbase:attributeBase o name X.env (eval o X.env)=eval o X.env:=by rfl)
  (hfew:((backTo cpos (starEach (e :: es) X.env)).all (fun x=>!x.1) && (backToKw cpos (keywordEach [] X.env)).all (fun x=>x.1.isSome)
   && decide ((e :: es).length+([]:List Keyword).length+(if ([]:List Keyword).isEmpty then 0 else 1) < 30))=true:=by rfl)
  (hline:(apos.endLine == cpos.line)=true:=by rfl) (hs:starEach (e :: es) X.env=(false,eval e X.env) :: starEach es X.env:=by rfl) (hplain:(backTo cpos (starEach es X.env)).any (·.1)=false:=by rfl) :
  PE X (.Call (.Attribute o name apos) (e :: es) [] cpos) (tBM X.K T r to t):=by
 intro pins s σ H Q I h
 refine wpAny_Call_method_late hbase hfew hline rfl (thn (ho pins s σ H _ I h) fun v s1 ⟨x,H1,I1,r1,ty,q1⟩=>?_)
 obtain ⟨h1,h2⟩:=aMh I1 r1 ty
 refine ⟨T,id,pa,slot,hty,h1,h2,?_⟩
 have hA:=ha cpos pins s1 σ H1 _ I1 q1
 rw [hs] at hA ⊢
 refine Calls.callWith_builtin (by show (false || (backTo cpos (starEach es X.env)).any (·.1))=false;rw [hplain]<;>rfl) (Calls.evalArgs_plain ?_)
 exact thn hA fun us s2 ⟨vs,H2,I2,r2,q2⟩=>hm pins s2 σ H2 x vs v us Q I2 r1 r2 q2
end
def MtM (X:Cx) (id:String) (r:V->List V->Hp->VK->Prop):Prop :=
 ∀ (pins:List (Addr×Obj)) (s:Shared) (σ:St) (H:Hp) (x:V) (xs:List V) (v:Value) (us:List Value) (Q:VK),Inv X pins σ H s->RelV x v->Vals xs us->r x xs H Q ->
  wpAny (model X.prog X.w) X.A (call (.builtin id) (v :: us)) (EP X pins σ Q) X.xe s
theorem Vals.one:∀ {x:V} {us:List Value},Vals [x] us->∃ u,us=[u]/\RelV x u
 | _,_,.cons r .nil=>⟨_,rfl,r⟩
section
variable {X:Cx} {pins:List (Addr×Obj)} {σ:St} {H:Hp} {s:Shared} {l b:Addr} {xs ys zs:List V}
theorem Inv.lset {its its':List Value} {n:Nat} {f:Array Value->Array Value} {t':Nat} (I:Inv X pins σ H s) (hH:H l=some (.lst xs))
  (e:s.heap.get? l=some { cls:=.type "list",data:=.seq its.toArray n }) (hf:f its.toArray=its'.toArray) (hv:Vals ys its') (hz:ys.length<=sizeLine) :
  Inv X pins σ (upd H l (.lst ys)) { s with heap:=s.heap.update l (Obj.mapSeq f),toks:=t' }:=by
 have q:=PySem.IsL.update e f
 rw [hf] at q
 refine I.write (x:=l) (e:=l) (by rw [hH];exact trivial) (.inl rfl) (fun b' u hb hu=>(Heap.get?_update_other s.heap (Obj.mapSeq f) (Ne.symm hb)).trans hu) ⟨_,q⟩ ?_
 exact ⟨hz,its',_,hv,q⟩
theorem Inv.lnew {its:List Value} {t':Nat} (I:Inv X pins σ H s) (hv:Vals ys its) (hz:ys.length<=sizeLine) :
  Inv X pins σ (upd H s.heap.objs.size (.lst ys)) { s with heap:=s.heap.push { cls:=.type "list",data:=.seq its.toArray },toks:=t' } :=
 I.laid (fun _ _ q=>Heap.get?_push_of_some _ q) (Nat.le_refl _) ⟨hz,its,0,hv,Heap.get?_push_size _ rfl⟩
theorem Inv.fresh (I:Inv X pins σ H s):H s.heap.objs.size=none:=I.hok.fresh (Nat.le_refl _)
theorem Inv.lstM (I:Inv X pins σ H s) (hH:H l=some (.lst xs)):xs.length<=sizeLine/\∃ (its:List Value) (n:Nat),Vals xs its/\xs.length=its.length/\s.heap.get? l=some { cls:=.type "list",data:=.seq its.toArray n }:=by
 obtain ⟨z,its,n,r,e⟩:=I.hok l _ hH
 exact ⟨z,its,n,r,r.length,e⟩
theorem aF2 {n:Nat} (h:n<=sizeLine):Builtin.List.listTooLong n=false:=by
 unfold Builtin.List.listTooLong
 exact decide_eq_false (by omega)
end
section
variable {X:Cx}
def aAz:V->List V->Hp->VK->Prop:=fun x vs H Q=>∃ l xs y,x=.ref l/\vs=[y]/\H l=some (.lst xs)/\xs.length < sizeLine/\Q .non (upd H l (.lst (xs++[y])))
theorem mG:MtM X "list.append" aAz:=by
 intro pins s σ H x vs v us Q I rx rv h
 obtain ⟨l,xs,y,rfl,rfl,hH,hz,q⟩:=h
 cases rx
 obtain ⟨u,rfl,ru⟩:=rv.one
 obtain ⟨z,its,n,r,hl,e⟩:=I.lstM hH
 refine call_meets F.slot_list_append ⟨_,e,rfl⟩ F.entry_list_append (F.args_list_append_2 _ _) (PySem.list_append l its.toArray n u (by rw [List.size_toArray];omega)) ⟨e,?_⟩
 refine ⟨.non,_,I.lset (its':=its++[u]) hH e (by simp) (r.append (.cons ru .nil)) ?_,rfl,q⟩
 rw [List.length_append,List.length_singleton]
 omega
def aCc:V->List V->Hp->VK->Prop:=fun x vs H Q=>∃ l b xs zs,x=.ref l/\vs=[.ref b]/\H l=some (.lst xs)/\H b=some (.lst zs)/\xs.length+zs.length<=sizeLine/\Q .non (upd H l (.lst (xs++zs)))
theorem aDc:MtM X "list.extend" aCc:=by
 intro pins s σ H x vs v us Q I rx rv h
 obtain ⟨l,b,xs,zs,rfl,rfl,hH,hB,hz,q⟩:=h
 cases rx
 obtain ⟨u,rfl,ru⟩:=rv.one
 cases ru
 obtain ⟨z,its,n,r,hl,e⟩:=I.lstM hH
 obtain ⟨z2,its2,n2,r2,hl2,e2⟩:=I.lstM hB
 have hsz:its.toArray.size+its2.toArray.size<=sizeLine:=by rw [List.size_toArray,List.size_toArray];omega
 have hlong:¬ (!its.toArray.isEmpty && Builtin.List.listTooLong (its.toArray.size+its2.toArray.size))=true:=by
  rw [aF2 hsz,Bool.and_false]
  exact Bool.false_ne_true
 refine call_meets F.slot_list_extend ⟨_,e,rfl⟩ F.entry_list_extend (F.args_list_extend_2 _ _)
  (AutoSeq1.list_extend_list_list_0 l its.toArray n b its2.toArray n2 hlong (by rw [List.size_toArray];omega) (by omega)) ⟨e,e2,?_⟩
 refine ⟨.non,_,I.lset (its':=its++its2) hH e (by simp) (r.append r2) ?_,rfl,q⟩
 rw [List.length_append]
 omega
end
section
variable {prog:Program} {w:World} {A:Around} {E:Value->Shared->Prop} {s:Shared}
set_option maxRecDepth 100000 in
end
section
variable {X:Cx}
end
section
variable {κ:Type} [DecidableEq κ]
def tY (kvs:List (κ×V)) (k:κ):Option V:=(kvs.find? fun kv=>decide (kv.1=k)).map (·.2)
def putK (kvs:List (κ×V)) (k:κ) (v:V):List (κ×V) :=
 if (kvs.any fun kv=>decide (kv.1=k))=true then kvs.map (fun kv=>if kv.1=k then (kv.1,v) else kv) else kvs++[(k,v)]
theorem mB {p:κ×V} {r:List (κ×V)} {k:κ} (e:p.1=k):tY (p :: r) k=some p.2:=by simp [tY,List.find?_cons,e]
theorem mV {p:κ×V} {r:List (κ×V)} {k:κ} (e:¬ p.1=k):tY (p :: r) k=tY r k:=by simp [tY,List.find?_cons,e]
theorem oQ (k:κ):∀ kvs:List (κ×V),(kvs.any fun kv=>decide (kv.1=k))=(tY kvs k).isSome
 | []=>rfl
 | p :: r=>by
  rw [List.any_cons]
  by_cases e:p.1=k
  ·simp only [mB e,decide_eq_true e,Bool.true_or,Option.isSome_some]
  ·rw [mV e,decide_eq_false e,Bool.false_or];exact oQ k r
theorem pN (kvs:List (κ×V)) (k:κ) (v:V):(putK kvs k v).length<=kvs.length+1:=by
 unfold putK
 split
 ·rw [List.length_map];omega
 ·rw [List.length_append,List.length_cons,List.length_nil];omega
theorem RelO.isSome_eq {o:Option V} {u:Option Value} (r:RelO o u):o.isSome=u.isSome:=by
 cases o with
 | none=>cases u with
  | none=>rfl
  | some _=>exact (show False from r).elim
 | some _=>cases u with
  | none=>exact (show False from r).elim
  | some _=>rfl
theorem KV.val {kvs:List (κ×V)} {vs:List (κ×Value)} (r:KV kvs vs) (k:κ):RelO (tY kvs k) (valueAt vs k):=by
 unfold KV at r
 induction r with
 | nil=>exact True.intro
 | @cons p q ps qs h t ih =>
  obtain ⟨h1,h2⟩:=h
  by_cases e:p.1=k
  ·have e':q.1=k:=h1.symm.trans e
   have b:valueAt (q :: qs) k=some q.2:=by simp [valueAt,List.find?_cons,e']
   rw [mB e,b];exact h2
  ·have e':¬ q.1=k:=fun z=>e (h1.trans z)
   have b:valueAt (q :: qs) k=valueAt qs k:=by simp [valueAt,List.find?_cons,e']
   rw [mV e,b];exact ih
theorem KV.any {kvs:List (κ×V)} {vs:List (κ×Value)} (r:KV kvs vs) (k:κ):(kvs.any fun kv=>decide (kv.1=k))=vs.any fun kv=>decide (kv.1=k):=by
 unfold KV at r
 induction r with
 | nil=>rfl
 | cons h t ih=>rw [List.any_cons,List.any_cons,ih,h.1]
theorem KV.repl {kvs:List (κ×V)} {vs:List (κ×Value)} (r:KV kvs vs) (k:κ) {y:V} {u:Value} (ry:RelV y u) :
  KV (kvs.map fun kv=>if kv.1=k then (kv.1,y) else kv) (vs.map fun kv=>if kv.1=k then (kv.1,u) else kv):=by
 unfold KV at r ⊢
 induction r with
 | nil=>exact .nil
 | @cons p q ps qs h t ih =>
  rw [List.map_cons,List.map_cons]
  refine .cons ?_ ih
  obtain ⟨h1,h2⟩:=h
  by_cases e:p.1=k
  ·rw [if_pos e,if_pos (h1.symm.trans e)];exact ⟨h1,ry⟩
  ·rw [if_neg e,if_neg (fun z=>e (h1.trans z))];exact ⟨h1,h2⟩
theorem KV.put {kvs:List (κ×V)} {vs:List (κ×Value)} (r:KV kvs vs) (k:κ) {y:V} {u:Value} (ry:RelV y u):KV (putK kvs k y) (stored vs k u):=by
 unfold putK stored
 rw [r.any k]
 by_cases e:(vs.any fun kv=>decide (kv.1=k))=true
 ·rw [if_pos e,if_pos e];exact r.repl k ry
 ·rw [if_neg e,if_neg e];exact Paired.snoc r ⟨rfl,ry⟩
theorem KV.length {kvs:List (κ×V)} {vs:List (κ×Value)} (r:KV kvs vs):kvs.length=vs.length:=Paired.length r
end
theorem aA2 {P:Program} {w:World} {k:Key} {u:Value} (r:RelV (kV k) u):(gJ P w).is k u=true:=by
 cases k with
 | inl i=>obtain ⟨t,e⟩:=(show ∃ t,u=Value.int i t from r);subst e;exact wA P w i t
 | inr x=>obtain ⟨t,e⟩:=(show ∃ t,u=Value.str x t from r);subst e;exact wV P w x t
theorem uW {P:Program} {w:World}:∀ {ks:List Key} {us:List Value},Vals (ks.map kV) us->ItemsAre (gJ P w) ks us
 | [],_,r=>by rw [List.map_nil] at r;cases r;exact .nil
 | k :: ks,_,r=>by
  rw [List.map_cons] at r
  cases r with
  | cons h t=>exact .cons (aA2 h) (uW t)
abbrev KT (H:Hp):List (List Key×V)->List (List Key×Addr×Value)->Prop:=Paired fun p q=>p.1=q.1/\H q.2.1=some (.tup (p.1.map kV))/\RelV p.2 q.2.2
theorem KT.val {H:Hp} {kvs:List (List Key×V)} {xs:List (List Key×Addr×Value)} (r:KT H kvs xs) (k:List Key):RelO (tY kvs k) ((atKey xs k).map (·.2)):=by
 induction r with
 | nil=>exact True.intro
 | @cons p q ps qs h t ih =>
  obtain ⟨h1,_,h2⟩:=h
  by_cases e:p.1=k
  ·have e':q.1=k:=h1.symm.trans e
   have b:atKey (q :: qs) k=some q.2:=by simp [atKey,List.find?_cons,e']
   rw [mB e,b];exact h2
  ·have e':¬ q.1=k:=fun z=>e (h1.trans z)
   have b:atKey (q :: qs) k=atKey qs k:=by simp [atKey,List.find?_cons,e']
   rw [mV e,b];exact ih
theorem KT.repl {H:Hp} {kvs:List (List Key×V)} {xs:List (List Key×Addr×Value)} (r:KT H kvs xs) (k:List Key) {y:V} {u:Value} (ry:RelV y u) :
  KT H (kvs.map fun kv=>if kv.1=k then (kv.1,y) else kv) (xs.map (putAt k u)):=by
 induction r with
 | nil=>exact .nil
 | @cons p q ps qs h t ih =>
  rw [List.map_cons,List.map_cons]
  refine .cons ?_ ih
  obtain ⟨h1,h2,h3⟩:=h
  unfold putAt
  by_cases e:p.1=k
  ·rw [if_pos e,if_pos (h1.symm.trans e)];exact ⟨h1,h2,ry⟩
  ·rw [if_neg e,if_neg (fun z=>e (h1.trans z))];exact ⟨h1,h2,h3⟩
theorem KT.put {H:Hp} {kvs:List (List Key×V)} {xs:List (List Key×Addr×Value)} (r:KT H kvs xs) (k:List Key) {b:Addr} {y:V} {u:Value} (hb:H b=some (.tup (k.map kV))) (ry:RelV y u) :
  KT H (putK kvs k y) (storedH xs k b u):=by
 have e:(kvs.any fun kv=>decide (kv.1=k))=(atKey xs k).isSome:=by
  rw [oQ,(r.val k).isSome_eq,Option.isSome_map]
 unfold putK storedH
 rw [e]
 by_cases q:(atKey xs k).isSome=true
 ·rw [if_pos q,if_pos q];exact r.repl k ry
 ·rw [if_neg q,if_neg q];exact Paired.snoc r ⟨rfl,hb,ry⟩
theorem KT.keeps {H H':Hp} {kvs:List (List Key×V)} {xs:List (List Key×Addr×Value)} (r:KT H kvs xs) (ht:∀ b ys,H b=some (.tup ys)->H' b=some (.tup ys)):KT H' kvs xs :=
 Paired.mapP r fun _ _ z=>⟨z.1,ht _ _ z.2.1,z.2.2⟩
section
variable {P:Program} {w:World} {H:Hp} {h:Heap} {a:Addr}
theorem aLs {u:HO} (ok:HOk P w H h) (e:Rd H a u):ObjOk P w H h a u:=e.ok ok
theorem zI {kvs:List (Key×V)} (ok:HOk P w H h) (e:Rd H a (.dK kvs)):kvs.length<=sizeLine/\(a == sysModules)=false/\∃ vs,KV kvs vs/\h.DictOf (gJ P w) a vs :=
 show ObjOk P w H h a (.dK kvs) from aLs ok e
theorem aPe {kvs:List (Key×V)} (ok:HOk P w H h) (e:H a=some (.dK kvs)):kvs.length<=sizeLine/\(a == sysModules)=false/\∃ vs,KV kvs vs/\h.DictOf (gJ P w) a vs:=zI ok (.inl e)
theorem vF {ks:List Key} (ok:HOk P w H h) (e:H a=some (.tup (ks.map kV))):(tupleKind (gJ P w)).is h ks a:=by
 obtain ⟨_,its,r,o,h1,h2,n,h3⟩:=(show ObjOk P w H h a (.tup (ks.map kV)) from ok a _ e)
 exact ⟨o,its.toArray,n,h1,h2,h3,by simpa using uW r⟩
theorem aBp {kvs:List (List Key×V)} (ok:HOk P w H h) (e:Rd H a (.dT kvs)):kvs.length<=sizeLine/\(a == sysModules)=false /\
  ∃ xs,KT H kvs xs/\h.DictOfH (tupleKind (gJ P w)) a xs:=by
 obtain ⟨z,y,xs,r,o,es,ep,h1,h2,h3,h4,h5⟩:=(show ObjOk P w H h a (.dT kvs) from aLs ok e)
 refine ⟨z,y,xs,r,o,es,ep,h1,h2,h3,h4,fun x hx=>?_,h5⟩
 have all:∀ {l:List (List Key×V)} {m:List (List Key×Addr×Value)},KT H l m->∀ x∈m,(tupleKind (gJ P w)).is h x.1 x.2.1:=by
  intro l m q
  induction q with
  | nil=>intro x hx;exact nomatch hx
  | @cons p q ps qs hq t ih =>
   intro x hx
   rcases List.mem_cons.mp hx with e | hx
   ·subst e
    exact vF ok (by rw [<- hq.1];exact hq.2.1)
   ·exact ih x hx
 exact all r x hx
theorem aO1 {kvs:List (List Key×V)} (ok:HOk P w H h) (e:H a=some (.dT kvs)):kvs.length<=sizeLine/\(a == sysModules)=false /\
  ∃ xs,KT H kvs xs/\h.DictOfH (tupleKind (gJ P w)) a xs:=aBp ok (.inl e)
end
def DGet (H:Hp) (a:Addr) (y:V) (r:Option V):Prop :=
 (∃ kvs k,Rd H a (.dK kvs)/\y=kV k/\r=tY kvs k)\/∃ kvs k b,Rd H a (.dT kvs)/\y=.ref b/\H b=some (.tup (k.map kV))/\r=tY kvs k
def DPut (H:Hp) (a:Addr) (y v:V) (H':Hp):Prop :=
 (∃ kvs k,H a=some (.dK kvs)/\y=kV k/\kvs.length < sizeLine/\H'=upd H a (.dK (putK kvs k v))) \/
 ∃ kvs k b,H a=some (.dT kvs)/\y=.ref b/\H b=some (.tup (k.map kV))/\kvs.length < sizeLine/\H'=upd H a (.dT (putK kvs k v))
theorem DGet.k {H:Hp} {a:Addr} {kvs:List (Key×V)} {k:Key} (e:H a=some (.dK kvs)):DGet H a (kV k) (tY kvs k):=.inl ⟨kvs,k,.inl e,rfl,rfl⟩
theorem DGet.t {H:Hp} {a b:Addr} {kvs:List (List Key×V)} {k:List Key} (e:H a=some (.dT kvs)) (eb:H b=some (.tup (k.map kV))):DGet H a (.ref b) (tY kvs k):=.inr ⟨kvs,k,b,.inl e,rfl,eb,rfl⟩
theorem DPut.k {H:Hp} {a:Addr} {kvs:List (Key×V)} {k:Key} {v:V} (e:H a=some (.dK kvs)) (hl:kvs.length < sizeLine):DPut H a (kV k) v (upd H a (.dK (putK kvs k v))):=.inl ⟨kvs,k,e,rfl,hl,rfl⟩
theorem DPut.t {H:Hp} {a b:Addr} {kvs:List (List Key×V)} {k:List Key} {v:V} (e:H a=some (.dT kvs)) (eb:H b=some (.tup (k.map kV))) (hl:kvs.length < sizeLine) :
  DPut H a (.ref b) v (upd H a (.dT (putK kvs k v))):=.inr ⟨kvs,k,b,e,rfl,eb,hl,rfl⟩
section
variable {X:Cx} {pins:List (Addr×Obj)} {σ:St} {H:Hp} {s:Shared} {a:Addr} {y v:V} {u r:Value} {o:Option V} {A:Around} {E:Value->Shared->Prop}
theorem Inv.big (I:Inv X pins σ H s):sysModules < s.heap.objs.size:=by
 have h:mainGlobals < s.heap.objs.size:=(I.mod.glob.keeps I.bk).lt
 exact Nat.lt_trans (by decide) h
theorem aDv {Q:Value->Shared->Prop} (hu:A.units+1 < cLine) (I:Inv X pins σ H s) (g:DGet H a y (some v)) (ry:RelV y u) (h:∀ w' s',Inv X pins σ H s'->RelV v w'->Q w' s') :
  wpAny (model X.prog X.w) A (getItem (.ref a) u) Q E s:=by
 rcases g with ⟨kvs,k,e,ey,l⟩ | ⟨kvs,k,b,e,ey,eb,l⟩
 ·subst ey
  obtain ⟨z,hd,vs,rel,dd⟩:=zI I.hok e
  obtain ⟨w',hw,rw'⟩:=RelO.some_of (v:=v) (o:=valueAt vs k) (by rw [l];exact rel.val k)
  exact wpAny_getItem_of (aA2 ry) dd.mapOf hw (h w' _ (I.tok _) rw')
 ·subst ey
  cases (show u=Value.ref b from ry)
  obtain ⟨z,hd,xs,rel,dd⟩:=aBp I.hok e
  obtain ⟨w',hw,rw'⟩:=RelO.some_of (v:=v) (o:=(atKey xs k).map (·.2)) (by rw [l];exact rel.val k)
  obtain ⟨p,hp,hp2⟩:=Option.map_eq_some_iff.mp hw
  refine wpAny_getItem_heap (tupleKind_room_in1 hu) (vF I.hok eb) dd hp ?_
  rw [hp2]
  exact h w' _ (I.tok _) rw'
theorem aQm {Q:Value->Shared->Prop} (hu:A.units+1 < cLine) (I:Inv X pins σ H s) (g:DGet H a y o) (ry:RelV y u) (h:∀ s',Inv X pins σ H s'->Q (.bool o.isSome) s') :
  wpAny (model X.prog X.w) A (compareOp .In u (.ref a)) Q E s:=by
 rcases g with ⟨kvs,k,e,ey,l⟩ | ⟨kvs,k,b,e,ey,eb,l⟩
 ·subst ey
  obtain ⟨z,hd,vs,rel,dd⟩:=zI I.hok e
  refine wpAny_in_of (aA2 ry) hd dd.mapOf ?_
  rw [<- (rel.val k).isSome_eq,<- l]
  exact h _ (I.tok _)
 ·subst ey
  cases (show u=Value.ref b from ry)
  obtain ⟨z,hd,xs,rel,dd⟩:=aBp I.hok e
  refine wpAny_in_heap (tupleKind_room_in1 hu) (vF I.hok eb) hd dd ?_
  have q:=(rel.val k).isSome_eq
  rw [Option.isSome_map] at q
  rw [<- q,<- l]
  exact h _ (I.tok _)
theorem aI7 {Q:Value->Shared->Prop} (hu:A.units+1 < cLine) (I:Inv X pins σ H s) (g:DGet H a y o) (ry:RelV y u) (h:∀ s',Inv X pins σ H s'->Q (.bool (!o.isSome)) s') :
  wpAny (model X.prog X.w) A (compareOp .NotIn u (.ref a)) Q E s:=by
 rcases g with ⟨kvs,k,e,ey,l⟩ | ⟨kvs,k,b,e,ey,eb,l⟩
 ·subst ey
  obtain ⟨z,hd,vs,rel,dd⟩:=zI I.hok e
  refine wpAny_notIn_of (aA2 ry) hd dd.mapOf ?_
  rw [<- (rel.val k).isSome_eq,<- l]
  exact h _ (I.tok _)
 ·subst ey
  cases (show u=Value.ref b from ry)
  obtain ⟨z,hd,xs,rel,dd⟩:=aBp I.hok e
  refine wpAny_notIn_heap (tupleKind_room_in1 hu) (vF I.hok eb) hd dd ?_
  have q:=(rel.val k).isSome_eq
  rw [Option.isSome_map] at q
  rw [<- q,<- l]
  exact h _ (I.tok _)
theorem aAt {h':Heap} {t':Nat} {ob:HO} (I:Inv X pins σ H s) (mu:Mut (H a)) (hs:Heap.SameBut a s.heap h') (he:∃ q,h'.get? a=some q) (new:ObjOk X.prog X.w (upd H a ob) h' a ob) :
  Inv X pins σ (upd H a ob) { s with heap:=h',toks:=t' } :=
 I.write (x:=a) (e:=a) mu (.inl rfl) (fun b q hb z=>(hs.2 b hb).trans z) he new
theorem aKv {P:Program} {w:World} {H':Hp} {h':Heap} {kvs:List (Key×V)} {vs:List (Key×Value)} (z:kvs.length<=sizeLine) (hd:(a == sysModules)=false) (rel:KV kvs vs) (dd:h'.DictOf (gJ P w) a vs) :
  ObjOk P w H' h' a (.dK kvs):=⟨z,hd,vs,rel,dd⟩
theorem aB4 {H':Hp} {Q:Unit->Shared->Prop} (hu:A.units+1 < cLine) (I:Inv X pins σ H s) (g:DPut H a y v H') (ry:RelV y u) (rv:RelV v r) (h:∀ s',Inv X pins σ H' s'->Q () s') :
  wpAny (model X.prog X.w) A (setItem (.ref a) u r) Q E s:=by
 rcases g with ⟨kvs,k,e,ey,l,eH⟩ | ⟨kvs,k,b,e,ey,eb,l,eH⟩
 ·subst ey eH
  obtain ⟨z,hd,vs,rel,dd⟩:=aPe I.hok e
  have hz:vs.length<=sizeLine:=by rw [<- rel.length];exact z
  have hl:(putK kvs k v).length<=sizeLine:=by have:=pN kvs k v;omega
  refine wpAny_setItem_pairs (hsz:=hz) (aA2 ry) dd fun h' dd' hs=>h _ ?_
  have he:∃ q,h'.get? a=some q:=let ⟨q,_,_,hq,_⟩:=dd';⟨q,hq⟩
  exact aAt I (by rw [e];exact True.intro) hs he (aKv hl hd (rel.put k rv) dd')
 ·subst ey eH
  cases (show u=Value.ref b from ry)
  obtain ⟨z,hd,xs,rel,dd⟩:=aO1 I.hok e
  have hz:xs.length<=sizeLine:=by rw [<- Paired.length rel];exact z
  have hl:(putK kvs k v).length<=sizeLine:=by have:=pN kvs k v;omega
  refine wpAny_setItem_heap (hsz:=hz) (tupleKind_room_in1 hu) (vF I.hok eb) dd fun h' dd' hs=>h _ ?_
  obtain ⟨q,es,ep,hq,h2,h3,h4,_,h5⟩:=dd'
  refine aAt I (by rw [e];exact True.intro) hs ⟨q,hq⟩ ⟨hl,hd,_,(rel.put k eb rv).keeps fun c ys ec=>?_,q,es,ep,hq,h2,h3,h4,h5⟩
  rw [cI (aNz ec e (fun z=>nomatch z))]
  exact ec
end
section
variable {X:Cx} {pins:List (Addr×Obj)} {σ:St} {H:Hp} {s:Shared} {a:Addr} {kvs:List (Key×V)} {k:Key} {u:Value} {A:Around} {E:Value->Shared->Prop}
theorem aNo {Q:Value->Shared->Prop} (I:Inv X pins σ H s) (e:Rd H a (.dK kvs)) (h:∀ t s',Inv X pins σ H s'->Q (.int kvs.length t) s'):wpAny (model X.prog X.w) A (call (.builtin "len") [.ref a]) Q E s:=by
 obtain ⟨z,hd,vs,rel,dd⟩:=zI I.hok e
 refine call_len_dict hd dd (by rw [<- rel.length];rw [sizeLine_eq] at z;omega) ?_
 rw [<- rel.length]
 exact h _ _ (I.tok _)
end
def aNp (i:Expr):Prop:=∀ ov iv,subscripted i false ov iv=operate [ov,iv] (getItem ov iv)
theorem aJv {prog:Program} {w:World} {A:Around} {E:Value->Shared->Prop} {s:Shared} {env:Env} {value slice:Expr} {pos:Pos} {T id:String} {Q:Value->Shared->Prop}
  (hl:typeLookup (.type T) "__getitem__" = pure (some (.builtin id))) (hs:aNp slice)
  (h:wpAny (model prog w) A (eval value env) (fun o s₁=>wpAny (model prog w) A (eval slice env) (fun i s₂=>s₂.TypeIs o T/\wpAny (model prog w) A (getItem o i) Q E s₂) E s₁) E s) :
  wpAny (model prog w) A (eval (.Subscript value slice pos) env) Q E s:=by
 refine Subscript_ (wpAny_mono h (fun o s₁ h₁=>wpAny_mono h₁ (fun i s₂ h₂=>?_) fun _ _ x=>x) fun _ _ x=>x)
 obtain ⟨hT,h₂⟩:=h₂
 unfold subscriptTail
 refine wpAny_bind ?_
 rw [getitemInPython_of_ne hT.not_modules]
 refine wpAny_bind (wpAny_specialOf hT hl ?_)
 have fin:wpAny (model prog w) A (subscripted slice false o i) (fun r s₃=>wpAny (model prog w) A (letTemporaryGo value o r >>= fun _=>pure r) Q E s₃) E s₂:=by
  rw [hs o i]
  exact wpAny_operating (wpAny_mono h₂ (fun r s₃ h₃=>wpAny_bind (wpAny_letTemporaryGo (wpAny_pure h₃))) fun _ _ x=>x)
 first
  | exact wpAny_pure (wpAny_bind fin)
  | exact wpAny_bind (wpAny_pure (wpAny_bind fin))
  | exact wpAny_bind fin
theorem wU {X:Cx} {pins:List (Addr×Obj)} {σ:St} {H:Hp} {s:Shared} {a:Addr} {y:V} {o:Option V} (I:Inv X pins σ H s) (g:DGet H a y o):s.TypeIs (.ref a) "dict":=by
 rcases g with ⟨kvs,k,e,_,_⟩ | ⟨kvs,k,b,e,_,_,_⟩
 ·obtain ⟨_,_,vs,_,dd⟩:=zI I.hok e
  exact dd.typeIs
 ·obtain ⟨_,_,xs,_,dd⟩:=aBp I.hok e
  exact dd.typeIs
def aNy (td ty:TE):TE:=fun σ H Q=>td σ H fun x H1=>ty σ H1 fun y H2=>∃ a v,x=.ref a/\DGet H2 a y (some v)/\Q v H2
def aPu (ty td:TE):TE:=fun σ H Q=>ty σ H fun y H1=>td σ H1 fun x H2=>∃ a o,x=.ref a/\DGet H2 a y o/\Q (.bl o.isSome) H2
def aDt (ty td:TE):TE:=fun σ H Q=>ty σ H fun y H1=>td σ H1 fun x H2=>∃ a o,x=.ref a/\DGet H2 a y o/\Q (.bl (!o.isSome)) H2
def aNn (td ty tv:TE):TS:=fun D σ H=>tv σ H fun v H1=>td σ H1 fun x H2=>ty σ H2 fun y H3=>∃ a H4,x=.ref a/\DPut H3 a y v H4/\D.nx σ H4
section
variable {X:Cx} {o i e value:Expr} {pos pos' tpos:Pos} {td ty tv:TE}
theorem aHo (hu:X.A.units+1 < cLine) (ho:PE X o td) (hi:PE X i ty) (hs:aNp i):PE X (.Subscript o i pos) (aNy td ty):=by
 intro pins s σ H Q I h
 refine aJv PySem.F.slot_dict_getitem.lookup hs (thn (ho pins s σ H _ I h) fun u s1 ⟨x,H1,I1,rx,q1⟩=>thn (hi pins s1 σ H1 _ I1 q1) fun iv s2 ⟨y,H2,I2,ry,a,v,ex,g,q2⟩=>?_)
 subst ex
 obtain rfl:u=Value.ref a:=rx
 exact ⟨wU I2 g,aDv hu I2 g ry fun w' s3 I3 rw'=>⟨v,H2,I3,rw',q2⟩⟩
theorem aLk (hu:X.A.units+1 < cLine) (hi:PE X i ty) (ho:PE X o td):PC X .In i o (aPu ty td):=by
 intro pins s σ H Q I h
 refine thn (hi pins s σ H _ I h) fun iv s1 ⟨y,H1,I1,ry,q1⟩=>thn (ho pins s1 σ H1 _ I1 q1) fun u s2 ⟨x,H2,I2,rx,a,ov,ex,g,q2⟩=>?_
 subst ex
 obtain rfl:u=Value.ref a:=rx
 exact aQm hu I2 g ry fun s3 I3=>⟨.bl ov.isSome,H2,I3,rfl,q2⟩
theorem aB8 (hu:X.A.units+1 < cLine) (hi:PE X i ty) (ho:PE X o td):PC X .NotIn i o (aDt ty td):=by
 intro pins s σ H Q I h
 refine thn (hi pins s σ H _ I h) fun iv s1 ⟨y,H1,I1,ry,q1⟩=>thn (ho pins s1 σ H1 _ I1 q1) fun u s2 ⟨x,H2,I2,rx,a,ov,ex,g,q2⟩=>?_
 subst ex
 obtain rfl:u=Value.ref a:=rx
 exact aI7 hu I2 g ry fun s3 I3=>⟨.bl (!ov.isSome),H2,I3,rfl,q2⟩
theorem aJo (hu:X.A.units+1 < cLine) (ho:PE X o td) (hi:PE X i ty) (hv:PE X value tv) (hs:swapsWith value (some (.Subscript o i pos')) pos.line X.env=pure false) :
  PS X (.Assign [.Subscript o i pos'] value pos) (aNn td ty tv):=by
 intro pins s σ H D I h
 refine wpAny_Assign_Subscript (thn (hv pins s σ H _ I h) fun r s1 ⟨v,H1,I1,rv,q1⟩=>thn (ho pins s1 σ H1 _ I1 q1) fun u s2 ⟨x,H2,I2,rx,q2⟩=>thn (hi pins s2 σ H2 _ I2 q2) fun iv s3 ⟨y,H3,I3,ry,a,H4,ex,g,q3⟩=>?_) hs
 subst ex
 obtain rfl:u=Value.ref a:=rx
 exact aB4 hu I3 g ry rv fun s4 I4=>⟨σ,H4,I4,q3⟩
end
theorem aFl {P:Program} {w:World} {H:Hp} (h:Heap) (hb:sysModules < h.objs.size):ObjOk P w H (h.push { cls:=.type "dict",data:=.dict #[] }) h.objs.size (.dT []) :=
 ⟨Nat.zero_le _,beq_eq_false_iff_ne.mpr (Ne.symm (Nat.ne_of_lt hb)),[],.nil,_,#[],0,Heap.get?_push_size _ rfl,⟨rfl,rfl,rfl⟩,rfl,rfl,List.nodup_nil⟩
def aKw:TE:=fun _ H Q=>∀ p,H p=none->Q (.ref p) (upd H p (.dT []))
section
variable {X:Cx} {pos:Pos}
theorem aFj:PE X (.Dict [] [] pos) aKw:=fun pins s σ H Q I h =>
 wpAny_Dict_empty ⟨.ref s.heap.objs.size,_,I.laid (a:=s.heap.objs.size) (o:=.dT []) (t':=s.toks) (fun _ _ q=>Heap.get?_push_of_some _ q) (Nat.le_refl _) (aFl s.heap I.big),rfl,h _ (I.hok.fresh (Nat.le_refl _))⟩
end
section
variable {X:Cx} {pins:List (Addr×Obj)} {σ:St} {H:Hp} {s:Shared} {a:Addr} {y d:V} {u r:Value} {o:Option V} {A:Around} {E:Value->Shared->Prop}
end
section
variable {X:Cx} {o e f:Expr} {apos cpos:Pos} {td ty tx:TE}
end
section
variable {X:Cx} {pins:List (Addr×Obj)} {σ:St} {H:Hp} {s:Shared} {a:Addr} {kvs:List (Key×V)} {A:Around} {E:Value->Shared->Prop}
end
section
variable {X:Cx} {pins:List (Addr×Obj)} {σ:St} {H:Hp} {s:Shared} {a:Addr} {y:V} {u:Value} {A:Around} {E:Value->Shared->Prop}
end
end L2
namespace Att
open PySem PySem.W PySem.Calls PyProof.Rows
theorem pZ {P:Params} {h:Heap}:∀ (ns:List Int) (vs:List Value),WellAll P h vs (ns.map WData.int)->IntsAre vs ns:=by
 intro ns
 induction ns with
 | nil =>
  intro vs w
  rw [List.map_nil] at w
  cases w
  exact .nil
 | cons n ns ih =>
  intro vs w
  rw [List.map_cons] at w
  cases w with
  | cons a b =>
   cases a
   exact .cons _ _ (ih _ b)
theorem aBh {l:OpenLaw} {n:Nat} (hn:l.most=some n) {P:Params} {h:Heap} {args:List WData} {vals:List Value}
  (aJ4:l.row.toRowW.claim.pre args=true) (hwl:WellAll P h vals args) :
  ∃ a vs ns,vals=[Value.ref a]/\args=[WData.list (ns.map WData.int)]/\h.get? a=some { cls:=.type "list",data:=.seq vs.toArray }/\IntsAre vs ns/\ns.length<=n:=by
 have hsh:WShape.hasAll [] args [.list .int]=true:=(pre_splitW aJ4).1
 have hc:l.pre.holds [] { args:=args }=true:=(pre_splitW aJ4).2
 obtain ⟨d,r,rfl,h1,h2⟩:=hasAllW_cons hsh
 obtain rfl:=hasAllW_nil h2
 obtain ⟨xs,rfl,h3⟩:=hasW_list h1
 obtain ⟨ns,rfl⟩:=items_int h3
 have hlen:ns.length<=n:=by
  unfold OpenLaw.pre at hc
  have h4:(WTm.not (.lt (.lit (.int (n:Int))) (.len (.arg 0)))).holds [] { args:=[.list (ns.map .int)] }=true:=by
   have h4:=(holds_andW hc).1
   rw [hn] at h4
   exact h4
  have h5:=condW_of h4 (w_not (w_lt w_lit (w_len_list (w_arg rfl))))
  rw [List.length_map] at h5
  refine Nat.le_of_not_lt fun q=>?_
  have q':(n:Int) < ((ns.length:Nat):Int):=by omega
  first
   | (rw [decide_eq_true q'] at h5;exact absurd h5 (by decide))
   | (simp at h5;omega)
 cases hwl with
 | cons w1 w2 =>
  cases w2
  cases w1 with
  | list ho hall=>exact ⟨_,_,ns,rfl,rfl,ho,pZ ns _ hall,hlen⟩
theorem aCu (l:OpenLaw) (args:List WData):l.row.toRowW.claim.post args (.bool true) args=true :=
 postW_of (r:=l.row.toRowW) (X:=(true == true))
  (show WShape.has [] (.bool true) .bool=true by first | rfl | decide | simp [WShape.has,WShape.arms,WShape.armsAll])
  (show (WTm.eq .res (.lit (.bool true))).value [] { args:=args,res:=some (.bool true),after:=args }=some (.bool (true == true)) from w_eq_bool (w_res rfl) w_lit) rfl
theorem w6 {l:OpenLaw} {n:Nat} {q:Program} {loose:List Str} {XP:(Str->Option Value)->Heap->Prop} {YP:World->Heap->Prop} {d:DefRec}
  (hn:l.most=some n) (hdf:d.params.defaults=[])
  (call:∀ (w:World) (s₀ s₁:Shared) (mg mb:Str->Option Value) (fa:Addr) (o:Obj) (pm cd doc:Value) (a:Addr) (vs:List Value) (ns:List Int),
   Ground q loose [] XP w s₀ mg mb s₁.heap->YP w s₁.heap ->
   s₁.heap.get? fa=some o->o.data=.func (docDef d.name d.params d.body d.scope pm cd doc)->s₁.heap.CodeRec cd d.name->mg d.name=some (.ref fa) ->
   s₁.heap.get? a=some { cls:=.type "list",data:=.seq vs.toArray }->IntsAre vs ns->ns.length<=n->s₁.gens=#[] ->
   codeAny (model l.prog w) callerA (.call (.ref fa) ⟨[.ref a],[]⟩) (fun r s'=>r=.ok (.ret (.bool true))/\OldK s₁.heap s'.heap/\s'.os=s₁.os/\AllBare s'.gens) s₁) :
  WalkO q loose XP YP l.row.toRowW d [] (fun f vs=>PySem.call f vs):=by
 intro w s₀ s₁ mg mb G Y fa o pm cd doc dV kV ho hd hcd hD hmg hg args vals as aJ4 hlay hrd hwl hlo
 obtain rfl:dV=.none:=Dflts.none hD hdf
 obtain rfl:kV=.none:=Dflts.noKw hD
 obtain ⟨a,vs,ns,rfl,rfl,hobj,hints,hlen⟩:=aBh hn aJ4 hwl
 refine enter_call (codeAny_mono (call w s₀ s₁ mg mb fa o pm cd doc a vs ns G Y ho (fd_plain hd) hcd hmg hobj hints hlen hg) fun r s' hq=>?_)
 obtain ⟨rfl,h2,h3,h4⟩:=hq
 exact ⟨.inl ⟨.bool true,.bool true,[],rfl,fun _=>rfl,.bool true,aCu l _,fun _=>⟨List.Pairwise.nil,fun _ hm=>(nomatch hm)⟩⟩,h2,h3,h4⟩
section
variable {prog:Program} {w:World} {A:Around} {E:Value->Shared->Prop} {s:Shared} {K:Frag}
end
end Att
namespace L2
open PySem PySem.Spec PyProof.Rows
theorem t7:∀ {vs:List Value} {ns:List Int},IntsAre vs ns->Vals (ns.map V.int) vs
 | _,_,.nil=>.nil
 | _,_,.cons n t h=>.cons ⟨t,rfl⟩ (t7 h)
def aN1 (H:Hp):Prop:=∀ b,H b=none\/∃ o xs,H b=some (.frz o (.lst xs))
theorem aFp {P:Program} {w:World} {K:PySem.W.Frag} {mg mb:Str->Option Value} {CX:CXT} {k:Nat} {fa a:Addr} {fd:FuncData} {x:Str} {sp:Sp} {s₁:Shared} {vs:List Value} {ns:List Int}
  (KX:K.In s₁.heap) (hns:s₁.heap.Ns mainGlobals mg) (hb:s₁.heap.Ns builtinsNs mb) (hbb:∀ x:Str,x≠"__name__"->mb x=bootBuiltins x) (hlim:s₁.heap.NoLimit) (hg:s₁.gens=#[])
  (ha:s₁.heap.get? a=some { cls:=.type "list",data:=.seq vs.toArray }) (hi:IntsAre vs ns) (hl:ns.length<=sizeLine) (hr:Room k callerA)
  (F:∀ base:Heap,K.In base->base.Ns mainGlobals mg->FnOk P w K mg base CX k fa fd [x] sp) (hbind:∀ (s:Shared) (u:Value),BindsTo s fd ⟨[u],[]⟩ [(x,u)])
  (hsp:∀ H:Hp,aN1 H->SqL K H a (ns.map V.int)->sp [.ref a] H (fun v _=>v=.bl true) fun _ _ _=>False)
  (hCX:∀ H e s',CX [] H s₁ (fun _ _ _=>False) e s'->False) :
  codeAny (model P w) callerA (.call (.ref fa) ⟨[.ref a],[]⟩) (fun r s'=>r=.ok (.ret (.bool true))/\OldK s₁.heap s'.heap/\s'.os=s₁.os/\AllBare s'.gens) s₁:=by
 have rv:=t7 hi
 have lenV:=hi.length
 have core:∀ H:Hp,aN1 H->SqL K H a (ns.map V.int)->HOk P w H s₁.heap->(∀ b,H b≠none->b=a)->(H a≠none->K.lookup a=none) ->
   codeAny (model P w) callerA (.call (.ref fa) ⟨[.ref a],[]⟩) (fun r s'=>r=.ok (.ret (.bool true))/\OldK s₁.heap s'.heap/\s'.os=s₁.os/\AllBare s'.gens) s₁:=by
  intro H hO hS hok hA hK
  have base_of:∀ {b:Addr} {o:Obj},s₁.heap.get? b=some o->H b=none->(aEs s₁.heap H).get? b=some o:=fun e n=>aE7 e n
  have noA:∀ {b:Addr} {o:Obj} {es:Array DictEntry} {ep:Nat},s₁.heap.get? b=some o->o.data=.dict es ep->H b=none:=fun {b o es ep} e d=>by
   cases q:H b with
   | none=>rfl
   | some u =>
    have e':b=a:=hA b (by rw [q];simp)
    subst e'
    rw [ha] at e;cases e
    have d':Data.seq vs.toArray _=Data.dict es ep:=d
    cases d'
  have nsK:∀ {b:Addr} {m:Str->Option Value},s₁.heap.Ns b m->(aEs s₁.heap H).Ns b m:=fun {b m} ⟨o,es,ep,e,d,r⟩=>⟨o,es,ep,base_of e (noA e d),d,r⟩
  have hKb:K.In (aEs s₁.heap H):=fun b o e=>base_of (KX b o e) (by
   cases q:H b with
   | none=>rfl
   | some u =>
    have e':b=a:=hA b (by rw [q];simp)
    subst e'
    rw [hK (by rw [q];simp)] at e;cases e)
  have hM:Mod K mg (aEs s₁.heap H):=⟨hKb,nsK hns,⟨mb,nsK hb,hbb⟩,let ⟨mc,h1,h2⟩:=hlim;⟨mc,nsK h1,h2⟩⟩
  have e0:aNg P w K mg (aEs s₁.heap H) callerA [] s₁ H:=⟨rfl,hM,fun b o e=>aIk e,Nat.le_of_eq (aC5 _ _),trivial,fun b hb=>absurd (show b∈([]:List Addr) from hb) (by simp),hok,.of_eq hg⟩
  refine codeAny_mono ((F _ hKb (nsK hns)).run callerA [] s₁ H ⟨[.ref a],[]⟩ [.ref a] [.ref a] _ _ hr e0 (hbind s₁ (.ref a)) (.cons rfl .nil) (hsp H hO hS)) fun r s' h=>?_
  cases r with
  | error e=>exact (hCX H e s' h).elim
  | ok fl =>
   cases fl with
   | next=>exact False.elim h
   | brk=>exact False.elim h
   | cont=>exact False.elim h
   | ret u =>
    obtain ⟨v,H',os,bare,un,hok',r',q⟩:=h
    have q':v=.bl true:=q
    subst q'
    obtain rfl:u=Value.bool true:=r'
    refine ⟨rfl,OldK.of_keep fun b o e=>?_,os,bare⟩
    cases q:H b with
    | none=>exact un.keep b o e q (by intro z;exact absurd (show b∈([]:List Addr) from z) (by simp)) (by simp)
    | some u =>
     rcases hO b with z | ⟨ob,xs,z⟩
     ·rw [q] at z;cases z
     ·have z2:=un.frzs b ob _ z
      obtain ⟨e1,_⟩:=hok b _ z
      obtain ⟨e2,_⟩:=hok' b _ z2
      rw [e] at e1;cases e1
      exact e2
 cases hk:K.lookup a with
 | some o =>
  have e:=KX a o hk
  rw [ha] at e
  cases e
  refine core (fun _=>none) (fun _=>.inl rfl) (.inr ⟨_,vs.toArray,_,hk,rfl,rfl,rfl,by rw [List.size_toArray,lenV];exact hl,by simpa using rv⟩) (fun b u z=>by have z':(none:Option HO)=some u:=z;cases z') (fun b z=>absurd rfl z) fun z=>absurd rfl z
 | none =>
  refine core (fun b=>if b=a then some (.frz { cls:=.type "list",data:=.seq vs.toArray } (.lst (ns.map V.int))) else none) (fun b=>?_) (.inl (.inr ⟨{ cls:=.type "list",data:=.seq vs.toArray },if_pos rfl⟩)) (fun b u z=>?_) (fun b z=>?_) fun _=>hk
  ·by_cases hb:b=a
   ·exact .inr ⟨_,_,if_pos hb⟩
   ·exact .inl (if_neg hb)
  ·by_cases hb:b=a
   ·have z':=(if_pos hb).symm.trans z
    cases z'
    subst hb
    exact ⟨ha,by rw [List.length_map];exact hl,vs,_,rv,ha⟩
   ·have z':=(if_neg hb).symm.trans z
    cases z'
  ·by_cases hb:b=a
   ·exact hb
   ·exact absurd (if_neg hb) z
theorem aH5 {l:PySem.W.OpenLaw} {n k:Nat} {q:Program} {loose:List Str} {XP:(Str->Option Value)->Heap->Prop} {YP:World->Heap->Prop} {d:DefRec} {K:Params->PySem.W.Frag} {CX:World->CXT} {sp:World->Sp} {x:Str}
  (hn:l.most=some n) (hn2:n<=sizeLine) (hdf:d.params.defaults=[]) (hr:Room k callerA)
  (hY:∀ (w:World) (h:Heap),YP w h->(K w.params).In h)
  (F:∀ (w:World) (mg:Str->Option Value) (fa:Addr) (h:Heap),(K w.params).In h->h.Ns mainGlobals mg->mg d.name=some (.ref fa) ->
   ∃ fd:FuncData,(∀ (s:Shared) (u:Value),BindsTo s fd ⟨[u],[]⟩ [(x,u)]) /\
    ∀ base:Heap,(K w.params).In base->base.Ns mainGlobals mg->FnOk l.prog w (K w.params) mg base (CX w) k fa fd [x] (sp w))
  (hsp:∀ (w:World) (H:Hp) (a:Addr) (ns:List Int),ns.length<=n->aN1 H->SqL (K w.params) H a (ns.map V.int)->sp w [.ref a] H (fun v _=>v=.bl true) fun _ _ _=>False)
  (hCX:∀ (w:World) (H:Hp) (s:Shared) (e:Value) (s':Shared),CX w [] H s (fun _ _ _=>False) e s'->False) :
  PySem.W.WalkO q loose XP YP l.row.toRowW d [] (fun f vs=>PySem.call f vs):=by
 refine Att.w6 hn hdf fun w s₀ s₁ mg mb fa o pm cd doc a vs ns G Y ho hd hcd hmg hobj hints hlen hg=>?_
 have KX:=hY w _ Y
 obtain ⟨fd,hb,hF⟩:=F w mg fa _ KX G.T.g hmg
 exact aFp KX G.T.g G.T.b G.T.builtins G.T.nolimit hg hobj hints (Nat.le_trans hlen hn2) hr hF hb (fun H hO hS=>hsp w H a ns hlen hO hS) fun H e s'=>hCX w H s₁ e s'
def kH (s:Stmt):Arguments:=match s with
 | .FunctionDef _ a _ _ _ _ _ _ _ _=>a
 | _=>{ posonlyargs:=[],args:=[],vararg:=none,kwonlyargs:=[],kw_defaults:=[],kwarg:=none,defaults:=[] }
def iJ (s:Stmt):List Stmt:=match s with
 | .FunctionDef _ _ b _ _ _ _ _ _ _=>b
 | _=>[]
def aT (s:Stmt):Scope:=match s with
 | .FunctionDef _ _ _ _ _ _ sc _ _ _=>sc
 | _=>{ kind:=.function,names:=[],isGenerator:=false,isCoroutine:=false }
abbrev E0:XK:=fun _ _ _=>False
structure Fun (K:PySem.W.Frag) (x qual:Str) (st:Stmt) (f:Addr) (fd:FuncData):Prop where
 ex:∃ (oc:Value) (od:Option Addr) (kV doc pm:Value) (an:Option Addr) (cdv ct:Value) (osl:Array (Option Value)),
  fd=PySem.W.fnOf x qual (kH st) (iJ st) (aT st) .none kV doc pm an cdv ct/\K.lookup f=some ⟨oc,od,.func fd,osl⟩/\PySem.W.codeIn K cdv qual=true
 kp:PySem.W.keepIn K (.ref f)=true
section
variable {P:Program} {w:World} {K:PySem.W.Frag} {mg:Str->Option Value} {base:Heap}
theorem Fun.binds {x qual:Str} {st:Stmt} {f:Addr} {fd:FuncData} {ps:List Str} (F:Fun K x qual st f fd)
  (h:∀ (kV doc pm:Value) (an:Option Addr) (cdv ct:Value) (us:List Value),us.length=ps.length->bindArgs (PySem.W.fnOf x qual (kH st) (iJ st) (aT st) .none kV doc pm an cdv ct) ⟨us,[]⟩=pure (ps.zip us)):Binds K fd ps []:=by
 obtain ⟨oc,od,kV,doc,pm,an,cdv,ct,osl,rfl,lk,hcd⟩:=F.ex
 exact .all (h kV doc pm an cdv ct)
theorem aG6 {x qual:Str} {st:Stmt} {f:Addr} {oc:Value} {od an:Option Addr} {osl:Array (Option Value)} {kV doc pm cdv ct:Value} (l:K.lookup f=some ⟨oc,od,.func (PySem.W.fnOf x qual (kH st) (iJ st) (aT st) .none kV doc pm an cdv ct),osl⟩)
  (c:PySem.W.codeIn K cdv qual=true) (k:PySem.W.keepIn K (.ref f)=true):Fun K x qual st f (PySem.W.fnOf x qual (kH st) (iJ st) (aT st) .none kV doc pm an cdv ct):=⟨⟨oc,od,kV,doc,pm,an,cdv,ct,osl,rfl,l,c⟩,k⟩
end
section
variable {X:Cx}
theorem pv (i:Nat) {x:Str} {pos:Pos} (hN:X.N[i]? = some x:=by rfl) (hv:Vis X.env.scope x:=by first | exact Or.inl rfl | exact Or.inr (Or.inl rfl) | exact Or.inr (Or.inr rfl)) (hd:(x == ("__debug__" : Str))=false:=by decide)
  (hcd:(x == ("__classdict__" : Str))=false:=by decide):PE X (.Name x pos) (aJ3 i):=aHd hN hv hd hcd
end
def Same (H H':Hp):Prop:=∀ b o,H b=some o->H' b=some o
theorem Same.refl (H:Hp):Same H H:=fun _ _ h=>h
theorem Same.trans {H H1 H2:Hp} (a:Same H H1) (b:Same H1 H2):Same H H2:=fun c o h=>b c o (a c o h)
theorem Same.free {H H':Hp} (e:Same H H') {l:Addr} (h:H' l=Option.none):H l=Option.none:=by
 cases q:H l with
 | none=>rfl
 | some o =>
  rw [e l o q] at h
  cases h
theorem Same.seq {K:PySem.W.Frag} {H H':Hp} {a:Addr} {xs:List V} (e:Same H H') (h:SqL K H a xs):SqL K H' a xs:=by
 rcases h with (h | ⟨o,h⟩) | h
 ·exact .inl (.inl (e _ _ h))
 ·exact .inl (.inr ⟨o,e _ _ h⟩)
 ·exact .inr h
section
variable {X:Cx}
end
section
variable {κ:Type} [DecidableEq κ]
end
end L2
set_option maxHeartbeats 4000000
namespace PySem.W
open PySem PySem.Spec PySem.Calls PyProof.Rows Builtin Builtin.ObjectAttr Builtin.Getset_descriptor
section
variable {prog:Program} {w:World} {A:Around} {E:Value->Shared->Prop} {K:Frag} {h:Heap} {g:Array GenState} {d:Drawn} {t:Nat} {os:OsState} {a C:Addr}
end
end PySem.W
namespace L2
open PySem PySem.Spec PyProof.Rows
structure aL3 (P:Program) (w:World) (outer:List Env) (H:Hp) (s:Shared) (ea:Addr) (cls:Value) (H':Hp) (B:Heap) (a0:Value) (s':Shared):Prop where
 os:s'.os=s.os
 bare:AllBare s'.gens
 un:Un (frs outer) [] H H' s.heap s'.heap
 hok:HOk P w H' s'.heap
 fly:Heap.FlyingW B outer ea cls a0 s'.heap
 inB:∀ b o,s'.heap.get? b=some o->(H' b≠none\/((∃ u,s.heap.get? b=some u)/\b∉frs outer))->B.get? b=some o
 new:s.heap.get? ea=none
 nt:H' ea=none
def CXr (P:Program) (w:World):CXT:=fun outer H s E e s' =>
 ∃ (ea:Addr) (cls:Value) (H':Hp) (B:Heap) (a0:Value),e=.ref ea/\aL3 P w outer H s ea cls H' B a0 s'/\E cls none H'
theorem sZ {P:Program} {w:World} {H:Hp} {h h':Heap} (ok:HOk P w H h) (k:∀ b o,H b≠none->h.get? b=some o->h'.get? b=some o):HOk P w H h':=fun a o e =>
 (ok a o e).stay (fun b u hb q=>k b u (by
  rcases hb with z | z
  ·rw [z,e];exact fun q=>nomatch q
  ·rw [z];exact fun q=>nomatch q) q) (fun _ q=>q) fun _ _ q=>q
theorem oZ {P:Program} {w:World} {H:Hp} {h:Heap} {a:Addr} {o:HO} (x:ObjOk P w H h a o):∃ ob,h.get? a=some ob:=by
 cases o with
 | lst xs=>obtain ⟨_,_,_,_,e⟩:=x;exact ⟨_,e⟩
 | tup xs=>obtain ⟨_,_,_,ob,e,_⟩:=x;exact ⟨_,e⟩
 | dK kvs=>obtain ⟨_,_,_,_,o,_,_,e,_⟩:=x;exact ⟨_,e⟩
 | dT kvs=>obtain ⟨_,_,_,_,o,_,_,e,_⟩:=x;exact ⟨_,e⟩
 | set S n=>obtain ⟨o,_,_,_,e,_⟩:=x;exact ⟨_,e⟩
 | ins C dx fs=>obtain ⟨_,_,_,e,_⟩:=x;exact ⟨_,e⟩
 | own y=>exact x
 | xd fs=>obtain ⟨_,⟨_,_,_,e,_⟩,_⟩:=x;exact ⟨_,e⟩
 | rng lo hi=>obtain ⟨_,_,_,e⟩:=x;exact ⟨_,e⟩
 | frz ob u=>obtain ⟨e,_⟩:=x;exact ⟨_,e⟩
 | tbl ps=>exact ⟨_,(show h.get? a=some _ from x)⟩
 | met f y=>exact ⟨_,(show h.get? a=some _ from x)⟩
 | ext φ=>obtain ⟨_,e,_⟩:=x;exact e
theorem HOk.there {P:Program} {w:World} {H:Hp} {h:Heap} {a:Addr} (x:HOk P w H h) (n:H a≠none):∃ ob,h.get? a=some ob:=by
 cases q:H a with
 | none=>exact absurd q n
 | some u=>exact oZ (x a u q)
section
variable {P:Program} {w:World} {K:PySem.W.Frag} {mg:Str->Option Value} {base:Heap} {N:List Str} {qual:Str} {scope:Scope} {f:Addr} {cd:Value} {A:Around} {outer:List Env} {s:Shared} {H:Hp} {E:XK}
theorem tW {env:Env} {l:List Env} {L:Addr} (h:env.frame=some L):frs (env :: l)=L :: frs l:=by
 unfold frs
 rw [List.filterMap_cons,h]
theorem yG {X:Cx} {pins:List (Addr×Obj)} {σ:St} {H1 H':Hp} {s1:Shared} {B h'':Heap} {ea:Addr} {cls a0:Value} {g':Array GenState} {d':Drawn} {t':Nat} {os':OsState}
  (I:Inv X pins σ H1 s1) (hx:X.ex=[]) (hs:X.env.locals∉frs X.outer)
  (ho:os'=X.s₀.os) (hg:AllBare g')
  (fly:Heap.FlyingW B X.outer ea cls a0 h'')
  (kp:∀ b o,s1.heap.get? b=some o->H1 b=none->b∉frs X.outer->b≠X.env.locals->B.get? b=some o)
  (sl:∀ b o,s1.heap.get? b=some o->b∈frs X.outer->∃ sl,h''.get? b=some { o with slots:=sl })
  (fr:∀ b o,s1.heap.get? b=some o->H1 b=none->H' b=none)
  (tups:∀ b xs,H1 b=some (.tup xs)->H' b=some (.tup xs)) (frzs:∀ b o u,H1 b=some (.frz o u)->H' b=some (.frz o u)) (tbls:∀ b ps,H1 b=some (.tbl ps)->∃ more,H' b=some (.tbl (ps++more)))
  (hok:HOk X.prog X.w H' h'') (inH:∀ b o,h''.get? b=some o->H' b≠none->B.get? b=some o)
  (th:∀ b o,s1.heap.get? b=some o->H1 b≠none->∃ o',h''.get? b=some o')
  (inB:∀ b o,s1.heap.get? b=some o->b∉frs X.outer->b≠X.env.locals->∃ o',B.get? b=some o')
  (new:s1.heap.get? ea=none) (nt:H' ea=none) :
  aL3 X.prog X.w X.outer X.H₀ X.s₀ ea cls H' B a0 ⟨h'',g',d',t',os'⟩:=by
 have hxn:∀ b:Addr,b∉X.ex:=fun b z=>by rw [hx] at z;cases z
 have neL:∀ b o,X.s₀.heap.get? b=some o->b≠X.env.locals:=fun b o e=>Nat.ne_of_lt (Nat.lt_of_lt_of_le (Heap.lt_size e) I.ok.above)
 have st:=fly.1
 refine ⟨ho,hg,⟨fun b o e n hb _=>?_,fun b o e n hb _=>?_,fun b o e n _=>?_,fun b o e _=>?_,fun b xs e=>tups b xs (I.base.tups b xs e),fun b o u e=>frzs b o u (I.base.frzs b o u e),fun b ps e=>?_⟩,hok,fly,fun b o e hb=>?_,?_,nt⟩
 ·exact st b o (kp b o (I.base.keep b o e n hb (hxn b)) (I.base.free b o e n (hxn b)) hb (neL b o e))
 ·obtain ⟨l1,e1⟩:=I.base.slot b o e n hb (hxn b)
  obtain ⟨l2,e2⟩:=sl b _ e1 hb
  exact ⟨l2,e2⟩
 ·obtain ⟨o1,e1⟩:=I.base.there b o e (hxn b)
  exact fr b o1 e1 (I.base.free b o e n (hxn b))
 ·obtain ⟨o1,e1⟩:=I.base.there b o e (hxn b)
  by_cases hb:b∈frs X.outer
  ·obtain ⟨l2,e2⟩:=sl b o1 e1 hb
   exact ⟨_,e2⟩
  ·obtain ⟨o2,e2⟩:=inB b o1 e1 hb (neL b o e)
   exact ⟨o2,st b o2 e2⟩
 ·obtain ⟨m1,e1⟩:=I.base.tbls b ps e
  obtain ⟨m2,e2⟩:=tbls b _ e1
  exact ⟨m1++m2,by rw [e2,Array.append_assoc]⟩
 ·rcases hb with hb | ⟨⟨u,hu⟩,hb⟩
  ·exact inH b o e hb
  ·obtain ⟨o1,e1⟩:=I.base.there b u hu (hxn b)
   obtain ⟨o2,e2⟩:=inB b o1 e1 hb (neL b u hu)
   have e3:=st b o2 e2
   have e4:h''.get? b=some o:=e
   rw [e3] at e4
   cases e4
   exact e2
 ·cases q:X.s₀.heap.get? ea with
  | none=>rfl
  | some o =>
   obtain ⟨o',e'⟩:=I.base.there ea o q (hxn ea)
   rw [new] at e'
   cases e'
theorem aOp:aLt (CXr P w) (tV (CXr P w) P w K mg base N qual scope f cd A outer s H E) E:=by
 intro pins σ H1 s1 e s1' I h
 obtain ⟨ea,cls,H',B,a0,rfl,F,want⟩:=h
 have hfr:(tV (CXr P w) P w K mg base N qual scope f cd A outer s H E).A.frames=some (envOfC qual scope s.heap.objs.size f cd :: outer):=I.ok.frames
 have hstk:frs (tV (CXr P w) P w K mg base N qual scope f cd A outer s H E).stack=s.heap.objs.size :: frs outer:=tW rfl
 have hLo:s.heap.objs.size∉frs outer:=fun z=>by
  obtain ⟨_,o,ho,_⟩:=I.ok.funs.mem z
  exact absurd (Heap.lt_size ho) (Nat.lt_irrefl _)
 have nst:∀ {b:Addr},b∉frs outer->b≠s.heap.objs.size->b∉frs (tV (CXr P w) P w K mg base N qual scope f cd A outer s H E).stack:=fun h1 h2 z=>by
  rw [hstk] at z
  rcases List.mem_cons.mp z with z | z
  ·exact h2 z
  ·exact h1 z
 show wpAny (model P w) _ (leaving _ (.ref ea)) _ _ s1'
 refine wpAny_leaves_onW hfr rfl F.fly fun h'' fl' up=>?_
 have inB':∀ b o,s1'.heap.get? b=some o->H' b≠none->h''.get? b=some o:=fun b o e n=>fl'.1 b o (F.inB b o e (.inl n))
 refine ⟨ea,cls,H',B,a0,rfl,yG (X:=tV (CXr P w) P w K mg base N qual scope f cd A outer s H E) I rfl hLo (F.os.trans I.os) F.bare fl' (fun b o e n hb hL=>?_) (fun b o e hb=>?_) (fun b o e n=>F.un.free b o e n (by simp)) F.un.tups F.un.frzs F.un.tbls
  (sZ F.hok fun b o n e=>inB' b o e n) (fun b o e n=>?_) (fun b o e n=>?_) (fun b o e hb hL=>?_) F.new F.nt,want⟩
 ·exact F.inB b o (F.un.keep b o e n (nst hb hL) (by simp)) (.inr ⟨⟨o,e⟩,nst hb hL⟩)
 ·have hb':b∈frs outer:=hb
  have n:H1 b=none:=by
   have:=I.stkFree b (by rw [hstk];exact List.mem_cons_of_mem _ hb')
   exact this
  obtain ⟨l1,e1⟩:=F.un.slot b o e n (by rw [hstk];exact List.mem_cons_of_mem _ hb') (by simp)
  obtain ⟨_,o',ho',hd'⟩:=F.fly.2.2.1.mem (b:=b) (by
   have:b∈frs (tV (CXr P w) P w K mg base N qual scope f cd A outer s H E).stack:=by rw [hstk];exact List.mem_cons_of_mem _ hb'
   exact this)
  rw [e1] at ho'
  cases ho'
  obtain ⟨l2,e2⟩:=up b _ e1 hd'
  exact ⟨l2,e2⟩
 ·obtain ⟨o1,e1⟩:=F.hok.there n
  have e2:=F.inB b o1 e1 (.inl n)
  have e3:=fl'.1 b o1 e2
  rw [e] at e3
  cases e3
  exact e2
 ·obtain ⟨o1,e1⟩:=F.un.there b o e (by simp)
  by_cases hb:b∈frs outer
  ·have hz:H1 b=none:=I.stkFree b (by rw [hstk];exact List.mem_cons_of_mem _ hb)
   exact absurd hz n
  ·by_cases hL:b=s.heap.objs.size
   ·have hz:H1 b=none:=I.stkFree b (by rw [hstk,hL];exact List.mem_cons_self)
    exact absurd hz n
   ·exact ⟨o1,fl'.1 b o1 (F.inB b o1 e1 (.inr ⟨⟨o,e⟩,nst hb hL⟩))⟩
 ·obtain ⟨o1,e1⟩:=F.un.there b o e (by simp)
  exact ⟨o1,F.inB b o1 e1 (.inr ⟨⟨o,e⟩,nst hb hL⟩)⟩
def aA4 (X:Cx) (E:XK):Prop:=∀ (pins:List (Addr×Obj)) (σ:St) (H:Hp) (s:Shared) (C:Addr) (h':Heap) (e:Addr) (vs:List Value),Inv X pins σ H s->Heap.MadeExcOf s.heap h' e (.ref C) vs->E (.ref C) none H->X.xe (.ref e) { s with heap:=h' }
theorem aIl:aA4 (tV (CXr P w) P w K mg base N qual scope f cd A outer s H E) E:=by
 intro pins σ H1 s1 C h' e vs I hx want
 have hstk:frs (tV (CXr P w) P w K mg base N qual scope f cd A outer s H E).stack=s.heap.objs.size :: frs outer:=tW rfl
 have hfr:(tV (CXr P w) P w K mg base N qual scope f cd A outer s H E).A.frames=some (envOfC qual scope s.heap.objs.size f cd :: outer):=I.ok.frames
 have hLo:s.heap.objs.size∉frs outer:=fun z=>by
  obtain ⟨_,o,ho,_⟩:=I.ok.funs.mem z
  exact absurd (Heap.lt_size ho) (Nat.lt_irrefl _)
 have st:s1.heap.FunFrames base (envOfC qual scope s.heap.objs.size f cd :: outer):=I.stack
 have fin:s1.heap.FunFrames (PySem.W.hideAll s1.heap (s.heap.objs.size :: frs outer)) (envOfC qual scope s.heap.objs.size f cd :: outer) :=
  PySem.W.funFrames_hide st fun env he a ha=>by
   rw [<- hstk]
   exact List.mem_filterMap.mpr ⟨env,he,ha⟩
 have nfr:∀ {b:Addr},H1 b≠none->b∉s.heap.objs.size :: frs outer:=fun n z=>n (I.stkFree _ (by rw [hstk];exact z))
 have nin:∀ {b:Addr},b∉frs outer->b≠s.heap.objs.size->b∉s.heap.objs.size :: frs outer:=fun h1 h2 z=>(List.mem_cons.mp z).elim h2 h1
 show wpAny (model P w) _ (leaving _ (.ref e)) _ _ { s1 with heap:=h' }
 refine wpAny_leaves_madeW (base:=PySem.W.hideAll s1.heap (s.heap.objs.size :: frs outer)) (h:=s1.heap) hfr rfl (fun b o q=>PySem.W.of_hideAll _ q) fin hx fun h'' t fl _ _ up=>?_
 refine ⟨e,.ref C,H1,_,.ref t,rfl,yG (X:=tV (CXr P w) P w K mg base N qual scope f cd A outer s H E) I rfl hLo I.os I.bare fl (fun b o q n hb hL=>PySem.W.hideAll_get _ q (nin hb hL)) (fun b o q hb=>?_) (fun _ _ _ n=>n) (fun _ _ q=>q) (fun _ _ _ q=>q)
  (fun b ps q=>⟨#[],by rw [q];simp⟩) (sZ I.hok fun b o n q=>fl.1 b o (PySem.W.hideAll_get _ q (nfr n))) (fun b o q n=>?_) (fun b o q n=>⟨o,fl.1 b o (PySem.W.hideAll_get _ q (nfr n))⟩) (fun b o q hb hL=>⟨o,PySem.W.hideAll_get _ q (nin hb hL)⟩) hx.new ?_,want⟩
 ·obtain ⟨_,o',ho',hd'⟩:=st.mem (b:=b) (by
   have:b∈frs (envOfC qual scope s.heap.objs.size f cd :: outer):=by
    rw [tW rfl]
    exact List.mem_cons_of_mem _ hb
   exact this)
  rw [q] at ho'
  cases ho'
  exact up b o (hx.keeps b o q) hd'
 ·obtain ⟨o1,e1⟩:=I.hok.there n
  have e2:=PySem.W.hideAll_get _ e1 (nfr n)
  have e3:=fl.1 b o1 e2
  rw [q] at e3
  cases e3
  exact e2
 ·cases q:H1 e with
  | none=>rfl
  | some u =>
   obtain ⟨ob,eo⟩:=oZ (I.hok e u q)
   rw [hx.new] at eo
   cases eo
end
section
variable {X:Cx} {E:XK}
def aMa (C:Addr) (E:XK) (t:TA):TS:=fun _ σ H=>t σ H fun vs H1=>vs.length<=sizeLine/\E (.ref C) none H1
theorem aE9 {x:Str} {e₀:Expr} {rest:List Expr} {t:TA} {C:Addr} {bm:List Value} {B newId initId:String} {np cpos pos:Pos} (hx:aA4 X E) (hc:X.calm=true) (hg:Gl X x) (O:OwnCls x C bm newId X.mg X.base)
  (FB:ExcBaseFacts B newId initId bm) (ha:PA X (e₀ :: rest) t) (hdb:(x == ("__debug__" : Str))=false:=by decide)
  (he:starEach (e₀ :: rest) X.env=(false,eval e₀ X.env) :: starEach rest X.env:=by rfl) (hpl:(backTo cpos (starEach rest X.env)).any (·.1)=false:=by rfl) :
  PS X (.Raise (some (.Call (.Name x np) (e₀ :: rest) [] cpos)) none pos) (aMa C E t):=by
 intro pins s σ H D I h
 obtain ⟨tl,NN,nm,qn,bs,hdc,sn,sb,ab,cl,dd,z0,z1,z2,z3,z5,mN,hC,hN,hni,T⟩:=O.obj
 have hp:(backTo cpos (starEach (e₀ :: rest) X.env)).any (·.1)=false:=by
  rw [he]
  show (false || (backTo cpos (starEach rest X.env)).any (·.1))=false
  rw [hpl]
  all_goals rfl
 have h2:=ha cpos pins s σ H _ I h
 refine wpAny_Raise_call_subT (bm:=tl) (N:=NN) (nm:=nm) (q:=qn) (bs:=bs) (hdct:=hdc) (sn:=sn) (sub:=sb) (ab:=ab) (col:=cl) (dd:=dd) (k0:=z0) (k1:=z1) (k2:=z2) (k3:=z3) (k5:=z5) FB (T.hasType FB.hasBase) (I.ok.hd hc) hp hni
  (aDr I hg O.bound ⟨rfl,?_⟩ hdb)
 rw [he] at h2 ⊢
 refine Calls.evalArgs_plain (thn h2 fun us s2 ⟨vs,H1,I1,r,z,w'⟩=>?_)
 exact ⟨rfl,by rw [<- r.length];exact z,I1.bk _ _ hC,hN.keeps I1.bk,T.keeps I1.bk,fun h' e hm=>hx pins σ H1 s2 C h' e us I1 hm w'⟩
end
def pM (CX:CXT) (X:Cx) (E:St->XK):Prop:=∀ (pins:List (Addr×Obj)) (σ:St) (H:Hp) (s:Shared) (e:Value) (s':Shared),Inv X pins σ H s->CX X.stack H s (E σ) e s'->X.xe e s'
def aMd (sp:Sp) (E:St->XK) (t:TA):TE:=fun σ H Q=>t σ H fun vs H1=>sp vs H1 Q (E σ)
section
variable {X:Cx} {CX:CXT} {k:Nat} {f:Addr} {fd:FuncData} {ps:List Str} {sp:Sp} {E:St->XK} {x:Str} {p pos:Pos} {e:Expr} {es:List Expr} {t:TA}
theorem aF4 (F:FnOk X.prog X.w X.K X.mg X.base CX k f fd ps sp) (hr:Room k X.A) (hg:Gl X x) (hm:X.mg x=some (.ref f)) (hk:PySem.W.keepIn X.K (.ref f)=true) (hb:Binds X.K fd ps []) (hx:pM CX X E)
  (ha:PA X (e :: es) t) (hdb:(x == ("__debug__" : Str))=false:=by decide) (he:starEach (e :: es) X.env=(false,eval e X.env) :: starEach es X.env:=by rfl) (hpl:(backTo pos (starEach es X.env)).any (·.1)=false:=by rfl) :
  PE X (.Call (.Name x p) (e :: es) [] pos) (aMd sp E t):=by
 intro pins s σ H Q I h
 refine wpAny_Call_Name_kw (aDr I hg hm ?_ hdb)
 refine PySem.W.callWith_K (h₀:=X.base) I.ok.mod.kin hk (thn (ha pos pins s σ H _ I h) fun us s1 ⟨vs,H1,I1,r,q⟩=>⟨I1.kIn,?_⟩) he hpl
 have hl:us.length=ps.length:=by rw [<- r.length];exact F.len _ _ _ _ q
 have hb':=hb s1 us I1.kIn (by rw [List.append_nil];exact hl)
 rw [List.append_nil] at hb'
 refine wpAny_call (codeAny_mono (F.run X.A X.stack s1 H1 ⟨us,[]⟩ us vs Q (E σ) hr I1.env0 hb' r q) fun rr s' hq=>?_)
 cases rr with
 | error e'=>exact hx pins σ H1 s1 e' s' I1 hq
 | ok fl =>
  cases fl with
  | ret u=>exact I1.after hq
  | next=>exact False.elim hq
  | brk=>exact False.elim hq
  | cont=>exact False.elim hq
end
section
variable {X:Cx} {k:Nat} {f:Addr} {fd:FuncData} {ps:List Str} {sp:Sp} {x:Str} {p pos:Pos} {e:Expr} {es:List Expr} {t:TA}
end
def aNe (e:Addr) (cls:Value):HO:=.ext fun h=>∃ o,h.get? e=some o/\o.cls=cls/\∃ vs,o.data=.fields vs
abbrev cT (X:Cx) (scope:Scope) (cl:List (Str×Addr)) (C:Addr) (N:List Str) (s₀:Shared) (H₀:Hp) (ex:List Addr) (pn:List (Addr×Obj)):Cx :=
 { X with env:=compEnvC scope cl C X.env,N:=N,s₀:=s₀,H₀:=H₀,outer:=X.stack,stack:=X.stack,ex:=ex,fn:=fun _=>false,pn:=pn,xe:=fun _ _=>False }
structure aH6 (X:Cx) (scope:Scope) (cl:List (Str×Addr)):Prop where
 clos:closureFor scope X.env=pure cl
 sub:∀ y c,cl.lookup y=some c->X.env.cells.lookup y=some c
 has:∀ y,(relabel scope X.env).names.lookup y=some .cell\/(relabel scope X.env).names.lookup y=some .free->∃ c,cl.lookup y=some c
def yD (js:List Nat) (σ:St):St:=js.map fun j=>(σ[j]?).getD none
structure qR (X:Cx) (scope:Scope) (cl:List (Str×Addr)) (ys:List Str) (js:List Nat):Prop where
 len:ys.length=js.length
 at_:∀ (i:Nat) (y:Str) (j:Nat),ys[i]? = some y->js[i]? = some j->X.N[j]? = some y/\(X.env.kindOf y=some .cell\/X.env.kindOf y=some .free)/\((relabel scope X.env).names.lookup y=some .cell\/(relabel scope X.env).names.lookup y=some .free)/\(X.env.cells.lookup y).isSome=true/\cl.lookup y=X.env.cells.lookup y
section
variable {X:Cx}
end
def Sz (n:Nat) (x:Int):Prop:=x.natAbs < 2 ^ n
theorem Sz.mono {m n:Nat} {x:Int} (h:Sz m x) (l:m<=n):Sz n x:=Nat.lt_of_lt_of_le h (Nat.pow_le_pow_right (by decide) l)
theorem Sz.mul {m n:Nat} {x y:Int} (hx:Sz m x) (hy:Sz n y):Sz (m+n) (x*y):=by
 unfold Sz at *
 rw [Int.natAbs_mul,Nat.pow_add]
 exact Nat.mul_lt_mul'' hx hy
theorem Sz.add {n:Nat} {x y:Int} (hx:Sz n x) (hy:Sz n y):Sz (n+1) (x+y):=by
 unfold Sz at *
 have:=Int.natAbs_add_le x y
 rw [Nat.pow_succ]
 omega
theorem Sz.neg {n:Nat} {x:Int} (hx:Sz n x):Sz n (-x):=by
 unfold Sz at *
 rw [Int.natAbs_neg]
 exact hx
theorem Sz.sub {n:Nat} {x y:Int} (hx:Sz n x) (hy:Sz n y):Sz (n+1) (x - y):=by
 have:=Sz.add hx hy.neg
 rwa [Int.sub_eq_add_neg]
theorem Sz.le {n:Nat} {x y:Int} (hy:Sz n y) (h:x.natAbs<=y.natAbs):Sz n x:=Nat.lt_of_le_of_lt h hy
def CMulW (i j:Int):Prop:=Sz 60000 i/\Sz 60000 j
theorem CMulW.ok {i j:Int} (h:CMulW i j):IntMulOk i j:=.of_le (intBits_le_iff.mpr h.1) (intBits_le_iff.mpr h.2) (by decide)
def iG (i j:Int):Prop:=j≠0/\Sz 8000 j
section
variable {X:Cx}
theorem aS:OpR X (binaryOp .Mult) (rI CMulW fun i j=>.int (i*j)):=opI fun _ _ _ _ _ _ _ hc q=>mul_int q hc.ok
theorem log2_small {n:Nat} (h:n < 2 ^ 8000):n.log2 < 9000:=by
 by_cases z:n=0
 ·rw [z];decide
 ·have:n.log2 < 8000:=(Nat.log2_lt z).mpr h
  omega
theorem bH:OpR X (binaryOp .FloorDiv) (rI iG fun i j=>.int (i.fdiv j)):=opI fun _ _ _ _ _ _ _ hc q=>floordiv_int hc.1 q (.inl (PyProof.noPylong_of_log2 (log2_small hc.2)))
end
theorem Fun.okX {P:Program} {w:World} {K:PySem.W.Frag} {mg:Str->Option Value} {base:Heap} {x qual:Str} {st:Stmt} {f:Addr} {fd:FuncData} {N ps:List Str} {k:Nat} {sp:Sp} (F:Fun K x qual st f fd) (S:bC N ps (aT st)) (len:∀ vs H Q E,sp vs H Q E->vs.length=ps.length)
  (hbody:∀ (cdv:Value) (A:Around) (outer:List Env) (s:Shared) (H:Hp) (vs:List V) (Q:VK) (E:XK),Room k (A.deeper (envOfC qual (aT st) s.heap.objs.size f cdv))->sp vs H Q E ->
   ∃ t,PSs (tV (CXr P w) P w K mg base N qual (aT st) f cdv A outer s H E) (iJ st) t/\t { nx:=fun _ H'=>Q .non H',rt:=Q } (start N vs) H):FnOk P w K mg base (CXr P w) (k+1) f fd ps sp:=by
 obtain ⟨oc,od,kV,doc,pm,an,cdv,ct,osl,rfl,lk,hcd⟩:=F.ex
 exact aPn lk hcd S len fun A outer s H vs Q E hr hsp=>hbody cdv A outer s H vs Q E hr hsp
theorem Same.upd {H H':Hp} {p:Addr} (h:Same H H') (hp:H' p=none) (o:HO):Same H (upd H' p o):=fun b u q=>by
 have:=h b u q
 rw [cI (dS this hp)]
 exact this
end L2
namespace FR
theorem xS {a b:Int} (ha:0<=a) (hb:0<=b):Int.gcd b (a % b)=Int.gcd a b:=by
 obtain ⟨m,rfl⟩:=Int.eq_ofNat_of_zero_le ha
 obtain ⟨n,rfl⟩:=Int.eq_ofNat_of_zero_le hb
 rw [<- Int.natCast_emod,Int.gcd_natCast_natCast,Int.gcd_natCast_natCast,Nat.gcd_comm n,<- Nat.gcd_rec,Nat.gcd_comm]
theorem aDf (a b:Int):Int.gcd (if a < 0 then -a else a) (if b < 0 then -b else b)=Int.gcd a b:=by
 split<;>split<;>simp [Int.gcd_neg,Int.neg_gcd]
theorem aA8 {a:Int} (ha:0<=a):((Int.gcd a 0:Nat):Int)=a:=by
 rw [Int.gcd_zero_right]
 omega
def sgn (b:Int) (g:Int):Int:=if b < 0 then -g else g
def mk (t b:Int):Int×Int:=(t.fdiv (sgn b (Int.gcd t b)),b.fdiv (sgn b (Int.gcd t b)))
theorem wB {t b:Int} (hb:b≠0):0 < Int.gcd t b:=Int.gcd_pos_of_ne_zero_right t hb
theorem parts (t b:Int) (hb:b≠0):∃ t' b':Int,t=(Int.gcd t b:Int)*t'/\b=(Int.gcd t b:Int)*b'/\Int.gcd t' b'=1:=by
 obtain ⟨t',ht⟩:=Int.gcd_dvd_left t b
 obtain ⟨b',hb'⟩:=Int.gcd_dvd_right t b
 refine ⟨t',b',ht,hb',?_⟩
 have g0:=wB (t:=t) hb
 have e:Int.gcd t b=Int.gcd t b*Int.gcd t' b':=by
  have h:Int.gcd ((Int.gcd t b:Int)*t') ((Int.gcd t b:Int)*b')=(Int.gcd t b:Int).natAbs*Int.gcd t' b':=Int.gcd_mul_left ..
  rw [<- ht,<- hb'] at h
  simpa using h
 have e2:Int.gcd t b*1=Int.gcd t b*Int.gcd t' b':=by omega
 exact (Nat.eq_of_mul_eq_mul_left g0 e2).symm
theorem aF8 {t b g t' b':Int} (g0:0 < g) (ht:t=g*t') (hb:b=g*b'):(t.fdiv (sgn b g)=(if b < 0 then -t' else t'))/\(b.fdiv (sgn b g)=if b < 0 then -b' else b'):=by
 unfold sgn
 by_cases h:b < 0
 ·rw [if_pos h,if_pos h,if_pos h]
  have e1:t=(-g)*(-t'):=by rw [ht,Int.neg_mul_neg]
  have e2:b=(-g)*(-b'):=by rw [hb,Int.neg_mul_neg]
  constructor
  ·conv=>lhs;rw [e1]
   exact Int.mul_fdiv_cancel_left _ (by omega)
  ·conv=>lhs;rw [e2]
   exact Int.mul_fdiv_cancel_left _ (by omega)
 ·rw [if_neg h,if_neg h,if_neg h]
  constructor
  ·conv=>lhs;rw [ht]
   exact Int.mul_fdiv_cancel_left _ (by omega)
  ·conv=>lhs;rw [hb]
   exact Int.mul_fdiv_cancel_left _ (by omega)
structure Fr (f:Int×Int):Prop where
 pos:1<=f.2
 low:Int.gcd f.1 f.2=1
theorem mP {t b:Int} (hb:b≠0):Fr (mk t b)/\(mk t b).1*b=t*(mk t b).2:=by
 obtain ⟨t',b',e1,e2,e3⟩:=parts t b hb
 have g0:(0:Int) < (Int.gcd t b:Int):=by have:=wB (t:=t) hb;omega
 obtain ⟨p1,p2⟩:=aF8 g0 e1 e2
 have q1:(mk t b).1=if b < 0 then -t' else t':=p1
 have q2:(mk t b).2=if b < 0 then -b' else b':=p2
 have hs:b < 0↔b' < 0:=by
  constructor
  ·intro h
   rcases Int.lt_or_le b' 0 with z | z
   ·exact z
   ·have:=Int.mul_nonneg (Int.le_of_lt g0) z
    omega
  ·intro h
   have:=Int.mul_neg_of_pos_of_neg g0 h
   omega
 have hb':b'≠0:=by
  rintro rfl
  rw [Int.mul_zero] at e2
  exact hb e2
 refine ⟨⟨?_,?_⟩,?_⟩
 ·rw [q2]
  split
  ·rename_i h
   have:=hs.mp h
   omega
  ·rename_i h
   have:¬ b' < 0:=fun z=>h (hs.mpr z)
   omega
 ·rw [q1,q2]
  split
  ·rw [Int.gcd_neg,Int.neg_gcd,e3]
  ·exact e3
 ·rw [q1,q2]
  generalize hg:(Int.gcd t b:Int)=g at *
  rw [e1,e2]
  split
  ·rw [Int.neg_mul,Int.mul_neg,Int.mul_left_comm,Int.mul_assoc]
  ·rw [Int.mul_left_comm,Int.mul_assoc]
end FR
namespace L2
open PySem PySem.Spec PyProof.Rows
theorem aCq {h h':Heap} {o:Obj} (hk:∀ b x,b∉[h.objs.size]->(h.push o).get? b=some x->h'.get? b=some x):∀ b x,h.get? b=some x->h'.get? b=some x:=fun b x e =>
 hk b x (fun m=>Nat.lt_irrefl _ (List.mem_singleton.mp m▸Heap.lt_size e)) (Heap.get?_push_of_some _ e)
section
variable {X:Cx}
def aPs (K:PySem.W.Frag):List V->Hp->VK->Prop:=fun xs H Q=>∃ (a:Addr) (bs:List Bool),xs=[.ref a]/\SqL K H a (bs.map V.bl)/\Q (.bl (bs.any id)) H
theorem aBs:∀ {bs:List Bool} {us:List Value},Vals (bs.map V.bl) us->us=bs.map Value.bool
 | [],_,.nil=>rfl
 | _ :: _,_,.cons r t=>by
  have e:_=Value.bool _:=r
  rw [e,aBs t];rfl
theorem any_range (bs:List Bool):((List.range bs.length).any fun i=>(bs[i]?).getD false)=bs.any id:=by
 rw [Bool.eq_iff_iff,List.any_eq_true,List.any_eq_true]
 constructor
 ·rintro ⟨i,hi,e⟩
  have hi:=List.mem_range.mp hi
  exact ⟨bs[i],List.getElem_mem hi,by simpa [hi] using e⟩
 ·rintro ⟨b,hb,e⟩
  obtain ⟨i,hi,e2⟩:=List.mem_iff_getElem.mp hb
  exact ⟨i,List.mem_range.mpr hi,by simp [hi,e2];simpa using e⟩
theorem aF1 (hc:X.calm=true) {K:PySem.W.Frag} (hK:X.K=K):qD X (.builtin "any") (aPs K):=by
 subst hK
 intro pins s σ H xs us Q I r h
 obtain ⟨a,bs,rfl,hq,q⟩:=h
 obtain ⟨u,rfl,ru⟩:=vals1 r
 cases ru
 obtain ⟨its,rv,p,hz⟩:=I.list hq
 have ei:=aBs rv
 have hl:=p.isList
 have lt:a < s.heap.objs.size:=by obtain ⟨_,e,_⟩:=hl;exact Heap.lt_size e
 refine call_any_walk (wpAny_pyIter_list hl ?_)
 refine ⟨s.heap.objs.size,[s.heap.objs.size,a],[s.heap.objs.size],its.toArray.size,_,_,fun i=>(bs[i]?).getD false,rfl,Walks.list (A:=X.A.in1) (I.ok.hd hc) _ a (Nat.ne_of_lt lt) its.toArray,
  ⟨⟨_,Heap.get?_push_size _ rfl,rfl,rfl⟩,hl.push _⟩,fun i v s' Q' E' hP hQ=>?_,fun h' tk hk=>?_⟩
 ·have e:its[i]? = some v:=by simpa using hP
  rw [ei,List.getElem?_map] at e
  cases eb:bs[i]? with
  | none=>rw [eb] at e;cases e
  | some b =>
   have hQ:Q' ((bs[i]?).getD false) s':=hQ
   rw [eb] at e hQ
   cases e
   exact wpAny_truthy_bool hQ
 ·have e:its.toArray.size=bs.length:=by rw [List.size_toArray,ei,List.length_map]
  rw [e,any_range]
  exact ⟨.bl (bs.any id),H,I.kept (aCq hk),rfl,q⟩
end
open PySem.W (Dat kqdP kqdPs kqdOk kqd_lay kqd_eqv)
mutual
inductive HasD (H:Hp):V->Dat->Prop
 | int (i:Int):HasD H (.int i) (.int i)
 | tup {a:Addr} {xs:List V} {ds:List Dat}:H a=some (.tup xs)->HasDs H xs ds->HasD H (.ref a) (.tuple ds)
 | lst {a:Addr} {xs:List V} {ds:List Dat}:H a=some (.lst xs)->HasDs H xs ds->HasD H (.ref a) (.list ds)
inductive HasDs (H:Hp):List V->List Dat->Prop
 | nil:HasDs H [] []
 | cons {x:V} {xs:List V} {d:Dat} {ds:List Dat}:HasD H x d->HasDs H xs ds->HasDs H (x :: xs) (d :: ds)
end
mutual
theorem HasD.keep {H H':Hp} (k:∀ a o,H a=some o->H' a=some o):∀ {v:V} {d:Dat},HasD H v d->HasD H' v d
 | _,_,.int i=>.int i
 | _,_,.tup h r=>.tup (k _ _ h) (HasDs.keep k r)
 | _,_,.lst h r=>.lst (k _ _ h) (HasDs.keep k r)
theorem HasDs.keep {H H':Hp} (k:∀ a o,H a=some o->H' a=some o):∀ {v:List V} {d:List Dat},HasDs H v d->HasDs H' v d
 | _,_,.nil=>.nil
 | _,_,.cons h r=>.cons (HasD.keep k h) (HasDs.keep k r)
end
mutual
theorem HasD.reads {P:Program} {w:World} {H:Hp} {h:Heap} (ok:HOk P w H h):∀ {v:V} {d:Dat},HasD H v d->∀ {u:Value},RelV v u->∃ as,Reads h u (kqdP d) as
 | _,_,.int i,_,⟨t,e⟩=>by subst e;exact ⟨_,Reads.int i t⟩
 | _,_,.tup hh r,_,e=>by
  have e:_=Value.ref _:=e
  subst e
  obtain ⟨_,its,rv,o,ho,hc,n,hd⟩:=(show ObjOk P w H h _ _ from ok _ _ hh)
  obtain ⟨as,q⟩:=HasDs.reads ok r rv
  rw [kqdP]
  exact ⟨as,reads_tuple_at ho hc hd (by simpa using q)⟩
 | _,_,.lst hh r,_,e=>by
  have e:_=Value.ref _:=e
  subst e
  obtain ⟨_,its,n,rv,ho⟩:=(show ObjOk P w H h _ _ from ok _ _ hh)
  obtain ⟨as,q⟩:=HasDs.reads ok r rv
  rw [kqdP]
  exact ⟨_,reads_list_at ho rfl rfl (by simpa using q)⟩
theorem HasDs.reads {P:Program} {w:World} {H:Hp} {h:Heap} (ok:HOk P w H h):∀ {vs:List V} {ds:List Dat},HasDs H vs ds->∀ {us:List Value},Vals vs us->∃ as,ReadsAll h us (kqdPs ds) as
 | _,_,.nil,_,.nil=>⟨_,ReadsAll.nil⟩
 | _,_,.cons hd r,_,.cons rv rt=>by
  obtain ⟨as,q⟩:=HasD.reads ok hd rv
  obtain ⟨bs,p⟩:=HasDs.reads ok r rt
  rw [kqdPs]
  exact ⟨_,ReadsAll.cons q p⟩
end
section
variable {X:Cx}
end
def RawD (h:Heap) (d:Addr) (es:Array DictEntry) (ep:Nat):Prop:=∃ o,h.get? d=some o/\o.ExactDict/\o.data=.dict es ep
theorem RawD.at {h h':Heap} {d:Addr} {es:Array DictEntry} {ep:Nat} (x:RawD h d es ep) (k:∀ o,h.get? d=some o->h'.get? d=some o):RawD h' d es ep:=let ⟨o,ho,r⟩:=x;⟨o,k o ho,r⟩
theorem RawD.lt {h:Heap} {d:Addr} {es:Array DictEntry} {ep:Nat} (x:RawD h d es ep):d < h.objs.size:=let ⟨_,ho,_⟩:=x;Heap.lt_size ho
theorem RawD.ty {s:Shared} {d:Addr} {es:Array DictEntry} {ep:Nat} (x:RawD s.heap d es ep):s.TypeIs (.ref d) "dict":=let ⟨o,ho,hc,_⟩:=x;⟨o,ho,hc.1⟩
section
variable {prog:Program} {w:World} {A:Around} {E:Value->Shared->Prop} {s:Shared} {d it:Addr} {es:Array DictEntry} {ep i:Nat}
theorem aFc {Q:Value->Shared->Prop} (hd:(d == sysModules)=false) (hm:RawD s.heap d es ep)
  (q:Q (.ref s.heap.objs.size) { s with heap:=s.heap.push { cls:=.type "dict_keyiterator",data:=.fields #[.ref d,.int 0 0,.int es.size 0,.int ep 0] } }):wpAny (model prog w) A (pyIter (.ref d)) Q E s:=by
 have ty:=hm.ty
 obtain ⟨o,ho,hc,hdat⟩:=hm
 refine wpAny_pyIter_slot ty F.slot_dict_iter (wpAny_call_entry F.slot_dict_iter ty F.entry_dict_iter ?_ (F.args_dict_iter_1 _))
 unfold Builtin.«dict.__iter__» Builtin.Dict.dictSlotNone
 refine wpAny_bind (wpAny_bind (wpAny_notOrdered_dict ty (wpAny_pure ?_)))
 unfold Builtin.Dict.showsAll
 refine wpAny_bind (m:=Builtin.Dict.addrOf (Value.ref d)) (wpAny_pure ?_)
 rw [if_neg (by rw [hd];exact Bool.false_ne_true)]
 refine wpAny_bind (wpAny_pure (wpAny_bind (wpAny_dictEntries ho hdat (wpAny_bind (wpAny_dictEpoch ho hdat ?_)))))
 exact wpAny_bind (wpAny_newObj_type (wpAny_pure ⟨_,rfl,_,_,⟨_,Heap.get?_push_size _ rfl,rfl⟩,F.slot_dict_keyiterator_next.lookup,q⟩))
theorem aE4 {Q:Option Value->Shared->Prop} (hit:s.heap.IsKeyIter it d i es.size ep) (hm:RawD s.heap d es ep) (lt:i < es.size)
  (q:∀ h',h'.IsKeyIter it d (i+1) es.size ep->Heap.SameBut it s.heap h'->Q (some es[i].key) { s with heap:=h' }):wpAny (model prog w) A (pyNext (.ref it)) Q E s:=by
 have ty:=hit.typeIs
 obtain ⟨o,ho,hc,hd⟩:=hit
 obtain ⟨od,hod,_,hdd⟩:=hm
 have own:Builtin.Dict_items.ownsTuple "dict_keyiterator" = false:=by decide
 have nn:¬ ((i:Int) < 0):=Int.not_lt.mpr (Int.natCast_nonneg i)
 unfold pyNext
 refine wpAny_bind (wpAny_attempt (wpAny_callSpecial?_slot (name:=Str.ofString "__next__") ty F.slot_dict_keyiterator_next (wpAny_call_entry F.slot_dict_keyiterator_next ty F.entry_dict_keyiterator_next ?_ (F.args_dict_keyiterator_next_1 _))))
 refine wpAny_bind (wpAny_pure (wpAny_bind (wpAny_bind ?_)))
 first | refine wpAny_bind (wpAny_typeNameOfWhole_keyiter ty (wpAny_pure ?_)) | refine wpAny_bind (wpAny_typeNameOf_keyiter ty (wpAny_pure ?_))
 refine wpAny_bind (wpAny_fieldsOf ho hd ?_)
 simp only [own,Bool.false_eq_true,if_false]
 show wpAny _ _ (if (Value.ref d == Value.none)=true then _ else _) _ _ s
 rw [if_neg (by intro z;cases z)]
 refine wpAny_bind (wpAny_pure (wpAny_bind (wpAny_dictEntries hod hdd ?_)))
 rw [if_neg (by simp)]
 refine wpAny_bind (wpAny_pure (wpAny_bind (wpAny_dictEpoch hod hdd ?_)))
 rw [if_neg (by simp)]
 refine wpAny_pure ?_
 simp only [nn,if_false,Int.toNat_natCast,Array.getElem?_eq_getElem lt]
 refine wpAny_bind ?_
 first | refine wpAny_bind (wpAny_typeNameOfWhole_keyiter ty (wpAny_pure ?_)) | refine wpAny_bind (wpAny_typeNameOf_keyiter ty (wpAny_pure ?_))
 refine wpAny_bind (wpAny_isOneOf_keyiter ty ?_)
 refine wpAny_bind (m:=setField (.ref it) 1 (rawInt ((i:Int)+1))) (wpAny_setField ho hd (by simp) ?_)
 have hit':(s.heap.update it (Obj.mapFields (·.setIfInBounds 1 (rawInt ((i:Int)+1))))).IsKeyIter it d (i+1) es.size ep :=
  ⟨_,Heap.get?_update_self _ ho (Obj.isFreed_of_fields (Obj.data_mapFields hd _)),(Obj.cls_mapFields ..).trans hc,(Obj.data_mapFields hd _).trans (by simp [rawInt])⟩
 refine wpAny_bind (wpAny_holding (wpAny_bind (wpAny_isOneOf_keyiter (s:={ s with heap:=s.heap.update it (Obj.mapFields (·.setIfInBounds 1 (rawInt ((i:Int)+1)))) }) hit'.typeIs ?_)))
 exact wpAny_pure (wpAny_pure ⟨_,rfl,wpAny_pure (q _ hit' (Heap.SameBut.update ..))⟩)
theorem aIp {Q:Option Value->Shared->Prop} (hh:A.handled=none) (hit:s.heap.IsKeyIter it d es.size es.size ep) (hm:RawD s.heap d es ep) (q:∀ h',Heap.ExtBut it s.heap h'->Q none { s with heap:=h' }):wpAny (model prog w) A (pyNext (.ref it)) Q E s:=by
 have ty:=hit.typeIs
 obtain ⟨o,ho,hc,hd⟩:=hit
 obtain ⟨od,hod,_,hdd⟩:=hm
 have own:Builtin.Dict_items.ownsTuple "dict_keyiterator" = false:=by decide
 have nn:¬ ((es.size:Int) < 0):=Int.not_lt.mpr (Int.natCast_nonneg _)
 unfold pyNext
 refine wpAny_bind (wpAny_attempt (wpAny_callSpecial?_slot (name:=Str.ofString "__next__") ty F.slot_dict_keyiterator_next (wpAny_call_entry F.slot_dict_keyiterator_next ty F.entry_dict_keyiterator_next ?_ (F.args_dict_keyiterator_next_1 _))))
 refine wpAny_bind (wpAny_pure (wpAny_bind (wpAny_bind ?_)))
 first | refine wpAny_bind (wpAny_typeNameOfWhole_keyiter ty (wpAny_pure ?_)) | refine wpAny_bind (wpAny_typeNameOf_keyiter ty (wpAny_pure ?_))
 refine wpAny_bind (wpAny_fieldsOf ho hd ?_)
 simp only [own,Bool.false_eq_true,if_false]
 show wpAny _ _ (if (Value.ref d == Value.none)=true then _ else _) _ _ s
 rw [if_neg (by intro z;cases z)]
 refine wpAny_bind (wpAny_pure (wpAny_bind (wpAny_dictEntries hod hdd ?_)))
 rw [if_neg (by simp)]
 refine wpAny_bind (wpAny_pure (wpAny_bind (wpAny_dictEpoch hod hdd ?_)))
 rw [if_neg (by simp)]
 refine wpAny_pure ?_
 simp only [nn,if_false,Int.toNat_natCast,Array.getElem?_eq_none (Nat.le_refl es.size)]
 refine wpAny_bind ?_
 first | refine wpAny_bind (wpAny_typeNameOfWhole_keyiter ty (wpAny_pure ?_)) | refine wpAny_bind (wpAny_typeNameOf_keyiter ty (wpAny_pure ?_))
 refine wpAny_bind (m:=setField (.ref it) 0 .none) (wpAny_setField ho hd (by simp) ?_)
 refine wpAny_bind (m:=newExc (.type "StopIteration") []) ?_
 simp only [newExc,newTuple]
 refine wpAny_bind (wpAny_newObj_type (wpAny_bind (m:=firstArgMember _ _) (wpAny_of_eq (a:=Value.none) (by first | rfl | (simp only [firstArgMember];rfl)) ?_)) (by size_fits))
 refine wpAny_newObj_type ?_ (by size_fits)
 simp only [raiseNew]
 refine wpAny_bind (wpAny_handled ?_)
 rw [show A.in1.handled=none from hh]
 refine wpAny_bind (wpAny_pure (wpAny_throw ?_))
 refine wpAny_bind (wpAny_isInstance (T:="StopIteration") (b:=true) ⟨_,Heap.get?_push_size _ rfl,rfl⟩ isSubtype_stop ?_)
 exact wpAny_pure (q _ (((Heap.SameBut.update ..).extBut.push _).push _))
theorem aDj (hh:A.handled=none) (I d:Addr) (hne:d≠I) (es:Array DictEntry) (ep:Nat) :
  Walks prog w A I [I,d] [I] es.size (fun i v=>∃ e,es[i]? = some e/\v=e.key) (fun i h=>h.IsKeyIter I d i es.size ep/\RawD h d es ep) where
 sub:=fun b hb=>List.mem_cons.mpr (.inl (List.mem_singleton.mp hb))
 frame:=fun _ _ _ st hk=>⟨st.1.at fun o e=>hk I (by simp) o e,st.2.at fun o e=>hk d (by simp) o e⟩
 item:=fun i s Q E hi st hQ=>aE4 st.1 st.2 hi fun h' hit' sb=>hQ _ h' s.toks ⟨es[i],by simp [hi],rfl⟩ ⟨hit',st.2.at fun o e=>(sb.2 d hne).trans e⟩ fun b o hb e=>(sb.2 b fun z=>hb (by simp [z])).trans e
 done:=fun s Q E st hQ=>aIp hh st.1 st.2 fun h' he'=>hQ h' s.toks fun b o hb e=>he' b o (fun z=>hb (by simp [z])) e
 self:=fun _ _ _ _ st hQ=>wpAny_pyIter_keyiter st.1 hQ
theorem aJx (lo:(d == sysModules)=false):PySem.W.KdlSrc prog w "dict" d d es.size (fun i v=>∃ e,es[i]? = some e/\v=e.key) (fun h=>RawD h d es ep) where
 type:=fun _ hm=>hm.ty
 there:=fun _ hm=>⟨hm.lt,hm.lt⟩
 keep:=fun _ _ hm hk=>hm.at fun o e=>hk d (.inl rfl) o e
 notList:=by decide
 notTuple:=by decide
 hint:=fun _ _ _ _ hm hq=>PySem.W.kdl_hint_dict hm.ty hq
 iter:=fun _ _ hh hm=>⟨_,_,(fun _ _ hq=>aFc lo hm hq),aDj hh _ d (Nat.ne_of_lt hm.lt) es ep,⟨⟨_,Heap.get?_push_size _ rfl,rfl,rfl⟩,hm.at fun o e=>Heap.get?_push_of_some _ e⟩⟩
end
section
variable {prog:Program} {w:World} {A:Around} {R:Result->Shared->Prop} {s:Shared}
abbrev aDl (ifs:List Expr) (env:Env):Sem Bool:=forIn ifs true fun c r=>if r=true then do let ok <- isTrue c env (eval c env);pure (ForInStep.yield ok) else pure (ForInStep.yield r)
theorem aA5 {elt target iter:Expr} {ifs:List Expr} {scope:Scope} {pos:Pos} {it acc:Value} {env:Env} (I:Nat->Shared->Prop)
  (turn:∀ n s,I n s->wpAny (model prog w) A (pyNext it) (fun r s₁=>match r with
   | none=>R (.ok .next) s₁
   | some v=>wpAny (model prog w) A (letOwnedTupleGo target it v) (fun _ s₀=>wpAny (model prog w) A (assign target env v) (fun _ s₂ =>
     wpAny (model prog w) A (aDl ifs env) (fun ok s₃ =>
      if ok=true then wpAny (model prog w) A (eval elt env) (fun x s₄ =>
       wpAny (model prog w) A (call (.builtin "list.append") [acc,x]) (fun _ s₅=>∃ m,m < n/\I m s₅) (fun _ _=>False) s₄) (fun _ _=>False) s₃
      else ∃ m,m < n/\I m s₃) (fun _ _=>False) s₂) (fun _ _=>False) s₀) (fun _ _=>False) s₁) (fun _ _=>False) s)
  (n:Nat) (h:I n s):codeAny (model prog w) A (.compLoop (.ListComp elt [⟨target,iter,ifs,0⟩] scope pos) 0 it acc env) R s:=by
 refine codeAny_loop rfl I (fun n s hI=>?_) n h
 show wpAny _ A ((compTurn (.ListComp elt [⟨target,iter,ifs,0⟩] scope pos) 0 it acc env).onRaise (fun x=>do noteFrame x env;theTreesLotGoes x)) _ _ s
 refine wpAny_noted ?_
 rw [compTurn_list]
 refine wpAny_bind (wpAny_standAt (wpAny_bind (wpAny_mono (turn n s hI) (fun r s₁ h₁=>?_) fun _ _ z=>z.elim)))
 cases r with
 | none=>exact wpAny_pure h₁
 | some v =>
  refine wpAny_bind (wpAny_mono h₁ (fun _ s₀ h₀=>?_) fun _ _ z=>z.elim)
  refine wpAny_bind (wpAny_mono h₀ (fun _ s₂ h₂=>wpAny_bind (wpAny_mono h₂ (fun ok s₃ h₃=>?_) fun _ _ z=>z.elim)) fun _ _ z=>z.elim)
  cases ok with
  | false=>exact wpAny_pure ⟨rfl,h₃⟩
  | true =>
   exact wpAny_bind (wpAny_bind (wpAny_mono h₃ (fun x s₄ h₄=>wpAny_bind (wpAny_mono h₄ (fun _ s₅ h₅=>wpAny_pure (wpAny_pure ⟨rfl,h₅⟩)) fun _ _ z=>z.elim)) fun _ _ z=>z.elim))
end
def PTs (X:Cx) (ifs:List Expr) (t:TT):Prop :=
 ∀ (pins:List (Addr×Obj)) (s:Shared) (σ:St) (H:Hp) (Q:Bool->Hp->Prop),Inv X pins σ H s->t σ H Q->wpAny (model X.prog X.w) X.A (aDl ifs X.env) (TP X pins σ Q) X.xe s
def aQi:TT:=fun _ H Q=>Q true H
theorem aHm {X:Cx}:PTs X [] aQi:=fun _ _ _ H _ I h=>wpAny_tests_nil ⟨H,I,h⟩
theorem aHr {X:Cx} {c:Expr} {t:TT} (h:PT X c t):PTs X [c] t:=fun pins s σ H Q I hw=>wpAny_tests_one (h pins s σ H Q I hw)
def xF (wi:TI) (g:TG) (tt:TT) (te:TE) (n:Nat) (js:List Nat):TE:=fun σ H Q=>wi σ H fun J H1=>∀ D,H1 D=none->∃ (N:Nat) (W:Nat->List V->Hp->Prop),W 0 [] (upd H1 D (.lst []))/\∀ i ys H2,W i ys H2 ->
 (J.stop i H2/\Q (.ref D) H2)\/(i < N/\J.go i H2/\∀ v H3,J.yld i H2 v H3->g v (List.replicate n none++yD js σ) H3 fun σ2 H4=>(σ2.length=n+js.length/\σ2.drop n=yD js σ)/\tt σ2 H4 fun b H5 =>
  if b=true then te σ2 H5 fun y H6=>H6 D=some (.lst ys)/\ys.length < sizeLine/\W (i+1) (ys++[y]) (upd H6 D (.lst (ys++[y]))) else W (i+1) ys H5)
section
variable {X:Cx}
theorem Inv.but {pins:List (Addr×Obj)} {σ:St} {H:Hp} {s:Shared} {C:Addr} {h':Heap} (I:Inv X pins σ H s) (f:aE1 X pins H C) (hs:Heap.SameBut C s.heap h'):Inv X pins σ H { s with heap:=h' }:=by
 have ne:∀ b,b∉[C]->b≠C:=fun b hb z=>hb (by rw [z];exact .head _)
 refine I.call' (s':={ s with heap:=h' }) (ch:=[C]) rfl ⟨fun b o e n hb hx=>(hs.2 b (ne b hx)).trans e,fun b o e n hb hx=>⟨o.slots,(hs.2 b (ne b hx)).trans e⟩,fun b o e n hx=>n,fun b o e hx=>⟨o,(hs.2 b (ne b hx)).trans e⟩,fun b xs e=>e,fun b o u e=>e,fun b ps e=>⟨#[],by rw [Array.append_empty];exact e⟩⟩ (sZ I.hok fun b o nn e=>(hs.2 b (fun z=>nn (by rw [z];exact f.1))).trans e) I.bare fun b hb=>?_
 rw [List.mem_singleton.mp hb]
 exact ⟨f.2.2.2.1,f.2.1,f.2.2.2.2.1,f.2.2.2.2.2⟩
set_option maxHeartbeats 8000000 in
theorem uD {elt iter tg:Expr} {pos:Pos} {scope:Scope} {ifs:List Expr} {wi:TI} {g:TG} {tt:TT} {te:TE} {xs ys:List Str} {js:List Nat} {cl:List (Str×Addr)} (hc:X.calm=true) (hi:PI X tg iter wi)
  (hcl:aH6 X scope cl) (hcap:qR X scope cl ys js) (hcell:∀ y∈scope.names,y.2≠.cell) (hkind:scope.kind=.function) (hnames:∀ y∈scope.names,y.2=.local->scope.names.lookup y.1=some .local)
  (hg:∀ C s₀ H₀ ex pn,PG (cT X scope cl C (xs++ys) s₀ H₀ ex pn) tg g) (ht:∀ C s₀ H₀ ex pn,PTs (cT X scope cl C (xs++ys) s₀ H₀ ex pn) ifs tt) (hb:∀ C s₀ H₀ ex pn,PE (cT X scope cl C (xs++ys) s₀ H₀ ex pn) elt te)
  (hs:∀ x,foldedSetIterable iter X.env x=pure x) {use:Option (Value->Sem Unit)} {QQ:Value->Shared->Prop} {Q:VK} {pins:List (Addr×Obj)} {s:Shared} {σ:St} {H:Hp} {cp:Pos} (I:Inv X pins σ H s)
  (aNr:∀ (C D:Addr) (s':Shared) (H':Hp),Inv X pins σ H' s'->aE1 X pins H' C->(∃ m,s'.heap.Ns C m)->Q (.ref D) H'->compPost (model X.prog X.w) X.A X.xe use QQ (.ref D) C (.ok .next) s')
  (h:xF wi g tt te xs.length js σ H Q) :
  wpAny (model X.prog X.w) X.A (comprehension (.ListComp elt [⟨tg,iter,ifs,0⟩] scope pos) scope X.env cp (newList []) false (eval iter X.env) use) QQ X.xe s:=by
 refine wpAny_comprehension_free rfl hs hcl.clos hkind hnames (thn (hi pins s σ H _ I h) fun v s1 h1=>thn h1 fun itv s2 h2=>?_)
 obtain ⟨it,fp,tn,J,H2,e,I2,T,st2,f2,q2⟩:=h2
 subst e
 obtain ⟨n,W,w0,turn⟩:=q2 s2.heap.objs.size I2.fresh
 refine wpAny_newObj_type (wpAny_newFunctionEnv hcell (by intro y hy;simp at hy) (fun h₁ hns₁ hsb₁=>?_) hkind)
 dsimp only at hns₁ hsb₁ ⊢
 have I3:=I2.lnew (ys:=[]) (its:=[]) (t':=s2.toks) .nil (Nat.zero_le _)
 generalize hg3:s2.heap.push { cls:=.type "list",dict:=none,data:=.seq ([]:List Value).toArray }=g3 at hns₁ hsb₁ I3 ⊢
 have sz3:g3.objs.size=s2.heap.objs.size+1:=by rw [<- hg3,Heap.size_push]
 generalize hC:g3.objs.size=C at hns₁ hsb₁ ⊢
 have old3:∀ b o,g3.get? b=some o->h₁.get? b=some o:=fun b o q=>hsb₁.extBut b o (by rw [<- hC];exact Nat.ne_of_lt (Heap.lt_size q)) (Heap.get?_push_of_some _ q)
 have old2:∀ b o,s2.heap.get? b=some o->g3.get? b=some o:=fun b o q=>by rw [<- hg3];exact Heap.get?_push_of_some _ q
 have fpl:∀ b∈fp,∃ o,s2.heap.get? b=some o/\∀ v,o.data≠.cell v:=T.obj _ _ st2
 have fplt:∀ b∈fp,b < s2.heap.objs.size:=fun b hb=>let ⟨o,q,_⟩:=fpl b hb;Heap.lt_size q
 have H3n:∀ b,b≠s2.heap.objs.size->upd H2 s2.heap.objs.size (.lst []) b=H2 b:=fun b hb=>cI hb
 have fp3:∀ b∈fp,upd H2 s2.heap.objs.size (.lst []) b=none:=fun b hb=>by rw [H3n b (Nat.ne_of_lt (fplt b hb))];exact (f2 b hb).1
 have okX:=I3.ok
 have inj:∀ y z c,cl.lookup y=some c->cl.lookup z=some c->y=z:=fun y z c h1 h2=>okX.inj y z c (hcl.sub y c h1) (hcl.sub z c h2)
 have cellE:∀ y c,cl.lookup y=some c->∃ v,g3.IsCell c v:=fun y c q=>I3.cell y c (hcl.sub y c q)
 have st3:g3.FunFrames X.base X.stack:=I3.stack
 have exlt:∀ b∈fp,b≠C:=fun b hb=>by rw [<- hC,sz3];exact Nat.ne_of_lt (Nat.lt_succ_of_lt (fplt b hb))
 have frlt:∀ b∈frs X.stack,b < g3.objs.size:=fun b hb=>let ⟨_,o,q,_⟩:=st3.mem hb;Heap.lt_size q
 have okB:(cT X scope cl C (xs++ys) { s2 with heap:=g3 } (upd H2 s2.heap.objs.size (.lst [])) fp (X.pn++pins)).Ok:=by
  refine ⟨okX.mod,hkind,okX.glob,okX.blt,Nat.le_of_eq hC,inj,fun y hy=>hcl.has y hy,(fun y c hf _=>nomatch hf),okX.hd,okX.frames,.inl rfl,fun b hb=>⟨exlt b hb,fun y c q z=>?_⟩,I3.bs,Nat.le_trans okX.bsz I3.sz,fun b o q hb=>?_,fun b hb=>?_,st3,I3.stkFree⟩
  ·subst z
   exact (f2 c hb).2.2.2.2.1 y c (hcl.sub y c q) rfl
  ·rcases (f2 b hb).2.2.2.1 with z | z
   ·exact okX.noex b o q z
   ·have:=Heap.lt_size (okX.bs b o q).1
    exact absurd (Nat.lt_of_lt_of_le this z) (Nat.lt_irrefl _)
  ·intro hz
   rcases List.mem_cons.mp (I3.stkSub b hz) with z | z
   ·exact (f2 b hb).2.1 z
   ·exact (f2 b hb).2.2.1 z
 have tot:∀ tk:Nat,Inv (cT X scope cl C (xs++ys) { s2 with heap:=g3 } (upd H2 s2.heap.objs.size (.lst [])) fp (X.pn++pins)) [] (List.replicate xs.length none++yD js σ) (upd H2 s2.heap.objs.size (.lst [])) { s2 with heap:=h₁,toks:=tk }:=fun tk=>by
  refine ⟨okB,rfl,I3.bare,Un.kept old3,⟨_,hns₁,fun i y v' e1 e2 e3=>?_⟩,fun y c q=>?_,I3.hok.fresh (Nat.le_of_eq hC),fun y c q=>?_,fun p hp=>?_,I3.hok.kept old3,?_⟩
  ·by_cases hix:i < xs.length
   ·rw [List.getElem?_append_left (by rw [List.length_replicate];exact hix),List.getElem?_replicate] at e2
    split at e2<;>cases e2
   ·have hix':xs.length<=i:=by omega
    obtain ⟨k,rfl⟩:∃ k,i=xs.length+k:=⟨i - xs.length,by omega⟩
    have e1':ys[k]? = some y:=by
     rw [List.getElem?_append_right (by omega)] at e1
     simpa using e1
    have e2':(yD js σ)[k]? = some (some v'):=by
     rw [List.getElem?_append_right (by rw [List.length_replicate];omega),List.length_replicate] at e2
     simpa using e2
    unfold yD at e2'
    rw [List.getElem?_map] at e2'
    cases ej:js[k]? with
    | none=>rw [ej] at e2';cases e2'
    | some j =>
     rw [ej] at e2'
     have e2'':(σ[j]?).getD none=some v':=Option.some.inj e2'
     have eσ:σ[j]? = some (some v'):=by
      cases es:σ[j]? with
      | none=>rw [es] at e2'';cases e2''
      | some z=>rw [es] at e2'';have:z=some v':=e2'';rw [this]
     obtain ⟨c1,c2,c3,c4,c5⟩:=hcap.at_ k y j e1' ej
     obtain ⟨m0,hn0,hl0⟩:=I3.loc
     obtain ⟨u,r,l⟩:=hl0 j y v' c1 eσ (c2.elim (fun z=>.inr (.inl z)) fun z=>.inr (.inr z))
     refine ⟨u,r,.inr ⟨c3,?_⟩⟩
     rcases l with ⟨l,_⟩ | ⟨_,c,hcc,z⟩
     ·rcases c2 with c2 | c2
      ·rw [c2] at l;cases l
      ·rw [c2] at l;cases l
     ·obtain ⟨o,ho,hd⟩:=z
      exact ⟨c,c5.trans hcc,o,old3 c o ho,hd⟩
  ·obtain ⟨v0,o,ho,hd⟩:=cellE y c q
   exact ⟨v0,o,old3 c o ho,hd⟩
  ·exact I3.freeC y c (hcl.sub y c q)
  ·have hp':p∈X.pn++pins:=by simpa using hp
   obtain ⟨p1,p2,p3,p4,p5⟩:=I3.pin p hp'
   refine ⟨old3 _ _ p1,p2,?_,fun hz=>?_,p5⟩
   ·show p.1≠C
    rw [<- hC]
    exact Nat.ne_of_lt (Heap.lt_size p1)
   ·rcases List.mem_cons.mp (I3.stkSub p.1 hz) with z | z
    ·exact p3 z
    ·exact p4 z
  ·show (List.replicate xs.length none++yD js σ).length=(xs++ys).length
   unfold yD
   simp [hcap.len]
 have fpB:∀ {H':Hp},(∀ b∈fp,H' b=none)->∀ b∈fp,aE1 (cT X scope cl C (xs++ys) { s2 with heap:=g3 } (upd H2 s2.heap.objs.size (.lst [])) fp (X.pn++pins)) [] H' b:=fun hn b hb =>
  ⟨hn b hb,exlt b hb,okB.exfs b hb,.inl hb,(okB.exf b hb).2,fun p hp=>(f2 b hb).2.2.2.2.2 p (by simpa using hp)⟩
 have fin:∀ s':Shared,(∃ i zs σ' H',Inv (cT X scope cl C (xs++ys) { s2 with heap:=g3 } (upd H2 s2.heap.objs.size (.lst [])) fp (X.pn++pins)) [] σ' H' s'/\W i zs H'/\J.stop i H'/\Q (.ref s2.heap.objs.size) H') ->
   compPost (model X.prog X.w) X.A X.xe use QQ (.ref s2.heap.objs.size) C (.ok .next) s':=by
  rintro s' ⟨i,zs,σ',H',Ib,w,stop,q⟩
  obtain ⟨m',hn',_⟩:=Ib.loc
  have ub:=Ib.base
  have un:Un (frs X.stack) fp (upd H2 s2.heap.objs.size (.lst [])) H' g3 s'.heap:=ub
  have IX:Inv X pins σ H' s':=I3.call' (s':=s') (ch:=fp) Ib.os un Ib.hok Ib.bare fun b hb=>⟨(f2 b hb).2.2.2.1,(f2 b hb).2.1,(f2 b hb).2.2.2.2.1,(f2 b hb).2.2.2.2.2⟩
  exact aNr C _ s' H' IX (I3.fpOk (Nat.le_of_eq hC) Ib.free) ⟨m',hn'⟩ q
 have loop:∀ s₃:Shared,(∃ tk,s₃={ s2 with heap:=h₁,toks:=tk }) ->
   codeAny (model X.prog X.w) X.A (.compLoop (.ListComp elt [⟨tg,iter,ifs,0⟩] scope pos) 0 (.ref it) (.ref s2.heap.objs.size) (compEnvC scope cl C X.env)) (compPost (model X.prog X.w) X.A X.xe use QQ (.ref s2.heap.objs.size) C) s₃:=by
  rintro s₃ ⟨tk,rfl⟩
  refine aA5 (fun k s'=>∃ i zs H',k=n+1 - i/\i<=n/\Inv (cT X scope cl C (xs++ys) { s2 with heap:=g3 } (upd H2 s2.heap.objs.size (.lst [])) fp (X.pn++pins)) [] (List.replicate xs.length none++yD js σ) H' s'/\tn i s'.heap/\(∀ b∈fp,H' b=none)/\W i zs H')
   ?_ (n+1) ⟨0,[],_,rfl,Nat.zero_le _,tot tk,T.keep _ _ _ st2 fun b hb o q=>old3 b o (old2 b o q),fp3,w0⟩
  rintro k s' ⟨i,zs,H',rfl,hin,Ib,st,fr,w⟩
  rcases turn i zs H' w with ⟨stop,qq⟩ | ⟨hlt,go,step⟩
  ·refine wpAny_mono (T.done (cT X scope cl C (xs++ys) { s2 with heap:=g3 } (upd H2 s2.heap.objs.size (.lst [])) fp (X.pn++pins)) rfl rfl rfl hc i [] s' _ H' (fun _ _=>False) Ib (fpB fr) st stop) (fun r s4 ⟨hr,I4⟩=>?_) fun _ _ z=>z.elim
   subst hr
   exact fin s4 ⟨i,zs,_,H',I4,w,stop,qq⟩
  ·refine wpAny_mono (T.item (cT X scope cl C (xs++ys) { s2 with heap:=g3 } (upd H2 s2.heap.objs.size (.lst [])) fp (X.pn++pins)) rfl rfl rfl hc i [] s' _ H' (fun _ _=>False) Ib (fpB fr) st go) (fun r s4 ⟨u,hr,h4⟩=>?_) fun _ _ z=>z.elim
   subst hr
   refine wpAny_mono h4 (fun _ s5 ⟨v5,H5,I5,r5,y5,st5,fr5⟩=>?_) fun _ _ z=>z.elim
   have I5':=I5.pinned (fpB fr5) (T.obj _ _ st5)
   have hw5:=step v5 H5 y5
   refine wpAny_mono (hg C _ _ fp (X.pn++pins) _ s5 _ H5 v5 u _ I5' r5 hw5) (fun _ s6 ⟨σ6,H6,I6,⟨hl6,hd6⟩,e6⟩=>?_) fun _ _ z=>z.elim
   have back:∀ {H':Hp} {s':Shared} {pins':List (Addr×Obj)},Inv (cT X scope cl C (xs++ys) { s2 with heap:=g3 } (upd H2 s2.heap.objs.size (.lst [])) fp (X.pn++pins)) pins' σ6 H' s'->Inv (cT X scope cl C (xs++ys) { s2 with heap:=g3 } (upd H2 s2.heap.objs.size (.lst [])) fp (X.pn++pins)) pins' (List.replicate xs.length none++yD js σ) H' s':=fun I'=>by
    refine I'.weak ?_ fun j v' e=>?_
    ·rw [hl6];unfold yD;simp
    ·by_cases hj:j < xs.length
     ·rw [List.getElem?_append_left (by rw [List.length_replicate];exact hj),List.getElem?_replicate] at e
      split at e<;>cases e
     ·rw [List.getElem?_append_right (by rw [List.length_replicate];omega),List.length_replicate,<- hd6,List.getElem?_drop] at e
      rw [<- e]
      congr 1
      omega
   refine wpAny_mono (ht C _ _ fp (X.pn++pins) _ s6 _ _ _ I6 e6) (fun ok s6b ⟨H6b,I6b,e6b⟩=>?_) fun _ _ z=>z.elim
   cases ok with
   | false =>
    rw [if_neg Bool.false_ne_true]
    have e6c:W (i+1) zs H6b:=by simpa using e6b
    have I8:=back I6b
    refine ⟨n+1 - (i+1),by omega,i+1,zs,_,rfl,hlt,I8.unpinned (pins:=[]),?_,fun b hb=>?_,e6c⟩
    ·exact T.keep _ _ _ st5 fun b hb o q=>(I8.pin (b,o) (List.mem_append_right _ (List.mem_append_right _ (gF hb q)))).1
    ·obtain ⟨o,q,d⟩:=T.obj _ _ st5 b hb
     exact (I8.pin (b,o) (List.mem_append_right _ (List.mem_append_right _ (gF hb q)))).2.1
   | true =>
    rw [if_pos rfl]
    have e6c:=e6b
    rw [if_pos rfl] at e6c
    refine wpAny_mono (hb C _ _ fp (X.pn++pins) _ s6b _ _ _ I6b e6c) (fun y s7 ⟨yv,H7,I7,r7,hD,hz,w7⟩=>?_) fun _ _ z=>z.elim
    obtain ⟨z7,its,n7,rv7,hl7,e7⟩:=I7.lstM hD
    refine append_at (n:=n7) (its:=its.toArray) e7 (fun h₈ sb8 eD8=>?_) (by rw [List.size_toArray,<- hl7];exact Nat.le_of_lt hz)
    have I8:Inv _ _ _ (upd H7 s2.heap.objs.size (.lst (zs++[yv]))) { s7 with heap:=h₈,toks:=s7.toks }:=I7.write (x:=s2.heap.objs.size) (e:=s2.heap.objs.size) (by rw [hD];exact trivial) (.inl rfl) (fun b u hb q=>(sb8.2 b hb).trans q) ⟨_,eD8⟩
     ⟨by rw [List.length_append];exact hz,its++[y],n7+1,rv7.append (.cons r7 .nil),by rw [eD8,List.push_toArray]⟩
    have I9:=back I8
    refine ⟨n+1 - (i+1),by omega,i+1,zs++[yv],_,rfl,hlt,I9.unpinned (pins:=[]),?_,fun b hb=>?_,w7⟩
    ·exact T.keep _ _ _ st5 fun b hb o q=>(I8.pin (b,o) (List.mem_append_right _ (List.mem_append_right _ (gF hb q)))).1
    ·obtain ⟨o,q,d⟩:=T.obj _ _ st5 b hb
     exact (I8.pin (b,o) (List.mem_append_right _ (List.mem_append_right _ (gF hb q)))).2.1
 exact codeAny_compStart_list (loop _ ⟨_,rfl⟩) (T.self _ 0 _ _ _ (T.keep _ _ _ st2 fun b hb o q=>old3 b o (old2 b o q)) (loop _ ⟨_,rfl⟩))
theorem aFw {elt iter tg:Expr} {pos:Pos} {scope:Scope} {ifs:List Expr} {wi:TI} {g:TG} {tt:TT} {te:TE} {xs ys:List Str} {js:List Nat} {cl:List (Str×Addr)} (hc:X.calm=true) (hi:PI X tg iter wi)
  (hcl:aH6 X scope cl) (hcap:qR X scope cl ys js) (hcell:∀ y∈scope.names,y.2≠.cell) (hkind:scope.kind=.function) (hnames:∀ y∈scope.names,y.2=.local->scope.names.lookup y.1=some .local)
  (hg:∀ C s₀ H₀ ex pn,PG (cT X scope cl C (xs++ys) s₀ H₀ ex pn) tg g) (ht:∀ C s₀ H₀ ex pn,PTs (cT X scope cl C (xs++ys) s₀ H₀ ex pn) ifs tt) (hb:∀ C s₀ H₀ ex pn,PE (cT X scope cl C (xs++ys) s₀ H₀ ex pn) elt te)
  (hs:∀ x,foldedSetIterable iter X.env x=pure x:=by intro _;rfl) :
  PE X (.ListComp elt [⟨tg,iter,ifs,0⟩] scope pos) (xF wi g tt te xs.length js):=by
 intro pins s σ H Q I h
 rw [eval_ListComp]
 exact uD hc hi hcl hcap hcell hkind hnames hg ht hb hs (use:=none) (QQ:=EP X pins σ Q) (Q:=Q) I (fun C D s' H' IX f ⟨m,hn⟩ q=>⟨m,hn,fun h' hs'=>⟨.ref D,H',IX.but f hs',rfl,q⟩⟩) h
theorem aFt {elt iter tg:Expr} {pos py spos:Pos} {scope:Scope} {ifs:List Expr} {wi:TI} {g:TG} {tt:TT} {te:TE} {xs ys:List Str} {js:List Nat} {cl:List (Str×Addr)} {i:Nat} {y:Str} (hN:X.N.Nodup) (hiN:X.N[i]? = some y) (hx:Loc X.env.scope y) (hc:X.calm=true) (hi:PI X tg iter wi)
  (hcl:aH6 X scope cl) (hcap:qR X scope cl ys js) (hcell:∀ y∈scope.names,y.2≠.cell) (hkind:scope.kind=.function) (hnames:∀ y∈scope.names,y.2=.local->scope.names.lookup y.1=some .local)
  (hg:∀ C s₀ H₀ ex pn,PG (cT X scope cl C (xs++ys) s₀ H₀ ex pn) tg g) (ht:∀ C s₀ H₀ ex pn,PTs (cT X scope cl C (xs++ys) s₀ H₀ ex pn) ifs tt) (hb:∀ C s₀ H₀ ex pn,PE (cT X scope cl C (xs++ys) s₀ H₀ ex pn) elt te)
  (hsw:swapsWith (.ListComp elt [⟨tg,iter,ifs,0⟩] scope pos) (some (.Name y py)) spos.line X.env=pure true) (hs:∀ x,foldedSetIterable iter X.env x=pure x:=by intro _;rfl)
  (hf:X.fn y=true\/X.env.scope.names.lookup y=some .local:=by first | exact .inl rfl | exact .inr rfl | assumption) :
  PS X (.Assign [.Name y py] (.ListComp elt [⟨tg,iter,ifs,0⟩] scope pos) spos) (aNk (xF wi g tt te xs.length js) (aI6 i)):=by
 intro pins s σ H D I h
 rw [exec_Assign_Name_used _ _ _ _ hsw]
 refine wpAny_bind (wpAny_standAt (wpAny_bind ?_))
 show wpAny _ X.A (do let _ <- comprehension (.ListComp elt [⟨tg,iter,ifs,0⟩] scope pos) scope X.env _ (newList []) false (eval iter X.env) (some (assign (.Name y py) X.env))) _ _ s
 refine wpAny_bind (wpAny_mono (uD hc hi hcl hcap hcell hkind hnames hg ht hb hs (use:=some (assign (.Name y py) X.env)) (QQ:=fun _ s'=>∃ σ' H',Inv X pins σ' H' s'/\D.nx σ' H') I (fun C L s' H' IX f ⟨m,hn⟩ q=>?_) h) (fun _ s' hq=>wpAny_pure (wpAny_pure hq)) fun _ _ e=>e)
 obtain ⟨o,es,ep,ho,hd,hr⟩:=id hn
 have IP:=IX.pinned (fp:=[C]) (fun b hb=>by rw [List.mem_singleton.mp hb];exact f) (fun b hb=>by rw [List.mem_singleton.mp hb];exact ⟨o,ho,fun v z=>by rw [hd] at z;cases z⟩)
 refine wpAny_mono (aCj (pos:=py) hN hiN hx hf _ s' σ H' (.ref L) (.ref L) _ IP rfl q) (fun _ s2 ⟨σ2,H2,I2,q2⟩=>?_) fun _ _ e=>e
 have pc:=I2.pin (C,o) (List.mem_append_right _ (List.mem_append_right _ (gF (.head _) ho)))
 exact ⟨m,⟨o,es,ep,pc.1,hd,hr⟩,fun h' hs'=>⟨σ2,H2,(I2.unpinned (pins:=pins)).but ⟨pc.2.1,f.2⟩ hs',q2⟩⟩
end
end L2
namespace M
open PySem PySem.Spec PyProof.Rows L2
abbrev D:=PyData
inductive Res (α:Type) where
 | ok (a:α)
 | exc (C:Addr)
 | bad
def Res.bind {α β:Type} (r:Res α) (f:α->Res β):Res β:=match r with
 | .ok a=>f a
 | .exc C=>.exc C
 | .bad=>.bad
def wpR {α:Type} (r:Res α) (Q:α->Prop) (E:Addr->Prop):Prop:=match r with
 | .ok a=>Q a
 | .exc C=>E C
 | .bad=>False
theorem cU {α β:Type} {r:Res α} {f:α->Res β} {Q:β->Prop} {E:Addr->Prop}:wpR (r.bind f) Q E=wpR r (fun a=>wpR (f a) Q E) E:=by cases r<;>rfl
theorem bT {α:Type} {r:Res α} {Q Q':α->Prop} {E E':Addr->Prop} (h:wpR r Q E) (hQ:∀ a,Q a->Q' a) (hE:∀ C,E C->E' C):wpR r Q' E':=by
 cases r with
 | ok a=>exact hQ a h
 | exc C=>exact hE C h
 | bad=>exact h
inductive L where
 | p (d:D)
 | o (d:D)
 | x (C:Addr)
 | h (a:Addr)
inductive Ev where
 | p (d:D)
 | f (d:D)
 | b (d:D)
 | x (C:Addr)
def Ev.c:Ev->Ev
 | .f d=>.p d
 | r=>r
abbrev En:=List (Option L)
def kD:Key->D
 | .inl i=>.int i
 | .inr x=>.str x
def tkD (ks:List Key):D:=.tuple (ks.map kD)
mutual
inductive Rep (K:PySem.W.Frag) (G:Hp):V->D->Prop
 | non:Rep K G .non .none
 | bl (b:Bool):Rep K G (.bl b) (.bool b)
 | int (i:Int):Rep K G (.int i) (.int i)
 | str (x:Str):Rep K G (.str x) (.str x)
 | tup {a:Addr} {xs:List V} {ds:List D}:G a=some (.tup xs)->Reps K G xs ds->Rep K G (.ref a) (.tuple ds)
 | lst {a:Addr} {xs:List V} {ds:List D}:Rd G a (.lst xs)->Reps K G xs ds->Rep K G (.ref a) (.list ds)
 | dT {a:Addr} {kv:List (List Key×V)} {kvs:List (D×D)}:G a=some (.dT kv)->RepT K G kv kvs->Rep K G (.ref a) (.dict kvs)
 | dK {a:Addr} {kv:List (Key×V)} {kvs:List (D×D)}:G a=some (.dK kv)->RepK K G kv kvs->Rep K G (.ref a) (.dict ((.none,.none) :: kvs))
inductive Reps (K:PySem.W.Frag) (G:Hp):List V->List D->Prop
 | nil:Reps K G [] []
 | cons {x:V} {xs:List V} {d:D} {ds:List D}:Rep K G x d->Reps K G xs ds->Reps K G (x :: xs) (d :: ds)
inductive RepT (K:PySem.W.Frag) (G:Hp):List (List Key×V)->List (D×D)->Prop
 | nil:RepT K G [] []
 | cons {k:List Key} {x:V} {d:D} {kv:List (List Key×V)} {kvs:List (D×D)}:Rep K G x d->RepT K G kv kvs->RepT K G ((k,x) :: kv) ((tkD k,d) :: kvs)
inductive RepK (K:PySem.W.Frag) (G:Hp):List (Key×V)->List (D×D)->Prop
 | nil:RepK K G [] []
 | cons {k:Key} {x:V} {d:D} {kv:List (Key×V)} {kvs:List (D×D)}:Rep K G x d->RepK K G kv kvs->RepK K G ((k,x) :: kv) ((kD k,d) :: kvs)
end
inductive Cont (K:PySem.W.Frag) (G:Hp):HO->D->Prop
 | lst {xs:List V} {ds:List D}:Reps K G xs ds->Cont K G (.lst xs) (.list ds)
 | dT {kv:List (List Key×V)} {kvs:List (D×D)}:RepT K G kv kvs->Cont K G (.dT kv) (.dict kvs)
 | dK {kv:List (Key×V)} {kvs:List (D×D)}:RepK K G kv kvs->Cont K G (.dK kv) (.dict ((.none,.none) :: kvs))
section
variable {K:PySem.W.Frag} {G G' H H':Hp}
theorem iO {a:Addr} {u:HO} (s:Same G G') (h:Rd G a u):Rd G' a u:=by
 rcases h with h | ⟨o,h⟩
 ·exact .inl (s _ _ h)
 ·exact .inr ⟨o,s _ _ h⟩
mutual
theorem Rep.mono (s:Same G G'):∀ {v:V} {d:D},Rep K G v d->Rep K G' v d
 | _,_,.non=>.non
 | _,_,.bl b=>.bl b
 | _,_,.int i=>.int i
 | _,_,.str x=>.str x
 | _,_,.tup h r=>.tup (s _ _ h) (Reps.mono s r)
 | _,_,.lst h r=>.lst (iO s h) (Reps.mono s r)
 | _,_,.dT h r=>.dT (s _ _ h) (RepT.mono s r)
 | _,_,.dK h r=>.dK (s _ _ h) (RepK.mono s r)
theorem Reps.mono (s:Same G G'):∀ {v:List V} {d:List D},Reps K G v d->Reps K G' v d
 | _,_,.nil=>.nil
 | _,_,.cons h r=>.cons (Rep.mono s h) (Reps.mono s r)
theorem RepT.mono (s:Same G G'):∀ {v:List (List Key×V)} {d:List (D×D)},RepT K G v d->RepT K G' v d
 | _,_,.nil=>.nil
 | _,_,.cons h r=>.cons (Rep.mono s h) (RepT.mono s r)
theorem RepK.mono (s:Same G G'):∀ {v:List (Key×V)} {d:List (D×D)},RepK K G v d->RepK K G' v d
 | _,_,.nil=>.nil
 | _,_,.cons h r=>.cons (Rep.mono s h) (RepK.mono s r)
end
theorem Cont.mono (s:Same G G') {o:HO} {d:D} (h:Cont K G o d):Cont K G' o d:=by
 cases h with
 | lst r=>exact .lst (r.mono s)
 | dT r=>exact .dT (r.mono s)
 | dK r=>exact .dK (r.mono s)
theorem Cont.rep {a:Addr} {o:HO} {d:D} (h:Cont K G o d) (e:G a=some o):Rep K G (.ref a) d:=by
 cases h with
 | lst r=>exact .lst (.inl e) r
 | dT r=>exact .dT e r
 | dK r=>exact .dK e r
theorem Reps.length:∀ {xs:List V} {ds:List D},Reps K G xs ds->xs.length=ds.length
 | _,_,.nil=>rfl
 | _,_,.cons _ r=>by rw [List.length_cons,List.length_cons,Reps.length r]
theorem Reps.get':∀ {xs:List V} {ds:List D} {i:Nat} {d:D},Reps K G xs ds->ds[i]? = some d->∃ x,xs[i]? = some x/\Rep K G x d
 | _,_,_,_,.nil,e=>by simp at e
 | _,_,0,_,.cons h _,e=>by simp at e;subst e;exact ⟨_,rfl,h⟩
 | _,_,i+1,_,.cons _ r,e=>by
  have:=Reps.get' (i:=i) r (by simpa using e)
  simpa using this
theorem Reps.append:∀ {xs ys:List V} {ds es:List D},Reps K G xs ds->Reps K G ys es->Reps K G (xs++ys) (ds++es)
 | _,_,_,_,.nil,r=>r
 | _,_,_,_,.cons h t,r=>.cons h (Reps.append t r)
theorem Reps.set {x:V} {d:D} (h:Rep K G x d):∀ {xs:List V} {ds:List D} (i:Nat),Reps K G xs ds->Reps K G (xs.set i x) (ds.set i d)
 | _,_,_,.nil=>.nil
 | _,_,0,.cons _ t=>.cons h t
 | _,_,i+1,.cons q t=>.cons q (Reps.set h i t)
theorem Reps.take:∀ {xs:List V} {ds:List D} (n:Nat),Reps K G xs ds->Reps K G (xs.take n) (ds.take n)
 | _,_,0,_=>.nil
 | _,_,_+1,.nil=>.nil
 | _,_,n+1,.cons h t=>.cons h (Reps.take n t)
theorem Reps.drop:∀ {xs:List V} {ds:List D} (n:Nat),Reps K G xs ds->Reps K G (xs.drop n) (ds.drop n)
 | _,_,0,r=>r
 | _,_,_+1,.nil=>.nil
 | _,_,n+1,.cons _ t=>Reps.drop n t
end
structure Step (G H G' H':Hp):Prop where
 g:Same G G'
 h:Same H H'
 gh:Same G' H'
 new:∀ b,H b≠none->G b=none->G' b=none\/∃ xs,H b=some (.tup xs)
theorem Step.off {G H G' H':Hp} (s:Step G H G' H') {b:Addr} {o:HO} (h:H b=some o) (n:∀ xs,o≠.tup xs) (g:G b=none):G' b=none:=by
 rcases s.new b (by rw [h];exact fun z=>nomatch z) g with z | ⟨xs,z⟩
 ·exact z
 ·rw [h] at z;exact absurd (Option.some.inj z) (n xs)
theorem aBt {H H':Hp} (s:Same H H') {b:Addr} (h:H b≠none):H' b≠none:=by
 cases e:H b with
 | none=>exact absurd e h
 | some o=>rw [s b o e];exact fun z=>nomatch z
theorem Step.refl {G H:Hp} (s:Same G H):Step G H G H:=⟨Same.refl _,Same.refl _,s,fun _ _ h=>.inl h⟩
theorem Step.trans {G H G1 H1 G2 H2:Hp} (a:Step G H G1 H1) (b:Step G1 H1 G2 H2):Step G H G2 H2 :=
 ⟨a.g.trans b.g,a.h.trans b.h,b.gh,fun c hc hg=>by
  rcases a.new c hc hg with z | z
  ·rcases b.new c (aBt a.h hc) z with y | ⟨xs,y⟩
   ·exact .inl y
   ·cases e:H c with
    | none=>exact absurd e hc
    | some o =>
     rw [a.h _ _ e] at y
     exact .inr ⟨xs,y⟩
  ·exact .inr z⟩
theorem Step.put {G H:Hp} {a:Addr} {o:HO} (s:Same G H) (e:H a=none):Step G H (upd G a o) (upd H a o) :=
 ⟨Same.upd (Same.refl _) (s.free e) o,Same.upd (Same.refl _) e o,fun b u q=>by
  by_cases z:b=a
  ·subst z;rw [cS] at q ⊢;exact q
  ·rw [cI z] at q ⊢;exact s b u q,fun b hb hg=>by
  have z:b≠a:=fun z=>hb (z▸e)
  rw [cI z];exact .inl hg⟩
theorem Step.lay {G H:Hp} {a:Addr} {o:HO} (s:Same G H) (e:H a=none):Step G H G (upd H a o) :=
 ⟨Same.refl _,Same.upd (Same.refl _) e o,Same.upd s e o,fun _ _ h=>.inl h⟩
def EOk (K:PySem.W.Frag) (W:Addr->Option Nat) (Hs G H:Hp) (v:V):Ev->Prop
 | .p d=>Rep K G v d
 | .f d=>∃ a o,v=.ref a/\Hs a=none/\G a=none/\H a=some o/\Cont K G o d
 | .b d=>∃ a i o,v=.ref a/\W a=some i/\H a=some o/\Cont K G o d
 | .x C=>∃ e,v=.ref e/\G e=some (aNe e (.ref C))
theorem EOk.step {K:PySem.W.Frag} {W:Addr->Option Nat} {Hs Hs' G H G' H':Hp} {v:V} {r:Ev} (h:EOk K W Hs G H v r.c) (s:Step G H G' H'):EOk K W Hs' G' H' v r.c:=by
 cases r with
 | p d=>exact Rep.mono s.g h
 | f d=>exact Rep.mono s.g h
 | b d =>
  obtain ⟨a,i,o,h1,h2,h3,h4⟩:=h
  exact ⟨a,i,o,h1,h2,s.h _ _ h3,h4.mono s.g⟩
 | x C =>
  obtain ⟨e,h1,h2⟩:=h
  exact ⟨e,h1,s.g _ _ h2⟩
theorem EOk.c {K:PySem.W.Frag} {W:Addr->Option Nat} {G H G1 H1:Hp} {v:V} {r:Ev} (s:Step G H G1 H1) (h:EOk K W H G1 H1 v r):∃ G2,Step G H G2 H1/\EOk K W H G2 H1 v r.c:=by
 cases r with
 | p d=>exact ⟨G1,s,h⟩
 | b d=>exact ⟨G1,s,h⟩
 | x d=>exact ⟨G1,s,h⟩
 | f d =>
  obtain ⟨a,o,rfl,h1,h2,h3,h4⟩:=h
  refine ⟨upd G1 a o,⟨s.g.trans (Same.upd (Same.refl _) h2 o),s.h,fun b u q=>?_,fun b hb hg=>?_⟩,(h4.mono (Same.upd (Same.refl _) h2 o)).rep cS⟩
  ·by_cases z:b=a
   ·subst z;rw [cS] at q;rw [h3];exact q
   ·rw [cI z] at q;exact s.gh b u q
  ·have z:b≠a:=fun z=>hb (z▸h1)
   rw [cI z];exact s.new b hb hg
structure SimH (B G0 G:Hp) (W:Addr->Option Nat) (H:Hp):Prop where
 gh:Same G H
 bh:Same B H
 g0:Same G0 G
 gb:∀ b,G b≠none->G0 b≠none\/B b=none\/∃ xs,B b=some (.tup xs)
 wf:∀ a i,W a=some i->G a=none/\B a=none/\∃ o,H a=some o/\∀ xs,o≠.tup xs
theorem SimH.step {B G0 G H G' H':Hp} {W:Addr->Option Nat} (s:SimH B G0 G W H) (t:Step G H G' H'):SimH B G0 G' W H':=by
 refine ⟨t.gh,s.bh.trans t.h,s.g0.trans t.g,fun b hb=>?_,fun a i e=>?_⟩
 ·by_cases z:G b=none
  ·refine .inr ?_
   by_cases y:H b=none
   ·exact .inl (s.bh.free y)
   ·rcases t.new b y z with q | ⟨xs,q⟩
    ·exact absurd q hb
    ·cases e:B b with
     | none=>exact .inl rfl
     | some o=>rw [s.bh _ _ e] at q;exact .inr ⟨xs,q⟩
  ·exact s.gb b z
 ·obtain ⟨h1,h2,o,h3,h4⟩:=s.wf a i e
  exact ⟨t.off h3 h4 h1,h2,o,t.h _ _ h3,h4⟩
theorem Cont.mut {K:PySem.W.Frag} {G:Hp} {o:HO} {d:D} (h:Cont K G o d):∀ xs,o≠.tup xs:=by
 intro xs z
 subst z
 cases h
def Slot (K:PySem.W.Frag) (W:Addr->Option Nat) (G H:Hp) (i:Nat) (v:V):L->Prop
 | .p d=>Rep K G v d
 | .o d=>∃ a o,v=.ref a/\W a=some i/\H a=some o/\Cont K G o d
 | .x C=>∃ e,v=.ref e/\G e=some (aNe e (.ref C))
 | .h a=>v=.ref a
def SimS (K:PySem.W.Frag) (W:Addr->Option Nat) (G H:Hp) (σ:L2.St) (en:En):Prop:=σ.length=en.length/\∀ i l,en[i]? = some (some l)->∃ v,σ[i]? = some (some v)/\Slot K W G H i v l
theorem Slot.step {K:PySem.W.Frag} {W:Addr->Option Nat} {G H G' H':Hp} {i:Nat} {v:V} {l:L} (h:Slot K W G H i v l) (s:Step G H G' H'):Slot K W G' H' i v l:=by
 cases l with
 | p d=>exact Rep.mono s.g h
 | o d =>
  obtain ⟨a,o,h1,h2,h3,h4⟩:=h
  exact ⟨a,o,h1,h2,s.h _ _ h3,h4.mono s.g⟩
 | x C =>
  obtain ⟨e,h1,h2⟩:=h
  exact ⟨e,h1,s.g _ _ h2⟩
 | h a=>exact h
theorem SimS.step {K:PySem.W.Frag} {W:Addr->Option Nat} {G H G' H':Hp} {σ:L2.St} {en:En} (h:SimS K W G H σ en) (s:Step G H G' H'):SimS K W G' H' σ en :=
 ⟨h.1,fun i l e=>let ⟨v,e1,e2⟩:=h.2 i l e;⟨v,e1,e2.step s⟩⟩
def PostE (K:PySem.W.Frag) (W:Addr->Option Nat) (G H:Hp) (Q:VK) (r:Ev):Prop:=∀ G' H' v,Step G H G' H'->EOk K W H G' H' v r->Q v H'
def PostB (G H:Hp) (Q:Bool->Hp->Prop) (b:Bool):Prop:=∀ G' H',Step G H G' H'->Q b H'
def EOks (K:PySem.W.Frag) (W:Addr->Option Nat) (Hs G H:Hp):List V->List Ev->Prop
 | [],[]=>True
 | v :: vs,r :: rs=>EOk K W Hs G H v r/\EOks K W Hs G H vs rs
 | _,_=>False
def aFq (K:PySem.W.Frag) (W:Addr->Option Nat) (G H:Hp) (Q:List V->Hp->Prop) (rs:List Ev):Prop:=∀ G' H' vs,Step G H G' H'->EOks K W H G' H' vs rs->Q vs H'
def PostX (E:XK) (G H:Hp) (C:Addr):Prop:=∀ G' H',Step G H G' H'->E (.ref C) none H'
theorem PostE.step {K:PySem.W.Frag} {W:Addr->Option Nat} {G H G' H':Hp} {Q:VK} {r:Ev} (h:PostE K W G H Q r) (s:Step G H G' H'):PostE K W G' H' Q r:=fun G2 H2 v s2 e=>h G2 H2 v (s.trans s2) (by
 cases r with
 | p d=>exact e
 | b d=>exact e
 | x d=>exact e
 | f d =>
  obtain ⟨a,o,h1,h2,h3,h4,h5⟩:=e
  exact ⟨a,o,h1,s.h.free h2,h3,h4,h5⟩)
theorem PostX.step {E:XK} {G H G' H':Hp} {C:Addr} (h:PostX E G H C) (s:Step G H G' H'):PostX E G' H' C:=fun G2 H2 s2=>h G2 H2 (s.trans s2)
theorem PostB.step {G H G' H':Hp} {Q:Bool->Hp->Prop} {b:Bool} (h:PostB G H Q b) (s:Step G H G' H'):PostB G' H' Q b:=fun G2 H2 s2=>h G2 H2 (s.trans s2)
def tE (K:PySem.W.Frag) (E:L2.St->XK) (f:En->Res Ev):TE:=fun σ H Q=>∃ B G0 G W en,SimH B G0 G W H/\SimS K W G H σ en/\wpR (f en) (PostE K W G H Q) (PostX (E σ) G H)
def DE (X:Cx) (E:L2.St->XK) (e:Expr) (f:En->Res Ev):Prop:=PE X e (tE X.K E f)
theorem DE.out {X:Cx} {E:L2.St->XK} {e:Expr} {f:En->Res Ev} (h:DE X E e f):∃ t,PE X e t/\∀ B G0 G W H σ en Q,SimH B G0 G W H->SimS X.K W G H σ en->wpR (f en) (PostE X.K W G H Q) (PostX (E σ) G H)->t σ H Q :=
 ⟨_,h,fun B G0 G W H σ en Q h1 h2 h3=>⟨B,G0,G,W,en,h1,h2,h3⟩⟩
theorem DE.in {X:Cx} {E:L2.St->XK} {e:Expr} {f:En->Res Ev} (h:∃ t,PE X e t/\∀ B G0 G W H σ en Q,SimH B G0 G W H->SimS X.K W G H σ en->wpR (f en) (PostE X.K W G H Q) (PostX (E σ) G H)->t σ H Q):DE X E e f :=
 fun pins s σ H Q I ⟨B,G0,G,W,en,h1,h2,h3⟩=>let ⟨_,p,m⟩:=h;p pins s σ H Q I (m B G0 G W H σ en Q h1 h2 h3)
def tT (K:PySem.W.Frag) (E:L2.St->XK) (f:En->Res Bool):TT:=fun σ H Q=>∃ B G0 G W en,SimH B G0 G W H/\SimS K W G H σ en/\wpR (f en) (PostB G H Q) (PostX (E σ) G H)
def tA (K:PySem.W.Frag) (E:L2.St->XK) (f:En->Res (List Ev)):TA:=fun σ H Q=>∃ B G0 G W en,SimH B G0 G W H/\SimS K W G H σ en/\wpR (f en) (aFq K W G H Q) (PostX (E σ) G H)
def DT (X:Cx) (E:L2.St->XK) (e:Expr) (f:En->Res Bool):Prop:=PT X e (tT X.K E f)
def DW (X:Cx) (E:L2.St->XK) (e:Expr) (f:En->Res Bool):Prop:=PW X e (tT X.K E f)
def DA (X:Cx) (E:L2.St->XK) (es:List Expr) (f:En->Res (List Ev)):Prop:=PA X es (tA X.K E f)
section
variable {X:Cx} {E:L2.St->XK} {e:Expr} {es:List Expr} {f:En->Res Bool} {fr:En->Res (List Ev)}
theorem DT.out (h:DT X E e f):∃ t,PT X e t/\∀ B G0 G W H σ en Q,SimH B G0 G W H->SimS X.K W G H σ en->wpR (f en) (PostB G H Q) (PostX (E σ) G H)->t σ H Q :=
 ⟨_,h,fun B G0 G W H σ en Q h1 h2 h3=>⟨B,G0,G,W,en,h1,h2,h3⟩⟩
theorem DT.in (h:∃ t,PT X e t/\∀ B G0 G W H σ en Q,SimH B G0 G W H->SimS X.K W G H σ en->wpR (f en) (PostB G H Q) (PostX (E σ) G H)->t σ H Q):DT X E e f :=
 fun pins s σ H Q I ⟨B,G0,G,W,en,h1,h2,h3⟩=>let ⟨_,p,m⟩:=h;p pins s σ H Q I (m B G0 G W H σ en Q h1 h2 h3)
theorem DW.out (h:DW X E e f):∃ t,PW X e t/\∀ B G0 G W H σ en Q,SimH B G0 G W H->SimS X.K W G H σ en->wpR (f en) (PostB G H Q) (PostX (E σ) G H)->t σ H Q :=
 ⟨_,h,fun B G0 G W H σ en Q h1 h2 h3=>⟨B,G0,G,W,en,h1,h2,h3⟩⟩
theorem DW.in (h:∃ t,PW X e t/\∀ B G0 G W H σ en Q,SimH B G0 G W H->SimS X.K W G H σ en->wpR (f en) (PostB G H Q) (PostX (E σ) G H)->t σ H Q):DW X E e f :=
 fun wh pins s σ H Q I ⟨B,G0,G,W,en,h1,h2,h3⟩=>let ⟨_,p,m⟩:=h;p wh pins s σ H Q I (m B G0 G W H σ en Q h1 h2 h3)
theorem DA.out (h:DA X E es fr):∃ t,PA X es t/\∀ B G0 G W H σ en Q,SimH B G0 G W H->SimS X.K W G H σ en->wpR (fr en) (aFq X.K W G H Q) (PostX (E σ) G H)->t σ H Q :=
 ⟨_,h,fun B G0 G W H σ en Q h1 h2 h3=>⟨B,G0,G,W,en,h1,h2,h3⟩⟩
theorem DA.in (h:∃ t,PA X es t/\∀ B G0 G W H σ en Q,SimH B G0 G W H->SimS X.K W G H σ en->wpR (fr en) (aFq X.K W G H Q) (PostX (E σ) G H)->t σ H Q):DA X E es fr :=
 fun pos pins s σ H Q I ⟨B,G0,G,W,en,h1,h2,h3⟩=>let ⟨_,p,m⟩:=h;p pos pins s σ H Q I (m B G0 G W H σ en Q h1 h2 h3)
end
theorem DW.t {X:Cx} {E:L2.St->XK} {e:Expr} {f:En->Res Bool} (h:DW X E e f):DT X E e f:=h _
section
variable {X:Cx} {E:L2.St->XK} {a b c e:Expr} {es:List Expr} {fa fb:En->Res Ev} {fr:En->Res (List Ev)} {pos:Pos}
theorem DE.go {K:PySem.W.Frag} {W:Addr->Option Nat} {G H:Hp} {EE:XK} {Q:VK} {r:Res Ev} {k:Ev->Res Ev} {Q':VK} (hw:wpR (r.bind k) (PostE K W G H Q) (PostX EE G H))
  (h:∀ (x:Ev) G1 H1 v,Step G H G1 H1->EOk K W H G1 H1 v x.c->wpR (k x) (PostE K W G1 H1 Q) (PostX EE G1 H1)->Q' v H1):wpR r (PostE K W G H Q') (PostX EE G H):=by
 rw [cU] at hw
 refine bT hw (fun x hx G1 H1 v s e=>?_) fun C h=>h
 obtain ⟨G2,s2,e2⟩:=e.c s
 exact h x G2 H1 v s2 e2 (bT hx (fun r h=>h.step s2) fun C h=>h.step s2)
theorem DE.goB {K:PySem.W.Frag} {W:Addr->Option Nat} {G H:Hp} {EE:XK} {Q:Bool->Hp->Prop} {r:Res Ev} {k:Ev->Res Bool} {Q':VK} (hw:wpR (r.bind k) (PostB G H Q) (PostX EE G H))
  (h:∀ (x:Ev) G1 H1 v,Step G H G1 H1->EOk K W H G1 H1 v x.c->wpR (k x) (PostB G1 H1 Q) (PostX EE G1 H1)->Q' v H1):wpR r (PostE K W G H Q') (PostX EE G H):=by
 rw [cU] at hw
 refine bT hw (fun x hx G1 H1 v s e=>?_) fun C h=>h
 obtain ⟨G2,s2,e2⟩:=e.c s
 exact h x G2 H1 v s2 e2 (bT hx (fun r h=>h.step s2) fun C h=>h.step s2)
def OpM (K:PySem.W.Frag) (r:R2) (op:Ev->Ev->Res Ev):Prop:=∀ (W:Addr->Option Nat) (G H:Hp) (v u:V) (x y:Ev) (Q:VK),Same G H->EOk K W H G H v x.c->EOk K W H G H u y.c->wpR (op x.c y.c) (PostE K W G H Q) (fun _=>False)->r v u H Q
def aE (op:Ev->Ev->Res Ev) (fa fb:En->Res Ev):En->Res Ev:=fun en=>(fa en).bind fun x=>(fb en).bind fun y=>op x.c y.c
def NoX (op:Ev->Ev->Res Ev):Prop:=∀ x y C,op x y≠.exc C
theorem noX {α:Type} {r:Res α} {Q:α->Prop} {E E':Addr->Prop} (h:wpR r Q E) (n:∀ C,r≠.exc C):wpR r Q E':=by
 cases r with
 | ok a=>exact h
 | exc C=>exact absurd rfl (n C)
 | bad=>exact h
theorem sF {ta tb:TE} {r:R2} {op:Ev->Ev->Res Ev} (ma:∀ B G0 G W H σ en Q,SimH B G0 G W H->SimS X.K W G H σ en->wpR (fa en) (PostE X.K W G H Q) (PostX (E σ) G H)->ta σ H Q)
  (mb:∀ B G0 G W H σ en Q,SimH B G0 G W H->SimS X.K W G H σ en->wpR (fb en) (PostE X.K W G H Q) (PostX (E σ) G H)->tb σ H Q) (hm:OpM X.K r op) (hn:NoX op) :
  ∀ B G0 G W H σ en Q,SimH B G0 G W H->SimS X.K W G H σ en->wpR (aE op fa fb en) (PostE X.K W G H Q) (PostX (E σ) G H)->tOp r ta tb σ H Q:=by
 intro B G0 G W H σ en Q hh hs hw
 refine ma B G0 G W H σ en _ hh hs (DE.go hw fun x G1 H1 v s1 e1 h1=>?_)
 refine mb B G0 G1 W H1 σ en _ (hh.step s1) (hs.step s1) (DE.go h1 fun y G2 H2 u s2 e2 h2=>?_)
 exact hm W G2 H2 v u x y Q s2.gh (e1.step s2) (by cases y<;>exact e2) (noX h2 (hn _ _))
theorem aN {op:Operator} {r:R2} {f:Ev->Ev->Res Ev} (ho:OpR X (binaryOp op) r) (hm:OpM X.K r f) (hn:NoX f) (ha:DE X E a fa) (hb:DE X E b fb):DE X E (.BinOp a op b pos) (aE f fa fb):=by
 obtain ⟨ta,pa,ma⟩:=ha.out
 obtain ⟨tb,pb,mb⟩:=hb.out
 refine DE.in ?_
 exact ⟨_,aPi ho pa pb,sF ma mb hm hn⟩
theorem zF {op:CmpOp} {r:R2} {f:Ev->Ev->Res Ev} (ho:OpR X (compareOp op) r) (hm:OpM X.K r f) (hn:NoX f) (ha:DE X E a fa) (hb:DE X E b fb) (hk:behindInMarks op b=false):DE X E (.Compare a [op] [b] pos) (aE f fa fb):=by
 obtain ⟨ta,pa,ma⟩:=ha.out
 obtain ⟨tb,pb,mb⟩:=hb.out
 refine DE.in ?_
 exact ⟨_,aJm ho pa pb hk,sF ma mb hm hn⟩
def cP (r:Ev):Res Bool:=match r with
 | .p (.bool b)=>.ok b
 | _=>.bad
def a9 (f:En->Res Ev):En->Res Bool:=fun en=>(f en).bind cP
theorem lB {t:TE} (m:∀ B G0 G W H σ en Q,SimH B G0 G W H->SimS X.K W G H σ en->wpR (fa en) (PostE X.K W G H Q) (PostX (E σ) G H)->t σ H Q) :
  ∀ B G0 G W H σ en Q,SimH B G0 G W H->SimS X.K W G H σ en->wpR (a9 fa en) (PostB G H Q) (PostX (E σ) G H)->t σ H fun x H1=>∃ k,x=.bl k/\Q k H1:=by
 intro B G0 G W H σ en Q hh hs hw
 refine m B G0 G W H σ en _ hh hs (DE.goB hw fun x G1 H1 v s1 e1 h1=>?_)
 cases x with
 | p d =>
  cases d with
  | bool k=>cases e1;exact ⟨k,rfl,h1 G1 H1 (Step.refl s1.gh)⟩
  | _=>exact False.elim h1
 | _=>exact False.elim h1
theorem cH {op:CmpOp} {r:R2} {f:Ev->Ev->Res Ev} (ho:OpR X (compareOp op) r) (hm:OpM X.K r f) (hn:NoX f) (ha:DE X E a fa) (hb:DE X E b fb) (hk:behindInMarks op b=false):DT X E (.Compare a [op] [b] pos) (a9 (aE f fa fb)):=by
 obtain ⟨ta,pa,ma⟩:=ha.out
 obtain ⟨tb,pb,mb⟩:=hb.out
 refine DT.in ?_
 exact ⟨_,aIn ho pa pb hk,lB (sF ma mb hm hn)⟩
theorem l6 (h:DE X E e fa) (he:∀ whole,isTrue e X.env whole=(do let v <- whole;standAt e.pos;holding [v] (truthy v)):=by intro _;rfl):DT X E e (a9 fa):=by
 obtain ⟨t,p,m⟩:=h.out
 refine DT.in ?_
 exact ⟨_,aK7 p he,lB m⟩
def aD (i:Nat):En->Res Ev:=fun en=>match en[i]? with
 | some (some (.p d))=>.ok (.p d)
 | some (some (.o d))=>.ok (.b d)
 | some (some (.x C))=>.ok (.x C)
 | _=>.bad
theorem aMc {i:Nat} {x:Str} (hN:X.N[i]? = some x) (hv:Vis X.env.scope x) (hd:(x == ("__debug__" : Str))=false:=by decide) (hcd:(x == ("__classdict__" : Str))=false:=by decide):DE X E (.Name x pos) (aD i):=by
 refine DE.in ?_
 refine ⟨_,aHd hN hv hd hcd,fun B G0 G W H σ en Q hh hs hw=>?_⟩
 unfold aD at hw
 split at hw
 ·rename_i d e
  obtain ⟨v,e1,e2⟩:=hs.2 i _ e
  exact ⟨v,e1,hw G H v (Step.refl hh.gh) e2⟩
 ·rename_i d e
  obtain ⟨v,e1,a,o,e2,e3,e4,e5⟩:=hs.2 i _ e
  exact ⟨v,e1,hw G H v (Step.refl hh.gh) ⟨a,i,o,e2,e3,e4,e5⟩⟩
 ·rename_i C e
  obtain ⟨v,e1,e2⟩:=hs.2 i _ e
  exact ⟨v,e1,hw G H v (Step.refl hh.gh) e2⟩
 ·exact hw.elim
def mC (d:D):En->Res Ev:=fun _=>.ok (.p d)
theorem kZ {v:V} {d:D} (h:∀ G,Rep X.K G v d):∀ B G0 G W H σ en Q,SimH B G0 G W H->SimS X.K W G H σ en->wpR (mC d en) (PostE X.K W G H Q) (PostX (E σ) G H)->tC v σ H Q :=
 fun B G0 G W H σ en Q hh hs hw=>hw G H v (Step.refl hh.gh) (h G)
theorem aC {i j}:DE X E (.Constant (.int i) j pos) (mC (.int i)):=DE.in ⟨_,aL9,kZ fun _=>.int i⟩
theorem zK {b j}:DE X E (.Constant (.bool b) j pos) (mC (.bool b)):=DE.in ⟨_,aN0,kZ fun _=>.bl b⟩
theorem xY {j}:DE X E (.Constant .none j pos) (mC .none):=DE.in ⟨_,aKl,kZ fun _=>.non⟩
theorem aM4 {x j}:DE X E (.Constant (.str x) j pos) (mC (.str x)):=DE.in ⟨_,aNb,kZ fun _=>.str x⟩
variable {ga gb:En->Res Bool} {rest:List Expr}
def oM (f g:En->Res Bool):En->Res Bool:=fun en=>(f en).bind fun c=>if c=true then g en else .ok false
def mOr (f g:En->Res Bool):En->Res Bool:=fun en=>(f en).bind fun c=>if c=true then .ok true else g en
def rA (f:En->Res Bool):En->Res Bool:=fun en=>(f en).bind fun c=>.ok (!c)
theorem aB3 (ha:DT X E a ga):DW X E (.BoolOp .And [a] pos) ga:=let ⟨t,p,m⟩:=ha.out;DW.in ⟨t,aIu p,m⟩
theorem aBo (ha:DT X E a ga):DW X E (.BoolOp .Or [a] pos) ga:=let ⟨t,p,m⟩:=ha.out;DW.in ⟨t,aKr p,m⟩
theorem yJ (ha:DT X E a ga) (hb:DW X E (.BoolOp .And (b :: rest) pos) gb):DW X E (.BoolOp .And (a :: b :: rest) pos) (oM ga gb):=by
 obtain ⟨ta,pa,ma⟩:=ha.out
 obtain ⟨tb,pb,mb⟩:=hb.out
 refine DW.in ?_
 refine ⟨_,aM8 pa pb,fun B G0 G W H σ en Q hh hs hw=>ma B G0 G W H σ en _ hh hs ?_⟩
 have hw:wpR ((ga en).bind _) _ _:=hw
 rw [cU] at hw
 refine bT hw (fun c hc G1 H1 s=>?_) fun C h=>h
 cases c with
 | true=>exact mb B G0 G1 W H1 σ en Q (hh.step s) (hs.step s) (bT hc (fun _ h=>h.step s) fun _ h=>h.step s)
 | false=>exact hc G1 H1 s
theorem aIs (ha:DT X E a ga) (hb:DW X E (.BoolOp .Or (b :: rest) pos) gb):DW X E (.BoolOp .Or (a :: b :: rest) pos) (mOr ga gb):=by
 obtain ⟨ta,pa,ma⟩:=ha.out
 obtain ⟨tb,pb,mb⟩:=hb.out
 refine DW.in ?_
 refine ⟨_,aNv pa pb,fun B G0 G W H σ en Q hh hs hw=>ma B G0 G W H σ en _ hh hs ?_⟩
 have hw:wpR ((ga en).bind _) _ _:=hw
 rw [cU] at hw
 refine bT hw (fun c hc G1 H1 s=>?_) fun C h=>h
 cases c with
 | false=>exact mb B G0 G1 W H1 σ en Q (hh.step s) (hs.step s) (bT hc (fun _ h=>h.step s) fun _ h=>h.step s)
 | true=>exact hc G1 H1 s
theorem aGj (ha:DT X E a ga):DT X E (.UnaryOp .Not a pos) (rA ga):=by
 obtain ⟨ta,pa,ma⟩:=ha.out
 refine DT.in ?_
 refine ⟨_,aKq pa,fun B G0 G W H σ en Q hh hs hw=>ma B G0 G W H σ en _ hh hs ?_⟩
 have hw:wpR ((ga en).bind _) _ _:=hw
 rw [cU] at hw
 exact bT hw (fun c hc=>hc) fun C h=>h
def qS (f g:En->Res Ev):En->Res Ev:=fun en=>(f en).bind fun c=>match c with
 | .p (.bool true)=>g en
 | .p (.bool false)=>.ok (.p (.bool false))
 | _=>.bad
def aJu (f g:En->Res Ev):En->Res Ev:=fun en=>(f en).bind fun c=>match c with
 | .p (.bool false)=>g en
 | .p (.bool true)=>.ok (.p (.bool true))
 | _=>.bad
def wZ (f:En->Res Ev):En->Res Ev:=fun en=>(f en).bind fun c=>match c with
 | .p (.bool k)=>.ok (.p (.bool (!k)))
 | _=>.bad
theorem aM6 {op} (h:DE X E a fa):DE X E (.BoolOp op [a] pos) fa:=let ⟨t,p,m⟩:=h.out;DE.in ⟨t,aMy p,m⟩
theorem aKo (ha:DE X E a fa) (hb:DE X E (.BoolOp .And (b :: rest) pos) fb):DE X E (.BoolOp .And (a :: b :: rest) pos) (qS fa fb):=by
 obtain ⟨ta,pa,ma⟩:=ha.out
 obtain ⟨tb,pb,mb⟩:=hb.out
 refine DE.in ?_
 refine ⟨_,aNc pa pb,fun B G0 G W H σ en Q hh hs hw=>ma B G0 G W H σ en _ hh hs (DE.go hw fun x G1 H1 v s1 e1 h1=>?_)⟩
 cases x with
 | p d =>
  cases d with
  | bool k =>
   cases e1
   cases k with
   | true=>exact ⟨true,rfl,mb B G0 G1 W H1 σ en Q (hh.step s1) (hs.step s1) h1⟩
   | false=>exact ⟨false,rfl,h1 G1 H1 _ (Step.refl s1.gh) (.bl false)⟩
  | _=>exact False.elim h1
 | _=>exact False.elim h1
def mIf (c:En->Res Bool) (f g:En->Res Ev):En->Res Ev:=fun en=>(c en).bind fun k=>if k=true then f en else g en
theorem aM2 (hc:DT X E c ga) (ha:DE X E a fa) (hb:DE X E b fb):DE X E (.IfExp c a b pos) (mIf ga fa fb):=by
 obtain ⟨tc,pc,mc⟩:=hc.out
 obtain ⟨ta,pa,ma⟩:=ha.out
 obtain ⟨tb,pb,mb⟩:=hb.out
 refine DE.in ?_
 refine ⟨_,aE3 pc pa pb,fun B G0 G W H σ en Q hh hs hw=>mc B G0 G W H σ en _ hh hs ?_⟩
 have hw:wpR ((ga en).bind _) _ _:=hw
 rw [cU] at hw
 refine bT hw (fun k hk G1 H1 s=>?_) fun C h=>h
 have hk':=bT hk (fun _ h=>PostE.step h s) fun _ h=>PostX.step h s
 cases k with
 | true=>exact ma B G0 G1 W H1 σ en Q (hh.step s) (hs.step s) hk'
 | false=>exact mb B G0 G1 W H1 σ en Q (hh.step s) (hs.step s) hk'
def aL:En->Res (List Ev):=fun _=>.ok []
def aA (f:En->Res Ev) (g:En->Res (List Ev)):En->Res (List Ev):=fun en=>(f en).bind fun x=>(g en).bind fun xs=>.ok (x.c :: xs)
theorem aK:DA X E [] aL:=DA.in ⟨_,qX,fun B G0 G W H σ en Q hh hs hw=>hw G H [] (Step.refl hh.gh) trivial⟩
theorem EOk.cc {K:PySem.W.Frag} {W:Addr->Option Nat} {Hs Hs' G H:Hp} {v:V} {r:Ev} (h:EOk K W Hs G H v r.c):EOk K W Hs' G H v r.c:=by
 cases r<;>exact h
theorem aB (ha:DE X E e fa) (hr:DA X E es fr) (hst:starEach (e :: es) X.env=(false,eval e X.env) :: starEach es X.env:=by rfl):DA X E (e :: es) (aA fa fr):=by
 obtain ⟨ta,pa,ma⟩:=ha.out
 obtain ⟨tr,pr,mr⟩:=hr.out
 refine DA.in ?_
 refine ⟨_,nG pa pr hst,fun B G0 G W H σ en Q hh hs hw=>ma B G0 G W H σ en _ hh hs ?_⟩
 have hw:wpR ((fa en).bind _) _ _:=hw
 rw [cU] at hw
 refine bT hw (fun x hx G1 H1 v s e1=>?_) fun C h=>h
 obtain ⟨G2,s2,e2⟩:=e1.c s
 refine mr B G0 G2 W H1 σ en _ (hh.step s2) (hs.step s2) ?_
 rw [cU] at hx
 refine bT hx (fun xs hxs G3 H3 vs s3 e3=>?_) fun C h=>h.step s2
 refine hxs G3 H3 (v :: vs) (s2.trans s3) ⟨e2.step s3,?_⟩
 clear hxs hx hw
 induction xs generalizing vs with
 | nil=>cases vs<;>exact e3
 | cons y ys ih =>
  cases vs with
  | nil=>exact e3
  | cons u us =>
   refine ⟨?_,ih us e3.2⟩
   have z:=e3.1
   cases y with
   | p d=>exact z
   | b d=>exact z
   | x d=>exact z
   | f d =>
    obtain ⟨a,o,h1,h2,h3⟩:=z
    exact ⟨a,o,h1,s2.h.free h2,h3⟩
end
inductive Out where
 | nx (en:En)
 | rt (l:L)
 | bk (en:En)
 | ct (en:En)
 | ex (C:Addr) (en:En)
abbrev MS:=En->Option Out
def aJi (K:PySem.W.Frag) (B G H:Hp) (v:V):L->Prop
 | .p d=>Rep K G v d
 | .o d=>∃ a o,v=.ref a/\G a=none/\B a=none/\H a=some o/\Cont K G o d
 | .x C=>∃ e,v=.ref e/\G e=some (aNe e (.ref C))
 | .h _=>False
def PostS (K:PySem.W.Frag) (B G0:Hp) (E:L2.St->XK) (Dn:Ends):Out->Prop
 | .nx en=>∀ G W H σ,SimH B G0 G W H->SimS K W G H σ en->Dn.nx σ H
 | .bk en=>∀ G W H σ,SimH B G0 G W H->SimS K W G H σ en->Dn.bk σ H
 | .ct en=>∀ G W H σ,SimH B G0 G W H->SimS K W G H σ en->Dn.ct σ H
 | .rt l=>∀ G W H v,SimH B G0 G W H->aJi K B G H v l->Dn.rt v H
 | .ex C en=>∀ G W H σ,SimH B G0 G W H->SimS K W G H σ en->E σ (.ref C) none H
def wpO (o:Option Out) (P:Out->Prop):Prop:=match o with
 | some r=>P r
 | none=>False
def tS (K:PySem.W.Frag) (E:L2.St->XK) (f:MS):TS:=fun Dn σ H=>∃ B G0 G W en,SimH B G0 G W H/\SimS K W G H σ en/\wpO (f en) (PostS K B G0 E Dn)
def DS (X:Cx) (E:L2.St->XK) (st:Stmt) (f:MS):Prop:=PS X st (tS X.K E f)
def DSs (X:Cx) (E:L2.St->XK) (st:List Stmt) (f:MS):Prop:=PSs X st (tS X.K E f)
section
variable {X:Cx} {E:L2.St->XK} {st:Stmt} {sts:List Stmt} {f g:MS} {fe:En->Res Ev} {fc:En->Res Bool} {e c:Expr} {pos:Pos}
theorem DS.in (h:∃ t,PS X st t/\∀ B G0 G W H σ en Dn,SimH B G0 G W H->SimS X.K W G H σ en->wpO (f en) (PostS X.K B G0 E Dn)->t Dn σ H):DS X E st f :=
 fun pins s σ H Dn I ⟨B,G0,G,W,en,h1,h2,h3⟩=>let ⟨_,p,m⟩:=h;p pins s σ H Dn I (m B G0 G W H σ en Dn h1 h2 h3)
theorem DSs.in (h:∃ t,PSs X sts t/\∀ B G0 G W H σ en Dn,SimH B G0 G W H->SimS X.K W G H σ en->wpO (f en) (PostS X.K B G0 E Dn)->t Dn σ H):DSs X E sts f :=
 fun pins s σ H Dn I ⟨B,G0,G,W,en,h1,h2,h3⟩=>let ⟨_,p,m⟩:=h;p pins s σ H Dn I (m B G0 G W H σ en Dn h1 h2 h3)
theorem DS.out (h:DS X E st f):∃ t,PS X st t/\∀ B G0 G W H σ en Dn,SimH B G0 G W H->SimS X.K W G H σ en->wpO (f en) (PostS X.K B G0 E Dn)->t Dn σ H :=
 ⟨_,h,fun B G0 G W H σ en Dn h1 h2 h3=>⟨B,G0,G,W,en,h1,h2,h3⟩⟩
theorem DSs.out (h:DSs X E sts f):∃ t,PSs X sts t/\∀ B G0 G W H σ en Dn,SimH B G0 G W H->SimS X.K W G H σ en->wpO (f en) (PostS X.K B G0 E Dn)->t Dn σ H :=
 ⟨_,h,fun B G0 G W H σ en Dn h1 h2 h3=>⟨B,G0,G,W,en,h1,h2,h3⟩⟩
def bS:MS:=fun en=>some (.nx en)
def bB (f g:MS):MS:=fun en=>match f en with
 | some (.nx e)=>g e
 | r=>r
theorem bZ:DSs X E [] bS:=DSs.in ⟨_,aI4,fun B G0 G W H σ en Dn hh hs hw=>hw G W H σ hh hs⟩
theorem aQ (h:DS X E st f):DSs X E [st] f:=let ⟨t,p,m⟩:=h.out;DSs.in ⟨t,aI8 p,m⟩
theorem aI (h1:DS X E st f) (h2:DSs X E sts g):DSs X E (st :: sts) (bB f g):=by
 obtain ⟨t,p,m⟩:=h1.out
 obtain ⟨u,q,n⟩:=h2.out
 refine DSs.in ⟨_,aGd p q,fun B G0 G W H σ en Dn hh hs hw=>m B G0 G W H σ en _ hh hs ?_⟩
 unfold bB at hw
 cases ef:f en with
 | none=>rw [ef] at hw;exact hw
 | some r =>
  rw [ef] at hw
  cases r with
  | nx e=>exact fun G1 W1 H1 σ1 hh1 hs1=>n B G0 G1 W1 H1 σ1 e Dn hh1 hs1 hw
  | rt l=>exact hw
  | bk e=>exact hw
  | ct e=>exact hw
  | ex C e=>exact hw
theorem SimS.set {K:PySem.W.Frag} {W:Addr->Option Nat} {G H:Hp} {σ:L2.St} {en:En} {i:Nat} {v:V} {l:L} (h:SimS K W G H σ en) (hl:Slot K W G H i v l):SimS K W G H (σ.set i (some v)) (en.set i (some l)):=by
 refine ⟨by rw [List.length_set,List.length_set];exact h.1,fun j m e=>?_⟩
 rw [List.getElem?_set] at e
 rw [List.getElem?_set]
 by_cases hj:i=j
 ·subst hj
  rw [if_pos rfl] at e
  split at e
  ·rename_i hlt
   cases e
   rw [if_pos rfl,if_pos (by rw [h.1];exact hlt)]
   exact ⟨v,rfl,hl⟩
  ·cases e
 ·rw [if_neg hj] at e ⊢
  exact h.2 j m e
def owner (W:Addr->Option Nat) (a:Addr) (i:Nat):Addr->Option Nat:=fun b=>if b=a then some i else W b
theorem aE8 {K:PySem.W.Frag} {B G0 G H:Hp} {W:Addr->Option Nat} {σ:L2.St} {en:En} {i:Nat} {a:Addr} {o:HO} {d:D} (hh:SimH B G0 G W H) (hs:SimS K W G H σ en) (hW:W a=none) (hG:G a=none) (hB:B a=none) (hH:H a=some o) (hc:Cont K G o d) :
  SimH B G0 G (owner W a i) H/\SimS K (owner W a i) G H (σ.set i (some (.ref a))) (en.set i (some (.o d))):=by
 refine ⟨⟨hh.gh,hh.bh,hh.g0,hh.gb,fun b j e=>?_⟩,SimS.set ⟨hs.1,fun j l e=>?_⟩ ⟨a,o,rfl,if_pos rfl,hH,hc⟩⟩
 ·unfold owner at e
  split at e
  ·rename_i z
   subst z
   exact ⟨hG,hB,o,hH,hc.mut⟩
  ·exact hh.wf b j e
 ·obtain ⟨v,e1,e2⟩:=hs.2 j l e
  refine ⟨v,e1,?_⟩
  cases l with
  | p d=>exact e2
  | x C=>exact e2
  | h a=>exact e2
  | o d =>
   obtain ⟨b,ob,h1,h2,h3,h4⟩:=e2
   refine ⟨b,ob,h1,?_,h3,h4⟩
   unfold owner
   rw [if_neg (fun z=>by rw [z,hW] at h2;cases h2)]
   exact h2
def bU (i:Nat) (fe:En->Res Ev):MS:=fun en=>match fe en with
 | .ok (.p d)=>some (.nx (en.set i (some (.p d))))
 | .ok (.f d)=>some (.nx (en.set i (some (.o d))))
 | .ok (.x C)=>some (.nx (en.set i (some (.x C))))
 | .ok (.b _)=>none
 | .exc C=>some (.ex C en)
 | .bad=>none
theorem SimH.lone {B G0 G H:Hp} {W:Addr->Option Nat} (hh:SimH B G0 G W H) {a:Addr} (h:H a=none):W a=none:=by
 cases e:W a with
 | none=>rfl
 | some i =>
  obtain ⟨_,_,o,q,_⟩:=hh.wf a i e
  rw [h] at q;cases q
theorem yT {te:TE} {i:Nat} (m:∀ B G0 G W H σ en Q,SimH B G0 G W H->SimS X.K W G H σ en->wpR (fe en) (PostE X.K W G H Q) (PostX (E σ) G H)->te σ H Q) :
  ∀ B G0 G W H σ en Dn,SimH B G0 G W H->SimS X.K W G H σ en->wpO (bU i fe en) (PostS X.K B G0 E Dn)->te σ H fun x H1=>Dn.nx (σ.set i (some x)) H1:=by
 intro B G0 G W H σ en Dn hh hs hw
 refine m B G0 G W H σ en _ hh hs ?_
 unfold bU at hw
 cases ef:fe en with
 | bad=>rw [ef] at hw;exact hw
 | exc C=>rw [ef] at hw;exact fun G1 H1 s=>hw G1 W H1 σ (hh.step s) (hs.step s)
 | ok r =>
  rw [ef] at hw
  cases r with
  | b d=>exact hw.elim
  | p d=>exact fun G1 H1 v s e=>hw G1 W H1 _ (hh.step s) ((hs.step s).set e)
  | x C=>exact fun G1 H1 v s e=>hw G1 W H1 _ (hh.step s) ((hs.step s).set e)
  | f d =>
   rintro G1 H1 v s ⟨a,o,rfl,h1,h2,h3,h4⟩
   obtain ⟨q1,q2⟩:=aE8 (i:=i) (hh.step s) (hs.step s) (hh.lone h1) h2 (hh.bh.free h1) h3 h4
   exact hw G1 _ H1 _ q1 q2
theorem a6 {i:Nat} {x:Str} {pos':Pos} (hN:X.N.Nodup) (hi:X.N[i]? = some x) (hx:Loc X.env.scope x) (he:DE X E e fe) (hs:swapsWith e (some (.Name x pos')) pos.line X.env=pure false:=by rfl) (hf:X.fn x=true\/X.env.scope.names.lookup x=some .local:=by first | exact .inl rfl | exact .inr rfl | assumption) :
  DS X E (.Assign [.Name x pos'] e pos) (bU i fe):=by
 obtain ⟨t,p,m⟩:=he.out
 exact DS.in ⟨_,aKn hN hi hx p hs hf,yT m⟩
def aDu:Ev->L
 | .p d=>.p d
 | .f d=>.o d
 | .b d=>.o d
 | .x C=>.x C
def dE (fe:En->Res Ev):MS:=fun en=>match fe en with
 | .ok r=>some (.rt (aDu r))
 | .exc C=>some (.ex C en)
 | .bad=>none
theorem bF (he:DE X E e fe):DS X E (.Return (some e) pos) (dE fe):=by
 obtain ⟨t,p,m⟩:=he.out
 refine DS.in ⟨_,aLl p,fun B G0 G W H σ en Dn hh hs hw=>m B G0 G W H σ en _ hh hs ?_⟩
 unfold dE at hw
 cases ef:fe en with
 | bad=>rw [ef] at hw;exact hw
 | exc C=>rw [ef] at hw;exact fun G1 H1 s=>hw G1 W H1 σ (hh.step s) (hs.step s)
 | ok r =>
  rw [ef] at hw
  intro G1 H1 v s e
  refine hw G1 W H1 v (hh.step s) ?_
  cases r with
  | p d=>exact e
  | x C=>exact e
  | f d =>
   obtain ⟨a,o,h0,h1,h2,h3,h4⟩:=e
   exact ⟨a,o,h0,h2,hh.bh.free h1,h3,h4⟩
  | b d =>
   obtain ⟨a,i,o,h0,h1,h3,h4⟩:=e
   have z:=(hh.step s).wf a i h1
   exact ⟨a,o,h0,z.1,z.2.1,h3,h4⟩
def dN (c:En->Res Bool) (f g:MS):MS:=fun en=>match c en with
 | .ok k=>if k=true then f en else g en
 | .exc C=>some (.ex C en)
 | .bad=>none
theorem d6 {A B:List Stmt} (hc:DT X E c fc) (ha:DSs X E A f) (hb:DSs X E B g):DS X E (.If c A B pos) (dN fc f g):=by
 obtain ⟨tc,pc,mc⟩:=hc.out
 obtain ⟨t,p,m⟩:=ha.out
 obtain ⟨u,q,n⟩:=hb.out
 refine DS.in ⟨_,aOn pc p q,fun B G0 G W H σ en Dn hh hs hw=>mc B G0 G W H σ en _ hh hs ?_⟩
 unfold dN at hw
 cases ef:fc en with
 | bad=>rw [ef] at hw;exact hw
 | exc C=>rw [ef] at hw;exact fun G1 H1 s=>hw G1 W H1 σ (hh.step s) (hs.step s)
 | ok k =>
  rw [ef] at hw
  intro G1 H1 s
  cases k with
  | true=>exact m B G0 G1 W H1 σ en Dn (hh.step s) (hs.step s) hw
  | false=>exact n B G0 G1 W H1 σ en Dn (hh.step s) (hs.step s) hw
def frz (i:Nat) (en:En):En:=match en[i]? with
 | some (some (.o d))=>en.set i (some (.p d))
 | _=>en
theorem aMv {K:PySem.W.Frag} {B G0 G H:Hp} {W:Addr->Option Nat} {σ:L2.St} {en:En} (i:Nat) (hh:SimH B G0 G W H) (hs:SimS K W G H σ en):∃ G' W',SimH B G0 G' W' H/\SimS K W' G' H σ (frz i en):=by
 unfold frz
 split
 ·rename_i d e
  obtain ⟨v,e1,a,o,rfl,e2,e3,e4⟩:=hs.2 i _ e
  obtain ⟨w1,w2,w3⟩:=hh.wf a i e2
  have sg:Same G (upd G a o):=Same.upd (Same.refl _) w1 o
  refine ⟨upd G a o,fun b=>if b=a then none else W b,⟨fun b u q=>?_,hh.bh,hh.g0.trans sg,fun b hb=>?_,fun b j e=>?_⟩,by rw [List.length_set];exact hs.1,fun j l e5=>?_⟩
  ·by_cases z:b=a
   ·subst z;rw [cS] at q;rw [e3];exact q
   ·rw [cI z] at q;exact hh.gh b u q
  ·by_cases z:b=a
   ·subst z;exact .inr (.inl w2)
   ·rw [cI z] at hb;exact hh.gb b hb
  ·split at e
   ·cases e
   ·rename_i z
    rw [cI z];exact hh.wf b j e
  ·rw [List.getElem?_set] at e5
   by_cases hj:i=j
   ·subst hj
    rw [if_pos rfl] at e5
    split at e5
    ·cases e5
     exact ⟨_,e1,(e4.mono sg).rep cS⟩
    ·cases e5
   ·rw [if_neg hj] at e5
    obtain ⟨v,f1,f2⟩:=hs.2 j l e5
    refine ⟨v,f1,?_⟩
    cases l with
    | p d=>exact f2.mono sg
    | x C=>obtain ⟨ea,g1,g2⟩:=f2;exact ⟨ea,g1,sg _ _ g2⟩
    | h a=>exact f2
    | o d =>
     obtain ⟨b,ob,g1,g2,g3,g4⟩:=f2
     refine ⟨b,ob,g1,?_,g3,g4.mono sg⟩
     show (if b=a then none else W b)=some j
     rw [if_neg (fun z=>by rw [z,e2] at g2;exact hj (Option.some.inj g2))]
     exact g2
 ·exact ⟨G,W,hh,hs⟩
theorem eZ (i:Nat) (h:DSs X E sts f):DSs X E sts (fun en=>f (frz i en)):=by
 obtain ⟨t,p,m⟩:=h.out
 refine DSs.in ⟨t,p,fun B G0 G W H σ en Dn hh hs hw=>?_⟩
 obtain ⟨G',W',h1,h2⟩:=aMv i hh hs
 exact m B G0 G' W' H σ _ Dn h1 h2 hw
end
def mWh (c:En->Res Bool) (f:MS):Nat->MS
 | 0,_=>none
 | n+1,en=>match c en with
  | .bad=>none
  | .exc C=>some (.ex C en)
  | .ok false=>some (.nx en)
  | .ok true=>match f en with
   | some (.nx e)=>mWh c f n e
   | some (.ct e)=>mWh c f n e
   | some (.bk e)=>some (.nx e)
   | r=>r
theorem rO {c:En->Res Bool} {f:MS}:∀ {n:Nat} {en:En} {r:Out},mWh c f n en=some r->mWh c f (n+1) en=some r
 | 0,_,_,h=>by cases h
 | n+1,en,r,h=>by
  unfold mWh at h ⊢
  cases ec:c en with
  | bad=>rw [ec] at h;exact h
  | exc C=>rw [ec] at h;exact h
  | ok k =>
   rw [ec] at h
   cases k with
   | false=>exact h
   | true =>
    dsimp only at h ⊢
    cases ef:f en with
    | none=>rw [ef] at h;exact h
    | some o =>
     rw [ef] at h
     cases o with
     | nx e=>exact rO (n:=n) h
     | ct e=>exact rO (n:=n) h
     | bk e=>exact h
     | rt l=>exact h
     | ex C e=>exact h
theorem aHa {c:En->Res Bool} {f:MS} {n m:Nat} {en:En} {r:Out} (h:mWh c f n en=some r) (l:n<=m):mWh c f m en=some r:=by
 induction l with
 | refl=>exact h
 | step _ ih=>exact rO ih
open Classical in
noncomputable def oU (c:En->Res Bool) (f:MS):MS:=fun en=>if h:∃ n r,mWh c f n en=some r then mWh c f h.choose en else none
theorem u5 {c:En->Res Bool} {f:MS} {n:Nat} {en:En} {r:Out} (h:mWh c f n en=some r):oU c f en=some r:=by
 unfold oU
 have hx:∃ n r,mWh c f n en=some r:=⟨n,r,h⟩
 rw [dif_pos hx]
 obtain ⟨r',h'⟩:=hx.choose_spec
 rcases Nat.le_total n hx.choose with l | l
 ·exact aHa h l
 ·have:=aHa h' l
  rw [h] at this
  rw [h'];exact this.symm
theorem w5 {c:En->Res Bool} {f:MS} {en:En} {P:Out->Prop} (h:wpO (oU c f en) P):∃ n,wpO (mWh c f n en) P:=by
 unfold oU at h
 split at h
 ·exact ⟨_,h⟩
 ·exact h.elim
section
variable {X:Cx} {E:L2.St->XK} {st:Stmt} {sts:List Stmt} {f g:MS} {fe:En->Res Ev} {fc:En->Res Bool} {e c:Expr} {pos:Pos}
theorem xO (hp:PassesOwn (model X.prog X.w) X.A X.env X.xe) (hc:DT X E c fc) (hb:DSs X E sts f):DS X E (.While c sts [] pos) (oU fc f):=by
 obtain ⟨tc,pc,mc⟩:=hc.out
 obtain ⟨t,p,m⟩:=hb.out
 refine DS.in ⟨_,aFm hp pc p,fun B G0 G W H σ en Dn hh hs hw=>?_⟩
 obtain ⟨n0,hw⟩:=w5 hw
 refine ⟨fun n σ H=>∃ G W en,SimH B G0 G W H/\SimS X.K W G H σ en/\wpO (mWh fc f n en) (PostS X.K B G0 E Dn),⟨n0,G,W,en,hh,hs,hw⟩,?_⟩
 rintro n σ H ⟨G,W,en,hh,hs,hw⟩
 cases n with
 | zero=>exact hw.elim
 | succ n =>
  refine mc B G0 G W H σ en _ hh hs ?_
  unfold mWh at hw
  cases ec:fc en with
  | bad=>rw [ec] at hw;exact hw
  | exc C=>rw [ec] at hw;exact fun G1 H1 s=>hw G1 W H1 σ (hh.step s) (hs.step s)
  | ok k =>
   rw [ec] at hw
   intro G1 H1 s
   cases k with
   | false=>exact hw G1 W H1 σ (hh.step s) (hs.step s)
   | true =>
    refine ⟨fun σ' H'=>∃ G W en,SimH B G0 G W H'/\SimS X.K W G H' σ' en/\wpO (mWh fc f n en) (PostS X.K B G0 E Dn),fun σ' H' q=>⟨n,Nat.lt_succ_self n,q⟩,?_⟩
    refine m B G0 G1 W H1 σ en _ (hh.step s) (hs.step s) ?_
    dsimp only at hw
    cases ef:f en with
    | none=>rw [ef] at hw;exact hw
    | some o =>
     rw [ef] at hw
     cases o with
     | nx e=>exact fun G2 W2 H2 σ2 h2 s2=>⟨G2,W2,e,h2,s2,hw⟩
     | ct e=>exact fun G2 W2 H2 σ2 h2 s2=>⟨G2,W2,e,h2,s2,hw⟩
     | bk e=>exact hw
     | rt l=>exact hw
     | ex C e=>exact hw
end
def aD8 (K:PySem.W.Frag) (ds:List D) (G1:Hp) (J:It):Prop:=∀ G H,Same G1 G->Same G H ->
 (∀ i d,ds[i]? = some d->J.go i H/\∀ v H',J.yld i H v H'->∃ G',Step G H G' H'/\Rep K G' v d)/\J.stop ds.length H
def tI (K:PySem.W.Frag) (E:L2.St->XK) (f:En->Res (List D)):TI:=fun σ H R=>∃ B G0 G W en,SimH B G0 G W H/\SimS K W G H σ en/\wpR (f en) (fun ds=>∀ G' H' J,Step G H G' H'->aD8 K ds G' J->R J H') (PostX (E σ) G H)
def DI (X:Cx) (E:L2.St->XK) (tg e:Expr) (f:En->Res (List D)):Prop:=PI X tg e (tI X.K E f)
def Kept (ks:List Nat) (σ σ':L2.St):Prop:=σ'.length=σ.length/\∀ j,j∉ks->σ'[j]? = σ[j]?
def tG (K:PySem.W.Frag) (ks:List Nat) (f:D->En->Option En):TG:=fun v σ H Q=>∃ G W en d en',Same G H/\SimS K W G H σ en/\Rep K G v d/\f d en=some en'/\∀ σ',SimS K W G H σ' en'->Kept ks σ σ'->Q σ' H
def tGs (K:PySem.W.Frag) (ks:List Nat) (f:List D->En->Option En):TGs:=fun vs σ H Q=>∃ G W en ds en',Same G H/\SimS K W G H σ en/\Reps K G vs ds/\f ds en=some en'/\∀ σ',SimS K W G H σ' en'->Kept ks σ σ'->Q σ' H
def DG (X:Cx) (tg:Expr) (ks:List Nat) (f:D->En->Option En):Prop:=PG X tg (tG X.K ks f)
def DGs (X:Cx) (tg:List Expr) (ks:List Nat) (f:List D->En->Option En):Prop:=PGs X tg (tGs X.K ks f)
theorem Kept.trans {ks ls:List Nat} {σ σ1 σ2:L2.St} (a:Kept ks σ σ1) (b:Kept ls σ1 σ2):Kept (ks++ls) σ σ2 :=
 ⟨b.1.trans a.1,fun j hj=>(b.2 j fun z=>hj (List.mem_append_right _ z)).trans (a.2 j fun z=>hj (List.mem_append_left _ z))⟩
def aM (i:Nat):D->En->Option En:=fun d en=>some (en.set i (some (.p d)))
def iS:List D->En->Option En:=fun ds en=>match ds with
 | []=>some en
 | _=>none
def cQ (f:D->En->Option En) (g:List D->En->Option En):List D->En->Option En:=fun ds en=>match ds with
 | []=>none
 | d :: r=>match f d en with
  | none=>none
  | some e=>g r e
def iR (n:Nat) (f:List D->En->Option En):D->En->Option En:=fun d en=>match d with
 | .tuple ds=>if ds.length=n then f ds en else none
 | _=>none
section
variable {X:Cx} {E:L2.St->XK} {pos:Pos}
theorem DI.in {tg e:Expr} {f:En->Res (List D)} (h:∃ t,PI X tg e t/\∀ B G0 G W H σ en R,SimH B G0 G W H->SimS X.K W G H σ en->wpR (f en) (fun ds=>∀ G' H' J,Step G H G' H'->aD8 X.K ds G' J->R J H') (PostX (E σ) G H)->t σ H R):DI X E tg e f :=
 fun pins s σ H R I ⟨B,G0,G,W,en,h1,h2,h3⟩=>let ⟨_,p,m⟩:=h;p pins s σ H R I (m B G0 G W H σ en R h1 h2 h3)
theorem bE {i:Nat} {x:Str} (hN:X.N.Nodup) (hi:X.N[i]? = some x) (hx:Loc X.env.scope x) (hf:X.fn x=true\/X.env.scope.names.lookup x=some .local:=by first | exact .inl rfl | exact .inr rfl | assumption):DG X (.Name x pos) [i] (aM i):=by
 intro pins s σ H v u Q I r ⟨G,W,en,d,en',h1,h2,h3,h4,h5⟩
 refine aCj hN hi hx hf pins s σ H v u Q I r ?_
 cases h4
 exact h5 _ (h2.set h3) ⟨List.length_set ..,fun j hj=>List.getElem?_set_ne (fun z=>hj (by rw [z];exact .head _))⟩
theorem pD:DGs X [] [] iS:=by
 intro pins s σ H vs us Q I r ⟨G,W,en,ds,en',h1,h2,h3,h4,h5⟩
 refine aHz pins s σ H vs us Q I r ?_
 unfold iS at h4
 split at h4
 ·cases h4;cases h3;exact ⟨rfl,h5 _ h2 ⟨rfl,fun _ _=>rfl⟩⟩
 ·cases h4
theorem gR {e:Expr} {es:List Expr} {ks ls:List Nat} {f:D->En->Option En} {g:List D->En->Option En} (h1:DG X e ks f) (h2:DGs X es ls g)
  (hs:(assignEach (e :: es) X.env).map (·.2)=assign e X.env :: (assignEach es X.env).map (·.2):=by rfl):DGs X (e :: es) (ks++ls) (cQ f g):=by
 intro pins s σ H vs us Q I r ⟨G,W,en,ds,en',k1,k2,k3,k4,k5⟩
 refine aFh h1 h2 hs pins s σ H vs us Q I r ?_
 unfold cQ at k4
 cases k3 with
 | nil=>cases k4
 | @cons x xs d ds hx hr =>
  dsimp only at k4
  split at k4
  ·cases k4
  ·rename_i e1 q1
   exact ⟨x,xs,rfl,G,W,en,d,e1,k1,k2,hx,q1,fun σ' hσ hk=>⟨G,W,e1,ds,en',k1,hσ,hr,k4,fun σ2 q1 q2=>k5 σ2 q1 (hk.trans q2)⟩⟩
theorem uG {es:List Expr} {k:Nat} {ks:List Nat} {f:List D->En->Option En} {n:Nat} (hc:X.calm=true) (h:DGs X es ks f) (hn:(assignEach es X.env).length=n:=by rfl) (hst:(assignEach es X.env).findIdx? (·.1)=none:=by rfl):DG X (.Tuple es k pos) ks (iR n f):=by
 intro pins s σ H v u Q I r ⟨G,W,en,d,en',k1,k2,k3,k4,k5⟩
 refine aL6 hc h hn hst pins s σ H v u Q I r ?_
 unfold iR at k4
 split at k4
 ·rename_i ds
  split at k4
  ·rename_i hl
   cases k3 with
   | @tup a xs _ ha hr=>exact ⟨a,xs,rfl,SqT.of (k1 _ _ ha),by rw [hr.length];exact hl,G,W,en,ds,en',k1,k2,hr,k4,k5⟩
  ·cases k4
 ·cases k4
def xZ (g:D->En->Option En) (fe:En->Res Ev):MS:=fun en=>match fe en with
 | .ok r=>match r.c with
  | .p d=>match g d en with
   | some e=>some (.nx e)
   | none=>none
  | _=>none
 | .exc C=>some (.ex C en)
 | .bad=>none
theorem aA9 {tg e:Expr} {ks:List Nat} {g:D->En->Option En} {fe:En->Res Ev} (he:DE X E e fe) (hg:DG X tg ks g) (hs:swapsWithSole [tg] e pos.line X.env=pure false:=by rfl) (hw:swappedStores [tg] e X.env=pure none:=by rfl)
  (h1:(assignEach [tg] X.env).map (·.2)=[assign tg X.env]:=by rfl):DS X E (.Assign [tg] e pos) (xZ g fe):=by
 obtain ⟨t,p,m⟩:=he.out
 refine DS.in ⟨_,aHb p hg hs hw h1,fun B G0 G W H σ en Dn hh hs hw=>m B G0 G W H σ en _ hh hs ?_⟩
 unfold xZ at hw
 cases ef:fe en with
 | bad=>rw [ef] at hw;exact hw
 | exc C=>rw [ef] at hw;exact fun G1 H1 s=>hw G1 W H1 σ (hh.step s) (hs.step s)
 | ok r =>
  rw [ef] at hw
  intro G1 H1 v s e
  obtain ⟨G2,s2,e2⟩:=e.c s
  dsimp only at hw
  cases er:r.c with
  | p d =>
   rw [er] at hw e2
   dsimp only at hw
   cases eg:g d en with
   | none=>rw [eg] at hw;exact hw.elim
   | some e' =>
    rw [eg] at hw
    exact ⟨G2,W,en,d,e',s2.gh,hs.step s2,e2,eg,fun σ' hσ _=>hw G2 W H1 σ' (hh.step s2) hσ⟩
  | f d=>rw [er] at hw;exact hw.elim
  | b d=>rw [er] at hw;exact hw.elim
  | x C=>rw [er] at hw;exact hw.elim
def fM (tg:D->En->Option En) (f:MS):List D->MS
 | [],en=>some (.nx en)
 | d :: ds,en=>match tg d en with
  | none=>none
  | some e1=>match f e1 with
   | some (.nx e2)=>fM tg f ds e2
   | some (.ct e2)=>fM tg f ds e2
   | some (.bk e2)=>some (.nx e2)
   | r=>r
def vN (fi:En->Res (List D)) (tg:D->En->Option En) (f:MS):MS:=fun en=>match fi en with
 | .ok ds=>fM tg f ds en
 | .exc C=>some (.ex C en)
 | .bad=>none
theorem SimH.lower {B G0 G1 G H H1:Hp} {W W1:Addr->Option Nat} (h:SimH B G1 G W H) (h1:SimH B G0 G1 W1 H1):SimH B G0 G W H :=
 ⟨h.gh,h.bh,h1.g0.trans h.g0,fun b hb=>(h.gb b hb).elim (fun z=>h1.gb b z) .inr,h.wf⟩
theorem SimH.raise {B G0 G H:Hp} {W:Addr->Option Nat} (h:SimH B G0 G W H):SimH B G G W H:=⟨h.gh,h.bh,Same.refl _,fun _ hb=>.inl hb,h.wf⟩
theorem PostS.lower {K:PySem.W.Frag} {B G0 G1 H1:Hp} {W1:Addr->Option Nat} {Dn:Ends} {r:Out} (h:PostS K B G0 E Dn r) (h1:SimH B G0 G1 W1 H1):PostS K B G1 E Dn r:=by
 cases r with
 | nx en=>exact fun G W H σ a b=>h G W H σ (a.lower h1) b
 | bk en=>exact fun G W H σ a b=>h G W H σ (a.lower h1) b
 | ct en=>exact fun G W H σ a b=>h G W H σ (a.lower h1) b
 | rt l=>exact fun G W H σ a b=>h G W H σ (a.lower h1) b
 | ex C en=>exact fun G W H σ a b=>h G W H σ (a.lower h1) b
theorem jK {tg iter:Expr} {body:List Stmt} {fi:En->Res (List D)} {ks:List Nat} {g:D->En->Option En} {f:MS} (hp:PassesOwn (model X.prog X.w) X.A X.env X.xe) (hc:X.calm=true) (hi:DI X E tg iter fi) (hg:DG X tg ks g) (hb:DSs X E body f)
  (hs:∀ x,foldedSetIterable iter X.env x=pure x:=by intro _;rfl):DS X E (.For tg iter body [] pos) (vN fi g f):=by
 obtain ⟨t,p,m⟩:=hb.out
 refine DS.in ⟨_,aL1 hp hc hi hg p hs,fun B G0 G W H σ en Dn hh hs hw=>⟨B,G0,G,W,en,hh,hs,?_⟩⟩
 unfold vN at hw
 cases ef:fi en with
 | bad=>rw [ef] at hw;exact hw
 | exc C=>rw [ef] at hw;exact fun G1 H1 s=>hw G1 W H1 σ (hh.step s) (hs.step s)
 | ok ds =>
  rw [ef] at hw
  intro G1 H1 J s1 hJ
  have hh1:=hh.step s1
  refine ⟨fun i n σ H=>n=ds.length - i/\i<=ds.length/\∃ G W en,SimH B G1 G W H/\SimS X.K W G H σ en/\wpO (fM g f (ds.drop i) en) (PostS X.K B G0 E Dn),
   ⟨ds.length,rfl,Nat.zero_le _,G1,W,en,hh1.raise,hs.step s1,hw⟩,?_⟩
  rintro i n σ H ⟨rfl,hi,G,W,en,hh,hs,hw⟩
  obtain ⟨j1,j2⟩:=hJ G H hh.g0 hh.gh
  by_cases hlt:i < ds.length
  ·refine .inr ?_
   obtain ⟨jg,jy⟩:=j1 i ds[i] (List.getElem?_eq_getElem hlt)
   rw [List.drop_eq_getElem_cons hlt] at hw
   unfold fM at hw
   refine ⟨jg,fun σ' H'=>∃ G W en,SimH B G1 G W H'/\SimS X.K W G H' σ' en/\wpO (fM g f (ds.drop (i+1)) en) (PostS X.K B G0 E Dn),fun σ' H' q=>⟨ds.length - (i+1),by omega,rfl,hlt,q⟩,fun v H' hy=>?_⟩
   obtain ⟨G2,s2,rv⟩:=jy v H' hy
   cases eg:g ds[i] en with
   | none=>rw [eg] at hw;exact hw.elim
   | some e1 =>
    rw [eg] at hw
    dsimp only at hw
    refine ⟨G2,W,en,ds[i],e1,s2.gh,hs.step s2,rv,eg,fun σ' hσ _=>?_⟩
    refine m B G1 G2 W H' σ' e1 _ (hh.step s2) hσ ?_
    cases ef2:f e1 with
    | none=>rw [ef2] at hw;exact hw
    | some o =>
     rw [ef2] at hw
     cases o with
     | nx e=>exact fun G2 W2 H2 σ2 h2 s2=>⟨G2,W2,e,h2,s2,hw⟩
     | ct e=>exact fun G2 W2 H2 σ2 h2 s2=>⟨G2,W2,e,h2,s2,hw⟩
     | bk e=>exact PostS.lower (E:=E) (Dn:=Dn) (r:=.nx e) hw hh1
     | rt l=>exact PostS.lower (E:=E) (Dn:=Dn) (r:=.rt l) hw hh1
     | ex C e=>exact PostS.lower (E:=E) (Dn:=Dn) (r:=.ex C e) hw hh1
  ·have e:i=ds.length:=by omega
   subst e
   rw [List.drop_length] at hw
   exact .inl ⟨j2,hw G W H σ (hh.lower hh1) hs⟩
def aIt (r:Ev):Res (List D):=match r with
 | .p (.list ds)=>.ok ds
 | _=>.bad
def fF (fe:En->Res Ev):En->Res (List D):=fun en=>(fe en).bind fun r=>aIt r.c
theorem cL {tg e:Expr} {fe:En->Res Ev} (he:DE X E e fe):DI X E tg e (fF fe):=by
 obtain ⟨t,p,m⟩:=he.out
 refine DI.in ⟨_,aIm p,fun B G0 G W H σ en R hh hs hw=>m B G0 G W H σ en _ hh hs ?_⟩
 have hw:wpR ((fe en).bind _) _ _:=hw
 rw [cU] at hw
 refine bT hw (fun r hr G1 H1 v s e=>?_) fun C h=>h
 obtain ⟨G2,s2,e2⟩:=e.c s
 cases er:r.c with
 | p d =>
  rw [er] at hr e2
  cases d with
  | list ds =>
   cases e2 with
   | @lst a xs _ ha hrs =>
    refine ⟨a,rfl,⟨xs,s2.gh.seq (.inl ha)⟩,hr G2 H1 _ s2 fun G3 H3 k1 k2=>⟨fun i d ed=>?_,xs,(k1.trans k2).seq (.inl ha),Nat.le_of_eq hrs.length⟩⟩
    obtain ⟨x,ex,rx⟩:=hrs.get' ed
    refine ⟨⟨xs,x,(k1.trans k2).seq (.inl ha),ex⟩,fun v H' hy=>?_⟩
    obtain ⟨rfl,hy⟩:=hy
    have:=hy xs ((k1.trans k2).seq (.inl ha))
    rw [ex] at this
    cases this
    exact ⟨G3,Step.refl k2,rx.mono k1⟩
  | _=>exact False.elim hr
 | f d=>rw [er] at hr;exact False.elim hr
 | b d=>rw [er] at hr;exact False.elim hr
 | x C=>rw [er] at hr;exact False.elim hr
def qK (lo:Int) (n:Nat):List D:=(List.range n).map fun (k:Nat)=>PyData.int (lo+(k:Int))
def oD (rs:List Ev):Res (List D):=match rs with
 | [.p (.int j)]=>if -(2 ^ 62)<=j/\j < 2 ^ 62 then .ok (qK 0 j.toNat) else .bad
 | _=>.bad
theorem aAg (K:PySem.W.Frag) (lo:Int) (n:Nat) (G1:Hp):aD8 K (qK lo n) G1 (Itr lo n):=fun G H _ k2=>by
 refine ⟨fun i d ed=>?_,by show n<=_;unfold qK;rw [List.length_map,List.length_range];exact Nat.le_refl _⟩
 unfold qK at ed
 rw [List.getElem?_map] at ed
 by_cases hi:i < n
 ·rw [List.getElem?_range hi] at ed
  cases ed
  refine ⟨hi,fun v H' hy=>?_⟩
  obtain ⟨rfl,rfl⟩:=hy
  exact ⟨G,Step.refl k2,.int _⟩
 ·rw [List.getElem?_eq_none (by rw [List.length_range];omega)] at ed
  cases ed
def qP (r:List Ev->Res (List D)) (fr:En->Res (List Ev)):En->Res (List D):=fun en=>(fr en).bind r
theorem mY {tg a:Expr} {fr:En->Res (List Ev)} {p:Pos} (hg:Gl X "range") (hm:X.mg "range" = none) (ha:DA X E [a] fr) (hs:starEach [a] X.env=[(false,eval a X.env)]:=by rfl):DI X E tg (.Call (.Name "range" p) [a] [] pos) (qP oD fr):=by
 obtain ⟨t,q,m⟩:=ha.out
 refine DI.in ⟨_,aAw hg hm q hs,fun B G0 G W H σ en R hh hs hw=>m B G0 G W H σ en _ hh hs ?_⟩
 have hw:wpR ((fr en).bind _) _ _:=hw
 rw [cU] at hw
 refine bT hw (fun rs hr G1 H1 vs s e=>?_) fun C h=>h
 unfold oD at hr
 split at hr
 ·rename_i j
  split at hr
  ·rename_i hj
   match vs,e with
   | [v],⟨e1,_⟩ =>
    cases e1
    exact ⟨j,rfl,hj.1,hj.2,hr G1 H1 _ s (aAg _ _ _ _)⟩
  ·exact False.elim hr
 ·exact False.elim hr
end
def kF:Ev->Option L
 | .p d=>some (.p d)
 | .x C=>some (.x C)
 | .b _=>none
 | .f _=>none
def zW:Ev->Option L
 | .p d=>some (.p d)
 | .b d=>some (.p d)
 | .x _=>none
 | .f _=>none
def dG (g:Ev->Option L):List Ev->Option (List L)
 | []=>some []
 | r :: rs=>match g r with
  | none=>none
  | some l=>match dG g rs with
   | none=>none
   | some ls=>some (l :: ls)
def lF:L->Ev
 | .p d=>.p d
 | .o d=>.f d
 | .x C=>.x C
 | .h a=>.x a
mutual
def lfD:D->Bool
 | .list _=>false
 | .dict _=>false
 | .tuple ds=>lfA ds
 | _=>true
def lfA:List D->Bool
 | []=>true
 | d :: ds=>lfD d && lfA ds
end
def lfP:List (D×D)->Bool
 | []=>true
 | p :: r=>lfD p.2 && lfP r
def vI:L->Bool
 | .p d=>lfD d
 | .o (.list ds)=>lfA ds
 | .o (.dict kvs)=>lfP kvs
 | _=>false
def eN (n:Nat) (m:List L->Res L) (rs:List Ev):Res Ev:=match dG kF rs with
 | some ls=>if ls.length=n then (m ls).bind fun l=>.ok (lF l) else .bad
 | none=>match dG zW rs with
  | some ls=>if ls.length=n then (m ls).bind fun l=>if vI l=true then .ok (lF l) else .bad else .bad
  | none=>.bad
def aJ (n:Nat) (m:List L->Res L) (fr:En->Res (List Ev)):En->Res Ev:=fun en=>(fr en).bind (eN n m)
def aOb (K:PySem.W.Frag) (G:Hp) (v:V):L->Prop
 | .p d=>Rep K G v d
 | .o _=>False
 | .x C=>∃ e,v=.ref e/\G e=some (aNe e (.ref C))
 | .h _=>False
def ArgsOk (K:PySem.W.Frag) (G:Hp):List V->List L->Prop
 | [],[]=>True
 | v :: vs,l :: ls=>aOb K G v l/\ArgsOk K G vs ls
 | _,_=>False
theorem ArgsOk.length {K:PySem.W.Frag} {G:Hp}:∀ {vs:List V} {ls:List L},ArgsOk K G vs ls->vs.length=ls.length
 | [],[],_=>rfl
 | _ :: _,_ :: _,h=>by rw [List.length_cons,List.length_cons,ArgsOk.length h.2]
def spM (K:PySem.W.Frag) (n:Nat) (m:List L->Res L):Sp:=fun vs H Q E=>vs.length=n/\∃ G ls,Same G H/\ArgsOk K G vs ls /\
 wpR (m ls) (fun l=>∀ G' H' v,Step G H G' H'->aJi K H G' H' v l->Q v H') (fun C=>∀ G' H',Step G H G' H'->E (.ref C) none H')
theorem aDz {K:PySem.W.Frag} {W:Addr->Option Nat} {Hs G H:Hp}:∀ {rs:List Ev} {ls:List L} {vs:List V},dG kF rs=some ls->EOks K W Hs G H vs rs->ArgsOk K G vs ls
 | [],_,[],h,_=>by cases h;exact trivial
 | [],_,_ :: _,_,e=>e.elim
 | _ :: _,_,[],_,e=>e.elim
 | r :: rs,ls,v :: vs,h,e=>by
  unfold dG at h
  cases r with
  | p d =>
   cases er:dG kF rs with
   | none=>rw [er] at h;cases h
   | some ls'=>rw [er] at h;cases h;exact ⟨e.1,aDz er e.2⟩
  | x C =>
   cases er:dG kF rs with
   | none=>rw [er] at h;cases h
   | some ls'=>rw [er] at h;cases h;exact ⟨e.1,aDz er e.2⟩
  | b d=>cases h
  | f d=>cases h
def both (W:Addr->Option Nat) (G H:Hp):Hp:=fun b=>match W b with
 | some _=>H b
 | none=>G b
theorem pO {W:Addr->Option Nat} {B G0 G H:Hp} (hh:SimH B G0 G W H):Same G (both W G H)/\Same (both W G H) H:=by
 refine ⟨fun b o e=>?_,fun b o e=>?_⟩
 ·unfold both
  cases ew:W b with
  | none=>exact e
  | some i=>rw [(hh.wf b i ew).1] at e;cases e
 ·unfold both at e
  cases ew:W b with
  | none=>rw [ew] at e;exact hh.gh b o e
  | some i=>rw [ew] at e;exact e
theorem aBc {K:PySem.W.Frag} {W:Addr->Option Nat} {Hs B G0 G H:Hp} (hh:SimH B G0 G W H):∀ {rs:List Ev} {ls:List L} {vs:List V},dG zW rs=some ls->EOks K W Hs G H vs rs->ArgsOk K (both W G H) vs ls
 | [],_,[],h,_=>by cases h;exact trivial
 | [],_,_ :: _,_,e=>e.elim
 | _ :: _,_,[],_,e=>e.elim
 | r :: rs,ls,v :: vs,h,e=>by
  unfold dG at h
  cases r with
  | p d =>
   cases er:dG zW rs with
   | none=>rw [er] at h;cases h
   | some ls'=>rw [er] at h;cases h;exact ⟨Rep.mono (pO hh).1 e.1,aBc hh er e.2⟩
  | b d =>
   cases er:dG zW rs with
   | none=>rw [er] at h;cases h
   | some ls' =>
    rw [er] at h;cases h
    refine ⟨?_,aBc hh er e.2⟩
    obtain ⟨a,i,o,rfl,h1,h2,h3⟩:=e.1
    exact (h3.mono (pO hh).1).rep (by unfold both;rw [h1];exact h2)
  | x d=>cases h
  | f d=>cases h
mutual
theorem zC {K:PySem.W.Frag} {G G':Hp} (k:∀ b xs,G b=some (.tup xs)->G' b=some (.tup xs)):∀ {v:V} {d:D},lfD d=true->Rep K G v d->Rep K G' v d
 | _,_,_,.non=>.non
 | _,_,_,.bl b=>.bl b
 | _,_,_,.int i=>.int i
 | _,_,_,.str x=>.str x
 | _,_,hf,.tup h r=>.tup (k _ _ h) (vV k (by unfold lfD at hf;exact hf) r)
 | _,_,hf,.lst _ _=>by unfold lfD at hf;cases hf
 | _,_,hf,.dT _ _=>by unfold lfD at hf;cases hf
 | _,_,hf,.dK _ _=>by unfold lfD at hf;cases hf
theorem vV {K:PySem.W.Frag} {G G':Hp} (k:∀ b xs,G b=some (.tup xs)->G' b=some (.tup xs)):∀ {vs:List V} {ds:List D},lfA ds=true->Reps K G vs ds->Reps K G' vs ds
 | _,_,_,.nil=>.nil
 | _,_,hf,.cons h r=>by
  unfold lfA at hf
  have hf:=Bool.and_eq_true_iff.mp hf
  exact .cons (zC k hf.1 h) (vV k hf.2 r)
end
theorem aBj {K:PySem.W.Frag} {G G':Hp} (k:∀ b xs,G b=some (.tup xs)->G' b=some (.tup xs)):∀ {kv:List (List Key×V)} {kvs:List (D×D)},lfP kvs=true->RepT K G kv kvs->RepT K G' kv kvs
 | _,_,_,.nil=>.nil
 | _,_,hf,.cons h r=>by
  unfold lfP at hf
  have hf:=Bool.and_eq_true_iff.mp hf
  exact .cons (zC k hf.1 h) (aBj k hf.2 r)
theorem aD5 {K:PySem.W.Frag} {G G':Hp} (k:∀ b xs,G b=some (.tup xs)->G' b=some (.tup xs)):∀ {kv:List (Key×V)} {kvs:List (D×D)},lfP kvs=true->RepK K G kv kvs->RepK K G' kv kvs
 | _,_,_,.nil=>.nil
 | _,_,hf,.cons h r=>by
  unfold lfP at hf
  have hf:=Bool.and_eq_true_iff.mp hf
  exact .cons (zC k hf.1 h) (aD5 k hf.2 r)
def qN (W:Addr->Option Nat) (G:Hp):Hp:=fun b=>match W b with
 | some _=>none
 | none=>G b
theorem aEh {K:PySem.W.Frag} {W:Addr->Option Nat} {H1 G H Hs:Hp} {v:V} {l:L} (hf:vI l=true) (hH:Hs=Hs) (hs:∀ b,H1 b=none->Hs b=none) (k:∀ b xs,G b=some (.tup xs)->qN W G b=some (.tup xs)) (h:aJi K H1 G H v l):EOk K W Hs (qN W G) H v (lF l):=by
 have n0:∀ b,G b=none->qN W G b=none:=fun b e=>by
  unfold qN
  cases W b with
  | none=>exact e
  | some _=>rfl
 cases l with
 | x C=>cases hf
 | h a=>cases hf
 | p d=>exact zC k hf h
 | o d =>
  obtain ⟨a,o,rfl,h1,h2,h3,h4⟩:=h
  refine ⟨a,o,rfl,hs _ h2,n0 _ h1,h3,?_⟩
  cases h4 with
  | lst r=>exact .lst (vV k hf r)
  | dT r=>exact .dT (aBj k hf r)
  | dK r=>exact .dK (aD5 k (by unfold vI at hf;unfold lfP at hf;exact (Bool.and_eq_true_iff.mp hf).2) r)
theorem aB5 {K:PySem.W.Frag} {W:Addr->Option Nat} {B G0 G H G1 H1:Hp} {n:Nat} {m:List L->Res L} {rs:List Ev} {vs:List V} {Q:VK} {EE:XK} (hh:SimH B G0 G W H) (s:Step G H G1 H1) (e:EOks K W H G1 H1 vs rs)
  (hr:wpR (eN n m rs) (PostE K W G H Q) (PostX EE G H)):spM K n m vs H1 Q EE:=by
 unfold eN at hr
 split at hr
 ·rename_i ls el
  split at hr
  ·rename_i hn
   have ha:=aDz el e
   refine ⟨by rw [ha.length];exact hn,G1,ls,s.gh,ha,?_⟩
   rw [cU] at hr
   refine bT hr (fun l hl G2 H2 v s2 rv=>hl G2 H2 v (s.trans s2) ?_) fun C h G2 H2 s2=>h G2 H2 (s.trans s2)
   cases l with
   | p d=>exact rv
   | x C=>exact rv
   | h a=>exact rv.elim
   | o d =>
    obtain ⟨a,o,h1,h2,h3,h4,h5⟩:=rv
    exact ⟨a,o,h1,s.h.free h3,h2,h4,h5⟩
  ·exact hr.elim
 ·split at hr
  ·rename_i ls el
   split at hr
   ·rename_i hn
    have hh1:=hh.step s
    have ha:=aBc hh1 el e
    obtain ⟨k1,k2⟩:=pO hh1
    refine ⟨by rw [ha.length];exact hn,both W G1 H1,ls,k2,ha,?_⟩
    rw [cU] at hr
    refine bT hr (fun l hl G2 H2 v s2 rv=>?_) fun C h G2 H2 s2=>h G1 H2 (s.trans ⟨Same.refl _,s2.h,s.gh.trans s2.h,fun _ _ q=>.inl q⟩)
    split at hl
    ·rename_i hf
     have kt:∀ b xs,G2 b=some (.tup xs)->qN W G2 b=some (.tup xs):=fun b xs eb=>by
      unfold qN
      cases ew:W b with
      | none=>exact eb
      | some i =>
       obtain ⟨_,_,o,e1,e2⟩:=hh1.wf b i ew
       have e3:=s2.gh _ _ eb
       rw [s2.h _ _ e1] at e3
       exact absurd (Option.some.inj e3) (e2 xs)
     refine hl (qN W G2) H2 v ⟨fun b o eb=>?_,s.h.trans s2.h,fun b o eb=>?_,fun b hb hg=>?_⟩ (aEh hf rfl (fun b e=>s.h.free e) kt rv)
     ·have e1:=s.g _ _ eb
      unfold qN
      cases ew:W b with
      | none=>exact s2.g _ _ (k1 _ _ e1)
      | some i=>rw [(hh1.wf b i ew).1] at e1;cases e1
     ·unfold qN at eb
      cases ew:W b with
      | none=>rw [ew] at eb;exact s2.gh _ _ eb
      | some i=>rw [ew] at eb;cases eb
     ·unfold qN
      cases ew:W b with
      | some i=>exact .inl rfl
      | none =>
       rcases s.new b hb hg with z | z
       ·have z2:both W G1 H1 b=none:=by unfold both;rw [ew];exact z
        rcases s2.new b (aBt s.h hb) z2 with y | ⟨xs,y⟩
        ·exact .inl y
        ·cases e:H b with
         | none=>exact absurd e hb
         | some o=>rw [s.h _ _ e] at y;exact .inr ⟨xs,y⟩
       ·exact .inr z
    ·exact hl.elim
   ·exact hr.elim
  ·exact hr.elim
section
variable {X:Cx} {E:L2.St->XK} {k:Nat} {f:Addr} {fd:FuncData} {ps:List Str} {x:Str} {p pos:Pos} {e:Expr} {es:List Expr} {fr:En->Res (List Ev)} {n:Nat} {m:List L->Res L}
theorem aI1 (F:FnOk X.prog X.w X.K X.mg X.base (CXr X.prog X.w) k f fd ps (spM X.K n m)) (hr:Room k X.A) (hg:Gl X x) (hm:X.mg x=some (.ref f)) (hk:PySem.W.keepIn X.K (.ref f)=true) (hb:Binds X.K fd ps []) (hx:pM (CXr X.prog X.w) X E)
  (ha:DA X E (e :: es) fr) (hdb:(x == ("__debug__" : Str))=false:=by decide) (he:starEach (e :: es) X.env=(false,eval e X.env) :: starEach es X.env:=by rfl) (hpl:(backTo pos (starEach es X.env)).any (·.1)=false:=by rfl) :
  DE X E (.Call (.Name x p) (e :: es) [] pos) (aJ n m fr):=by
 obtain ⟨t,q,mm⟩:=ha.out
 refine DE.in ⟨_,aF4 F hr hg hm hk hb hx q hdb he hpl,fun B G0 G W H σ en Q hh hs hw=>mm B G0 G W H σ en _ hh hs ?_⟩
 have hw:wpR ((fr en).bind _) _ _:=hw
 rw [cU] at hw
 exact bT hw (fun rs hr G1 H1 vs s e=>aB5 hh s e hr) fun C h=>h
def qL (K:PySem.W.Frag) (r:List V->Hp->VK->Prop) (f:List Ev->Res Ev):Prop:=∀ (W:Addr->Option Nat) (Hs G H:Hp) (vs:List V) (rs:List Ev) (Q:VK),Same G H->EOks K W Hs G H vs rs->wpR (f rs) (PostE K W G H Q) (fun _=>False)->r vs H Q
def aEe (f:List Ev->Res Ev):Prop:=∀ rs C,f rs≠.exc C
def aH (f:List Ev->Res Ev) (fr:En->Res (List Ev)):En->Res Ev:=fun en=>(fr en).bind f
theorem qT {r:List V->Hp->VK->Prop} {f:List Ev->Res Ev} {t:TA} (hm:qL X.K r f) (hn:aEe f) (mm:∀ B G0 G W H σ en Q,SimH B G0 G W H->SimS X.K W G H σ en->wpR (fr en) (aFq X.K W G H Q) (PostX (E σ) G H)->t σ H Q) :
  ∀ B G0 G W H σ en Q,SimH B G0 G W H->SimS X.K W G H σ en->wpR (aH f fr en) (PostE X.K W G H Q) (PostX (E σ) G H)->tCB r t σ H Q:=by
 intro B G0 G W H σ en Q hh hs hw
 refine mm B G0 G W H σ en _ hh hs ?_
 have hw:wpR ((fr en).bind _) _ _:=hw
 rw [cU] at hw
 exact bT hw (fun rs hr G1 H1 vs s e=>hm W H G1 H1 vs rs Q s.gh e (noX (bT hr (fun _ h=>h.step s) fun _ h=>h) (hn rs))) fun C h=>h
theorem cM {id:String} {r:List V->Hp->VK->Prop} {f:List Ev->Res Ev} (hc:qD X (.builtin id) r) (hM:qL X.K r f) (hn:aEe f) (hg:Gl X x) (hm:X.mg x=none) (hv:bootBuiltins x=some (.builtin id)) (ha:DA X E (e :: es) fr) (hnn:x≠"__name__":=by decide) (hdb:(x == ("__debug__" : Str))=false:=by decide)
  (he:starEach (e :: es) X.env=(false,eval e X.env) :: starEach es X.env:=by rfl) (hpl:(backTo pos (starEach es X.env)).any (·.1)=false:=by rfl):DE X E (.Call (.Name x p) (e :: es) [] pos) (aH f fr):=by
 obtain ⟨t,q,mm⟩:=ha.out
 exact DE.in ⟨_,aGc hc hg hm hv q hnn hdb he hpl,qT hM hn mm⟩
theorem kJ {T:String} {r:List V->Hp->VK->Prop} {f:List Ev->Res Ev} (hc:qD X (.type T) r) (hM:qL X.K r f) (hn:aEe f) (hg:Gl X x) (hm:X.mg x=none) (hv:bootBuiltins x=some (.type T)) (ha:DA X E (e :: es) fr) (hnn:x≠"__name__":=by decide) (hdb:(x == ("__debug__" : Str))=false:=by decide)
  (he:starEach (e :: es) X.env=(false,eval e X.env) :: starEach es X.env:=by rfl) (hpl:(backTo pos (starEach es X.env)).any (·.1)=false:=by rfl):DE X E (.Call (.Name x p) (e :: es) [] pos) (aH f fr):=by
 obtain ⟨t,q,mm⟩:=ha.out
 exact DE.in ⟨_,aBy hc hg hm hv q hnn hdb he hpl,qT hM hn mm⟩
end
def bQ (n:Nat) (ls:List L):En:=ls.map some++List.replicate (n - ls.length) none
def fJ (n:Nat) (f:MS) (ls:List L):Res L:=match f (bQ n ls) with
 | some (.nx _)=>.ok (.p .none)
 | some (.rt l)=>.ok l
 | some (.ex C _)=>.exc C
 | _=>.bad
theorem rH {K:PySem.W.Frag} {W:Addr->Option Nat} {G H:Hp}:∀ {vs:List V} {ls:List L} (i:Nat) (l:L),ArgsOk K G vs ls->ls[i]? = some l->∃ v,vs[i]? = some v/\∀ j,Slot K W G H j v l
 | [],[],_,_,_,e=>by simp at e
 | v :: vs,l :: ls,0,m,h,e=>by
  simp at e;subst e
  refine ⟨v,rfl,fun j=>?_⟩
  have z:=h.1
  cases l with
  | p d=>exact z
  | x C=>exact z
  | h a=>exact z.elim
  | o d=>exact z.elim
 | v :: vs,l :: ls,i+1,m,h,e=>by
  have:=rH (W:=W) (H:=H) i m h.2 (by simpa using e)
  simpa using this
theorem aDh {K:PySem.W.Frag} {W:Addr->Option Nat} {G H:Hp} {N:List Str} {vs:List V} {ls:List L} (h:ArgsOk K G vs ls):SimS K W G H (L2.start N vs) (bQ N.length ls):=by
 have hl:=h.length
 refine ⟨by unfold L2.start bQ;simp [hl],fun i l e=>?_⟩
 unfold bQ at e
 by_cases hi:i < ls.length
 ·rw [List.getElem?_append_left (by rw [List.length_map];exact hi),List.getElem?_map] at e
  cases e2:ls[i]? with
  | none=>rw [e2] at e;cases e
  | some l' =>
   rw [e2] at e
   cases e
   obtain ⟨v,e3,e4⟩:=rH (W:=W) (H:=H) i l h e2
   refine ⟨v,?_,e4 i⟩
   unfold L2.start
   rw [List.getElem?_append_left (by rw [List.length_map,hl];exact hi),List.getElem?_map,e3]
   rfl
 ·rw [List.getElem?_append_right (by rw [List.length_map];omega),List.getElem?_replicate] at e
  split at e<;>cases e
theorem wF {G H G' H':Hp} {W:Addr->Option Nat} (h:SimH H G G' W H'):Step G H G' H':=⟨h.g0,h.bh,h.gh,fun b hb hg=>by
 cases e:G' b with
 | none=>exact .inl rfl
 | some o =>
  rcases h.gb b (by rw [e];exact fun z=>nomatch z) with z | z | z
  ·exact absurd hg z
  ·exact absurd z hb
  ·exact .inr z⟩
theorem aB9 {K:PySem.W.Frag} {N:List Str} {n:Nat} {m:List L->Res L} {fm:MS} {vs:List V} {H:Hp} {Q:VK} {E:XK} (h:spM K n m vs H Q E) (hm:∀ ls,m ls=.bad\/fJ N.length fm ls=m ls) :
  tS K (fun _=>E) fm { nx:=fun _ H'=>Q .non H',rt:=Q } (L2.start N vs) H:=by
 obtain ⟨hl,G,ls,gh,ha,hw⟩:=h
 refine ⟨H,G,G,fun _=>none,bQ N.length ls,⟨gh,Same.refl _,Same.refl _,fun _ hb=>.inl hb,fun a i e=>nomatch e⟩,aDh ha,?_⟩
 rcases hm ls with e | e
 ·rw [e] at hw;exact hw.elim
 ·rw [<- e] at hw
  unfold fJ at hw
  cases ef:fm (bQ N.length ls) with
  | none=>rw [ef] at hw;exact hw
  | some o =>
   rw [ef] at hw
   cases o with
   | nx en=>exact fun G' W' H' σ' h1 _=>hw G' H' .non (wF h1) .non
   | rt l=>exact fun G' W' H' v h1 h2=>hw G' H' v (wF h1) h2
   | bk en=>exact hw.elim
   | ct en=>exact hw.elim
   | ex C en=>exact fun G' W' H' σ' h1 _=>hw G' H' (wF h1)
section
variable {P:Program} {w:World} {K:PySem.W.Frag} {mg:Str->Option Value} {base:Heap}
theorem bI {N:List Str} {qual:Str} {scope:Scope} {f:Addr} {cd:Value} {A:Around} {outer:List Env} {s:Shared} {H:Hp} {E:XK}:pM (CXr P w) (tV (CXr P w) P w K mg base N qual scope f cd A outer s H E) (fun _=>E) :=
 fun pins σ H s e s' I h=>aOp pins σ H s e s' I h
theorem vC {X:Cx}:pM (CXr P w) X (fun _=>E0):=fun _ _ _ _ _ _ _ ⟨_,_,_,_,_,_,_,z⟩=>z.elim
theorem fnM {x qual:Str} {st:Stmt} {f:Addr} {fd:FuncData} {N ps:List Str} {k n:Nat} {m:List L->Res L} (F:Fun K x qual st f fd) (S:bC N ps (aT st)) (hn:n=ps.length)
  (hbody:∀ (cdv:Value) (A:Around) (outer:List Env) (s:Shared) (H:Hp) (E:XK),Room k (A.deeper (envOfC qual (aT st) s.heap.objs.size f cdv)) ->
   ∃ fm,DSs (tV (CXr P w) P w K mg base N qual (aT st) f cdv A outer s H E) (fun _=>E) (iJ st) fm/\∀ ls,m ls=.bad\/fJ N.length fm ls=m ls):FnOk P w K mg base (CXr P w) (k+1) f fd ps (spM K n m):=by
 refine F.okX S (fun vs H Q E h=>?_) (fun cdv A outer s H vs Q E hr h=>?_)
 ·rw [<- hn];exact h.1
 ·obtain ⟨fm,hd,hm⟩:=hbody cdv A outer s H E hr
  exact ⟨_,hd,aB9 h hm⟩
end
def lJ (C:Addr) (fr:En->Res (List Ev)):MS:=fun en=>match fr en with
 | .ok rs=>if rs.length<=1000 then some (.ex C en) else none
 | .exc C=>some (.ex C en)
 | .bad=>none
theorem EOks.length {K:PySem.W.Frag} {W:Addr->Option Nat} {Hs G H:Hp}:∀ {vs:List V} {rs:List Ev},EOks K W Hs G H vs rs->vs.length=rs.length
 | [],[],_=>rfl
 | [],_ :: _,h=>h.elim
 | _ :: _,[],h=>h.elim
 | _ :: _,_ :: _,h=>by rw [List.length_cons,List.length_cons,EOks.length h.2]
section
variable {X:Cx}
theorem aFo {E:XK} {x:Str} {e₀:Expr} {rest:List Expr} {fr:En->Res (List Ev)} {C:Addr} {bm:List Value} {B newId initId:String} {np cpos pos:Pos} (hx:aA4 X E) (hc:X.calm=true) (hg:Gl X x) (O:OwnCls x C bm newId X.mg X.base)
  (FB:ExcBaseFacts B newId initId bm) (ha:DA X (fun _=>E) (e₀ :: rest) fr) (hdb:(x == ("__debug__" : Str))=false:=by decide)
  (he:starEach (e₀ :: rest) X.env=(false,eval e₀ X.env) :: starEach rest X.env:=by rfl) (hpl:(backTo cpos (starEach rest X.env)).any (·.1)=false:=by rfl) :
  DS X (fun _=>E) (.Raise (some (.Call (.Name x np) (e₀ :: rest) [] cpos)) none pos) (lJ C fr):=by
 obtain ⟨t,q,m⟩:=ha.out
 refine DS.in ⟨_,aE9 hx hc hg O FB q hdb he hpl,fun B G0 G W H σ en Dn hh hs hw=>m B G0 G W H σ en _ hh hs ?_⟩
 unfold lJ at hw
 cases ef:fr en with
 | bad=>rw [ef] at hw;exact hw
 | exc C=>rw [ef] at hw;exact fun G1 H1 s=>hw G1 W H1 σ (hh.step s) (hs.step s)
 | ok rs =>
  rw [ef] at hw
  intro G1 H1 vs s e
  dsimp only at hw
  split at hw
  ·rename_i hl
   exact ⟨by rw [e.length];exact Nat.le_trans hl (by decide),hw G1 W H1 σ (hh.step s) (hs.step s)⟩
  ·exact hw.elim
end
def jM:List Ev->Option (List D)
 | []=>some []
 | r :: rs=>match r with
  | .p d=>match jM rs with
   | some ds=>some (d :: ds)
   | none=>none
  | _=>none
theorem pB {K:PySem.W.Frag} {W:Addr->Option Nat} {Hs G H:Hp}:∀ {rs:List Ev} {ds:List D} {vs:List V},jM rs=some ds->EOks K W Hs G H vs rs->Reps K G vs ds
 | [],_,[],h,_=>by cases h;exact .nil
 | [],_,_ :: _,_,e=>e.elim
 | _ :: _,_,[],_,e=>e.elim
 | r :: rs,ds,v :: vs,h,e=>by
  unfold jM at h
  cases r with
  | p d =>
   dsimp only at h
   cases er:jM rs with
   | none=>rw [er] at h;cases h
   | some ds'=>rw [er] at h;cases h;exact .cons e.1 (pB er e.2)
  | x C=>cases h
  | b d=>cases h
  | f d=>cases h
def a7 (rs:List Ev):Res Ev:=match jM rs with
 | some ds=>if ds.length<=1000 then .ok (.p (.tuple ds)) else .bad
 | none=>.bad
def j9 (rs:List Ev):Res Ev:=match jM rs with
 | some ds=>if ds.length<=1000 then .ok (.f (.list ds)) else .bad
 | none=>.bad
section
variable {X:Cx} {E:L2.St->XK} {es:List Expr} {fr:En->Res (List Ev)} {pos:Pos}
theorem bW {x1} (h:DA X E es fr):DE X E (.Tuple es x1 pos) (aH a7 fr):=by
 obtain ⟨t,q,m⟩:=h.out
 refine DE.in ⟨_,aKx q,fun B G0 G W H σ en Q hh hs hw=>m B G0 G W H σ en _ hh hs ?_⟩
 have hw:wpR ((fr en).bind _) _ _:=hw
 rw [cU] at hw
 refine bT hw (fun rs hr G1 H1 vs s e=>?_) fun C h=>h
 unfold a7 at hr
 split at hr
 ·rename_i ds el
  have rp:=pB el e
  split at hr
  ·rename_i hl
   refine ⟨by rw [rp.length];exact Nat.le_trans hl (by decide),fun p hp=>?_⟩
   have st:=Step.put (o:=.tup vs) s.gh hp
   exact hr _ _ _ (s.trans st) (.tup cS (rp.mono st.g))
  ·exact False.elim hr
 ·exact False.elim hr
theorem xG (h:DA X E es fr):DE X E (.List es pos) (aH j9 fr):=by
 obtain ⟨t,q,m⟩:=h.out
 refine DE.in ⟨_,aL2 q,fun B G0 G W H σ en Q hh hs hw=>m B G0 G W H σ en _ hh hs ?_⟩
 have hw:wpR ((fr en).bind _) _ _:=hw
 rw [cU] at hw
 refine bT hw (fun rs hr G1 H1 vs s e=>?_) fun C h=>h
 unfold j9 at hr
 split at hr
 ·rename_i ds el
  have rp:=pB el e
  split at hr
  ·rename_i hl
   refine ⟨by rw [rp.length];exact Nat.le_trans hl (by decide),fun p hp=>?_⟩
   have st:=Step.lay (o:=.lst vs) s.gh hp
   exact hr _ _ _ (s.trans st) ⟨p,_,rfl,s.h.free hp,s.gh.free hp,cS,.lst rp⟩
  ·exact False.elim hr
 ·exact False.elim hr
end
def mQ (g:D->Option (Option D)):List D->Option (List D)
 | []=>some []
 | d :: ds=>match g d with
  | none=>none
  | some o=>match mQ g ds with
   | none=>none
   | some r=>some (match o with
    | some y=>y :: r
    | none=>r)
def vP (o:Option (Option L)):Option L:=match o with
 | some (some (.p d))=>some (.p d)
 | some (some (.x C))=>some (.x C)
 | _=>none
def lP (js:List Nat) (en:En):En:=js.map fun j=>vP en[j]?
def fL:En->Res Bool:=fun _=>.ok true
def a5 (n:Nat) (js:List Nat) (tg:D->En->Option En) (ft:En->Res Bool) (fe:En->Res Ev) (en:En) (d:D):Option (Option D):=match tg d (List.replicate n none++lP js en) with
 | none=>none
 | some e=>match ft e with
  | .ok true=>match fe e with
   | .ok r=>match r.c with
    | .p y=>some (some y)
    | _=>none
   | _=>none
  | .ok false=>some none
  | _=>none
def zJ (g:D->Option (Option D)) (ds:List D):Res Ev:=if ds.length<=100000 then match mQ g ds with
  | some r=>.ok (.f (.list r))
  | none=>.bad
 else .bad
def dC (n:Nat) (js:List Nat) (fi:En->Res (List D)) (tg:D->En->Option En) (ft:En->Res Bool) (fe:En->Res Ev):En->Res Ev:=fun en=>(fi en).bind fun ds=>zJ (a5 n js tg ft fe en) ds
def DTs (X:Cx) (ifs:List Expr) (f:En->Res Bool):Prop:=PTs X ifs (tT X.K (fun _=>E0) f)
theorem aPy {G H:Hp} (h:Same G H):SimH H G G (fun _=>none) H:=⟨h,Same.refl _,Same.refl _,fun _ hb=>.inl hb,fun a i e=>nomatch e⟩
theorem aEt {K:PySem.W.Frag} {W:Addr->Option Nat} {G H:Hp} {σ:L2.St} {en:En} (n:Nat) (js:List Nat) (h:SimS K W G H σ en):SimS K (fun _=>none) G H (List.replicate n none++yD js σ) (List.replicate n none++lP js en):=by
 refine ⟨by unfold yD lP;simp,fun i l e=>?_⟩
 by_cases hi:i < n
 ·rw [List.getElem?_append_left (by rw [List.length_replicate];exact hi),List.getElem?_replicate] at e
  split at e<;>cases e
 ·rw [List.getElem?_append_right (by rw [List.length_replicate];omega),List.length_replicate] at e ⊢
  unfold lP at e
  unfold yD
  rw [List.getElem?_map] at e ⊢
  cases ej:js[i - n]? with
  | none=>rw [ej] at e;cases e
  | some j =>
   rw [ej] at e
   have e':vP en[j]? = some l:=Option.some.inj e
   unfold vP at e'
   split at e'
   ·rename_i d q
    cases e'
    obtain ⟨v,h1,h2⟩:=h.2 j _ q
    exact ⟨v,by show some ((σ[j]?).getD none)=_;rw [h1];rfl,h2⟩
   ·rename_i d q
    cases e'
    obtain ⟨v,h1,h2⟩:=h.2 j _ q
    exact ⟨v,by show some ((σ[j]?).getD none)=_;rw [h1];rfl,h2⟩
   ·cases e'
section
variable {X:Cx} {E:L2.St->XK} {pos:Pos}
theorem fT:DTs X [] fL:=fun pins s σ H Q I ⟨B,G0,G,W,en,h1,h2,h3⟩=>aHm pins s σ H Q I (h3 G H (Step.refl h1.gh))
theorem kE {c:Expr} {f:En->Res Bool} (h:DT X (fun _=>E0) c f):DTs X [c] f:=aHr h
theorem xP {elt iter tg:Expr} {scope:Scope} {ifs:List Expr} {n:Nat} {js ks:List Nat} {fi:En->Res (List D)} {g:D->En->Option En} {ft:En->Res Bool} {fe:En->Res Ev} {xs ys:List Str} {cl:List (Str×Addr)} (hc:X.calm=true) (hi:DI X E tg iter fi)
  (hcl:aH6 X scope cl) (hcap:qR X scope cl ys js) (hcell:∀ y∈scope.names,y.2≠.cell) (hkind:scope.kind=.function) (hnames:∀ y∈scope.names,y.2=.local->scope.names.lookup y.1=some .local) (hn:xs.length=n) (hks:∀ j∈ks,j < n)
  (hg:∀ C s₀ H₀ ex pn,DG (cT X scope cl C (xs++ys) s₀ H₀ ex pn) tg ks g) (ht:∀ C s₀ H₀ ex pn,DTs (cT X scope cl C (xs++ys) s₀ H₀ ex pn) ifs ft) (hb:∀ C s₀ H₀ ex pn,DE (cT X scope cl C (xs++ys) s₀ H₀ ex pn) (fun _=>E0) elt fe)
  : ∀ B G0 G W H σ en Q,SimH B G0 G W H->SimS X.K W G H σ en->wpR (dC n js fi g ft fe en) (PostE X.K W G H Q) (PostX (E σ) G H)->xF (tI X.K E fi) (tG X.K ks g) (tT X.K (fun _=>E0) ft) (tE X.K (fun _=>E0) fe) xs.length js σ H Q:=by
 subst hn
 refine fun B G0 G W H σ en Q hh hs hw=>⟨B,G0,G,W,en,hh,hs,?_⟩
 have hw:wpR ((fi en).bind _) _ _:=hw
 rw [cU] at hw
 refine bT hw (fun ds hds G1 H1 J s1 hJ D hD=>?_) fun C h=>h
 unfold zJ at hds
 split at hds
 case isFalse=>exact hds.elim
 rename_i hlen
 split at hds
 case h_2=>exact hds.elim
 rename_i r em
 have gD:G1 D=none:=s1.gh.free hD
 have aOw:∀ {G2 H2:Hp} {y:List V},Step G1 H1 G2 H2->G2 D=none->Step G1 H1 G2 (upd H2 D (.lst y)):=fun st hg2=>by
  refine ⟨st.g,fun b o e=>?_,fun b o e=>?_,st.new⟩
  ·rw [cI (dS e hD)];exact st.h b o e
  ·rw [cI (dS e hg2)];exact st.gh b o e
 refine ⟨ds.length,fun i ys H2=>i<=ds.length/\ys.length<=i/\∃ G2 rs rest,Step G1 H1 G2 H2/\G2 D=none/\H2 D=some (.lst ys)/\Reps X.K G2 ys rs/\mQ (a5 xs.length js g ft fe en) (ds.drop i)=some rest/\rs++rest=r,
  ⟨Nat.zero_le _,Nat.zero_le _,G1,[],r,Step.lay s1.gh hD,gD,cS,.nil,em,rfl⟩,?_⟩
 rintro i zs H2 ⟨hi,hzl,G2,rs,rest,st,g2,h2,rp,em2,er⟩
 obtain ⟨j1,j2⟩:=hJ G2 H2 st.g st.gh
 by_cases hlt:i < ds.length
 ·refine .inr ⟨hlt,?_⟩
  obtain ⟨jg,jy⟩:=j1 i ds[i] (List.getElem?_eq_getElem hlt)
  refine ⟨jg,fun v H3 hy=>?_⟩
  obtain ⟨G3,s3,rv⟩:=jy v H3 hy
  rw [List.drop_eq_getElem_cons hlt] at em2
  unfold mQ at em2
  cases ec:a5 xs.length js g ft fe en ds[i] with
  | none=>rw [ec] at em2;cases em2
  | some o =>
   rw [ec] at em2
   dsimp only at em2
   cases em3:mQ (a5 xs.length js g ft fe en) (ds.drop (i+1)) with
   | none=>rw [em3] at em2;cases em2
   | some rest' =>
    rw [em3] at em2
    have em2:=Option.some.inj em2
    unfold a5 at ec
    split at ec
    ·cases ec
    ·rename_i e eg
     have in3:=aEt xs.length js (hs.step ((s1.trans st).trans s3))
     refine ⟨G3,fun _=>none,_,ds[i],e,s3.gh,in3,rv,eg,fun σ' hσ hk=>⟨⟨?_,?_⟩,?_⟩⟩
     ·rw [hk.1];unfold yD;simp
     ·refine List.ext_getElem? fun j=>?_
      rw [List.getElem?_drop,hk.2 (xs.length+j) fun z=>absurd (hks _ z) (by omega),List.getElem?_append_right (by rw [List.length_replicate];omega),List.length_replicate]
      congr 1
      omega
     ·refine ⟨_,_,G3,fun _=>none,e,aPy s3.gh,hσ,?_⟩
      cases et:ft e with
      | bad=>rw [et] at ec;cases ec
      | exc C=>rw [et] at ec;cases ec
      | ok k =>
       rw [et] at ec
       intro G5 H5 s5
       cases k with
       | false =>
        cases ec
        rw [if_neg Bool.false_ne_true]
        have s25:=s3.trans s5
        exact ⟨hlt,Nat.le_succ_of_le hzl,G5,rs,rest',st.trans s25,s25.off h2 (fun xs z=>nomatch z) g2,s25.h _ _ h2,rp.mono s25.g,em3,by rw [<- er,<- em2]⟩
       | true =>
        rw [if_pos rfl]
        refine ⟨_,_,G5,fun _=>none,e,aPy s5.gh,hσ.step s5,?_⟩
        dsimp only at ec
        cases ee:fe e with
        | bad=>rw [ee] at ec;cases ec
        | exc C=>rw [ee] at ec;cases ec
        | ok q =>
         rw [ee] at ec
         intro G6 H6 y s6 ey
         obtain ⟨G7,s7,e7⟩:=EOk.c s6 ey
         dsimp only at ec
         split at ec
         ·rename_i y' eq
          cases ec
          rw [eq] at e7
          have s27:=(s3.trans s5).trans s7
          have g7:=s27.off h2 (fun xs z=>nomatch z) g2
          refine ⟨s27.h _ _ h2,Nat.lt_of_le_of_lt (Nat.le_trans hzl (Nat.le_trans hi hlen)) (by decide),hlt,by rw [List.length_append];exact Nat.succ_le_succ hzl,G7,rs++[y'],rest',aOw (st.trans s27) g7,g7,cS,(rp.mono s27.g).append (.cons e7 .nil),em3,?_⟩
          rw [<- er,<- em2,List.append_assoc]
          rfl
         ·cases ec
 ·have e:i=ds.length:=by omega
  subst e
  rw [List.drop_length] at em2
  cases em2
  rw [List.append_nil] at er
  subst er
  exact .inl ⟨j2,hds G2 H2 _ (s1.trans st) ⟨D,_,rfl,s1.h.free hD,g2,h2,.lst rp⟩⟩
theorem fS {elt iter tg:Expr} {scope:Scope} {ifs:List Expr} {n:Nat} {js ks:List Nat} {fi:En->Res (List D)} {g:D->En->Option En} {ft:En->Res Bool} {fe:En->Res Ev} {xs ys:List Str} {cl:List (Str×Addr)} (hc:X.calm=true) (hi:DI X E tg iter fi)
  (hcl:aH6 X scope cl) (hcap:qR X scope cl ys js) (hcell:∀ y∈scope.names,y.2≠.cell) (hkind:scope.kind=.function) (hnames:∀ y∈scope.names,y.2=.local->scope.names.lookup y.1=some .local) (hn:xs.length=n) (hks:∀ j∈ks,j < n)
  (hg:∀ C s₀ H₀ ex pn,DG (cT X scope cl C (xs++ys) s₀ H₀ ex pn) tg ks g) (ht:∀ C s₀ H₀ ex pn,DTs (cT X scope cl C (xs++ys) s₀ H₀ ex pn) ifs ft) (hb:∀ C s₀ H₀ ex pn,DE (cT X scope cl C (xs++ys) s₀ H₀ ex pn) (fun _=>E0) elt fe)
  (hs:∀ x,foldedSetIterable iter X.env x=pure x:=by intro _;rfl):DE X E (.ListComp elt [⟨tg,iter,ifs,0⟩] scope pos) (dC n js fi g ft fe) :=
 DE.in ⟨_,aFw (xs:=xs) (g:=tG X.K ks g) (tt:=tT X.K (fun _=>E0) ft) (te:=tE X.K (fun _=>E0) fe) hc hi hcl hcap hcell hkind hnames hg ht hb hs,xP hc hi hcl hcap hcell hkind hnames hn hks hg ht hb⟩
theorem kI {i:Nat} {y:Str} {py spos:Pos} (hN:X.N.Nodup) (hiN:X.N[i]? = some y) (hx:Loc X.env.scope y) {elt iter tg:Expr} {scope:Scope} {ifs:List Expr} {n:Nat} {js ks:List Nat} {fi:En->Res (List D)} {g:D->En->Option En} {ft:En->Res Bool} {fe:En->Res Ev} {xs ys:List Str} {cl:List (Str×Addr)} (hc:X.calm=true) (hi:DI X E tg iter fi)
  (hcl:aH6 X scope cl) (hcap:qR X scope cl ys js) (hcell:∀ y∈scope.names,y.2≠.cell) (hkind:scope.kind=.function) (hnames:∀ y∈scope.names,y.2=.local->scope.names.lookup y.1=some .local) (hn:xs.length=n) (hks:∀ j∈ks,j < n)
  (hg:∀ C s₀ H₀ ex pn,DG (cT X scope cl C (xs++ys) s₀ H₀ ex pn) tg ks g) (ht:∀ C s₀ H₀ ex pn,DTs (cT X scope cl C (xs++ys) s₀ H₀ ex pn) ifs ft) (hb:∀ C s₀ H₀ ex pn,DE (cT X scope cl C (xs++ys) s₀ H₀ ex pn) (fun _=>E0) elt fe)
  (hsw:swapsWith (.ListComp elt [⟨tg,iter,ifs,0⟩] scope pos) (some (.Name y py)) spos.line X.env=pure true:=by rfl) (hs:∀ x,foldedSetIterable iter X.env x=pure x:=by intro _;rfl)
  (hf:X.fn y=true\/X.env.scope.names.lookup y=some .local:=by first | exact .inl rfl | exact .inr rfl | assumption):DS X E (.Assign [.Name y py] (.ListComp elt [⟨tg,iter,ifs,0⟩] scope pos) spos) (bU i (dC n js fi g ft fe)) :=
 DS.in ⟨_,aFt (xs:=xs) (g:=tG X.K ks g) (tt:=tT X.K (fun _=>E0) ft) (te:=tE X.K (fun _=>E0) fe) hN hiN hx hc hi hcl hcap hcell hkind hnames hg ht hb hsw hs hf,yT (xP hc hi hcl hcap hcell hkind hnames hn hks hg ht hb)⟩
end
section
variable {X:Cx} {K:PySem.W.Frag}
def rOr (r r':R2):R2:=fun x y H Q=>r x y H Q\/r' x y H Q
theorem OpR.or' {f:Value->Value->Sem Value} {r r':R2} (h:OpR X f r) (h':OpR X f r'):OpR X f (rOr r r'):=OpR.or h h'
def aMp:R2:=fun x y H Q=>∃ l b xs zs,x=.ref l/\y=.ref b/\Rd H l (.lst xs)/\Rd H b (.lst zs)/\xs.length+zs.length<=sizeLine/\∀ p,H p=none->Q (.ref p) (upd H p (.lst (xs++zs)))
theorem aJa:OpR X (binaryOp .Add) aMp:=by
 intro pins s σ H x y v u Q I rx ry h
 obtain ⟨l,b,xs,zs,rfl,rfl,hH,hB,hz,q⟩:=h
 cases rx
 cases ry
 obtain ⟨z,its,n,r,e⟩:=hH.ok I.hok
 obtain ⟨z2,its2,n2,r2,e2⟩:=hB.ok I.hok
 have hl:=r.length
 have hl2:=r2.length
 refine PySem.P.add_list e e2 ?_ (by rw [List.size_toArray,List.size_toArray];omega)
 have ea:its.toArray++its2.toArray=(its++its2).toArray:=by simp
 rw [ea]
 exact ⟨.ref _,_,I.lnew (t':=s.toks) (r.append r2) (by rw [List.length_append];omega),rfl,q _ I.fresh⟩
def aJj:R2:=fun x y H Q=>∃ i j,x=.str i/\y=.str j/\i.length+j.length<=sizeLine/\Q (.str (i++j)) H
def jX:Ev->Option (List D)
 | .p (.list ds)=>some ds
 | .b (.list ds)=>some ds
 | _=>none
theorem vK {W:Addr->Option Nat} {Hs G H:Hp} {v:V} {r:Ev} {ds:List D} (gh:Same G H) (h:EOk K W Hs G H v r) (e:jX r=some ds):∃ a xs,v=.ref a/\Rd H a (.lst xs)/\Reps K G xs ds:=by
 cases r with
 | p d =>
  cases d with
  | list es =>
   cases e
   cases h with
   | @lst a xs _ h1 h2=>exact ⟨a,xs,rfl,iO gh h1,h2⟩
  | _=>cases e
 | b d =>
  cases d with
  | list es =>
   cases e
   obtain ⟨a,i,o,rfl,h1,h2,h3⟩:=h
   cases h3 with
   | @lst xs _ h4=>exact ⟨a,xs,rfl,.inl h2,h4⟩
  | _=>cases e
 | f d=>cases e
 | x C=>cases e
def dat:Ev->Option D
 | .p d=>some d
 | .b d=>some d
 | _=>none
theorem EOk.read {W:Addr->Option Nat} {Hs G H:Hp} {v:V} {r:Ev} {d:D} (gh:Same G H) (h:EOk K W Hs G H v r) (e:dat r=some d):Rep K H v d:=by
 cases r with
 | p d=>cases e;exact Rep.mono gh h
 | b d =>
  cases e
  obtain ⟨a,i,o,rfl,h1,h2,h3⟩:=h
  exact (h3.mono gh).rep h2
 | f d=>cases e
 | x C=>cases e
open Classical in
noncomputable def tX (C:Int->Int->Prop) (g:Int->Int->D) (x y:Ev):Res Ev:=match x,y with
 | .p (.int i),.p (.int j)=>if C i j then .ok (.p (g i j)) else .bad
 | _,_=>.bad
def gL (g:Int->Int->D) (x y:Ev):Res Ev:=match x,y with
 | .p (.int i),.p (.int j)=>.ok (.p (g i j))
 | _,_=>.bad
theorem aF {C:Int->Int->Prop} {g:Int->Int->D}:NoX (tX C g):=by
 intro x y A h
 unfold tX at h
 split at h
 ·split at h<;>cases h
 ·cases h
theorem aW {g:Int->Int->D}:NoX (gL g):=by
 intro x y A h
 unfold gL at h
 split at h<;>cases h
theorem zE {C:Int->Int->Prop} {g:Int->Int->D} {gv:Int->Int->V} (hg:∀ G i j,Rep K G (gv i j) (g i j)):OpM K (rI C gv) (tX C g):=by
 intro W G H v u x y Q gh hx hy hw
 unfold tX at hw
 split at hw
 ·rename_i i j e1 e2
  rw [e1] at hx;rw [e2] at hy
  cases hx;cases hy
  split at hw
  ·rename_i hc
   exact ⟨i,j,rfl,rfl,hc,hw G H _ (Step.refl gh) (hg G i j)⟩
  ·exact hw.elim
 ·exact hw.elim
theorem aA6 {g:Int->Int->D} {gv:Int->Int->V} (hg:∀ G i j,Rep K G (gv i j) (g i j)):OpM K (rI0 gv) (gL g):=by
 intro W G H v u x y Q gh hx hy hw
 unfold gL at hw
 split at hw
 ·rename_i i j e1 e2
  rw [e1] at hx;rw [e2] at hy
  cases hx;cases hy
  exact ⟨i,j,rfl,rfl,hw G H _ (Step.refl gh) (hg G i j)⟩
 ·exact hw.elim
noncomputable abbrev cV:Ev->Ev->Res Ev:=tX CMulW fun i j=>.int (i*j)
noncomputable abbrev bO:Ev->Ev->Res Ev:=tX iG fun i j=>.int (i.fdiv j)
noncomputable abbrev bY:Ev->Ev->Res Ev:=tX (fun _ j=>j≠0) fun i j=>.int (i.fmod j)
noncomputable abbrev k9:Ev->Ev->Res Ev:=tX aHg fun i j=>.int (i ^ j.toNat)
abbrev jJ:Ev->Ev->Res Ev:=gL fun i j=>.int (i - j)
abbrev ltE:Ev->Ev->Res Ev:=gL fun i j=>.bool (decide (i < j))
abbrev leE:Ev->Ev->Res Ev:=gL fun i j=>.bool (decide (i<=j))
abbrev gtE:Ev->Ev->Res Ev:=gL fun i j=>.bool (decide (j < i))
theorem aY:OpM K (rI CMulW fun i j=>.int (i*j)) cV:=zE fun _ _ _=>.int _
theorem b8:OpM K (rI iG fun i j=>.int (i.fdiv j)) bO:=zE fun _ _ _=>.int _
theorem bG:OpM K (rI (fun _ j=>j≠0) fun i j=>.int (i.fmod j)) bY:=zE fun _ _ _=>.int _
theorem kP:OpM K (rI aHg fun i j=>.int (i ^ j.toNat)) k9:=zE fun _ _ _=>.int _
theorem d8:OpM K (rI0 fun i j=>.int (i - j)) jJ:=aA6 fun _ _ _=>.int _
def dX (x y:Ev):Res Ev:=match x,y with
 | .p (.int i),.p (.int j)=>.ok (.p (.int (i+j)))
 | .p (.str i),.p (.str j)=>if i.length+j.length<=100000 then .ok (.p (.str (i++j))) else .bad
 | x,y=>match jX x,jX y with
  | some ds,some es=>if ds.length+es.length<=100000 then .ok (.f (.list (ds++es))) else .bad
  | _,_=>.bad
theorem b6:NoX dX:=by
 intro x y A h
 unfold dX at h
 split at h
 ·cases h
 ·split at h<;>cases h
 ·split at h
  ·split at h<;>cases h
  ·cases h
abbrev aL4:R2:=rOr (rI0 fun i j=>.int (i+j)) (rOr aJj aMp)
theorem b7:OpR X (binaryOp .Add) aL4:=OpR.or' aLu (OpR.or' aAa aJa)
theorem dB:OpM K aL4 dX:=by
 intro W G H v u x y Q gh hx hy hw
 unfold dX at hw
 split at hw
 ·rename_i i j e1 e2
  rw [e1] at hx;rw [e2] at hy
  cases hx;cases hy
  exact .inl ⟨i,j,rfl,rfl,hw G H _ (Step.refl gh) (.int _)⟩
 ·rename_i i j e1 e2
  rw [e1] at hx;rw [e2] at hy
  cases hx;cases hy
  split at hw
  ·rename_i hl
   exact .inr (.inl ⟨i,j,rfl,rfl,Nat.le_trans hl (by decide),hw G H _ (Step.refl gh) (.str _)⟩)
  ·exact hw.elim
 ·split at hw
  ·rename_i ds es e1 e2
   obtain ⟨a,xs,rfl,h1,h2⟩:=vK gh hx e1
   obtain ⟨b,ys,rfl,h3,h4⟩:=vK gh hy e2
   split at hw
   ·rename_i hl
    refine .inr (.inr ⟨a,b,xs,ys,rfl,rfl,h1,h3,by rw [h2.length,h4.length];exact Nat.le_trans hl (by decide),fun p hp=>?_⟩)
    exact hw _ _ _ (Step.lay gh hp) ⟨p,_,rfl,hp,gh.free hp,cS,.lst (h2.append h4)⟩
   ·exact hw.elim
  ·exact hw.elim
theorem iF {p:Int->Int->Bool}:OpM K (rI0 fun i j=>.bl (p i j)) (gL fun i j=>.bool (p i j)):=aA6 fun _ _ _=>.bl _
mutual
theorem Rep.reads {P:Program} {w:World} {H:Hp} {h:Heap} (ok:HOk P w H h):∀ {v:V} {d:D},Rep K H v d->d.canLay0=true->∀ {u:Value},RelV v u->∃ as,Reads h u d as
 | _,_,.non,_,_,e=>by cases e;exact ⟨_,Reads.none⟩
 | _,_,.bl b,_,_,e=>by cases e;exact ⟨_,Reads.bool b⟩
 | _,_,.int i,_,_,⟨t,e⟩=>by subst e;exact ⟨_,Reads.int i t⟩
 | _,_,.str i,_,_,⟨t,e⟩=>by subst e;exact ⟨_,Reads.str i t⟩
 | _,_,.tup hh r,hc,_,e=>by
  have e:_=Value.ref _:=e
  subst e
  obtain ⟨_,its,rv,o,ho,hcl,n,hd⟩:=(show ObjOk P w H h _ _ from ok _ _ hh)
  obtain ⟨as,q⟩:=Reps.reads ok r (by simpa [PyData.canLay0] using hc) rv
  exact ⟨as,reads_tuple_at ho hcl hd (by simpa using q)⟩
 | _,_,.lst hh r,hc,_,e=>by
  have e:_=Value.ref _:=e
  subst e
  obtain ⟨_,its,n,rv,ho⟩:=hh.ok ok
  obtain ⟨as,q⟩:=Reps.reads ok r (by simpa [PyData.canLay0] using hc) rv
  exact ⟨_,reads_list_at ho rfl rfl (by simpa using q)⟩
 | _,_,.dT _ _,hc,_,_=>by simp [PyData.canLay0] at hc
 | _,_,.dK _ _,hc,_,_=>by simp [PyData.canLay0] at hc
theorem Reps.reads {P:Program} {w:World} {H:Hp} {h:Heap} (ok:HOk P w H h):∀ {vs:List V} {ds:List D},Reps K H vs ds->PyData.canLayAll0 ds=true->∀ {us:List Value},Vals vs us->∃ as,ReadsAll h us ds as
 | _,_,.nil,_,_,.nil=>⟨_,ReadsAll.nil⟩
 | _,_,.cons hd r,hc,_,.cons rv rt=>by
  simp only [PyData.canLayAll0,Bool.and_eq_true] at hc
  obtain ⟨as,q⟩:=Rep.reads ok hd hc.1 rv
  obtain ⟨bs,p⟩:=Reps.reads ok r hc.2 rt
  exact ⟨_,ReadsAll.cons q p⟩
end
def aOx (K:PySem.W.Frag) (ng:Bool):R2:=fun x y H Q=>∃ d e,Rep K H x d/\Rep K H y e/\SeqAt.shaped d=true/\SeqAt.shaped e=true/\Q (.bl (if ng then !PyData.eqv d e else PyData.eqv d e)) H
theorem eM {K:PySem.W.Frag} (hu:X.A.units+64 < cLine):OpR X (compareOp .Eq) (aOx K false):=by
 intro pins s σ H x y v u Q I rx ry h
 obtain ⟨d,e,h1,h2,o1,o2,q⟩:=h
 obtain ⟨as,r1⟩:=h1.reads I.hok (Bool.and_eq_true_iff.mp o1).1 rx
 obtain ⟨bs,r2⟩:=h2.reads I.hok (Bool.and_eq_true_iff.mp o2).1 ry
 exact eq_dataH r1 r2 o1 o2 hu ⟨.bl _,H,I,rfl,q⟩
theorem xI {K:PySem.W.Frag} (hu:X.A.units+64 < cLine):OpR X (compareOp .NotEq) (aOx K true):=by
 intro pins s σ H x y v u Q I rx ry h
 obtain ⟨d,e,h1,h2,o1,o2,q⟩:=h
 obtain ⟨as,r1⟩:=h1.reads I.hok (Bool.and_eq_true_iff.mp o1).1 rx
 obtain ⟨bs,r2⟩:=h2.reads I.hok (Bool.and_eq_true_iff.mp o2).1 ry
 exact ne_dataH r1 r2 o1 o2 hu ⟨.bl _,H,I,rfl,q⟩
def eqE (ng:Bool) (x y:Ev):Res Ev:=match dat x,dat y with
 | some d,some e=>if SeqAt.shaped d=true/\SeqAt.shaped e=true then .ok (.p (.bool (if ng then !PyData.eqv d e else PyData.eqv d e))) else .bad
 | _,_=>.bad
theorem dR {ng:Bool}:NoX (eqE ng):=by
 intro x y A h
 unfold eqE at h
 split at h
 ·split at h<;>cases h
 ·cases h
theorem gK {ng:Bool}:OpM K (aOx K ng) (eqE ng):=by
 intro W G H v u x y Q gh hx hy hw
 unfold eqE at hw
 split at hw
 ·rename_i d e e1 e2
  split at hw
  ·rename_i hs
   exact ⟨d,e,hx.read gh e1,hy.read gh e2,hs.1,hs.2,hw G H _ (Step.refl gh) (.bl _)⟩
  ·exact hw.elim
 ·exact hw.elim
def qJ (ng:Bool) (x:Ev):Res Ev:=match x with
 | .p .none=>.ok (.p (.bool (!ng)))
 | .p _=>.ok (.p (.bool ng))
 | .b _=>.ok (.p (.bool ng))
 | _=>.bad
def mUn (op:Ev->Res Ev) (fa:En->Res Ev):En->Res Ev:=fun en=>(fa en).bind fun x=>op x.c
variable {E:L2.St->XK} {a b:Expr} {fa fb:En->Res Ev} {pos:Pos}
theorem sM {ng:Bool} {W:Addr->Option Nat} {G H:Hp} {v:V} {x:Ev} {Q:VK} (gh:Same G H) (hx:EOk K W H G H v x.c) {EE:XK} (hw:wpR (qJ ng x.c) (PostE K W G H Q) (PostX EE G H)):Q (.bl (if ng then !decide (v=.non) else decide (v=.non))) H:=by
 unfold qJ at hw
 split at hw
 ·rename_i e
  rw [e] at hx
  cases hx
  have z:=hw G H _ (Step.refl gh) (.bl _)
  cases ng<;>exact z
 ·rename_i d e e2
  rw [e2] at hx
  have nv:v≠.non:=by
   intro z
   subst z
   have hx:Rep K G V.non d:=hx
   cases hx
   exact e rfl
  have z:=hw G H _ (Step.refl gh) (.bl _)
  rw [decide_eq_false nv]
  cases ng<;>exact z
 ·rename_i d e
  rw [e] at hx
  obtain ⟨a,i,o,rfl,h1⟩:=hx
  have z:=hw G H _ (Step.refl gh) (.bl _)
  cases ng<;>exact z
 ·exact hw.elim
theorem aM1 {j pos'} (ha:DE X E a fa):DE X E (.Compare a [.Is] [.Constant .none j pos'] pos) (mUn (qJ false) fa):=by
 obtain ⟨t,p,m⟩:=ha.out
 refine DE.in ⟨_,aLy (aGl p),fun B G0 G W H σ en Q hh hs hw=>m B G0 G W H σ en _ hh hs (DE.go hw fun x G1 H1 v s1 e1 h1=>?_)⟩
 exact sM (ng:=false) s1.gh e1.cc h1
theorem aLv {j pos'} (ha:DE X E a fa):DT X E (.Compare a [.Is] [.Constant .none j pos'] pos) (a9 (mUn (qJ false) fa)):=by
 obtain ⟨t,p,m⟩:=ha.out
 refine DT.in ⟨_,x4 (aGl p),fun B G0 G W H σ en Q hh hs hw=>?_⟩
 have k:=(aM1 (pos:=pos) (j:=j) (pos':=pos') ha)
 refine lB (t:=aPw t) (fa:=mUn (qJ false) fa) (E:=E) (X:=X) (fun B G0 G W H σ en Q hh hs hw=>m B G0 G W H σ en _ hh hs (DE.go hw fun x G1 H1 v s1 e1 h1=>sM (ng:=false) s1.gh e1.cc h1)) B G0 G W H σ en Q hh hs hw
theorem w4 {j pos'} (ha:DE X E a fa):DT X E (.Compare a [.IsNot] [.Constant .none j pos'] pos) (a9 (mUn (qJ true) fa)):=by
 obtain ⟨t,p,m⟩:=ha.out
 refine DT.in ⟨_,x4 (aJd p),fun B G0 G W H σ en Q hh hs hw=>?_⟩
 refine lB (t:=aLh t) (fa:=mUn (qJ true) fa) (E:=E) (X:=X) (fun B G0 G W H σ en Q hh hs hw=>m B G0 G W H σ en _ hh hs (DE.go hw fun x G1 H1 v s1 e1 h1=>sM (ng:=true) s1.gh e1.cc h1)) B G0 G W H σ en Q hh hs hw
def nA (x:Ev):Res Ev:=match x with
 | .p (.int i)=>.ok (.p (.int (-i)))
 | _=>.bad
theorem pK (ha:DE X E a fa):DE X E (.UnaryOp .USub a pos) (mUn nA fa):=by
 obtain ⟨t,p,m⟩:=ha.out
 refine DE.in ⟨_,aPo aLe p,fun B G0 G W H σ en Q hh hs hw=>m B G0 G W H σ en _ hh hs (DE.go hw fun x G1 H1 v s1 e1 h1=>?_)⟩
 unfold nA at h1
 split at h1
 ·rename_i i e
  rw [e] at e1
  cases e1
  exact ⟨i,rfl,h1 G1 H1 _ (Step.refl s1.gh) (.int _)⟩
 ·exact h1.elim
def gC:Ev->Option (List D)
 | .p (.list ds)=>some ds
 | .b (.list ds)=>some ds
 | .p (.tuple ds)=>some ds
 | _=>none
def ixE (x y:Ev):Res Ev:=match y with
 | .p (.int i)=>match gC x with
  | some ds=>match atI ds i with
   | some d=>.ok (.p d)
   | none=>.bad
  | none=>.bad
 | _=>.bad
theorem aMb:NoX ixE:=by
 intro x y A h
 unfold ixE at h
 split at h
 ·split at h
  ·split at h<;>cases h
  ·cases h
 ·cases h
theorem wD {G:Hp} {xs:List V} {ds:List D} {i:Int} {d:D} (r:Reps K G xs ds) (h:atI ds i=some d):∃ x,atI xs i=some x/\Rep K G x d:=by
 unfold atI at h ⊢
 rw [r.length]
 cases e:ixN ds.length i with
 | none=>rw [e] at h;cases h
 | some j =>
  rw [e] at h
  exact r.get' h
def aP2 (K:PySem.W.Frag):R2:=fun x y H Q=>aP0 K x y H Q\/aPx K x y H Q
theorem aQj:IxR X (aP2 X.K):=ix_list.or aLb
theorem aO2:OpM K (aP2 K) ixE:=by
 intro W G H v u x y Q gh hx hy hw
 unfold ixE at hw
 split at hw
 ·rename_i i ey
  rw [ey] at hy
  cases hy
  split at hw
  ·rename_i ds ed
   split at hw
   ·rename_i d ea
    cases ex:x.c with
    | p dd =>
     rw [ex] at ed hx
     cases dd with
     | list es =>
      cases ed
      cases hx with
      | @lst a xs _ h1 h2 =>
       obtain ⟨z,h3,h4⟩:=wD h2 ea
       exact .inl ⟨a,xs,i,z,rfl,rfl,.inl (iO gh h1),h3,hw G H _ (Step.refl gh) h4⟩
     | tuple es =>
      cases ed
      cases hx with
      | @tup a xs _ h1 h2 =>
       obtain ⟨z,h3,h4⟩:=wD h2 ea
       exact .inr ⟨a,xs,i,z,rfl,rfl,SqT.of (gh _ _ h1),h3,hw G H _ (Step.refl gh) h4⟩
     | _=>cases ed
    | b dd =>
     rw [ex] at ed hx
     cases dd with
     | list es =>
      cases ed
      obtain ⟨a,k,o,rfl,h1,h2,h3⟩:=hx
      cases h3 with
      | @lst xs _ h4 =>
       obtain ⟨z,h5,h6⟩:=wD h4 ea
       exact .inl ⟨a,xs,i,z,rfl,rfl,.inl (.inl h2),h5,hw G H _ (Step.refl gh) h6⟩
     | _=>cases ed
    | f dd=>rw [ex] at ed;cases ed
    | x C=>rw [ex] at ed;cases ed
   ·exact hw.elim
  ·exact hw.elim
 ·exact hw.elim
theorem aP (ha:DE X E a fa) (hb:DE X E b fb) (hs:aB2 b):DE X E (.Subscript a b pos) (aE ixE fa fb):=by
 obtain ⟨ta,pa,ma⟩:=ha.out
 obtain ⟨tb,pb,mb⟩:=hb.out
 exact DE.in ⟨_,aPm aQj pa pb hs,sF ma mb aO2 aMb⟩
def gB (rs:List Ev):Res Ev:=match rs with
 | [x]=>match gC x with
  | some ds=>.ok (.p (.int ds.length))
  | none=>.bad
 | _=>.bad
theorem hU:aEe gB:=by
 intro rs C h
 unfold gB at h
 split at h
 ·split at h<;>cases h
 ·cases h
theorem j5:qL K (fun xs H Q=>∃ p ys,xs=[.ref p]/\(SqL K H p ys\/SqT K H p ys)/\Q (.int ys.length) H) gB:=by
 intro W Hs G H vs rs Q gh he hw
 unfold gB at hw
 split at hw
 ·rename_i x
  match vs,he with
  | [v],⟨h1,_⟩ =>
   split at hw
   ·rename_i ds ed
    cases x with
    | p dd =>
     cases dd with
     | list es =>
      cases ed
      cases h1 with
      | @lst a xs _ k1 k2=>exact ⟨a,xs,rfl,.inl (.inl (iO gh k1)),by rw [k2.length];exact hw G H _ (Step.refl gh) (.int _)⟩
     | tuple es =>
      cases ed
      cases h1 with
      | @tup a xs _ k1 k2=>exact ⟨a,xs,rfl,.inr (SqT.of (gh _ _ k1)),by rw [k2.length];exact hw G H _ (Step.refl gh) (.int _)⟩
     | _=>cases ed
    | b dd =>
     cases dd with
     | list es =>
      cases ed
      obtain ⟨a,k,o,rfl,k1,k2,k3⟩:=h1
      cases k3 with
      | @lst xs _ k4=>exact ⟨a,xs,rfl,.inl (.inl (.inl k2)),by rw [k4.length];exact hw G H _ (Step.refl gh) (.int _)⟩
     | _=>cases ed
    | f dd=>cases ed
    | x C=>cases ed
   ·exact hw.elim
 ·exact hw.elim
def aG7 (rs:List Ev):Res Ev:=match rs with
 | [.p (.int i)]=>.ok (.p (.int (if i < 0 then -i else i)))
 | _=>.bad
theorem tM:aEe aG7:=by
 intro rs C h
 unfold aG7 at h
 split at h<;>cases h
theorem yP:qL K (fun xs H Q=>∃ i,xs=[.int i]/\Q (.int (if i < 0 then -i else i)) H) aG7:=by
 intro W Hs G H vs rs Q gh he hw
 unfold aG7 at hw
 split at hw
 ·rename_i i
  match vs,he with
  | [v],⟨h1,_⟩=>cases h1;exact ⟨i,rfl,hw G H _ (Step.refl gh) (.int _)⟩
 ·exact hw.elim
def aJq (f:Int->Int->Int) (rs:List Ev):Res Ev:=match rs with
 | [.p (.int i),.p (.int j)]=>.ok (.p (.int (f i j)))
 | _=>.bad
theorem aJr {f:Int->Int->Int}:aEe (aJq f):=by
 intro rs C h
 unfold aJq at h
 split at h<;>cases h
theorem aMl {f:Int->Int->Int}:qL K (fun xs H Q=>∃ i j,xs=[.int i,.int j]/\Q (.int (f i j)) H) (aJq f):=by
 intro W Hs G H vs rs Q gh he hw
 unfold aJq at hw
 split at hw
 ·rename_i i j
  match vs,he with
  | [v,u],⟨h1,h2,_⟩=>cases h1;cases h2;exact ⟨i,j,rfl,hw G H _ (Step.refl gh) (.int _)⟩
 ·exact hw.elim
def vT:List D->Option (List Bool)
 | []=>some []
 | .bool b :: ds=>match vT ds with
  | some bs=>some (b :: bs)
  | none=>none
 | _=>none
theorem yO {G:Hp}:∀ {ds:List D} {bs:List Bool} {xs:List V},vT ds=some bs->Reps K G xs ds->xs=bs.map V.bl
 | [],_,_,h,.nil=>by cases h;rfl
 | d :: ds,bs,_,h,.cons r t=>by
  cases d with
  | bool b =>
   unfold vT at h
   cases e:vT ds with
   | none=>rw [e] at h;cases h
   | some bs' =>
    rw [e] at h
    cases h
    cases r
    rw [yO e t]
    rfl
  | _=>cases h
def aGx (rs:List Ev):Res Ev:=match rs with
 | [x]=>match jX x with
  | some ds=>match vT ds with
   | some bs=>.ok (.p (.bool (bs.any id)))
   | none=>.bad
  | none=>.bad
 | _=>.bad
theorem aH2:aEe aGx:=by
 intro rs C h
 unfold aGx at h
 split at h
 ·split at h
  ·split at h<;>cases h
  ·cases h
 ·cases h
theorem aMr:qL K (aPs K) aGx:=by
 intro W Hs G H vs rs Q gh he hw
 unfold aGx at hw
 split at hw
 ·rename_i x
  match vs,he with
  | [v],⟨h1,_⟩ =>
   split at hw
   ·rename_i ds ed
    obtain ⟨a,xs,rfl,k1,k2⟩:=vK gh h1 ed
    split at hw
    ·rename_i bs eb
     have:=yO eb k2
     subst this
     exact ⟨a,bs,rfl,.inl k1,hw G H _ (Step.refl gh) (.bl _)⟩
    ·exact hw.elim
   ·exact hw.elim
 ·exact hw.elim
def listE (rs:List Ev):Res Ev:=match rs with
 | [x]=>match gC x with
  | some ds=>.ok (.f (.list ds))
  | none=>.bad
 | _=>.bad
theorem l9:aEe listE:=by
 intro rs C h
 unfold listE at h
 split at h
 ·split at h<;>cases h
 ·cases h
theorem pX:qL K (fun xs H Q=>∃ p ys,xs=[.ref p]/\(SqL K H p ys\/SqT K H p ys)/\∀ l,H l=none->Q (.ref l) (upd H l (.lst ys))) listE:=by
 intro W Hs G H vs rs Q gh he hw
 unfold listE at hw
 split at hw
 ·rename_i x
  match vs,he with
  | [v],⟨h1,_⟩ =>
   split at hw
   ·rename_i ds ed
    have fin:∀ {xs:List V},Reps K G xs ds->∀ l,H l=none->Q (.ref l) (upd H l (.lst xs)):=fun r l hl =>
     hw _ _ _ (Step.lay gh hl) ⟨l,_,rfl,hl,gh.free hl,cS,.lst r⟩
    cases x with
    | p dd =>
     cases dd with
     | list es =>
      cases ed
      cases h1 with
      | @lst a xs _ k1 k2=>exact ⟨a,xs,rfl,.inl (.inl (iO gh k1)),fin k2⟩
     | tuple es =>
      cases ed
      cases h1 with
      | @tup a xs _ k1 k2=>exact ⟨a,xs,rfl,.inr (SqT.of (gh _ _ k1)),fin k2⟩
     | _=>cases ed
    | b dd =>
     cases dd with
     | list es =>
      cases ed
      obtain ⟨a,k,o,rfl,k1,k2,k3⟩:=h1
      cases k3 with
      | @lst xs _ k4=>exact ⟨a,xs,rfl,.inl (.inl (.inl k2)),fin k4⟩
     | _=>cases ed
    | f dd=>cases ed
    | x C=>cases ed
   ·exact hw.elim
 ·exact hw.elim
end
section
variable {P:Program} {w:World} {K:PySem.W.Frag} {mg:Str->Option Value} {base:Heap}
structure Def (K:PySem.W.Frag) (mg:Str->Option Value) (x:Str) (ps:List Str) (st:Stmt):Prop where
 ex:∃ f fd,Fun K x x st f fd/\Binds K fd ps []/\PySem.W.keepIn K (.ref f)=true/\mg x=some (.ref f)
structure Cal (P:Program) (w:World) (K:PySem.W.Frag) (mg:Str->Option Value) (base:Heap) (k:Nat) (x:Str) (n:Nat) (m:List L->Res L):Prop where
 ex:∃ f fd ps,FnOk P w K mg base (CXr P w) k f fd ps (spM K n m)/\Binds K fd ps []/\PySem.W.keepIn K (.ref f)=true/\mg x=some (.ref f)
theorem jU {x:Str} {st:Stmt} {N ps:List Str} {k n:Nat} {m:List L->Res L} (Df:Def K mg x ps st) (S:bC N ps (aT st)) (hn:n=ps.length)
  (hbody:∀ (f:Addr) (cdv:Value) (A:Around) (outer:List Env) (s:Shared) (H:Hp) (E:XK),Room k (A.deeper (envOfC x (aT st) s.heap.objs.size f cdv)) ->
   ∃ fm,DSs (tV (CXr P w) P w K mg base N x (aT st) f cdv A outer s H E) (fun _=>E) (iJ st) fm/\∀ ls,m ls=.bad\/fJ N.length fm ls=m ls):Cal P w K mg base (k+1) x n m:=by
 obtain ⟨f,fd,F,b,kp,h⟩:=Df.ex
 exact ⟨f,fd,ps,fnM F S hn fun cdv A outer s H E hr=>hbody f cdv A outer s H E hr,b,kp,h⟩
end
section
variable {X:Cx} {E:L2.St->XK} {k j:Nat} {x:Str} {p pos:Pos} {e:Expr} {es:List Expr} {fr:En->Res (List Ev)} {n:Nat} {m:List L->Res L}
theorem aO (c:Cal X.prog X.w X.K X.mg X.base j x n m) (hr:Room k X.A) (hx:pM (CXr X.prog X.w) X E) (ha:DA X E (e :: es) fr) (hg:Gl X x:=by rfl) (hjk:j<=k:=by decide) (hdb:(x == ("__debug__" : Str))=false:=by decide)
  (he:starEach (e :: es) X.env=(false,eval e X.env) :: starEach es X.env:=by rfl) (hpl:(backTo pos (starEach es X.env)).any (·.1)=false:=by rfl) :
  DE X E (.Call (.Name x p) (e :: es) [] pos) (aJ n m fr):=by
 obtain ⟨f,fd,ps,F,b,kp,h⟩:=c.ex
 exact aI1 (F.mono hjk) hr hg h kp b hx ha hdb he hpl
theorem dv (i:Nat) (hN:X.N[i]? = some x:=by rfl) (hv:Vis X.env.scope x:=by first | exact Or.inl rfl | exact Or.inr (Or.inl rfl) | exact Or.inr (Or.inr rfl)) (hd:(x == ("__debug__" : Str))=false:=by decide) (hcd:(x == ("__classdict__" : Str))=false:=by decide) :
  DE X E (.Name x pos) (aD i):=aMc hN hv hd hcd
theorem u64 {A:Around} (hr:Room k A):A.units+64 < cLine:=by have:=hr.un;omega
theorem u1 {A:Around} (hr:Room k A):A.units+1 < cLine:=by have:=hr.un;omega
theorem bD {scope:Scope} {cl:List (Str×Addr)}:qR X scope cl [] []:=⟨rfl,fun i y j h _=>by simp at h⟩
theorem bR {scope:Scope} {cl:List (Str×Addr)} {y:Str} {ys:List Str} {j:Nat} {js:List Nat} (h:X.N[j]? = some y/\(X.env.kindOf y=some .cell\/X.env.kindOf y=some .free)/\((relabel scope X.env).names.lookup y=some .cell\/(relabel scope X.env).names.lookup y=some .free)/\(X.env.cells.lookup y).isSome=true/\cl.lookup y=X.env.cells.lookup y)
  (t:qR X scope cl ys js):qR X scope cl (y :: ys) (j :: js) :=
 ⟨by rw [List.length_cons,List.length_cons,t.len],fun i z q e1 e2=>by
  cases i with
  | zero=>simp at e1 e2;subst e1 e2;exact h
  | succ i=>exact t.at_ i z q (by simpa using e1) (by simpa using e2)⟩
theorem iT {scope:Scope} {cl:List (Str×Addr)} {ys:List Str} {js:List Nat} (clos:closureFor scope X.env=pure cl) (sub:∀ q∈cl,X.env.cells.lookup q.1=some q.2) (cap:qR X scope cl ys js) (hcell:∀ y∈scope.names,y.2≠.cell) (hfree:∀ q∈scope.names,q.2=.free->q.1∈ys):aH6 X scope cl:=by
 refine ⟨clos,fun y c h=>sub _ (PySem.mem_of_lookup h),fun y hy=>?_⟩
 have hm:y∈ys:=by
  rcases hy with hy | hy
  ·have m:=PySem.mem_of_lookup hy
   obtain ⟨⟨n0,k0⟩,m0,e0⟩:=List.mem_map.mp m
   dsimp only at e0
   split at e0
   ·rename_i z
    injection e0 with e1 e2
    subst e1
    have:k0=.free:=by
     cases k0<;>simp at z ⊢
    exact hfree _ m0 this
   ·injection e0 with e1 e2
    exact absurd e2 (hcell _ m0)
  ·have m:=PySem.mem_of_lookup hy
   obtain ⟨⟨n0,k0⟩,m0,e0⟩:=List.mem_map.mp m
   dsimp only at e0
   split at e0
   ·injection e0 with e1 e2
    cases e2
   ·injection e0 with e1 e2
    subst e1
    exact hfree _ m0 e2
 obtain ⟨i,hi,e⟩:=List.mem_iff_getElem.mp hm
 have hj:i < js.length:=by rw [<- cap.len];exact hi
 obtain ⟨_,_,_,h4,h5⟩:=cap.at_ i y js[i] (by rw [List.getElem?_eq_getElem hi,e]) (List.getElem?_eq_getElem hj)
 rw [h5]
 exact Option.isSome_iff_exists.mp h4
theorem mW {K:PySem.W.Frag} {B G0 G H:Hp} {W:Addr->Option Nat} {σ:L2.St} {en:En} {i:Nat} {a:Addr} {o':HO} {d':D} (hh:SimH B G0 G W H) (hs:SimS K W G H σ en) (hW:W a=some i) (hv:σ[i]? = some (some (.ref a))) (hc:Cont K G o' d') :
  SimH B G0 G W (upd H a o')/\SimS K W G (upd H a o') σ (en.set i (some (.o d'))):=by
 obtain ⟨g1,g2,g3⟩:=hh.wf a i hW
 refine ⟨⟨fun b o e=>?_,fun b o e=>?_,hh.g0,hh.gb,fun b j e=>?_⟩,by rw [List.length_set];exact hs.1,fun j l e=>?_⟩
 ·rw [cI (dS e g1)];exact hh.gh b o e
 ·rw [cI (dS e g2)];exact hh.bh b o e
 ·obtain ⟨k1,k2,o,k3,k4⟩:=hh.wf b j e
  refine ⟨k1,k2,?_⟩
  by_cases z:b=a
  ·rw [z,cS];exact ⟨_,rfl,hc.mut⟩
  ·rw [cI z];exact ⟨o,k3,k4⟩
 ·rw [List.getElem?_set] at e
  by_cases hj:i=j
  ·subst hj
   rw [if_pos rfl] at e
   split at e
   ·cases e
    exact ⟨_,hv,a,o',rfl,hW,cS,hc⟩
   ·cases e
  ·rw [if_neg hj] at e
   obtain ⟨v,e1,e2⟩:=hs.2 j l e
   refine ⟨v,e1,?_⟩
   cases l with
   | p d=>exact e2
   | x C=>exact e2
   | h a=>exact e2
   | o d =>
    obtain ⟨b,ob,h1,h2,h3,h4⟩:=e2
    refine ⟨b,ob,h1,h2,?_,h4⟩
    rw [cI (fun z=>by rw [z,hW] at h2;exact hj (Option.some.inj h2))]
    exact h3
def gG (i:Nat) (fe:En->Res Ev):MS:=fun en=>match en[i]? with
 | some (some (.o (.list ds)))=>match fe en with
  | .ok r=>match r.c with
   | .p d=>if ds.length<=100000 then some (.nx (en.set i (some (.o (.list (ds++[d])))))) else none
   | _=>none
  | .exc C=>some (.ex C en)
  | .bad=>none
 | _=>none
theorem l5 {i:Nat} {fe:En->Res Ev} {st:Stmt} (he:DE X E e fe) (hp:∀ t,PE X e t->PS X st (aIx (tBM X.K "list" aAz (aJ3 i) (aH4 t aO4)))):DS X E st (gG i fe):=by
 obtain ⟨t,q,mm⟩:=he.out
 refine DS.in ⟨_,hp t q,fun B G0 G W H σ en Dn hh hs hw=>?_⟩
 unfold gG at hw
 split at hw
 ·rename_i ds ei
  obtain ⟨v,e1,a,o,rfl,e2,e3,e4⟩:=hs.2 i _ ei
  cases e4 with
  | @lst xs _ rp =>
  refine ⟨_,e1,.inl ⟨rfl,_,SqL.of e3⟩,mm B G0 G W H σ en _ hh hs ?_⟩
  cases ef:fe en with
  | bad=>rw [ef] at hw;exact hw
  | exc C=>rw [ef] at hw;exact fun G1 H1 s=>hw G1 W H1 σ (hh.step s) (hs.step s)
  | ok r =>
   rw [ef] at hw
   intro G1 H1 y s ey
   obtain ⟨G2,s2,ey2⟩:=ey.c s
   dsimp only at hw
   cases er:r.c with
   | p d =>
    rw [er] at hw ey2
    dsimp only at hw
    split at hw
    ·rename_i hl
     have hx:=s2.h _ _ e3
     refine ⟨a,xs,y,rfl,rfl,hx,Nat.lt_of_le_of_lt (by rw [rp.length];exact hl) (by decide),?_⟩
     obtain ⟨w1,w2⟩:=mW (o':=.lst (xs++[y])) (d':=.list (ds++[d])) (hh.step s2) (hs.step s2) e2 e1 (.lst ((rp.mono s2.g).append (.cons ey2 .nil)))
     exact hw _ _ _ _ w1 w2
    ·exact hw.elim
   | f d=>rw [er] at hw;exact hw.elim
   | b d=>rw [er] at hw;exact hw.elim
   | x C=>rw [er] at hw;exact hw.elim
 ·exact hw.elim
end
section
variable {X:Cx} {K:PySem.W.Frag} {E:L2.St->XK} {a b:Expr} {fa fb:En->Res Ev} {pos:Pos}
def aHh:D->Option Key
 | .int i=>some (.inl i)
 | .str x=>some (.inr x)
 | _=>none
def wG:List D->Option (List Key)
 | []=>some []
 | d :: ds=>match aHh d with
  | none=>none
  | some k=>match wG ds with
   | none=>none
   | some ks=>some (k :: ks)
def aJ1:D->Option (List Key)
 | .tuple ds=>wG ds
 | _=>none
theorem sH {d:D} {k:Key} (h:aHh d=some k):d=kD k:=by
 cases d<;>first | (cases h;rfl) | cases h
theorem xA (k:Key):aHh (kD k)=some k:=by cases k<;>rfl
theorem yE:∀ {ds:List D} {ks:List Key},wG ds=some ks->ds=ks.map kD
 | [],_,h=>by cases h;rfl
 | d :: ds,ks,h=>by
  unfold wG at h
  cases e:aHh d with
  | none=>rw [e] at h;cases h
  | some k =>
   rw [e] at h
   cases e2:wG ds with
   | none=>rw [e2] at h;cases h
   | some ks' =>
    rw [e2] at h
    cases h
    rw [sH e,yE e2]
    rfl
theorem yI:∀ ks:List Key,wG (ks.map kD)=some ks
 | []=>rfl
 | k :: ks=>by
  show (match aHh (kD k) with | none=>none | some k=>match wG (ks.map kD) with | none=>none | some ks=>some (k :: ks))=_
  rw [xA,yI ks]
theorem wI {d:D} {ks:List Key} (h:aJ1 d=some ks):d=tkD ks:=by
 cases d with
 | tuple ds=>unfold tkD;rw [<- yE h]
 | _=>cases h
theorem yF (ks:List Key):aJ1 (tkD ks)=some ks:=yI ks
theorem aCr {k k':List Key} (h:tkD k=tkD k'):k=k':=by
 have:=yF k
 rw [h,yF] at this
 exact (Option.some.inj this).symm
theorem aGo {k k':Key} (h:kD k=kD k'):k=k':=by
 have:=xA k
 rw [h,xA] at this
 exact (Option.some.inj this).symm
theorem aA7 {G:Hp}:∀ {ks:List Key} {xs:List V},Reps K G xs (ks.map kD)->xs=ks.map kV
 | [],_,.nil=>rfl
 | k :: ks,_,.cons r t=>by
  rw [aA7 t]
  cases k with
  | inl i=>cases r;rfl
  | inr x=>cases r;rfl
theorem aG0 {G:Hp} {v:V} {d:D} {ks:List Key} (h:Rep K G v d) (e:aJ1 d=some ks):∃ b,v=.ref b/\G b=some (.tup (ks.map kV)):=by
 have:=wI e
 subst this
 cases h with
 | @tup b xs _ h1 h2 =>
  rw [aA7 h2] at h1
  exact ⟨b,rfl,h1⟩
theorem aD2 {G:Hp} {v:V} {d:D} {k:Key} (h:Rep K G v d) (e:aHh d=some k):v=kV k:=by
 have:=sH e
 subst this
 cases k with
 | inl i=>cases h;rfl
 | inr x=>cases h;rfl
open Classical in
noncomputable def yS:List (D×D)->D->Option D
 | [],_=>none
 | p :: r,k=>if p.1=k then some p.2 else yS r k
open Classical in
noncomputable def aGy (k v:D):List (D×D)->List (D×D)
 | []=>[]
 | p :: r=>(if p.1=k then (p.1,v) else p) :: aGy k v r
open Classical in
noncomputable def aEd (kvs:List (D×D)) (k v:D):List (D×D):=if (yS kvs k).isSome=true then aGy k v kvs else kvs++[(k,v)]
theorem aN3 {G:Hp} (ks:List Key):∀ {kv:List (List Key×V)} {kvs:List (D×D)},RepT K G kv kvs->(yS kvs (tkD ks)=none/\tY kv ks=none)\/∃ d v,yS kvs (tkD ks)=some d/\tY kv ks=some v/\Rep K G v d
 | _,_,.nil=>.inl ⟨rfl,rfl⟩
 | _,_,.cons (k:=k) (x:=x) (d:=d) r t=>by
  by_cases e:k=ks
  ·subst e
   refine .inr ⟨d,x,?_,mB (p:=(k,x)) rfl,r⟩
   unfold yS
   rw [if_pos rfl]
  ·have e2:tkD k≠tkD ks:=fun z=>e (aCr z)
   unfold yS
   rw [if_neg e2,mV (p:=(k,x)) e]
   exact aN3 ks t
theorem aN8 {G:Hp} (ks:Key):∀ {kv:List (Key×V)} {kvs:List (D×D)},RepK K G kv kvs->(yS kvs (kD ks)=none/\tY kv ks=none)\/∃ d v,yS kvs (kD ks)=some d/\tY kv ks=some v/\Rep K G v d
 | _,_,.nil=>.inl ⟨rfl,rfl⟩
 | _,_,.cons (k:=k) (x:=x) (d:=d) r t=>by
  by_cases e:k=ks
  ·subst e
   refine .inr ⟨d,x,?_,mB (p:=(k,x)) rfl,r⟩
   unfold yS
   rw [if_pos rfl]
  ·have e2:kD k≠kD ks:=fun z=>e (aGo z)
   unfold yS
   rw [if_neg e2,mV (p:=(k,x)) e]
   exact aN8 ks t
theorem aNw {G:Hp} {ks:List Key} {v:V} {d:D} (h:Rep K G v d):∀ {kv:List (List Key×V)} {kvs:List (D×D)},RepT K G kv kvs->RepT K G (kv.map fun p=>if p.1=ks then (p.1,v) else p) (aGy (tkD ks) d kvs)
 | _,_,.nil=>.nil
 | _,_,.cons (k:=k) (x:=x) (d:=d0) r t=>by
  unfold aGy
  rw [List.map_cons]
  by_cases e:k=ks
  ·subst e
   rw [if_pos rfl,if_pos rfl]
   exact .cons h (aNw h t)
  ·have e2:tkD k≠tkD ks:=fun z=>e (aCr z)
   rw [if_neg e,if_neg e2]
   exact .cons r (aNw h t)
theorem aOu {G:Hp} {ks:Key} {v:V} {d:D} (h:Rep K G v d):∀ {kv:List (Key×V)} {kvs:List (D×D)},RepK K G kv kvs->RepK K G (kv.map fun p=>if p.1=ks then (p.1,v) else p) (aGy (kD ks) d kvs)
 | _,_,.nil=>.nil
 | _,_,.cons (k:=k) (x:=x) (d:=d0) r t=>by
  unfold aGy
  rw [List.map_cons]
  by_cases e:k=ks
  ·subst e
   rw [if_pos rfl,if_pos rfl]
   exact .cons h (aOu h t)
  ·have e2:kD k≠kD ks:=fun z=>e (aGo z)
   rw [if_neg e,if_neg e2]
   exact .cons r (aOu h t)
theorem RepT.app {G:Hp}:∀ {kv kv':List (List Key×V)} {kvs kvs':List (D×D)},RepT K G kv kvs->RepT K G kv' kvs'->RepT K G (kv++kv') (kvs++kvs')
 | _,_,_,_,.nil,r=>r
 | _,_,_,_,.cons h t,r=>.cons h (RepT.app t r)
theorem RepK.app {G:Hp}:∀ {kv kv':List (Key×V)} {kvs kvs':List (D×D)},RepK K G kv kvs->RepK K G kv' kvs'->RepK K G (kv++kv') (kvs++kvs')
 | _,_,_,_,.nil,r=>r
 | _,_,_,_,.cons h t,r=>.cons h (RepK.app t r)
theorem RepT.len {G:Hp}:∀ {kv:List (List Key×V)} {kvs:List (D×D)},RepT K G kv kvs->kv.length=kvs.length
 | _,_,.nil=>rfl
 | _,_,.cons _ r=>by rw [List.length_cons,List.length_cons,RepT.len r]
theorem RepK.len {G:Hp}:∀ {kv:List (Key×V)} {kvs:List (D×D)},RepK K G kv kvs->kv.length=kvs.length
 | _,_,.nil=>rfl
 | _,_,.cons _ r=>by rw [List.length_cons,List.length_cons,RepK.len r]
theorem aP9 {G:Hp} {ks:List Key} {v:V} {d:D} (h:Rep K G v d) {kv:List (List Key×V)} {kvs:List (D×D)} (r:RepT K G kv kvs):RepT K G (putK kv ks v) (aEd kvs (tkD ks) d):=by
 unfold putK aEd
 rw [oQ]
 rcases aN3 ks r with ⟨e1,e2⟩ | ⟨d0,v0,e1,e2,_⟩
 ·rw [e1,e2,if_neg (by simp),if_neg (by simp)]
  exact r.app (.cons h .nil)
 ·rw [e1,e2,if_pos (show (some v0).isSome=true from rfl),if_pos (show (some d0).isSome=true from rfl)]
  exact aNw h r
theorem aOf {G:Hp} {ks:Key} {v:V} {d:D} (h:Rep K G v d) {kv:List (Key×V)} {kvs:List (D×D)} (r:RepK K G kv kvs):RepK K G (putK kv ks v) (aEd kvs (kD ks) d):=by
 unfold putK aEd
 rw [oQ]
 rcases aN8 ks r with ⟨e1,e2⟩ | ⟨d0,v0,e1,e2,_⟩
 ·rw [e1,e2,if_neg (by simp),if_neg (by simp)]
  exact r.app (.cons h .nil)
 ·rw [e1,e2,if_pos (show (some v0).isSome=true from rfl),if_pos (show (some d0).isSome=true from rfl)]
  exact aOu h r
def dsp (kvs:List (D×D)):Bool×List (D×D):=match kvs with
 | (.none,.none) :: r=>(true,r)
 | r=>(false,r)
theorem aJn {G:Hp} {kv:List (List Key×V)} {kvs:List (D×D)} (r:RepT K G kv kvs):dsp kvs=(false,kvs):=by
 cases r with
 | nil=>rfl
 | cons _ _=>rfl
def kN:Ev->Option (List (D×D))
 | .p (.dict kvs)=>some kvs
 | .b (.dict kvs)=>some kvs
 | _=>none
noncomputable def vJ (kvs:List (D×D)) (k:D):Option (Option D):=match dsp kvs with
 | (true,r)=>if (aHh k).isSome=true then some (yS r k) else none
 | (false,r)=>if (aJ1 k).isSome=true then some (yS r k) else none
theorem xT {W:Addr->Option Nat} {Hs G H:Hp} {v:V} {r:Ev} {kvs:List (D×D)} (gh:Same G H) (h:EOk K W Hs G H v r) (e:kN r=some kvs) :
  ∃ a,v=.ref a/\((∃ kv,H a=some (.dT kv)/\RepT K G kv kvs)\/∃ kv r,kvs=(.none,.none) :: r/\H a=some (.dK kv)/\RepK K G kv r):=by
 cases r with
 | p d =>
  cases d with
  | dict es =>
   cases e
   cases h with
   | @dT a kv _ h1 h2=>exact ⟨a,rfl,.inl ⟨kv,gh _ _ h1,h2⟩⟩
   | @dK a kv r h1 h2=>exact ⟨a,rfl,.inr ⟨kv,r,rfl,gh _ _ h1,h2⟩⟩
  | _=>cases e
 | b d =>
  cases d with
  | dict es =>
   cases e
   obtain ⟨a,i,o,rfl,h1,h2,h3⟩:=h
   cases h3 with
   | @dT kv _ h4=>exact ⟨a,rfl,.inl ⟨kv,h2,h4⟩⟩
   | @dK kv r h4=>exact ⟨a,rfl,.inr ⟨kv,r,rfl,h2,h4⟩⟩
  | _=>cases e
 | f d=>cases e
 | x C=>cases e
def aNt (K:PySem.W.Frag) (G:Hp):Option D->Option V->Prop
 | none,w=>w=none
 | some d,w=>∃ x,w=some x/\Rep K G x d
theorem aDo {W:Addr->Option Nat} {Hs Hs' G H:Hp} {v u:V} {r:Ev} {k:D} {kvs:List (D×D)} {o:Option D} (gh:Same G H) (h:EOk K W Hs G H v r) (e:kN r=some kvs) (hk:Rep K G u k) (el:vJ kvs k=some o) :
  ∃ a w,v=.ref a/\DGet H a u w/\aNt K G o w:=by
 obtain ⟨a,rfl,hh⟩:=xT gh h e
 rcases hh with ⟨kv,h1,h2⟩ | ⟨kv,r,rfl,h1,h2⟩
 ·unfold vJ at el
  rw [aJn h2] at el
  dsimp only at el
  split at el
  ·rename_i z
   obtain ⟨ks,ek⟩:=Option.isSome_iff_exists.mp z
   obtain ⟨b,rfl,hb⟩:=aG0 hk ek
   have:=wI ek
   subst this
   cases el
   refine ⟨a,tY kv ks,rfl,.t h1 (gh _ _ hb),?_⟩
   rcases aN3 ks h2 with ⟨e1,e2⟩ | ⟨d0,v0,e1,e2,e3⟩
   ·rw [e1,e2];exact rfl
   ·rw [e1,e2];exact ⟨v0,rfl,e3⟩
  ·cases el
 ·unfold vJ at el
  dsimp only [dsp] at el
  split at el
  ·rename_i z
   obtain ⟨ks,ek⟩:=Option.isSome_iff_exists.mp z
   have hb:=aD2 hk ek
   subst hb
   have:=sH ek
   subst this
   cases el
   refine ⟨a,tY kv ks,rfl,.k h1,?_⟩
   rcases aN8 ks h2 with ⟨e1,e2⟩ | ⟨d0,v0,e1,e2,e3⟩
   ·rw [e1,e2];exact rfl
   ·rw [e1,e2];exact ⟨v0,rfl,e3⟩
  ·cases el
noncomputable def mU (x y:Ev):Res Ev:=match y with
 | .p k=>match kN x with
  | some kvs=>match vJ kvs k with
   | some (some d)=>.ok (.p d)
   | _=>.bad
  | none=>.bad
 | _=>.bad
noncomputable def vQ (ng:Bool) (y x:Ev):Res Ev:=match y with
 | .p k=>match kN x with
  | some kvs=>match vJ kvs k with
   | some o=>.ok (.p (.bool (if ng then !o.isSome else o.isSome)))
   | none=>.bad
  | none=>.bad
 | _=>.bad
theorem pY (hu:X.A.units+1 < cLine) (ha:DE X E a fa) (hb:DE X E b fb) (hs:aNp b):DE X E (.Subscript a b pos) (aE mU fa fb):=by
 obtain ⟨ta,pa,ma⟩:=ha.out
 obtain ⟨tb,pb,mb⟩:=hb.out
 refine DE.in ⟨_,aHo hu pa pb hs,fun B G0 G W H σ en Q hh hs hw=>ma B G0 G W H σ en _ hh hs (DE.go hw fun x G1 H1 v s1 e1 h1=>?_)⟩
 refine mb B G0 G1 W H1 σ en _ (hh.step s1) (hs.step s1) (DE.go h1 fun y G2 H2 u s2 e2 h2=>?_)
 unfold mU at h2
 split at h2
 ·rename_i k ey
  rw [ey] at e2
  split at h2
  ·rename_i kvs ed
   split at h2
   ·rename_i d el
    obtain ⟨a,w,rfl,hg,x,rfl,hx⟩:=aDo (Hs':=H1) s2.gh (e1.step (Hs':=H1) s2) ed e2 el
    exact ⟨a,x,rfl,hg,h2 G2 H2 _ (Step.refl s2.gh) hx⟩
   ·exact h2.elim
  ·exact h2.elim
 ·exact h2.elim
theorem xK {ta tb:TE} {ng:Bool} (ma:∀ B G0 G W H σ en Q,SimH B G0 G W H->SimS X.K W G H σ en->wpR (fa en) (PostE X.K W G H Q) (PostX (E σ) G H)->ta σ H Q)
  (mb:∀ B G0 G W H σ en Q,SimH B G0 G W H->SimS X.K W G H σ en->wpR (fb en) (PostE X.K W G H Q) (PostX (E σ) G H)->tb σ H Q) :
  ∀ B G0 G W H σ en Q,SimH B G0 G W H->SimS X.K W G H σ en->wpR (aE (vQ ng) fa fb en) (PostE X.K W G H Q) (PostX (E σ) G H) ->
   ta σ H fun y H1=>tb σ H1 fun x H2=>∃ a o,x=.ref a/\DGet H2 a y o/\Q (.bl (if ng then !o.isSome else o.isSome)) H2:=by
 intro B G0 G W H σ en Q hh hs hw
 refine ma B G0 G W H σ en _ hh hs (DE.go hw fun y G1 H1 u s1 e1 h1=>?_)
 refine mb B G0 G1 W H1 σ en _ (hh.step s1) (hs.step s1) (DE.go h1 fun x G2 H2 v s2 e2 h2=>?_)
 have e1':=e1.step (Hs':=H1) s2
 unfold vQ at h2
 split at h2
 ·rename_i k ey
  rw [ey] at e1'
  split at h2
  ·rename_i kvs ed
   split at h2
   ·rename_i o el
    obtain ⟨a,w,rfl,hg,hx⟩:=aDo (Hs':=H1) s2.gh e2 ed e1' el
    refine ⟨a,w,rfl,hg,?_⟩
    have z:=h2 G2 H2 _ (Step.refl s2.gh) (.bl _)
    cases o with
    | none=>rw [show w=none from hx];exact z
    | some d=>obtain ⟨x',rfl,_⟩:=hx;exact z
   ·exact h2.elim
  ·exact h2.elim
 ·exact h2.elim
theorem aMn (hu:X.A.units+1 < cLine) (ha:DE X E a fa) (hb:DE X E b fb) (hk:behindInMarks .In b=false:=by with_unfolding_all rfl):DT X E (.Compare a [.In] [b] pos) (a9 (aE (vQ false) fa fb)):=by
 obtain ⟨ta,pa,ma⟩:=ha.out
 obtain ⟨tb,pb,mb⟩:=hb.out
 exact DT.in ⟨_,x4 (aLk hu pa pb) hk,lB (t:=aPu ta tb) (xK (ng:=false) ma mb)⟩
theorem vD (hu:X.A.units+1 < cLine) (ha:DE X E a fa) (hb:DE X E b fb) (hk:behindInMarks .NotIn b=false:=by with_unfolding_all rfl):DT X E (.Compare a [.NotIn] [b] pos) (a9 (aE (vQ true) fa fb)):=by
 obtain ⟨ta,pa,ma⟩:=ha.out
 obtain ⟨tb,pb,mb⟩:=hb.out
 exact DT.in ⟨_,x4 (aB8 hu pa pb) hk,lB (t:=aDt ta tb) (xK (ng:=true) ma mb)⟩
def mDT:En->Res Ev:=fun _=>.ok (.f (.dict []))
theorem l7:DE X E (.Dict [] [] pos) mDT :=
 DE.in ⟨_,aFj,fun B G0 G W H σ en Q hh hs hw p hp=>hw _ _ _ (Step.lay hh.gh hp) ⟨p,_,rfl,hp,hh.gh.free hp,cS,.dT .nil⟩⟩
noncomputable def zZ (kvs:List (D×D)) (k v:D):Option (List (D×D)):=match dsp kvs with
 | (true,r)=>if (aHh k).isSome=true/\r.length<=100000 then some ((.none,.none) :: aEd r k v) else none
 | (false,r)=>if (aJ1 k).isSome=true/\r.length<=100000 then some (aEd r k v) else none
noncomputable def kA (i:Nat) (fk fv:En->Res Ev):MS:=fun en=>match en[i]? with
 | some (some (.o (.dict kvs)))=>match fv en with
  | .exc C=>some (.ex C en)
  | .bad=>none
  | .ok rv=>match fk en with
   | .exc C=>some (.ex C en)
   | .bad=>none
   | .ok rk=>match rv.c with
    | .p v=>match rk.c with
     | .p k=>match zZ kvs k v with
      | some kvs'=>some (.nx (en.set i (some (.o (.dict kvs')))))
      | none=>none
     | _=>none
    | _=>none
 | _=>none
theorem lU {i:Nat} {x:Str} {pos' np:Pos} {ek ev:Expr} {fk fv:En->Res Ev} (hu:X.A.units+1 < cLine) (hd:PE X (.Name x np) (aJ3 i)) (hk:DE X E ek fk) (hv:DE X E ev fv) (hs:swapsWith ev (some (.Subscript (.Name x np) ek pos')) pos.line X.env=pure false) :
  DS X E (.Assign [.Subscript (.Name x np) ek pos'] ev pos) (kA i fk fv):=by
 obtain ⟨tk,pk,mk⟩:=hk.out
 obtain ⟨tv,pv',mv⟩:=hv.out
 refine DS.in ⟨_,aJo hu hd pk pv' hs,fun B G0 G W H σ en Dn hh hs hw=>mv B G0 G W H σ en _ hh hs ?_⟩
 unfold kA at hw
 split at hw
 ·rename_i kvs ei
  obtain ⟨v0,f1,a,o,rfl,f2,f3,f4⟩:=hs.2 i _ ei
  cases ev':fv en with
  | bad=>rw [ev'] at hw;exact hw
  | exc C=>rw [ev'] at hw;exact fun G1 H1 s=>hw G1 W H1 σ (hh.step s) (hs.step s)
  | ok rv =>
   rw [ev'] at hw
   intro G1 H1 v s1 e1
   obtain ⟨G2,s2,e2⟩:=e1.c s1
   dsimp only at hw
   refine ⟨_,f1,mk B G0 G2 W H1 σ en _ (hh.step s2) (hs.step s2) ?_⟩
   cases ek':fk en with
   | bad=>rw [ek'] at hw;exact hw
   | exc C=>rw [ek'] at hw;exact fun G3 H3 s=>hw G3 W H3 σ ((hh.step s2).step s) ((hs.step s2).step s)
   | ok rk =>
    rw [ek'] at hw
    intro G3 H3 u s3 e3
    obtain ⟨G4,s4,e4⟩:=e3.c s3
    have e2':=e2.step (Hs':=H1) s4
    have s24:=s2.trans s4
    dsimp only at hw
    split at hw
    ·rename_i vd erv
     rw [erv] at e2'
     split at hw
     ·rename_i kd erk
      rw [erk] at e4
      split at hw
      ·rename_i kvs' ep
       have hx:=s24.h _ _ f3
       refine ⟨a,?_⟩
       unfold zZ at ep
       have f5:=f4.mono s24.g
       cases f5 with
       | @dT kv _ rT =>
        rw [aJn rT] at ep
        dsimp only at ep
        split at ep
        ·rename_i hz
         cases ep
         obtain ⟨ks,ek⟩:=Option.isSome_iff_exists.mp hz.1
         obtain ⟨b,rfl,hb⟩:=aG0 e4 ek
         have:=wI ek
         subst this
         obtain ⟨w1,w2⟩:=mW (o':=.dT (putK kv ks v)) (d':=.dict (aEd kvs (tkD ks) vd)) (hh.step s24) (hs.step s24) f2 f1 (.dT (aP9 e2' rT))
         exact ⟨_,rfl,.t hx (s4.gh _ _ hb) (Nat.lt_of_le_of_lt (by rw [rT.len];exact hz.2) (by decide)),hw _ _ _ _ w1 w2⟩
        ·cases ep
       | @dK kv r rK =>
        dsimp only [dsp] at ep
        split at ep
        ·rename_i hz
         cases ep
         obtain ⟨ks,ek⟩:=Option.isSome_iff_exists.mp hz.1
         have hb:=aD2 e4 ek
         subst hb
         have:=sH ek
         subst this
         obtain ⟨w1,w2⟩:=mW (o':=.dK (putK kv ks v)) (d':=.dict ((.none,.none) :: aEd r (kD ks) vd)) (hh.step s24) (hs.step s24) f2 f1 (.dK (aOf e2' rK))
         exact ⟨_,rfl,.k hx (Nat.lt_of_le_of_lt (by rw [rK.len];exact hz.2) (by decide)),hw _ _ _ _ w1 w2⟩
        ·cases ep
      ·exact hw.elim
     ·exact hw.elim
    ·exact hw.elim
 ·exact hw.elim
def mS (rs:List Ev):Res Ev:=match rs with
 | [x]=>match kN x with
  | some kvs=>.ok (.p (.int ((dsp kvs).2.length:Nat)))
  | none=>.bad
 | _=>.bad
theorem y9:aEe mS:=by
 intro rs C h
 unfold mS at h
 split at h
 ·split at h<;>cases h
 ·cases h
def aD1 (i:Nat) (fk fv:En->Res Ev):MS:=fun en=>match en[i]? with
 | some (some (.o (.list ds)))=>match fv en with
  | .exc C=>some (.ex C en)
  | .bad=>none
  | .ok rv=>match fk en with
   | .exc C=>some (.ex C en)
   | .bad=>none
   | .ok rk=>match rv.c with
    | .p v=>match rk.c with
     | .p (.int k)=>match ixN ds.length k with
      | some j=>some (.nx (en.set i (some (.o (.list (ds.set j v))))))
      | none=>none
     | _=>none
    | _=>none
 | _=>none
theorem aJl {i:Nat} {ek ev:Expr} {fk fv:En->Res Ev} {st:Stmt} (hk:DE X E ek fk) (hv:DE X E ev fv) (hp:∀ tk tv,PE X ek tk->PE X ev tv->PS X st (aNk tv (aPz (aJ3 i) tk aMj))):DS X E st (aD1 i fk fv):=by
 obtain ⟨tk,pk,mk⟩:=hk.out
 obtain ⟨tv,pv',mv⟩:=hv.out
 refine DS.in ⟨_,hp tk tv pk pv',fun B G0 G W H σ en Dn hh hs hw=>mv B G0 G W H σ en _ hh hs ?_⟩
 unfold aD1 at hw
 split at hw
 ·rename_i ds ei
  obtain ⟨v0,f1,a,o,rfl,f2,f3,f4⟩:=hs.2 i _ ei
  cases f4 with
  | @lst xs _ rp =>
  cases ev':fv en with
  | bad=>rw [ev'] at hw;exact hw
  | exc C=>rw [ev'] at hw;exact fun G1 H1 s=>hw G1 W H1 σ (hh.step s) (hs.step s)
  | ok rv =>
   rw [ev'] at hw
   intro G1 H1 v s1 e1
   obtain ⟨G2,s2,e2⟩:=e1.c s1
   dsimp only at hw
   refine ⟨_,f1,mk B G0 G2 W H1 σ en _ (hh.step s2) (hs.step s2) ?_⟩
   cases ek':fk en with
   | bad=>rw [ek'] at hw;exact hw
   | exc C=>rw [ek'] at hw;exact fun G3 H3 s=>hw G3 W H3 σ ((hh.step s2).step s) ((hs.step s2).step s)
   | ok rk =>
    rw [ek'] at hw
    intro G3 H3 u s3 e3
    obtain ⟨G4,s4,e4⟩:=e3.c s3
    have e2':=e2.step (Hs':=H1) s4
    have s24:=s2.trans s4
    dsimp only at hw
    split at hw
    ·rename_i vd erv
     rw [erv] at e2'
     split at hw
     ·rename_i k erk
      rw [erk] at e4
      cases e4
      split at hw
      ·rename_i j ej
       obtain ⟨w1,w2⟩:=mW (o':=.lst (xs.set j v)) (d':=.list (ds.set j vd)) (hh.step s24) (hs.step s24) f2 f1 (.lst ((rp.mono s24.g).set e2' j))
       exact ⟨a,xs,k,j,rfl,rfl,s24.h _ _ f3,by rw [rp.length];exact ej,hw _ _ _ _ w1 w2⟩
      ·exact hw.elim
     ·exact hw.elim
    ·exact hw.elim
 ·exact hw.elim
end
end M
namespace SRT
open PySem PySem.W PyProof.Rows
structure Ord (lt:Nat->Nat->Bool):Prop where
 as:∀ i j,lt i j=true->lt j i=false
 tr:∀ i j k,lt j i=false->lt k j=false->lt k i=false
section
variable {lt:Nat->Nat->Bool} {n:Nat} {cmp:Nat->Nat->(Bool->Shared->Prop)->Shared->Prop} {s:Shared}
def le (lt:Nat->Nat->Bool) (a b:Nat):Prop:=lt b a=false
theorem Ord.rf (o:Ord lt) (i:Nat):le lt i i:=by
 cases e:lt i i with
 | false=>exact e
 | true=>have:=o.as i i e;rw [e] at this;cases this
theorem Ord.tot (o:Ord lt) {i j:Nat} (h:lt i j=true):le lt i j:=o.as i j h
def Pt (p:Array Nat) (i:Nat):Nat:=p.getD i 0
def Sd (lt:Nat->Nat->Bool) (p:Array Nat) (m:Nat):Prop:=∀ i j,i<=j->j < m->le lt (Pt p i) (Pt p j)
def NI (lt:Nat->Nat->Bool) (p:Array Nat) (m:Nat):Prop:=∀ i j,i<=j->j < m->le lt (Pt p j) (Pt p i)
def Pm (n:Nat) (p:Array Nat):Prop:=p.Perm (List.range n).toArray
theorem Pm.size {p:Array Nat} (h:Pm n p):p.size=n:=by
 have:=h.size_eq
 simpa using this
theorem Pm.bd {p:Array Nat} (h:Pm n p) (hn:0 < n) (i:Nat):Pt p i < n:=by
 unfold Pt
 by_cases hi:i < p.size
 ·have e:p.getD i 0=p[i]:=by simp [Array.getD,hi]
  rw [e]
  have:p[i]∈(List.range n).toArray:=h.mem_iff.mp (Array.getElem_mem hi)
  simpa using this
 ·have e:p.getD i 0=0:=by simp [Array.getD,hi]
  rw [e];exact hn
theorem aC4 {p q:Array Nat} {i j:Nat} (h:p[i]? = q[j]?):Pt p i=Pt q j:=by
 unfold Pt
 rw [Array.getD_eq_getD_getElem?,Array.getD_eq_getD_getElem?,h]
theorem t9 {p:Array Nat} (h:Pm n p) (i j:Nat):Pm n (kas_rev p i j):=(mirror_perm _ _ _ _).trans h
theorem uN {p:Array Nat} {i j:Nat} (hj:j<=p.size) (k:Nat):Pt (kas_rev p i j) k=if i<=k/\k < j then Pt p (i+j - 1 - k) else Pt p k:=by
 have e:=getElem?_mirror_all (xs:=p) (i:=i) hj k
 split
 ·rename_i h
  rw [if_pos h] at e
  exact aC4 e
 ·rename_i h
  rw [if_neg h] at e
  exact aC4 e
variable (hc:∀ i j C,i < n->j < n->C (lt i j) s->cmp i j C s) (hn:0 < n) (o:Ord lt)
include hc hn
theorem aCi {Q:Nat->Shared->Prop} {p:Array Nat} (hp:Pm n p):∀ (f a:Nat),(∀ m,a<=m->m<=a+f->(∀ k,a<=k->k < m->le lt (Pt p (k - 1)) (Pt p k))->(m < a+f->lt (Pt p m) (Pt p (m - 1))=true)->Q m s) ->
  (kas_asc p f a).kasWp cmp Q s
 | 0,a,h=>h a (Nat.le_refl _) (Nat.le_refl _) (fun k h1 h2=>absurd h2 (by omega)) (fun h=>absurd h (by omega))
 | f+1,a,h=>by
  refine hc _ _ _ (hp.bd hn _) (hp.bd hn _) ?_
  show KasT.kasWp cmp (if lt (Pt p a) (Pt p (a - 1))=true then .ret a else kas_asc p f (a+1)) Q s
  cases e:lt (Pt p a) (Pt p (a - 1)) with
  | true =>
   rw [if_pos rfl]
   exact h a (Nat.le_refl _) (by omega) (fun k h1 h2=>absurd h2 (by omega)) fun _=>e
  | false =>
   rw [if_neg Bool.false_ne_true]
   refine aCi hp f (a+1) fun m h1 h2 h3 h4=>h m (by omega) (by omega) (fun k k1 k2=>?_) fun z=>h4 (by omega)
   by_cases ek:k=a
   ·subst ek;exact e
   ·exact h3 k (by omega) k2
include o
omit hc hn in
theorem aKs {p:Array Nat} {a m:Nat} (h1:1<=a) (hs:Sd lt p a) (hk:∀ k,a<=k->k < m->le lt (Pt p (k - 1)) (Pt p k)):Sd lt p m:=by
 intro i j hij hj
 induction j with
 | zero =>
  have:i=0:=by omega
  subst this
  exact o.rf _
 | succ j ih =>
  by_cases e:i=j+1
  ·subst e;exact o.rf _
  ·have ih:=ih (by omega) (by omega)
   by_cases hja:j+1 < a
   ·exact hs i (j+1) hij hja
   ·have:=hk (j+1) (by omega) hj
    exact o.tr _ _ _ ih this
omit hc hn in
theorem aJ5 {p:Array Nat} {m:Nat} (hm:m<=p.size) (h:NI lt p m):Sd lt (kas_rev p 0 m) m:=by
 intro i j hij hj
 rw [uN hm,uN hm,if_pos ⟨Nat.zero_le _,by omega⟩,if_pos ⟨Nat.zero_le _,hj⟩]
 exact h _ _ (by omega) (by omega)
theorem aC2 {Q:Nat×Array Nat->Shared->Prop} {p:Array Nat} {a r:Nat} (hp:Pm n p) (h1:1<=a) (ha:a<=r) (hr:r<=n) (hni:NI lt p a) (h:∀ m q,1<=m->m<=r->Pm n q->Sd lt q m->Q (m,q) s):(kas_tail3 a r p).kasWp cmp Q s:=by
 unfold kas_tail3
 rw [KasT.kasWp_bind]
 have hz:a<=p.size:=by rw [hp.size];omega
 refine aCi hc hn (t9 hp 0 a) _ _ fun m h2 h3 h4 _=>?_
 exact h m _ (by omega) (by omega) (t9 hp 0 a) (aKs o h1 (aJ5 o hz hni) h4)
omit hc hn in
theorem rev_eq {p:Array Nat} {i j:Nat} (hj:j<=p.size) (he:∀ a b,i<=a->a < j->i<=b->b < j->le lt (Pt p a) (Pt p b)) (k:Nat):le lt (Pt (kas_rev p i j) k) (Pt p k)/\le lt (Pt p k) (Pt (kas_rev p i j) k):=by
 rw [uN hj]
 split
 ·rename_i h
  exact ⟨he _ _ (by omega) (by omega) h.1 h.2,he _ _ h.1 h.2 (by omega) (by omega)⟩
 ·exact ⟨o.rf _,o.rf _⟩
omit hc hn in
theorem o6 {p:Array Nat} {i j m:Nat} (hj:j<=p.size) (he:∀ a b,i<=a->a < j->i<=b->b < j->le lt (Pt p a) (Pt p b)) (h:NI lt p m):NI lt (kas_rev p i j) m:=fun a b hab hb =>
 o.tr _ _ _ (rev_eq o hj he b).1 (o.tr _ _ _ (h a b hab hb) (rev_eq o hj he a).2)
theorem tU {Q:Array Nat×Nat×Nat->Shared->Prop} {r:Nat} (hr:r<=n):∀ (f:Nat) (p:Array Nat) (a q:Nat),Pm n p->a+f<=r->q+1<=a->NI lt p a->(∀ x y,a - (q+1)<=x->x < a->a - (q+1)<=y->y < a->le lt (Pt p x) (Pt p y)) ->
  (∀ p' a' q',Pm n p'->a<=a'->a'<=r->q'+1<=a'->NI lt p' a'->(∀ x y,a' - (q'+1)<=x->x < a'->a' - (q'+1)<=y->y < a'->le lt (Pt p' x) (Pt p' y))->Q (p',a',q') s)->(kas_desc f p a q).kasWp cmp Q s
 | 0,p,a,q,hp,hf,hq,hni,he,h=>h p a q hp (Nat.le_refl _) (by omega) hq hni he
 | f+1,p,a,q,hp,hf,hq,hni,he,h=>by
  have hz:a<=p.size:=by rw [hp.size];omega
  refine hc _ _ _ (hp.bd hn _) (hp.bd hn _) ?_
  show KasT.kasWp cmp (if lt (Pt p a) (Pt p (a - 1))=true then (if q > 0 then kas_desc f (kas_rev p (a - (q+1)) a) (a+1) 0 else kas_desc f p (a+1) 0)
   else .ask (Pt p (a - 1)) (Pt p a) fun d=>if d=true then .ret (p,a,q) else kas_desc f p (a+1) (q+1)) Q s
  have grow:∀ {p':Array Nat},NI lt p' a->le lt (Pt p' a) (Pt p' (a - 1))->NI lt p' (a+1):=fun {p'} h1 h2 i j hij hj=>by
   by_cases e:j=a
   ·subst e
    by_cases e2:i=j
    ·subst e2;exact o.rf _
    ·exact o.tr _ _ _ h2 (h1 i (j - 1) (by omega) (by omega))
   ·exact h1 i j hij (by omega)
  cases e:lt (Pt p a) (Pt p (a - 1)) with
  | true =>
   rw [if_pos rfl]
   by_cases hq0:q > 0
   ·rw [if_pos hq0]
    have n1:=o6 o hz he hni
    have e1:Pt (kas_rev p (a - (q+1)) a) a=Pt p a:=by rw [uN hz,if_neg (by omega)]
    have le1:le lt (Pt (kas_rev p (a - (q+1)) a) a) (Pt (kas_rev p (a - (q+1)) a) (a - 1)):=by
     rw [e1]
     exact o.tr _ _ _ (o.tot e) (rev_eq o hz he (a - 1)).2
    refine tU hr f _ (a+1) 0 (t9 hp _ _) (by omega) (by omega) (grow n1 le1) (fun x y h1 h2 h3 h4=>?_) fun p' a' q' k1 k2 k3 k4 k5 k6=>h p' a' q' k1 (by omega) k3 k4 k5 k6
    have:x=y:=by omega
    subst this;exact o.rf _
   ·rw [if_neg hq0]
    refine tU hr f _ (a+1) 0 hp (by omega) (by omega) (grow hni (o.tot e)) (fun x y h1 h2 h3 h4=>?_) fun p' a' q' k1 k2 k3 k4 k5 k6=>h p' a' q' k1 (by omega) k3 k4 k5 k6
    have:x=y:=by omega
    subst this;exact o.rf _
  | false =>
   rw [if_neg Bool.false_ne_true]
   refine hc _ _ _ (hp.bd hn _) (hp.bd hn _) ?_
   show KasT.kasWp cmp (if lt (Pt p (a - 1)) (Pt p a)=true then .ret (p,a,q) else kas_desc f p (a+1) (q+1)) Q s
   cases e2:lt (Pt p (a - 1)) (Pt p a) with
   | true =>
    rw [if_pos rfl]
    exact h p a q hp (Nat.le_refl _) (by omega) hq hni he
   | false =>
    rw [if_neg Bool.false_ne_true]
    have eq1:le lt (Pt p (a - 1)) (Pt p a):=e
    have eq2:le lt (Pt p a) (Pt p (a - 1)):=e2
    refine tU hr f p (a+1) (q+1) hp (by omega) (by omega) (grow hni eq2) (fun x y h1 h2 h3 h4=>?_) fun p' a' q' k1 k2 k3 k4 k5 k6=>h p' a' q' k1 (by omega) k3 k4 k5 k6
    by_cases hx:x=a
    ·subst hx
     by_cases hy:y=x
     ·subst hy;exact o.rf _
     ·exact o.tr _ _ _ eq2 (he _ _ (by omega) (by omega) (by omega) (by omega))
    ·by_cases hy:y=a
     ·subst hy
      exact o.tr _ _ _ (he _ (y - 1) (by omega) (by omega) (by omega) (by omega)) eq1
     ·exact he _ _ (by omega) (by omega) (by omega) (by omega)
theorem qG {Q:Nat×Array Nat->Shared->Prop} {p:Array Nat} {a r:Nat} (hp:Pm n p) (h1:1<=a) (ha:a+1<=r) (hr:r<=n) (hni:NI lt p (a+1)) (h:∀ m q,1<=m->m<=r->Pm n q->Sd lt q m->Q (m,q) s):(kas_descPart a r p).kasWp cmp Q s:=by
 unfold kas_descPart
 rw [KasT.kasWp_bind]
 refine tU hc hn o hr _ p (a+1) 0 hp (by omega) (by omega) hni (fun x y h1 h2 h3 h4=>?_) fun p' a' q' k1 k2 k3 k4 k5 k6=>?_
 ·have:x=y:=by omega
  subst this;exact o.rf _
 ·have hz:a'<=p'.size:=by rw [k1.size];omega
  show KasT.kasWp cmp (if q' > 0 then kas_tail3 a' r (kas_rev p' (a' - (q'+1)) a') else kas_tail3 a' r p') Q s
  by_cases hq:q' > 0
  ·rw [if_pos hq]
   exact aC2 hc hn o (t9 k1 _ _) (by omega) k3 hr (o6 o hz k6 k5) h
  ·rw [if_neg hq]
   exact aC2 hc hn o k1 (by omega) k3 hr k5 h
theorem aFf {Q:Nat×Array Nat->Shared->Prop} {p:Array Nat} {r:Nat} (hp:Pm n p) (h1:1<=r) (hr:r<=n) (h:∀ m q,1<=m->m<=r->Pm n q->Sd lt q m->Q (m,q) s):(kas_count r p).kasWp cmp Q s:=by
 unfold kas_count
 rw [KasT.kasWp_bind]
 have s1:Sd lt p 1:=fun i j hij hj=>by
  have:i=j:=by omega
  subst this;exact o.rf _
 refine aCi hc hn hp _ _ fun m h2 h3 h4 h5=>?_
 have sm:=aKs o (Nat.le_refl 1) s1 h4
 show KasT.kasWp cmp (if (m == r)=true then .ret (m,p) else if m > 1 then .ask (Pt p 0) (Pt p (m - 1)) fun c=>if c=true then .ret (m,p) else kas_descPart m r (kas_rev p 0 m) else kas_descPart m r p) Q s
 by_cases em:m=r
 ·rw [if_pos (by simp [em])]
  exact h m p h2 (by omega) hp sm
 ·rw [if_neg (by simp [em])]
  have hlt:=h5 (by omega)
  have hz:m<=p.size:=by rw [hp.size];omega
  by_cases hm:m > 1
  ·rw [if_pos hm]
   refine hc _ _ _ (hp.bd hn _) (hp.bd hn _) ?_
   show KasT.kasWp cmp (if lt (Pt p 0) (Pt p (m - 1))=true then .ret (m,p) else kas_descPart m r (kas_rev p 0 m)) Q s
   cases e:lt (Pt p 0) (Pt p (m - 1)) with
   | true=>rw [if_pos rfl];exact h m p h2 (by omega) hp sm
   | false =>
    rw [if_neg Bool.false_ne_true]
    have e:le lt (Pt p (m - 1)) (Pt p 0):=e
    have he:∀ a b,0<=a->a < m->0<=b->b < m->le lt (Pt p a) (Pt p b):=fun a b _ ha _ hb =>
     o.tr _ _ _ (sm a (m - 1) (by omega) (by omega)) (o.tr _ _ _ e (sm 0 b (by omega) hb))
    have nm:NI lt p m:=fun i j hij hj=>he j i (by omega) hj (by omega) (by omega)
    have n2:=o6 o hz he nm
    have em1:Pt (kas_rev p 0 m) m=Pt p m:=by rw [uN hz,if_neg (by omega)]
    refine qG hc hn o (t9 hp 0 m) (by omega) (by omega) hr (fun i j hij hj=>?_) h
    by_cases ej:j=m
    ·subst ej
     by_cases ei:i=j
     ·subst ei;exact o.rf _
     ·rw [em1]
      refine o.tr _ _ _ (o.tot hlt) (o.tr _ _ _ (rev_eq o hz he (j - 1)).2 ?_)
      exact n2 i (j - 1) (by omega) (by omega)
    ·exact n2 i j hij (by omega)
  ·rw [if_neg hm]
   have e1:m=1:=by omega
   subst e1
   refine qG hc hn o hp (Nat.le_refl 1) (by omega) hr (fun i j hij hj=>?_) h
   by_cases ei:i=j
   ·subst ei;exact o.rf _
   ·have:i=0/\j=1:=by omega
    obtain ⟨rfl,rfl⟩:=this
    exact o.tot hlt
theorem rP {Q:Nat->Shared->Prop} {p:Array Nat} {k:Nat} (hp:Pm n p) (hs:Sd lt p k):∀ (f l r:Nat),l<=r->r<=k->r - l<=f->(∀ i,i < l->le lt (Pt p i) (Pt p k))->(∀ i,r<=i->i < k->lt (Pt p k) (Pt p i)=true) ->
  (∀ m,m<=k->(∀ i,i < m->le lt (Pt p i) (Pt p k))->(∀ i,m<=i->i < k->lt (Pt p k) (Pt p i)=true)->Q m s)->(kas_place p k f l r).kasWp cmp Q s
 | 0,l,r,h1,h2,h3,h4,h5,h=>by
  have:l=r:=by omega
  subst this
  exact h l h2 h4 h5
 | f+1,l,r,h1,h2,h3,h4,h5,h=>by
  unfold kas_place
  by_cases e:l ≥ r
  ·rw [if_pos e]
   have:l=r:=by omega
   subst this
   exact h l h2 h4 h5
  ·rw [if_neg e]
   refine hc _ _ _ (hp.bd hn _) (hp.bd hn _) ?_
   show KasT.kasWp cmp (if lt (Pt p k) (Pt p ((l+r) / 2))=true then kas_place p k f l ((l+r) / 2) else kas_place p k f ((l+r) / 2+1) r) Q s
   cases ec:lt (Pt p k) (Pt p ((l+r) / 2)) with
   | true =>
    rw [if_pos rfl]
    refine rP hp hs f l ((l+r) / 2) (by omega) (by omega) (by omega) h4 (fun i i1 i2=>?_) h
    cases ei:lt (Pt p k) (Pt p i) with
    | true=>rfl
    | false =>
     have:=o.tr _ _ _ (hs ((l+r) / 2) i i1 i2) ei
     rw [ec] at this;cases this
   | false =>
    rw [if_neg Bool.false_ne_true]
    refine rP hp hs f ((l+r) / 2+1) r (by omega) h2 (by omega) (fun i i1=>?_) h5 h
    exact o.tr _ _ _ (hs i ((l+r) / 2) (by omega) (by omega)) ec
omit hc hn in
theorem aGm {p:Array Nat} {k l:Nat} (hk:k < p.size) (hl:l<=k) (i:Nat):Pt (bubble p k (k - l)) i=if i=l then Pt p k else if l < i/\i<=k then Pt p (i - 1) else Pt p i:=by
 have e:=getElem?_bubble hk (k - l) (by omega) i
 have e1:k - (k - l)=l:=by omega
 rw [e1] at e
 repeat' split
 ·rename_i h;rw [if_pos h] at e;exact aC4 e
 ·rename_i h h2;rw [if_neg h,if_pos h2] at e;exact aC4 e
 ·rename_i h h2;rw [if_neg h,if_neg h2] at e;exact aC4 e
theorem aGk {Q:Array Nat->Shared->Prop}:∀ (f:Nat) (p:Array Nat) (k:Nat),Pm n p->k+f<=n->Sd lt p k->(∀ q,Pm n q->Sd lt q (k+f)->Q q s)->(kas_bin f p k).kasWp cmp Q s
 | 0,p,k,hp,_,hs,h=>h p hp hs
 | f+1,p,k,hp,hk,hs,h=>by
  unfold kas_bin
  rw [KasT.kasWp_bind]
  have hz:k < p.size:=by rw [hp.size];omega
  refine rP hc hn o hp hs k 0 k (Nat.zero_le _) (Nat.le_refl _) (by omega) (fun i h=>absurd h (by omega)) (fun i h1 h2=>absurd h2 (by omega)) fun l hl h1 h2=>?_
  refine aGk f _ (k+1) ((bubble_perm _ _ _).trans hp) (by omega) (fun i j hij hj=>?_) fun q q1 q2=>h q q1 (by rw [show k+(f+1)=k+1+f by omega];exact q2)
  rw [aGm o hz hl,aGm o hz hl]
  by_cases ei:i=l
  ·rw [if_pos ei]
   by_cases ej:j=l
   ·rw [if_pos ej];exact o.rf _
   ·rw [if_neg ej,if_pos ⟨by omega,by omega⟩]
    exact o.tot (h2 (j - 1) (by omega) (by omega))
  ·rw [if_neg ei]
   by_cases ej:j=l
   ·rw [if_pos ej,if_neg (by omega)]
    exact h1 i (by omega)
   ·rw [if_neg ej]
    by_cases hi:l < i/\i<=k
    ·rw [if_pos hi,if_pos ⟨by omega,by omega⟩]
     exact hs _ _ (by omega) (by omega)
    ·rw [if_neg hi]
     by_cases hj2:l < j/\j<=k
     ·rw [if_pos hj2]
      exact hs _ _ (by omega) (by omega)
     ·rw [if_neg hj2]
      exact hs _ _ (by omega) (by omega)
theorem aIy {Q:Array Nat->Shared->Prop} (h:∀ q,Pm n q->Sd lt q n->Q q s):(kas_sort n).kasWp cmp Q s:=by
 unfold kas_sort
 rw [KasT.kasWp_bind]
 refine aFf hc hn o (Array.Perm.refl _) hn (Nat.le_refl n) fun m q h1 h2 h3 h4=>?_
 show KasT.kasWp cmp (if m < n then kas_bin (n - max m 1) q (max m 1) else .ret q) Q s
 have em:max m 1=m:=by omega
 by_cases e:m < n
 ·rw [if_pos e,em]
  refine aGk hc hn o _ _ _ h3 (by omega) h4 fun q' k1 k2=>h q' k1 (by rw [show m+(n - m)=n by omega] at k2;exact k2)
 ·rw [if_neg e]
  have:m=n:=by omega
  subst this
  exact h q h3 h4
end
end SRT
namespace SRT
open PySem PySem.W PyProof.Rows L2
def TupI (h:Heap) (v:Value) (ns:List Int):Prop:=∃ t o xs c,v=.ref t/\h.get? t=some o/\o.cls=.type "tuple"/\o.data=.seq xs c/\IntsAre xs.toList ns
theorem TupI.at {h h':Heap} {v:Value} {ns:List Int} (x:TupI h v ns) (k:∀ t o,v=.ref t->h.get? t=some o->h'.get? t=some o):TupI h' v ns :=
 let ⟨t,o,xs,c,e,ho,r⟩:=x;⟨t,o,xs,c,e,k t o e ho,r⟩
theorem sQ:∀ {vs:List Value} {ns:List Int},IntsAre vs ns->vs.length=ns.length
 | _,_,.nil=>rfl
 | _,_,.cons _ _ r=>by rw [List.length_cons,List.length_cons,sQ r]
theorem aD0:∀ a b:List Int,HT.lexLt a b=true->HT.lexLt b a=false
 | [],[],h=>by cases h
 | [],_ :: _,_=>rfl
 | _ :: _,[],h=>by cases h
 | x :: a,y :: b,h=>by
  rw [HT.gH] at h ⊢
  by_cases e:x=y
  ·rw [if_pos e] at h;rw [if_pos e.symm];exact aD0 a b h
  ·rw [if_neg e] at h;rw [if_neg (Ne.symm e)]
   have:=of_decide_eq_true h
   exact decide_eq_false (by omega)
theorem aC8:∀ a b c:List Int,HT.lexLt b a=false->HT.lexLt c b=false->HT.lexLt c a=false
 | [],_,[],_,_=>rfl
 | [],b,_ :: _,_,_=>rfl
 | _ :: _,[],_,h,_=>by cases h
 | x :: a,y :: b,[],_,h=>by cases h
 | x :: a,y :: b,z :: c,h1,h2=>by
  rw [HT.gH] at h1 h2 ⊢
  by_cases e1:y=x
  ·subst e1
   rw [if_pos rfl] at h1
   by_cases e2:z=y
   ·subst e2
    rw [if_pos rfl] at h2 ⊢
    exact aC8 a b c h1 h2
   ·rw [if_neg e2] at h2 ⊢
    exact h2
  ·rw [if_neg e1] at h1
   have q1:=of_decide_eq_false h1
   by_cases e2:z=y
   ·subst e2
    rw [if_neg e1]
    exact h1
   ·rw [if_neg e2] at h2
    have q2:=of_decide_eq_false h2
    have e3:z≠x:=by omega
    rw [if_neg e3]
    exact decide_eq_false (by omega)
theorem aHk:∀ a b:List Int,HT.lexLt a b=false->HT.lexLt b a=false->a=b
 | [],[],_,_=>rfl
 | [],_ :: _,h,_=>by cases h
 | _ :: _,[],_,h=>by cases h
 | x :: a,y :: b,h1,h2=>by
  rw [HT.gH] at h1 h2
  by_cases e:x=y
  ·subst e
   rw [if_pos rfl] at h1 h2
   rw [aHk a b h1 h2]
  ·rw [if_neg e] at h1;rw [if_neg (Ne.symm e)] at h2
   have q1:=of_decide_eq_false h1
   have q2:=of_decide_eq_false h2
   omega
theorem aCm (ks:List (List Int)):Ord fun i j=>HT.lexLt (ks.getD i []) (ks.getD j []):=⟨fun _ _=>aD0 _ _,fun _ _ _=>aC8 _ _ _⟩
section
variable {prog:Program} {w:World} {A:Around} {E:Value->Shared->Prop} {s:Shared}
theorem aG3 {b fin:Bool} {Q:Bool->Shared->Prop}:∀ {us ws:List Value} {ns ms:List Int} (i:Nat),IntsAre us ns->IntsAre ws ms->(fin=decide (ns.length < ms.length))->Q (HT.lexLt ns ms) s->KatLex prog w A b fin Q (us.zip ws) i s
 | _,_,[],[],i,.nil,.nil,hf,q=>by
  rw [hf];exact q
 | _,_,[],m :: ms,i,.nil,.cons _ _ _,hf,q=>by
  rw [hf]
  show Q (decide (0 < ms.length+1)) s
  rw [decide_eq_true (Nat.succ_pos _)]
  exact q
 | _,_,n :: ns,[],i,.cons _ _ _,.nil,hf,q=>by
  rw [hf]
  show Q (decide (ns.length+1 < 0)) s
  rw [decide_eq_false (Nat.not_lt_zero _)]
  exact q
 | _,_,n :: ns,m :: ms,i,.cons _ t hi,.cons _ u hj,hf,q=>by
  rw [HT.gH] at q
  refine kat_cons (wpAny_eqBool_int ?_)
  by_cases e:n=m
  ·rw [if_pos e] at q
   rw [show (n == m)=true by simp [e]]
   exact kat_yes (aG3 (i+1) hi hj (by rw [hf];simp) q)
  ·rw [if_neg e] at q
   rw [show (n == m)=false by simp [e]]
   refine kat_no ?_
   cases eb:(b && i == 0) with
   | true=>exact oneLt_int q
   | false=>exact kat_one _ _ (lt_int q)
theorem aEq {x y:Value} {ns ms:List Int} {Q:Bool->Shared->Prop} (b:Bool) (hx:TupI s.heap x ns) (hy:TupI s.heap y ms) (q:Q (HT.lexLt ns ms) s):wpAny (model prog w) A (keyLt' (tuples' b) x y) Q E s:=by
 obtain ⟨t,o,xs,c,rfl,ho,hc,hd,hi⟩:=hx
 obtain ⟨t2,o2,xs2,c2,rfl,ho2,hc2,hd2,hi2⟩:=hy
 refine kat_lt ho hd ho2 hd2 (aG3 0 hi hi2 ?_ q)
 have e1:=sQ hi
 have e2:=sQ hi2
 rw [Array.length_toList] at e1 e2
 rw [e1,e2]
def TupsI (h:Heap) (vs:List Value) (ks:List (List Int)):Prop:=vs.length=ks.length/\∀ (i:Nat) (v:Value) (k:List Int),vs[i]? = some v->ks[i]? = some k->TupI h v k/\k≠[]
theorem TupsI.cons {h:Heap} {v:Value} {vs:List Value} {ks:List (List Int)} (x:TupsI h (v :: vs) ks):∃ k r,ks=k :: r/\TupI h v k/\k≠[]/\TupsI h vs r:=by
 obtain ⟨hl,ha⟩:=x
 cases ks with
 | nil=>simp at hl
 | cons k r =>
  obtain ⟨h1,h2⟩:=ha 0 v k rfl rfl
  exact ⟨k,r,rfl,h1,h2,by simpa using hl,fun i v k e1 e2=>ha (i+1) v k (by simpa using e1) (by simpa using e2)⟩
theorem aPr {h:Heap}:∀ {vs:List Value} {ks:List (List Int)},TupsI h vs ks->∃ fs,KatTups h vs fs/\fs.length=vs.length/\∀ f∈fs,∃ i t,f=Value.int i t
 | [],_,_=>⟨[],KatTups.nil,rfl,fun _ z=>nomatch z⟩
 | v :: vs,ks,x=>by
  obtain ⟨k,r,rfl,⟨t,o,xs,c,rfl,ho,hc,hd,hi⟩,hk,hr⟩:=x.cons
  obtain ⟨fs,h1,h2,h3⟩:=aPr hr
  cases k with
  | nil=>exact absurd rfl hk
  | cons n k =>
   cases hx:xs.toList with
   | nil=>rw [hx] at hi;cases hi
   | cons y ys =>
    rw [hx] at hi
    cases hi with
    | cons _ tt _ =>
     refine ⟨.int n tt :: fs,KatTups.cons ho hc hd ?_ h1,by simp [h2],fun f hf=>?_⟩
     ·have:xs.toList[0]? = some (Value.int n tt):=by rw [hx];rfl
      simpa using this
     ·rcases List.mem_cons.mp hf with rfl | hf
      ·exact ⟨n,tt,rfl⟩
      ·exact h3 f hf
theorem range_getD (vs:List Value):((List.range vs.length).map fun i=>vs.getD i Value.none)=vs:=by
 refine List.ext_getElem? fun i=>?_
 rw [List.getElem?_map]
 by_cases hi:i < vs.length
 ·rw [List.getElem?_range hi]
  simp [hi]
 ·rw [List.getElem?_eq_none (by rw [List.length_range];omega),List.getElem?_eq_none (by omega)]
  rfl
theorem tD {a:Addr} {vs:List Value} {n:Nat} {ks:List (List Int)} {P:PySem.Fin->Shared->Prop} (ho:s.heap.get? a=some (seqObj "list" vs.toArray n)) (ht:TupsI s.heap vs ks) (hna:∀ v∈vs,v≠.ref a) (h64:vs.length < 64)
  (h:∀ q:Array Nat,Pm vs.length q->Sd (fun i j=>HT.lexLt (ks.getD i []) (ks.getD j [])) q vs.length->P (.done (.ret .none)) { s with heap:=sortedHeap s.heap a vs (q.toList.map fun i=>vs.getD i Value.none).toArray }) :
  wpAny (model prog w) A (Builtin.«list.sort» ⟨[.ref a],[]⟩) P E s:=by
 rw [list_sort_plain]
 have ha:a < s.heap.objs.size:=Heap.lt_size ho
 refine wpAny_bind (listItems_at ho rfl ?_)
 refine wpAny_bind (listUpdate_at ho rfl ?_ (by rw [List.size_toArray,sizeLine_eq];omega) (Nat.zero_le _))
 obtain ⟨e1,ho1⟩:∃ e1,(s.heap.update a (Obj.mapSeq fun _=>(#[]:Array Value))).get? a=some (seqObj "list" #[] e1):=⟨_,get?_update_seq ho (fun _=>#[])⟩
 refine wpAny_bind (seqEpoch_at ho1 rfl ?_)
 refine wpAny_bind (wpAny_newTuple ?_ (by show vs.length<=_;rw [sizeLine_eq];omega))
 refine wpAny_bind (wpAny_newList ?_ (Nat.zero_le _))
 refine wpAny_holding ?_
 have keep:∀ b o,b≠a->s.heap.get? b=some o->(((s.heap.update a (Obj.mapSeq fun _=>(#[]:Array Value))).push (seqObj "tuple" vs.toArray 0)).push (seqObj "list" #[] 0)).get? b=some o:=fun b o hb e=>by
  refine Heap.get?_push_of_some _ (Heap.get?_push_of_some _ ?_)
  rw [Heap.get?_update_ne _ _ _ _ hb]
  exact e
 have ho6:(((s.heap.update a (Obj.mapSeq fun _=>(#[]:Array Value))).push (seqObj "tuple" vs.toArray 0)).push (seqObj "list" #[] 0)).get? a=some (seqObj "list" #[] e1):=Heap.get?_push_of_some _ (Heap.get?_push_of_some _ ho1)
 show wpAny (model prog w) A _ P E { s with heap:=((s.heap.update a (Obj.mapSeq fun _=>(#[]:Array Value))).push (seqObj "tuple" vs.toArray 0)).push (seqObj "list" #[] 0) }
 dsimp only
 by_cases h2:vs.toArray.size < 2
 ·rw [if_pos h2,if_pos h2]
  refine wpAny_bind (wpAny_pure ?_)
  rw [StateT.run_pure]
  refine wpAny_bind (wpAny_pure ?_)
  dsimp only
  have e0:(arrOf (SortSt.mk' general' (vs.toArray.zip vs.toArray) #[] 7 none)).map (·.2)=((List.range vs.length).toArray.toList.map fun i=>vs.getD i Value.none).toArray:=by
   show (vs.toArray.zip vs.toArray).map (·.2)=_
   rw [List.toList_toArray,range_getD]
   apply Array.toList_inj.mp
   simp [List.map_snd_zip]
  rw [e0]
  refine wpAny_bind (seqEpoch_at ho6 rfl ?_)
  refine wpAny_bind (listUpdate_at ho6 rfl ?_ (Nat.zero_le _) (by rw [List.toList_toArray,range_getD,List.size_toArray,sizeLine_eq];omega))
  simp only [bne_self_eq_false,Bool.false_eq_true,if_false]
  refine wpAny_pure (h (List.range vs.length).toArray (Array.Perm.refl _) fun i j hij hj=>?_)
  have:i=j:=by rw [List.size_toArray] at h2;omega
  subst this
  exact (aCm ks).rf _
 ·rw [if_neg h2,if_neg h2]
  have h2':2<=vs.length:=by rw [List.size_toArray] at h2;omega
  have ht6:TupsI (((s.heap.update a (Obj.mapSeq fun _=>(#[]:Array Value))).push (seqObj "tuple" vs.toArray 0)).push (seqObj "list" #[] 0)) vs ks:=⟨ht.1,fun i v k q1 q2=>by
   obtain ⟨z1,z2⟩:=ht.2 i v k q1 q2
   exact ⟨z1.at fun t o ev et=>keep t o (fun z=>hna v (List.mem_of_getElem? q1) (by rw [ev,z])) et,z2⟩⟩
  obtain ⟨fs,f1,f2,f3⟩:=aPr ht6
  refine wpAny_bind (kat_kind (T:=.type "int") f1 (by rw [f2];omega) (fun v hv=>?_) rfl ?_)
  ·obtain ⟨i,t,rfl⟩:=f3 v hv
   exact .now
  refine wpAny_bind (wpAny_mono (kat_run (κ:=tuples' (Value.type "int" != Value.type "tuple")) (ks:=vs) (Q:=fun st' s'=>∃ p:Array Nat,s'={ s with heap:=((s.heap.update a (Obj.mapSeq fun _=>(#[]:Array Value))).push (seqObj "tuple" vs.toArray 0)).push (seqObj "list" #[] 0) }/\p.size=vs.length/\arrOf st'=p.map (kas_item (vs.toArray.zip vs.toArray))/\failedOf st'=none/\Pm vs.length p/\Sd (fun i j=>HT.lexLt (ks.getD i []) (ks.getD j [])) p vs.length)
   (G:=fun p s'=>s'={ s with heap:=((s.heap.update a (Obj.mapSeq fun _=>(#[]:Array Value))).push (seqObj "tuple" vs.toArray 0)).push (seqObj "list" #[] 0) }/\Pm vs.length p/\Sd (fun i j=>HT.lexLt (ks.getD i []) (ks.getD j [])) p vs.length)
   rfl h2' h64 (fun p st' s' a1 a2 a3 a4=>⟨p,a4.1,a1,a2,a3,a4.2⟩) (aIy (n:=vs.length) (lt:=fun i j=>HT.lexLt (ks.getD i []) (ks.getD j [])) (fun i j C hi hj hC=>?_) (by omega) (aCm ks) fun q q1 q2=>⟨rfl,q1,q2⟩)) ?_ fun _ _ e=>e)
  ·unfold kas_ask
   have hi':vs[i]? = some vs[i]:=List.getElem?_eq_getElem hi
   have hj':vs[j]? = some vs[j]:=List.getElem?_eq_getElem hj
   have ki:i < ks.length:=by rw [<- ht.1];exact hi
   have kj:j < ks.length:=by rw [<- ht.1];exact hj
   have di:vs.getD i Value.none=vs[i]:=by simp [hi]
   have dj:vs.getD j Value.none=vs[j]:=by simp [hj]
   have ei:ks.getD i []=ks[i]:=by simp [ki]
   have ej:ks.getD j []=ks[j]:=by simp [kj]
   rw [di,dj]
   rw [ei,ej] at hC
   exact aEq _ (ht6.2 i _ _ hi' (List.getElem?_eq_getElem ki)).1 (ht6.2 j _ _ hj' (List.getElem?_eq_getElem kj)).1 hC
  ·rintro ⟨⟨⟩,st'⟩ s' ⟨p,rfl,hp,har,hf,hpm,hsd⟩
   dsimp only
   have hout:=kat_snds (ks:=vs) (vs:=vs) rfl har
   have hsz:(List.toArray (p.toList.map fun i=>vs.getD i Value.none)).size=vs.length:=by rw [List.size_toArray,List.length_map,Array.length_toList,hp]
   rw [hout]
   refine wpAny_bind (seqEpoch_at ho6 rfl ?_)
   refine wpAny_bind (listUpdate_at ho6 rfl ?_ (Nat.zero_le _) (Nat.le_trans (Nat.le_of_eq hsz) (by rw [sizeLine_eq];omega)))
   rw [hf]
   simp only [bne_self_eq_false,Bool.false_eq_true,if_false]
   exact wpAny_pure (h p hpm hsd)
theorem wY {h:Heap} {a:Addr} {vs:List Value} {out:Array Value} {b:Addr} {o:Obj} (hb:b≠a) (e:h.get? b=some o):(sortedHeap h a vs out).get? b=some o:=by
 unfold sortedHeap
 rw [Heap.get?_update_ne _ _ _ _ hb]
 refine Heap.get?_push_of_some _ (Heap.get?_push_of_some _ ?_)
 rw [Heap.get?_update_ne _ _ _ _ hb]
 exact e
theorem vS {h:Heap} {a:Addr} {vs:List Value} {n:Nat} {out:Array Value} (e:h.get? a=some (seqObj "list" vs.toArray n)):∃ c,(sortedHeap h a vs out).get? a=some (seqObj "list" out c):=by
 obtain ⟨e1,ho1⟩:∃ e1,(h.update a (Obj.mapSeq fun _=>(#[]:Array Value))).get? a=some (seqObj "list" #[] e1):=⟨_,get?_update_seq e (fun _=>#[])⟩
 exact ⟨_,get?_update_seq (Heap.get?_push_of_some _ (Heap.get?_push_of_some _ ho1)) fun _=>out⟩
theorem zY {r:Addr} {Q:Value->Shared->Prop} {Ok:List Value->Prop} (hcol:∀ R:List Value->Shared->Prop,(∀ h' tk vs,(∀ b o,s.heap.get? b=some o->h'.get? b=some o)->Ok vs->R vs { s with heap:=h',toks:=tk })->wpAny (model prog w) A.in1 (collect (.ref r)) R E s)
  (ks:List (List Int)) (hok:∀ vs,Ok vs->TupsI s.heap vs ks/\vs.length < 64)
  (h:∀ (h' hf:Heap) (tk c:Nat) (vs:List Value) (q:Array Nat),(∀ b o,s.heap.get? b=some o->h'.get? b=some o)->(∀ b o,h'.get? b=some o->hf.get? b=some o)->Ok vs->Pm vs.length q->Sd (fun i j=>HT.lexLt (ks.getD i []) (ks.getD j [])) q vs.length ->
   hf.get? h'.objs.size=some (seqObj "list" (q.toList.map fun i=>vs.getD i Value.none).toArray c)->Q (.ref h'.objs.size) { s with heap:=hf,toks:=tk }) :
  wpAny (model prog w) A (call (.builtin "sorted") [.ref r]) Q E s:=by
 refine Calls.call_function_entry kind_sorted plain_sorted entry_sorted (args_sorted1 _) ?_
 unfold Builtin.«sorted»
 refine wpAny_bind (m:=checkCount "sorted" 1 1 _) (wpAny_pure ?_)
 refine wpAny_bind (hcol _ fun h' tk vs keep ov=>?_)
 obtain ⟨ht,h64⟩:=hok vs ov
 refine wpAny_bind (wpAny_newList ?_ (by rw [sizeLine_eq];omega))
 have hoL:(h'.push (seqObj "list" vs.toArray 0)).get? h'.objs.size=some (seqObj "list" vs.toArray 0):=Heap.get?_push_size _ rfl
 have keep2:∀ b o,s.heap.get? b=some o->(h'.push (seqObj "list" vs.toArray 0)).get? b=some o:=fun b o e=>Heap.get?_push_of_some _ (keep b o e)
 have lt:∀ b o,s.heap.get? b=some o->b≠h'.objs.size:=fun b o e=>Nat.ne_of_lt (Heap.lt_size (keep b o e))
 have tat:∀ v∈vs,∃ t o,v=.ref t/\s.heap.get? t=some o:=fun v hv=>by
  obtain ⟨i,hi,e⟩:=List.mem_iff_getElem.mp hv
  have ki:i < ks.length:=by rw [<- ht.1];exact hi
  obtain ⟨⟨t,o,_,_,e1,e2,_⟩,_⟩:=ht.2 i v ks[i] (by rw [List.getElem?_eq_getElem hi,e]) (List.getElem?_eq_getElem ki)
  exact ⟨t,o,e1,e2⟩
 have ht2:TupsI (h'.push (seqObj "list" vs.toArray 0)) vs ks:=⟨ht.1,fun i v k q1 q2=>let ⟨z1,z2⟩:=ht.2 i v k q1 q2;⟨z1.at fun t o _ et=>keep2 t o et,z2⟩⟩
 refine wpAny_bind (wpAny_holding (wpAny_call_entry slot_list_sort ⟨_,hoL,rfl⟩ entry_list_sort (tD (s:={ s with heap:=h'.push (seqObj "list" vs.toArray 0),toks:=tk }) hoL ht2 (fun v hv z=>?_) h64 fun q a1 a2=>⟨_,rfl,?_⟩) (args_list_sort _)))
 ·obtain ⟨t,o,e1,e2⟩:=tat v hv
  rw [e1] at z
  injection z with z
  exact lt t o e2 z
 ·obtain ⟨c,hc⟩:=vS (out:=(q.toList.map fun i=>vs.getD i Value.none).toArray) hoL
  exact wpAny_pure ⟨_,rfl,h h' _ tk c vs q keep (fun b o e=>wY (Nat.ne_of_lt (Heap.lt_size e)) (Heap.get?_push_of_some _ e)) ov a1 a2 hc⟩
def aNx (H:Hp) (ts:List V) (ks:List (List Int)):Prop:=ts.length=ks.length/\∀ (i:Nat) (t:V) (k:List Int),ts[i]? = some t->ks[i]? = some k->(∃ b,t=.ref b/\H b=some (.tup (k.map V.int)))/\k≠[]
end
theorem aDd {P:Program} {w:World} {H:Hp} {h:Heap} {ts:List V} {ks:List (List Int)} {vs:List Value} (ok:HOk P w H h) (r:aNx H ts ks) (v:Vals ts vs):TupsI h vs ks:=by
 have hl:=v.length
 refine ⟨by rw [<- hl];exact r.1,fun i u k e1 e2=>?_⟩
 have hi:i < ts.length:=by
  have:=(List.getElem?_eq_some_iff.mp e1).1
  omega
 obtain ⟨⟨b,eb,hb⟩,hk⟩:=r.2 i ts[i] k (List.getElem?_eq_getElem hi) e2
 obtain ⟨u',e3,ru⟩:=v.get (i:=i) (x:=ts[i]) (List.getElem?_eq_getElem hi)
 rw [e1] at e3
 cases e3
 rw [eb] at ru
 cases (show u=Value.ref b from ru)
 obtain ⟨_,its,rv,o,ho,hc,n,hd⟩:=(show ObjOk P w H h b (.tup (k.map V.int)) from ok b _ hb)
 exact ⟨⟨b,o,_,n,rfl,ho,hc,hd,by rw [List.toList_toArray];exact intsAre_of rv⟩,hk⟩
def aJh (ks:List (List Int)):Nat->Nat->Bool:=fun i j=>HT.lexLt (ks.getD i []) (ks.getD j [])
theorem uM {ts:List V} {vs:List Value} (v:Vals ts vs):∀ (l:List Nat),(∀ i∈l,i < ts.length)->Vals (l.map fun i=>ts.getD i .non) (l.map fun i=>vs.getD i Value.none)
 | [],_=>.nil
 | i :: l,h=>by
  have hi:=h i (.head _)
  obtain ⟨u,e,r⟩:=v.get (i:=i) (x:=ts[i]) (List.getElem?_eq_getElem hi)
  have e1:ts.getD i .non=ts[i]:=by simp [hi]
  have e2:vs.getD i Value.none=u:=by simp [e]
  refine .cons ?_ (uM v l fun j hj=>h j (.tail _ hj))
  show RelV (ts.getD i .non) (vs.getD i Value.none)
  rw [e1,e2];exact r
theorem Paired.get {α β:Type} {F:α->β->Prop}:∀ {l₁:List α} {l₂:List β} {i:Nat} {a:α},Paired F l₁ l₂->l₁[i]? = some a->∃ b,l₂[i]? = some b/\F a b
 | _,_,_,_,.nil,e=>by simp at e
 | _,_,0,_,.cons h _,e=>by simp at e;subst e;exact ⟨_,rfl,h⟩
 | _,_,i+1,_,.cons _ r,e=>by
  have:=Paired.get (i:=i) r (by simpa using e)
  simpa using this
theorem uO {κ:Type}:∀ l:List (κ×Addr×Value),Vals (l.map fun x=>V.ref x.2.1) (l.map fun x=>Value.ref x.2.1)
 | []=>.nil
 | _ :: l=>.cons rfl (uO l)
section
variable {X:Cx}
theorem aF6 {pins:List (Addr×Obj)} {σ:L2.St} {H:Hp} {s:Shared} {Q:VK} {ts:List V} {vs:List Value} {h' hf:Heap} {tk c:Nat} {q:Array Nat} (I:Inv X pins σ H s) (v:Vals ts vs) (h64:vs.length < 64) (k1:∀ b o,s.heap.get? b=some o->h'.get? b=some o) (k2:∀ b o,h'.get? b=some o->hf.get? b=some o) (hp:Pm vs.length q)
  (hc:hf.get? h'.objs.size=some (seqObj "list" (q.toList.map fun i=>vs.getD i Value.none).toArray c)) (hq:∀ D,H D=none->Q (.ref D) (upd H D (.lst (q.toList.map fun i=>ts.getD i .non)))):EP X pins σ Q (.ref h'.objs.size) { s with heap:=hf,toks:=tk }:=by
 have I1:Inv X pins σ H { s with heap:=h',toks:=tk }:=I.kept (t':=tk) k1
 have hb:∀ i∈q.toList,i < ts.length:=fun i hi=>by
  have:i∈(List.range vs.length).toArray:=hp.mem_iff.mp (Array.mem_toList_iff.mp hi)
  rw [v.length]
  simpa using this
 have hl:q.toList.length=vs.length:=by rw [Array.length_toList];exact hp.size
 refine ⟨.ref h'.objs.size,_,I1.laid (a:=h'.objs.size) (o:=.lst (q.toList.map fun i=>ts.getD i .non)) (t':=tk) k2 (Nat.le_refl _) ⟨?_,_,c,uM v _ hb,hc⟩,rfl,hq _ (I1.hok.fresh (Nat.le_refl _))⟩
 rw [List.length_map,hl,sizeLine_eq]
 omega
def aGu:List V->Hp->VK->Prop:=fun xs H Q=>∃ a kv ks,xs=[.ref a]/\H a=some (.dT kv)/\kv.map (·.1)=ks.map (List.map Sum.inl)/\(∀ k∈ks,k≠[])/\kv.length < 64 /\
 ∀ ts D q,aNx H ts ks->H D=none->Pm ts.length q->Sd (aJh ks) q ts.length->Q (.ref D) (upd H D (.lst (q.toList.map fun i=>ts.getD i .non)))
theorem nR (hcm:X.calm=true):qD X (.builtin "sorted") aGu:=by
 intro pins s σ H xs us Q I r h
 obtain ⟨a,kv,ks,rfl,ha,hk,hne,h64,q⟩:=h
 obtain ⟨u,rfl,ru⟩:=vals1 r
 cases (show u=Value.ref a from ru)
 obtain ⟨hz,hsys,es0,rel,o,es,ep,h1,h2,h3,h4,h5⟩:=(show ObjOk X.prog X.w H s.heap a (.dT kv) from I.hok a _ ha)
 have hraw:RawD s.heap a es ep:=⟨o,h1,h2,h3⟩
 have len1:kv.length=es0.length:=rel.length
 have len2:es.size=es0.length:=by rw [<- Array.length_toList,h4,List.length_map]
 have len3:ks.length=kv.length:=by
  have:=congrArg List.length hk
  simpa using this.symm
 have hts:aNx H (es0.map fun x=>V.ref x.2.1) ks:=by
  refine ⟨by rw [List.length_map];omega,fun i t k e1 e2=>?_⟩
  rw [List.getElem?_map] at e1
  cases ex:es0[i]? with
  | none=>rw [ex] at e1;cases e1
  | some x =>
   rw [ex] at e1
   cases e1
   have hi:i < kv.length:=by rw [len1];exact (List.getElem?_eq_some_iff.mp ex).1
   obtain ⟨y,ey,hy1,hy2,_⟩:=Paired.get rel (List.getElem?_eq_getElem hi)
   rw [ex] at ey
   cases ey
   refine ⟨⟨x.2.1,rfl,?_⟩,hne k (List.mem_of_getElem? e2)⟩
   have hkk:(kv.map (·.1))[i]? = (ks.map (List.map Sum.inl))[i]?:=by rw [hk]
   rw [List.getElem?_map,List.getElem?_map,List.getElem?_eq_getElem hi,e2] at hkk
   have hkk:kv[i].1=k.map Sum.inl:=Option.some.inj hkk
   rw [hkk,List.map_map] at hy2
   exact hy2
 have hvs:∀ vs:List Value,vs.length=es.size->(∀ (j:Nat) v,vs[j]? = some v->∃ e,es[j]? = some e/\v=e.key)->Vals (es0.map fun x=>V.ref x.2.1) vs:=fun vs hl hv=>by
  have ev:vs=es0.map fun x=>Value.ref x.2.1:=by
   refine List.ext_getElem? fun i=>?_
   rw [List.getElem?_map]
   by_cases hi:i < vs.length
   ·have hi2:i < es0.length:=by omega
    obtain ⟨e,e1,e2⟩:=hv i vs[i] (List.getElem?_eq_getElem hi)
    have e3:es.toList[i]? = some e:=by simpa using e1
    rw [h4,List.getElem?_map,List.getElem?_eq_getElem hi2] at e3
    have e3:=Option.some.inj e3
    rw [List.getElem?_eq_getElem hi,List.getElem?_eq_getElem hi2,e2,<- e3]
    rfl
   ·rw [List.getElem?_eq_none (by omega),List.getElem?_eq_none (by omega)]
    rfl
  rw [ev]
  exact uO _
 refine zY (Ok:=fun vs=>vs.length=es.size/\∀ (j:Nat) v,vs[j]? = some v->∃ e,es[j]? = some e/\v=e.key) (fun R hR=>?_) ks (fun vs e=>⟨aDd I.hok hts (hvs vs e.1 e.2),by omega⟩) fun h' hf tk c vs q' k1 k2 e p1 p2 hc=>?_
 ·refine kdu_collect (A:=X.A.in1) (aJx (prog:=X.prog) (w:=X.w) (ep:=ep) (es:=es) hsys) (I.ok.hd hcm) hraw (by omega) fun h' tk acc hk hacc=>hR h' tk _ hk ⟨by rw [Array.length_toList];exact hacc.1,fun j v e=>hacc.2 j v (by simpa using e)⟩
 ·have rv:=hvs vs e.1 e.2
  have hlen:=rv.length
  exact aF6 I rv (by omega) k1 k2 p1 hc fun D hD=>q _ D q' hts hD (hlen▸p1) (hlen▸p2)
end
end SRT
namespace M
open PySem PySem.Spec PyProof.Rows L2 SRT
def qZ (k:List Int):D:=.tuple (k.map .int)
def wO:List D->Option (List Int)
 | []=>some []
 | .int i :: ds=>match wO ds with
  | some r=>some (i :: r)
  | none=>none
 | _=>none
def aAs:D->Option (List Int)
 | .tuple ds=>wO ds
 | _=>none
def vR:List D->Option (List (List Int))
 | []=>some []
 | d :: ds=>match aAs d with
  | none=>none
  | some k=>match vR ds with
   | none=>none
   | some ks=>some (k :: ks)
theorem yQ:∀ {ds:List D} {k:List Int},wO ds=some k->ds=k.map .int
 | [],_,h=>by cases h;rfl
 | d :: ds,k,h=>by
  cases d with
  | int i =>
   unfold wO at h
   cases e:wO ds with
   | none=>rw [e] at h;cases h
   | some r=>rw [e] at h;cases h;rw [yQ e];rfl
  | _=>cases h
theorem u6:∀ k:List Int,wO (k.map .int)=some k
 | []=>rfl
 | i :: k=>by
  show (match wO (k.map .int) with | some r=>some (i :: r) | none=>none)=_
  rw [u6 k]
theorem aB0 (k:List Int):aAs (qZ k)=some k:=u6 k
theorem aGf {d:D} {k:List Int} (h:aAs d=some k):d=qZ k:=by
 cases d with
 | tuple ds=>unfold qZ;rw [<- yQ h]
 | _=>cases h
theorem yW:∀ {ds:List D} {ks:List (List Int)},vR ds=some ks->ds=ks.map qZ
 | [],_,h=>by cases h;rfl
 | d :: ds,ks,h=>by
  unfold vR at h
  cases e:aAs d with
  | none=>rw [e] at h;cases h
  | some k =>
   rw [e] at h
   cases e2:vR ds with
   | none=>rw [e2] at h;cases h
   | some ks'=>rw [e2] at h;cases h;rw [aGf e,yW e2];rfl
theorem u9:∀ ks:List (List Int),vR (ks.map qZ)=some ks
 | []=>rfl
 | k :: ks=>by
  show (match aAs (qZ k) with | none=>none | some k=>match vR (ks.map qZ) with | none=>none | some ks=>some (k :: ks))=_
  rw [aB0,u9 ks]
def aHu (k:List Int):List (List Int)->List (List Int)
 | []=>[k]
 | x :: r=>if HT.lexLt k x=true then k :: x :: r else x :: aHu k r
def lH:List (List Int)->List (List Int)
 | []=>[]
 | k :: ks=>aHu k (lH ks)
def leK (a b:List Int):Prop:=HT.lexLt b a=false
theorem pA (k:List Int):∀ l,(aHu k l).Perm (k :: l)
 | []=>.refl _
 | x :: r=>by
  unfold aHu
  split
  ·exact .refl _
  ·exact ((pA k r).cons x).trans (List.Perm.swap k x r)
theorem gI:∀ l,(lH l).Perm l
 | []=>.refl _
 | k :: ks=>(pA k _).trans ((gI ks).cons k)
theorem aGh {k y:List Int} {l:List (List Int)} (h:y∈aHu k l):y=k\/y∈l:=by
 have:=(pA k l).mem_iff.mp h
 exact List.mem_cons.mp this
theorem oV (k:List Int):∀ l,l.Pairwise leK->(aHu k l).Pairwise leK
 | [],_=>List.pairwise_singleton _ _
 | x :: r,h=>by
  unfold aHu
  obtain ⟨h1,h2⟩:=List.pairwise_cons.mp h
  split
  ·rename_i e
   have e1:=aD0 _ _ e
   exact List.pairwise_cons.mpr ⟨fun y hy=>by
    rcases List.mem_cons.mp hy with rfl | hy
    ·exact e1
    ·exact aC8 _ _ _ e1 (h1 y hy),h⟩
  ·rename_i e
   refine List.pairwise_cons.mpr ⟨fun y hy=>?_,oV k r h2⟩
   rcases aGh hy with rfl | hy
   ·exact Bool.eq_false_iff.mpr e
   ·exact h1 y hy
theorem kQ:∀ l,(lH l).Pairwise leK
 | []=>.nil
 | k :: ks=>oV k _ (kQ ks)
theorem oR:∀ {a b:List (List Int)},a.Perm b->a.Pairwise leK->b.Pairwise leK->a=b
 | [],b,p,_,_=>(List.Perm.nil_eq p)
 | x :: a,[],p,_,_=>absurd p.length_eq (by simp)
 | x :: a,y :: b,p,ha,hb=>by
  obtain ⟨a1,a2⟩:=List.pairwise_cons.mp ha
  obtain ⟨b1,b2⟩:=List.pairwise_cons.mp hb
  have hx:x∈y :: b:=p.mem_iff.mp (.head _)
  have hy:y∈x :: a:=p.mem_iff.mpr (.head _)
  have e:x=y:=by
   rcases List.mem_cons.mp hx with e | hx
   ·exact e
   ·rcases List.mem_cons.mp hy with e | hy
    ·exact e.symm
    ·exact aHk _ _ (b1 x hx) (a1 y hy)
  subst e
  rw [oR (List.Perm.cons_inv p) a2 b2]
theorem picked {ks:List (List Int)} {q:Array Nat} {n:Nat} (hn:n=ks.length) (hp:Pm n q) (hs:Sd (aJh ks) q n):(q.toList.map fun i=>ks.getD i [])=lH ks:=by
 subst hn
 have e0:((List.range ks.length).map fun i=>ks.getD i [])=ks:=by
  refine List.ext_getElem? fun i=>?_
  rw [List.getElem?_map]
  by_cases hi:i < ks.length
  ·rw [List.getElem?_range hi];simp [hi]
  ·rw [List.getElem?_eq_none (by rw [List.length_range];omega),List.getElem?_eq_none (by omega)];rfl
 have p1:q.toList.Perm (List.range ks.length):=by
  have:=hp.toList
  simpa using this
 have p2:(q.toList.map fun i=>ks.getD i []).Perm ks:=by
  have:=p1.map (fun i=>ks.getD i [])
  rwa [e0] at this
 refine oR (p2.trans (gI ks).symm) ?_ (kQ ks)
 rw [List.pairwise_iff_getElem]
 intro i j hi hj hij
 rw [List.length_map] at hi hj
 rw [List.getElem_map,List.getElem_map]
 have sz:q.toList.length=ks.length:=by rw [Array.length_toList];exact hp.size
 have:=hs i j (Nat.le_of_lt hij) (by omega)
 unfold SRT.le aJh Pt at this
 have e1:q.getD i 0=q.toList[i]:=by
  have:i < q.size:=by rw [<- Array.length_toList];exact hi
  simp [Array.getD,this]
 have e2:q.getD j 0=q.toList[j]:=by
  have:j < q.size:=by rw [<- Array.length_toList];exact hj
  simp [Array.getD,this]
 rw [e1,e2] at this
 exact this
section
variable {X:Cx} {K:PySem.W.Frag}
theorem aEz {G:Hp} {b:Addr} {k:List Int} (h:G b=some (.tup (k.map V.int))):Rep K G (.ref b) (qZ k):=by
 refine .tup h ?_
 clear h
 induction k with
 | nil=>exact .nil
 | cons i k ih=>exact .cons (.int i) ih
theorem uV {G:Hp} {ts:List V} {ks:List (List Int)} (h:∀ (i:Nat),i < ks.length->Rep K G (ts.getD i .non) (qZ (ks.getD i []))):∀ l:List Nat,(∀ i∈l,i < ks.length)->Reps K G (l.map fun i=>ts.getD i .non) ((l.map fun i=>ks.getD i []).map qZ)
 | [],_=>.nil
 | i :: l,hl=>.cons (h i (hl i (.head _))) (uV h l fun j hj=>hl j (.tail _ hj))
theorem aOh {n:Nat} {q:Array Nat} (hp:Pm n q):∀ i∈q.toList,i < n:=fun i hi=>by
 have:i∈(List.range n).toArray:=hp.mem_iff.mp (Array.mem_toList_iff.mp hi)
 simpa using this
theorem aAy {ks:List (List Int)} (h:(ks.all fun k=>!k.isEmpty)=true):∀ k∈ks,k≠[]:=fun k hk z=>by
 have:=List.all_eq_true.mp h k hk
 rw [z] at this
 cases this
def wt (G H:Hp):Hp:=fun b=>match G b with
 | some o=>some o
 | none=>match H b with
  | some (.tup xs)=>some (.tup xs)
  | _=>none
theorem aJg {G H:Hp}:Same G (wt G H):=fun b o e=>by unfold wt;rw [e]
theorem aHt {G H:Hp} (gh:Same G H):Same (wt G H) H:=fun b o e=>by
 unfold wt at e
 cases eg:G b with
 | some u=>rw [eg] at e;cases e;exact gh _ _ eg
 | none =>
  rw [eg] at e
  dsimp only at e
  split at e
  ·rename_i xs eh
   cases e;exact eh
  ·cases e
theorem aKt {G H:Hp} (gh:Same G H) {b:Addr} {xs:List V} (e:H b=some (.tup xs)):wt G H b=some (.tup xs):=by
 unfold wt
 cases eg:G b with
 | some u =>
  have:=gh _ _ eg
  rw [e] at this
  exact this.symm
 | none=>dsimp only;rw [e]
theorem aJt {G H:Hp} (gh:Same G H):Step G H (wt G H) H:=⟨aJg,Same.refl _,aHt gh,fun b hb hg=>by
 unfold wt
 rw [hg]
 dsimp only
 split
 ·rename_i xs eh;exact .inr ⟨xs,eh⟩
 ·exact .inl rfl⟩
def eU (rs:List Ev):Res Ev:=match rs with
 | [x]=>match kN x with
  | some kvs=>if (dsp kvs).1=false then match vR (kvs.map (·.1)) with
    | some ks=>if (ks.all fun k=>!k.isEmpty)=true/\ks.length < 64 then .ok (.f (.list ((lH ks).map qZ))) else .bad
    | none=>.bad
   else .bad
  | none=>.bad
 | _=>.bad
theorem lS:aEe eU:=by
 intro rs C h
 unfold eU at h
 split at h
 ·split at h
  ·split at h
   ·split at h
    ·split at h<;>cases h
    ·cases h
   ·cases h
  ·cases h
 ·cases h
theorem aFn {k:List Key} {n:List Int} (h:tkD k=qZ n):k=n.map Sum.inl:=by
 unfold tkD qZ at h
 injection h with h
 induction k generalizing n with
 | nil=>cases n with
  | nil=>rfl
  | cons _ _=>cases h
 | cons x k ih =>
  cases n with
  | nil=>cases h
  | cons y n =>
   rw [List.map_cons,List.map_cons] at h
   injection h with h1 h2
   cases x with
   | inl i=>cases h1;rw [ih h2];rfl
   | inr i=>cases h1
theorem vG {G:Hp}:∀ {kv:List (List Key×V)} {kvs:List (D×D)} {ks:List (List Int)},RepT K G kv kvs->kvs.map (·.1)=ks.map qZ->kv.map (·.1)=ks.map (List.map Sum.inl)
 | _,_,[],.nil,_=>rfl
 | _,_,_ :: _,.nil,h=>by cases h
 | _,_,[],.cons _ _,h=>by cases h
 | _,_,k :: ks,.cons _ t,h=>by
  rw [List.map_cons,List.map_cons] at h
  injection h with h1 h2
  rw [List.map_cons,List.map_cons,vG t h2,aFn h1]
theorem nS:qL K aGu eU:=by
 intro W Hs G H vs rs Q gh he hw
 unfold eU at hw
 split at hw
 ·rename_i x
  match vs,he with
  | [v],⟨h1,_⟩ =>
   split at hw
   ·rename_i kvs ed
    obtain ⟨a,rfl,hd⟩:=xT gh h1 ed
    split at hw
    ·rename_i hk
     rcases hd with ⟨kv,k1,k2⟩ | ⟨kv,r,rfl,k1,k2⟩
     ·split at hw
      ·rename_i ks ek
       split at hw
       ·rename_i hz
        have ek:=yW ek
        have hne:=aAy hz.1
        have hl:kv.length=ks.length:=by rw [k2.len,<- List.length_map (f:=(·.1)),ek,List.length_map]
        refine ⟨a,kv,ks,rfl,k1,vG k2 ek,hne,by omega,fun ts D q rI hD hp hs=>?_⟩
        have hl2:ts.length=ks.length:=rI.1
        have ep:=picked hl2 hp hs
        have st:=(aJt gh).trans (Step.lay (o:=.lst (q.toList.map fun i=>ts.getD i .non)) (aHt gh) hD)
        refine hw _ _ _ st ⟨D,_,rfl,hD,(aHt gh).free hD,cS,.lst ?_⟩
        rw [<- ep]
        refine uV (fun i hi=>?_) _ fun i hi=>by rw [<- hl2];exact aOh hp i hi
        have hi':i < ts.length:=by omega
        obtain ⟨⟨b,eb,hb⟩,_⟩:=rI.2 i ts[i] ks[i] (List.getElem?_eq_getElem hi') (List.getElem?_eq_getElem hi)
        have e1:ts.getD i .non=ts[i]:=by simp [hi']
        have e2:ks.getD i []=ks[i]:=by simp [hi]
        rw [e1,e2,eb]
        exact aEz (aKt gh hb)
       ·exact hw.elim
      ·exact hw.elim
     ·cases hk
    ·exact hw.elim
   ·exact hw.elim
 ·exact hw.elim
theorem aHp {prog:Program} {w:World} {A:Around} {E:Value->Shared->Prop} {s:Shared} {d:Addr} {es:Array DictEntry} {ep:Nat} {Q:Value->Shared->Prop} (hd:(d == sysModules)=false) (hm:RawD s.heap d es ep) (hfit:(es.size:Int) < 2 ^ 63)
  (h:Q (.int es.size (s.toks+1)) { s with toks:=s.toks+1+1 }):wpAny (model prog w) A (call (.builtin "len") [.ref d]) Q E s:=by
 refine Calls.call_function_entry kind_len plain_len entry_len (args_len1 _) ?_
 unfold Builtin.«len»
 refine wpAny_bind (m:=oneArg "len" _) (wpAny_pure ?_)
 have meets:MeetsIn prog w (Builtin.«dict.__len__» ⟨[.ref d],[]⟩) (fun _ R s=>RawD s.heap d es ep/\R (.ok (.ret (.int es.size s.toks))) { s with toks:=s.toks+1 }) :=
  .of_wp fun A R s ⟨hm,h⟩=>by
   obtain ⟨o,ho,hc,hdat⟩:=hm
   show wpAny _ _ (dictSize d >>= _) _ _ s
   unfold dictSize
   refine wpAny_bind (wpAny_bind (wpAny_dictEntries ho hdat (wpAny_pure ?_)))
   show wpAny _ _ (Builtin.Dict.pendingCount d >>= _) _ _ s
   refine wpAny_bind (wpAny_pendingCount_other hd ?_)
   refine wpAny_ret_mkInt ?_
   rw [Nat.add_zero];exact h
 refine wpAny_bind (m:=callSpecial? (.ref d) (Str.ofString "__len__")) (wpAny_callSpecial?_slot (name:=Str.ofString "__len__") hm.ty F.slot_dict_len
  (call_meetsIn F.slot_dict_len hm.ty F.entry_dict_len (F.args_dict_len_1 _) meets ⟨hm,?_⟩))
 show wpAny _ _ _ _ _ { s with toks:=s.toks+1 }
 refine wpAny_bind (wpAny_holding (wpAny_pure ?_))
 refine wpAny_bind (wpAny_letGo ?_)
 show wpAny _ _ (if ((es.size:Nat):Int) < 0 then _ else _) _ _ _
 rw [if_neg (by omega)]
 show wpAny _ _ (if ((es.size:Nat):Int) ≥ 2 ^ 63 then _ else _) _ _ _
 rw [if_neg (by omega)]
 exact wpAny_bind (wpAny_mkInt (wpAny_pure ⟨_,rfl,h⟩))
def aLx:List V->Hp->VK->Prop:=fun xs H Q=>∃ a,xs=[.ref a]/\((∃ kv,H a=some (.dT kv)/\Q (.int kv.length) H)\/∃ kv,H a=some (.dK kv)/\Q (.int kv.length) H)
theorem rN:qD X (.builtin "len") aLx:=by
 intro pins s σ H xs us Q I r h
 obtain ⟨a,rfl,h⟩:=h
 obtain ⟨u,rfl,ru⟩:=vals1 r
 cases (show u=Value.ref a from ru)
 rcases h with ⟨kv,ha,q⟩ | ⟨kv,ha,q⟩
 ·obtain ⟨hz,hsys,es0,rel,o,es,ep,h1,h2,h3,h4,h5⟩:=(show ObjOk X.prog X.w H s.heap a (.dT kv) from I.hok a _ ha)
  have len1:kv.length=es0.length:=rel.length
  have len2:es.size=es0.length:=by rw [<- Array.length_toList,h4,List.length_map]
  rw [sizeLine_eq] at hz
  refine aHp hsys ⟨o,h1,h2,h3⟩ (by omega) ⟨.int kv.length,H,I.tok _,⟨s.toks+1,by rw [len2,len1]⟩,q⟩
 ·exact aNo I (.inl ha) fun t s' I'=>⟨.int kv.length,H,I',⟨t,rfl⟩,q⟩
theorem aD4:qL K aLx mS:=by
 intro W Hs G H vs rs Q gh he hw
 unfold mS at hw
 split at hw
 ·rename_i x
  match vs,he with
  | [v],⟨h1,_⟩ =>
   split at hw
   ·rename_i kvs ed
    obtain ⟨a,rfl,hd⟩:=xT gh h1 ed
    refine ⟨a,rfl,?_⟩
    rcases hd with ⟨kv,k1,k2⟩ | ⟨kv,r,rfl,k1,k2⟩
    ·refine .inl ⟨kv,k1,?_⟩
     rw [aJn k2] at hw
     rw [k2.len]
     exact hw G H _ (Step.refl gh) (.int _)
    ·refine .inr ⟨kv,k1,?_⟩
     rw [k2.len]
     exact hw G H _ (Step.refl gh) (.int _)
   ·exact hw.elim
 ·exact hw.elim
end
end M
namespace L2
open PySem PySem.Spec PyProof.Rows
section
variable {X:Cx}
end
end L2
namespace M
open PySem PySem.Spec PyProof.Rows L2
section
variable {X:Cx} {E:L2.St->XK}
def cutD (ds:List D) (lo hi:Option Int):List D:=(ds.drop (HT.sIx ds.length 0 lo)).take (HT.sIx ds.length ds.length hi - HT.sIx ds.length 0 lo)
theorem Reps.cut {K:PySem.W.Frag} {G:Hp} {xs:List V} {ds:List D} (r:Reps K G xs ds) (lo hi:Option Int):Reps K G (aJ2 xs lo hi) (cutD ds lo hi):=by
 unfold aJ2 cutD
 rw [r.length]
 exact (r.drop _).take _
def mPt (fe:En->Res Ev):En->Res (Option Int):=fun en=>(fe en).bind fun x=>match x.c with
 | .p (.int i)=>.ok (some i)
 | _=>.bad
def tP (K:PySem.W.Frag) (E:L2.St->XK) (f:En->Res (Option Int)):TO:=fun σ H R=>∃ B G0 G W en,SimH B G0 G W H/\SimS K W G H σ en/\wpR (f en) (fun k=>∀ G' H',Step G H G' H'->R k H') (PostX (E σ) G H)
def DP (X:Cx) (E:L2.St->XK) (o:Option Expr) (f:En->Res (Option Int)):Prop:=PO X o (tP X.K E f)
theorem sY {e:Expr} {fe:En->Res Ev} (he:DE X E e fe):DP X E (some e) (mPt fe):=fun pins s σ H R I ⟨B,G0,G,W,en,hh,hs,hw⟩=>by
 obtain ⟨t,p,m⟩:=he.out
 refine aIa p pins s σ H R I (m B G0 G W H σ en _ hh hs ?_)
 unfold mPt at hw
 rw [cU] at hw
 refine bT hw (fun x hx G1 H1 v s1 e1=>?_) fun C h=>h
 obtain ⟨G2,s2,e2⟩:=e1.c s1
 cases ex:x.c with
 | p d =>
  rw [ex] at hx e2
  cases d with
  | int i=>cases e2;exact ⟨i,rfl,hx G2 H1 s2⟩
  | _=>exact hx.elim
 | f d=>rw [ex] at hx;exact hx.elim
 | b d=>rw [ex] at hx;exact hx.elim
 | x C=>rw [ex] at hx;exact hx.elim
def mSl (fe:En->Res Ev) (fl fh:En->Res (Option Int)):En->Res Ev:=fun en=>(fe en).bind fun x=>(fl en).bind fun l=>(fh en).bind fun u=>match jX x.c with
 | some ds=>.ok (.f (.list (cutD ds l u)))
 | none=>.bad
theorem aLn {e:Expr} {lo hi:Option Expr} {fe:En->Res Ev} {fl fh:En->Res (Option Int)} {p2 pos:Pos} (he:DE X E e fe) (hl:DP X E lo fl) (hu:DP X E hi fh):DE X E (.Subscript e (.Slice lo hi none p2) pos) (mSl fe fl fh):=by
 obtain ⟨t,p,m⟩:=he.out
 refine DE.in ⟨_,aFv aIc p hl hu,fun B G0 G W H σ en Q hh hs hw=>?_⟩
 unfold mSl at hw
 refine m B G0 G W H σ en _ hh hs (DE.go hw fun x G1 H1 v s1 e1 h1=>?_)
 refine ⟨B,G0,G1,W,en,hh.step s1,hs.step s1,?_⟩
 rw [cU] at h1
 refine bT h1 (fun l hx G2 H2 s2=>?_) fun C h=>h
 refine ⟨B,G0,G2,W,en,(hh.step s1).step s2,(hs.step s1).step s2,?_⟩
 have hx':=bT hx (fun r h=>h.step s2) (fun C h=>h.step s2)
 rw [cU] at hx'
 refine bT hx' (fun u hy G3 H3 s3=>?_) fun C h=>h
 cases ex:jX x.c with
 | none=>rw [ex] at hy;exact hy.elim
 | some ds =>
  rw [ex] at hy
  obtain ⟨a,xs,rfl,rd,rp⟩:=vK (Hs:=H) s3.gh (e1.step (s2.trans s3)) ex
  exact ⟨a,xs,rfl,.inl rd,fun p hp=>hy _ _ _ (s3.trans (Step.lay s3.gh hp)) ⟨p,_,rfl,s3.h.free hp,s3.gh.free hp,cS,.lst (rp.cut l u)⟩⟩
def aNl (i j:Nat) (fr:En->Res (List Ev)):MS:=fun en=>match fr en with
 | .ok rs=>match rs with
  | [.p d,.p e]=>some (.nx ((en.set i (some (.p d))).set j (some (.p e))))
  | _=>none
 | .exc C=>some (.ex C en)
 | .bad=>none
theorem aL8 {i j:Nat} {x y:Str} {a b:Expr} {fr:En->Res (List Ev)} {px py pt pos:Pos} {kt k2 pt2} (hc:X.calm=true) (hN:X.N.Nodup) (hi:X.N[i]? = some x) (hj:X.N[j]? = some y) (hij:i≠j)
  (hx:X.env.scope.names.lookup x=some .local) (hy:X.env.scope.names.lookup y=some .local) (ha:DA X E [a,b] fr)
  (hw:swappedStores [.Tuple [.Name x px,.Name y py] kt pt] (.Tuple [a,b] k2 pt2) X.env=pure (some [x,y]):=by rfl)
  (hs:swapsWithSole [.Tuple [.Name x px,.Name y py] kt pt] (.Tuple [a,b] k2 pt2) pos.line X.env=pure false:=by rfl) :
  DS X E (.Assign [.Tuple [.Name x px,.Name y py] kt pt] (.Tuple [a,b] k2 pt2) pos) (aNl i j fr):=by
 obtain ⟨t,p,m⟩:=ha.out
 refine DS.in ⟨_,aMf hc hN hi hj hij hx hy p hw hs,fun B G0 G W H σ en Dn hh hs hw=>m B G0 G W H σ en _ hh hs ?_⟩
 unfold aNl at hw
 cases ef:fr en with
 | bad=>rw [ef] at hw;exact hw
 | exc C=>rw [ef] at hw;exact fun G1 H1 s=>hw G1 W H1 σ (hh.step s) (hs.step s)
 | ok rs =>
  rw [ef] at hw
  dsimp only at hw
  split at hw
  ·rename_i d e
   intro G1 H1 vs s ev
   match vs,ev with
   | [v,w],⟨e1,e2,_⟩=>exact ⟨v,w,rfl,hw G1 W H1 _ (hh.step s) (((hs.step s).set (i:=i) (l:=.p d) e1).set (i:=j) (l:=.p e) e2)⟩
  ·exact hw.elim
end
section
variable {K:PySem.W.Frag}
end
end M
namespace L2
open PySem PySem.Spec PyProof.Rows
def Itz (K:PySem.W.Frag) (a b:Addr):It :=
 ⟨fun i H=>∃ xs ys x y,SqL K H a xs/\xs[i]? = some x/\SqL K H b ys/\ys[i]? = some y,
   fun i H v H'=>∃ p x y,H p=none/\v=.ref p/\(∀ xs,SqL K H a xs->xs[i]? = some x)/\(∀ ys,SqL K H b ys->ys[i]? = some y)/\H'=upd H p (.tup [x,y]),
   fun i H=>∃ xs ys,SqL K H a xs/\SqL K H b ys/\(xs.length<=i\/ys.length<=i)⟩
theorem aEo {P:Program} {w:World} {K:PySem.W.Frag} {elts:List Expr} {x1} {tp:Pos} {l1 l2 z TI TO i1 i2:Addr} (D:ZipApart z TI TO i1 i2 l1 l2):Turn P w K (.Tuple elts x1 tp) (Itz K l1 l2) [z,TI,TO,i1,i2] z
  (fun i h=>IsZip h z TI TO Value.none/\IsPair h TI (.ref i1) (.ref i2)/\(∃ a b,IsPair h TO a b)/\h.IsListIter i1 l1 i/\h.IsListIter i2 l2 i) where
 mem:=by simp
 obj:=fun i h st b hb=>by
  obtain ⟨s1,s2,⟨_,_,s3⟩,⟨o4,q4,_,d4⟩,⟨o5,q5,_,d5⟩⟩:=st
  simp only [List.mem_cons,List.not_mem_nil,or_false] at hb
  rcases hb with rfl | rfl | rfl | rfl | rfl
  ·exact ⟨_,s1,fun v z=>nomatch z⟩
  ·exact ⟨_,s2,fun v z=>nomatch z⟩
  ·exact ⟨_,s3,fun v z=>nomatch z⟩
  ·exact ⟨o4,q4,fun v z=>by rw [d4] at z;cases z⟩
  ·exact ⟨o5,q5,fun v z=>by rw [d5] at z;cases z⟩
 keep:=fun i h h' st k=>by
  obtain ⟨s1,s2,⟨a,b,s3⟩,s4,s5⟩:=st
  exact ⟨k _ (by simp) _ s1,k _ (by simp) _ s2,⟨a,b,k _ (by simp) _ s3⟩,s4.at fun o q=>k _ (by simp) o q,s5.at fun o q=>k _ (by simp) o q⟩
 item:=by
  intro X hP hw hK hc i pins s σ H E I hf st hg
  subst hP hw hK
  obtain ⟨s1,s2,⟨a0,b0,s3⟩,s4,s5⟩:=st
  obtain ⟨xs,ys,x,y,hq,hx,hq2,hy⟩:=hg
  obtain ⟨its,rv,p,hz⟩:=I.list hq
  obtain ⟨its2,rv2,p2,hz2⟩:=I.list hq2
  obtain ⟨u,hu,ru⟩:=rv.get hx
  obtain ⟨u2,hu2,ru2⟩:=rv2.get hy
  have hfz:=hf z (by simp)
  have hfT:=hf TO (by simp)
  have hf1:=hf i1 (by simp)
  have hf2:=hf i2 (by simp)
  refine wpAny_pyNext_zip_item D s1 s2 s3 s4 s5 p.isList p2.isList (x:=u) (y:=u2) (by simpa using hu) (by simpa using hu2) fun h₁ z1 to1 it1 it2 tt1 hz₁ hk₁=>?_
  refine ⟨_,rfl,wpAny_letOwnedTupleGo_zip z1 fun h₂ z2 hs₂=>?_⟩
  have hs₂:Heap.SameBut z h₁ h₂:=hs₂
  have hn:H s.heap.objs.size=none:=I.fresh
  have nn:∀ b o,H b=some o->b≠s.heap.objs.size:=fun b o q=>dS q hn
  have eE:z < s.heap.objs.size:=Heap.lt_size s1
  have keep:∀ b o,b∉[z,TO,i1,i2]->s.heap.get? b=some o->h₂.get? b=some o:=fun b o hb q=>by
   simp only [List.mem_cons,List.not_mem_nil,or_false,not_or] at hb
   exact (hs₂.2 b hb.1).trans (hk₁ b o hb.1 hb.2.1 hb.2.2.1 hb.2.2.2 q)
  have trk:∀ b o,H b=some o->b∉[z,TO,i1,i2]:=fun b o q hb=>by
   have hm:b∈[z,TI,TO,i1,i2]:=by
    simp only [List.mem_cons,List.not_mem_nil,or_false] at hb ⊢
    rcases hb with h | h | h | h<;>simp [h]
   rw [(hf b hm).1] at q;cases q
  refine ⟨.ref s.heap.objs.size,upd H s.heap.objs.size (.tup [x,y]),?_,rfl,⟨_,x,y,hn,rfl,fun zs hz'=>by rw [I.list_inj hz' hq];exact hx,fun zs hz'=>by rw [I.list_inj hz' hq2];exact hy,rfl⟩,⟨z2,keep _ _ ?_ s2,⟨_,_,(hs₂.2 _ D.TOz).trans to1⟩,it1.at fun o q=>(hs₂.2 _ D.i1z).trans q,it2.at fun o q=>(hs₂.2 _ D.i2z).trans q⟩,fun b hb=>?_⟩
  ·refine Inv.step (X:=X) (pins:=pins) (σ:=σ) (H:=H) (s:=s) (H':=upd H s.heap.objs.size (.tup [x,y])) (h':=h₂) (g':=s.gens) (d':=s.drawn) (t':=s.toks) (ch:=[z,TO,i1,i2]) I (fun b hb=>?_) (fun b o _ _ hb q _=>keep b o hb q) (fun b o _ _ hb q _=>⟨o.slots,keep b o hb q⟩) (fun b o _ q n=>?_) (fun b o hb q=>⟨o,keep b o hb q⟩)
    (fun b ys q=>?_) (fun b o v q=>?_) (fun b ps q=>⟨#[],?_⟩) (fun m hm=>?_) (fun b v q=>?_) I.bare
   ·have hm:b∈[z,TI,TO,i1,i2]:=by
     simp only [List.mem_cons,List.not_mem_nil,or_false] at hb ⊢
     rcases hb with h | h | h | h<;>simp [h]
    obtain ⟨f0,f1,f2,f3,f4,f5⟩:=hf b hm
    exact ⟨f3,f1,f4,f5⟩
   ·rw [cI (Nat.ne_of_lt (Heap.lt_size q))];exact n
   ·rw [cI (nn b _ q)];exact q
   ·rw [cI (nn b _ q)];exact q
   ·rw [cI (nn b _ q),q];simp
   ·obtain ⟨o,es,ep,ho,r⟩:=hm
    refine ⟨o,es,ep,keep _ o (fun zz=>?_) ho,r⟩
    simp only [List.mem_cons,List.not_mem_nil,or_false] at zz
    rcases zz with h | h | h | h
    ·exact hfz.2.1 h.symm
    ·exact hfT.2.1 h.symm
    ·exact hf1.2.1 h.symm
    ·exact hf2.2.1 h.symm
   ·by_cases hb:b=s.heap.objs.size
    ·subst hb
     rw [cS] at q
     cases q
     refine ⟨by show 2<=sizeLine;decide,[u,u2],.cons ru (.cons ru2 .nil),_,(hs₂.2 _ (Nat.ne_of_gt eE)).trans tt1,rfl,_,rfl⟩
    ·rw [cI hb] at q
     refine (I.hok b v q).stay (fun c w' hc q'=>keep c w' ?_ q') (fun c q'=>?_) fun c ys q'=>?_
     ·rcases hc with zz | zz
      ·rw [zz];exact trk b v q
      ·exact trk c _ zz
     ·rw [cI (nn c _ q')];exact q'
     ·rw [cI (nn c _ q')];exact q'
  ·simp only [List.mem_cons,List.not_mem_nil,or_false,not_or]
   exact ⟨D.TIz,D.TITO,D.TIi1,D.TIi2⟩
  ·have hb':=(hf b hb).1
   have:b≠s.heap.objs.size:=by
    simp only [List.mem_cons,List.not_mem_nil,or_false] at hb
    obtain ⟨o4,q4,_⟩:=id s4
    obtain ⟨o5,q5,_⟩:=id s5
    rcases hb with h | h | h | h | h<;>rw [h]
    ·exact Nat.ne_of_lt eE
    ·exact Nat.ne_of_lt (Heap.lt_size s2)
    ·exact Nat.ne_of_lt (Heap.lt_size s3)
    ·exact Nat.ne_of_lt (Heap.lt_size q4)
    ·exact Nat.ne_of_lt (Heap.lt_size q5)
   rw [cI this];exact hb'
 done:=by
  intro X hP hw hK hc i pins s σ H E I hf st hg
  subst hP hw hK
  obtain ⟨s1,s2,⟨a0,b0,s3⟩,s4,s5⟩:=st
  obtain ⟨xs,ys,hq,hq2,hx⟩:=hg
  obtain ⟨its,rv,p,hz⟩:=I.list hq
  obtain ⟨its2,rv2,p2,hz2⟩:=I.list hq2
  have hl:=rv.length
  have hl2:=rv2.length
  refine wpAny_pyNext_zip_end (I.ok.hd hc) D s1 s2 s3 s4 s5 p.isList p2.isList (hx.imp (fun h=>by simp;omega) fun h=>by simp;omega) fun h' hk=>⟨rfl,?_⟩
  have keep:∀ b o,b∉[z,TO,i1,i2]->s.heap.get? b=some o->h'.get? b=some o:=fun b o hb q=>by
   simp only [List.mem_cons,List.not_mem_nil,or_false,not_or] at hb
   exact hk b o hb.1 hb.2.1 hb.2.2.1 hb.2.2.2 q
  have hin:∀ b,b∈[z,TO,i1,i2]->b∈[z,TI,TO,i1,i2]:=fun b hb=>by
   simp only [List.mem_cons,List.not_mem_nil,or_false] at hb ⊢
   rcases hb with h | h | h | h<;>simp [h]
  have trk:∀ b o,H b=some o->b∉[z,TO,i1,i2]:=fun b o q hb=>by rw [(hf b (hin b hb)).1] at q;cases q
  refine Inv.step (X:=X) (pins:=pins) (σ:=σ) (H:=H) (s:=s) (H':=H) (h':=h') (g':=s.gens) (d':=s.drawn) (t':=s.toks) (ch:=[z,TO,i1,i2]) I (fun b hb=>?_) (fun b o _ _ hb q _=>keep b o hb q) (fun b o _ _ hb q _=>⟨o.slots,keep b o hb q⟩) (fun b o _ q n=>n) (fun b o hb q=>⟨o,keep b o hb q⟩)
   (fun _ _ q=>q) (fun _ _ _ q=>q) (fun b ps q=>⟨#[],by rw [q];simp⟩) (fun m hm=>?_) (fun b v q=>?_) I.bare
  ·obtain ⟨f0,f1,f2,f3,f4,f5⟩:=hf b (hin b hb)
   exact ⟨f3,f1,f4,f5⟩
  ·obtain ⟨o,es,ep,ho,r⟩:=hm
   exact ⟨o,es,ep,keep _ o (fun zz=>(hf _ (hin _ zz)).2.1 rfl) ho,r⟩
  ·refine (I.hok b v q).stay (fun c w' hc q'=>keep c w' ?_ q') (fun _ q'=>q') fun _ _ q'=>q'
   rcases hc with zz | zz
   ·rw [zz];exact trk b v q
   ·exact trk c _ zz
 self:=fun _ _ _ _ _ st h=>wpAny_pyIter_zip st.1 h
section
variable {X:Cx}
def aQg (K:PySem.W.Frag) (ta:TA):TI:=fun σ H R=>ta σ H fun vs H1=>∃ a b xs ys,vs=[.ref a,.ref b]/\Rd H1 a (.lst xs)/\Rd H1 b (.lst ys)/\R (Itz K a b) H1
theorem aIw:bootBuiltins "zip" = some (.type "zip"):=by decide +kernel
theorem aMm {a b:Expr} {ta:TA} {p pos tp:Pos} {elts:List Expr} {x1} (hg:Gl X "zip") (hm:X.mg "zip" = none) (ha:PA X [a,b] ta) (hs:starEach [a,b] X.env=[(false,eval a X.env),(false,eval b X.env)]:=by rfl) (hs2:starEach [b] X.env=[(false,eval b X.env)]:=by rfl):PI X (.Tuple elts x1 tp) (.Call (.Name "zip" p) [a,b] [] pos) (aQg X.K ta):=by
 intro pins s σ H R I h
 refine Call_ (yH I hg hm aIw (PyProof.Rows.callWith_type1 (thn (ha pos pins s σ H _ I h) fun us s1 ⟨vs,H1,I1,r1,q1⟩=>?_) (by rw [hs,hs2]) (by rw [hs2];rfl)))
 obtain ⟨a,b,xs,ys,rfl,hr,hr2,q⟩:=q1
 obtain ⟨u,u2,rfl,ru,ru2⟩:=vals2 r1
 cases (show u=Value.ref a from ru)
 cases (show u2=Value.ref b from ru2)
 obtain ⟨_,its,n,rv,ho⟩:=hr.ok I1.hok
 obtain ⟨_,its2,n2,rv2,ho2⟩:=hr2.ok I1.hok
 refine call_zip_2 ⟨_,ho,rfl,_,rfl⟩ ⟨_,ho2,rfl,_,rfl⟩ fun h' he hp1 hp2 hit hit2 hz hk=>?_
 refine wpAny_pyIter_zip (s:={ s1 with heap:=h' }) he ?_
 refine ⟨s1.heap.objs.size+4,[s1.heap.objs.size+4,s1.heap.objs.size+2,s1.heap.objs.size+3,s1.heap.objs.size,s1.heap.objs.size+1],_,_,H1,rfl,I1.kept (t':=s1.toks) hk,aEo (zipApart_new (Heap.lt_size ho) (Heap.lt_size ho2)),⟨he,hp1,⟨_,_,hp2⟩,hit,hit2⟩,fun b hb=>?_,q⟩
 have hle:s1.heap.objs.size<=b:=by
  simp only [List.mem_cons,List.not_mem_nil,or_false] at hb
  rcases hb with h | h | h | h | h<;>rw [h]
  ·exact Nat.le_add_right _ _
  ·exact Nat.le_add_right _ _
  ·exact Nat.le_add_right _ _
  ·exact Nat.le_refl _
  ·exact Nat.le_add_right _ _
 exact I1.fpOk hle (I1.hok.fresh hle)
end
end L2
namespace M
open PySem PySem.Spec PyProof.Rows L2
def aAi:List D->List D->List D
 | x :: xs,y :: ys=>.tuple [x,y] :: aAi xs ys
 | _,_=>[]
theorem xV:∀ (xs ys:List D) (i:Nat),(aAi xs ys)[i]? = match xs[i]?,ys[i]? with
  | some x,some y=>some (.tuple [x,y])
  | _,_=>none
 | [],_,i=>by simp [aAi]
 | _ :: _,[],i=>by cases i<;>simp [aAi]
 | x :: xs,y :: ys,0=>by simp [aAi]
 | x :: xs,y :: ys,i+1=>by
  unfold aAi
  rw [List.getElem?_cons_succ,List.getElem?_cons_succ,List.getElem?_cons_succ,xV xs ys i]
theorem xJ:∀ (xs ys:List D),xs.length<=(aAi xs ys).length\/ys.length<=(aAi xs ys).length
 | [],_=>.inl (Nat.zero_le _)
 | _ :: _,[]=>.inr (Nat.zero_le _)
 | x :: xs,y :: ys=>by
  unfold aAi
  rcases xJ xs ys with h | h
  ·exact .inl (Nat.succ_le_succ h)
  ·exact .inr (Nat.succ_le_succ h)
def aEc (rs:List Ev):Res (List D):=match rs with
 | [.p (.list xs),.p (.list ys)]=>.ok (aAi xs ys)
 | _=>.bad
theorem aGp {X:Cx} {E:L2.St->XK} {a b:Expr} {fr:En->Res (List Ev)} {p pos tp:Pos} {elts:List Expr} {x1} (hg:Gl X "zip") (hm:X.mg "zip" = none) (ha:DA X E [a,b] fr) (hs:starEach [a,b] X.env=[(false,eval a X.env),(false,eval b X.env)]:=by rfl) (hs2:starEach [b] X.env=[(false,eval b X.env)]:=by rfl) :
  DI X E (.Tuple elts x1 tp) (.Call (.Name "zip" p) [a,b] [] pos) (qP aEc fr):=by
 obtain ⟨t,q,m⟩:=ha.out
 refine DI.in ⟨_,aMm hg hm q hs hs2,fun B G0 G W H σ en R hh hs hw=>m B G0 G W H σ en _ hh hs ?_⟩
 have hw:wpR ((fr en).bind _) _ _:=hw
 rw [cU] at hw
 refine bT hw (fun rs hr G1 H1 vs s e=>?_) fun C h=>h
 unfold aEc at hr
 split at hr
 ·rename_i ds es
  match vs,e with
  | [v,v2],⟨e1,e2,_⟩ =>
   cases e1 with
   | @lst a xs _ h1 h2 =>
    cases e2 with
    | @lst b ys _ g1 g2 =>
     refine ⟨a,b,xs,ys,rfl,iO s.gh h1,iO s.gh g1,hr G1 H1 _ s fun G3 H3 k1 k2=>⟨fun i d ed=>?_,?_⟩⟩
     ·rw [xV] at ed
      cases ex0:ds[i]? with
      | none=>rw [ex0] at ed;cases ed
      | some d1 =>
       cases ey0:es[i]? with
       | none=>rw [ex0,ey0] at ed;cases ed
       | some d2 =>
        rw [ex0,ey0] at ed
        cases ed
        obtain ⟨x,ex,rx⟩:=h2.get' ex0
        obtain ⟨y,ey,ry⟩:=g2.get' ey0
        have sq:SqL X.K H3 a xs:=.inl (iO (k1.trans k2) h1)
        have sq2:SqL X.K H3 b ys:=.inl (iO (k1.trans k2) g1)
        refine ⟨⟨xs,ys,x,y,sq,ex,sq2,ey⟩,fun v H' hy=>?_⟩
        obtain ⟨p,x',y',hp,rfl,hx',hy',rfl⟩:=hy
        have e1:=hx' xs sq
        have e2:=hy' ys sq2
        rw [ex] at e1
        rw [ey] at e2
        cases e1
        cases e2
        have st:=Step.put (o:=.tup [x,y]) k2 hp
        exact ⟨_,st,.tup cS (.cons (rx.mono (k1.trans st.g)) (.cons (ry.mono (k1.trans st.g)) .nil))⟩
     ·refine ⟨xs,ys,.inl (iO (k1.trans k2) h1),.inl (iO (k1.trans k2) g1),?_⟩
      rw [h2.length,g2.length]
      exact xJ ds es
 ·exact hr.elim
end M
namespace L2
open PySem PySem.Spec PyProof.Rows
theorem aAh {prog:Program} {w:World} {A:Around} {E:Value->Shared->Prop} {s:Shared} {nm:String} {a b:Addr} {oa ob:Obj} {ea:Array DictEntry} {pa pb:Nat} {Q:Bool->Shared->Prop}
  (ma:(a == sysModules)=false) (mb:(b == sysModules)=false) (ha:s.heap.get? a=some oa) (da:oa.data=.dict ea pa) (hb:s.heap.get? b=some ob) (db:ob.data=.dict #[] pb) (q:Q (ea.size == 0) s) :
  wpAny (model prog w) A (Builtin.Dict.samePairs nm a b) Q E s:=by
 unfold Builtin.Dict.samePairs
 refine wpAny_bind ?_
 unfold Builtin.Dict.showsAll
 rw [ma]
 refine wpAny_pure ?_
 refine wpAny_bind ?_
 rw [mb]
 refine wpAny_pure ?_
 refine wpAny_bind (wpAny_dictEntries ha da ?_)
 dsimp only
 refine wpAny_bind (wpAny_dictEntries hb db ?_)
 by_cases h0:ea.size=0
 ·rw [h0]
  rw [h0] at q
  refine wpAny_bind (wpAny_dictEpoch ha da ?_)
  refine wpAny_bind ?_
  rw [Std.Legacy.Range.forIn_eq_forIn_range']
  simp only [Std.Legacy.Range.size]
  refine wpAny_pure ?_
  exact wpAny_pure q
 ·have:(ea.size != (#[]:Array DictEntry).size)=true:=by simp [h0]
  rw [if_pos this]
  refine wpAny_bind (wpAny_rule ?_)
  refine wpAny_pure ?_
  have e:(ea.size == 0)=false:=by simp [h0]
  rw [e] at q
  exact q
theorem aDp (a b:Addr):Builtin.«dict.__eq__» ⟨[.ref a,.ref b],[]⟩=(do
   let x <- Builtin.Dict.dictSlotArgs "__eq__" ⟨[.ref a,.ref b],[]⟩
   match x with
   | (self,other)=>do
    let i <- PySem.isInstance other (Value.type "dict")
    if (!i)=true then do
     rule (toString "dict."++toString "__eq__"++toString ".not-a-dict")
     ret Value.notImplemented
    else do
     let p <- Builtin.Dict.addrOf self
     let q <- Builtin.Dict.addrOf other
     let r <- Builtin.Dict.samePairs (toString "dict."++toString "__eq__") p q
     ret (Value.bool (r == true))):=by
 unfold Builtin.«dict.__eq__»
 rfl
theorem aDy {prog:Program} {w:World} {A:Around} {E:Value->Shared->Prop} {s:Shared} {a b:Addr} {oa ob:Obj} {Q:Value->Shared->Prop}
  (ha:s.heap.get? a=some oa) (xa:oa.ExactDict) (hb:s.heap.get? b=some ob) (xb:ob.ExactDict)
  (hu:A.units < cLine) (q:wpAny (model prog w) A.in1 (Builtin.«dict.__eq__» ⟨[.ref a,.ref b],[]⟩) (fun fin s'=>∃ v,fin=Fin.done (Flow.ret v)/\v≠Value.notImplemented/\Q v s') E s):wpAny (model prog w) A (compareOp .Eq (.ref a) (.ref b)) Q E s:=by
 have t1:s.TypeIs (.ref a) "dict":=⟨oa,ha,xa.1⟩
 have t2:s.TypeIs (.ref b) "dict":=⟨ob,hb,xb.1⟩
 show wpAny (model prog w) A (richCompare .Eq (.ref a) (.ref b)) Q E s
 refine wpAny_richCompare_same_room (op:=.Eq) t1 t2 F.slot_dict_eq ?_ hu
 exact wpAny_call_entry F.slot_dict_eq t1 F.entry_dict_eq q (F.args_dict_eq_2 _ _)
theorem zT {prog:Program} {w:World} {A:Around} {E:Value->Shared->Prop} {s:Shared} {a b:Addr} {n:Nat} {Q:Fin->Shared->Prop} (t1:s.TypeIs (.ref a) "dict") (t2:s.TypeIs (.ref b) "dict")
 (hs:∀ {R:Bool->Shared->Prop},R (n == 0) s->wpAny (model prog w) A (Builtin.Dict.samePairs (toString "dict."++toString "__eq__") a b) R E s) (q:Q (Fin.done (Flow.ret (.bool ((n == 0) == true)))) s):wpAny (model prog w) A (do
   let x <- Builtin.Dict.dictSlotArgs "__eq__" ⟨[.ref a,.ref b],[]⟩
   match x with
   | (self,other)=>do
    let i <- PySem.isInstance other (Value.type "dict")
    if (!i)=true then do
     rule (toString "dict."++toString "__eq__"++toString ".not-a-dict")
     ret Value.notImplemented
    else do
     let p <- Builtin.Dict.addrOf self
     let q <- Builtin.Dict.addrOf other
     let r <- Builtin.Dict.samePairs (toString "dict."++toString "__eq__") p q
     ret (Value.bool (r == true))) Q E s:=by
 refine wpAny_bind ?_
 unfold Builtin.Dict.dictSlotArgs
 refine wpAny_bind (wpAny_notOrdered_dict t1 (wpAny_bind ?_))
 unfold slotArgs
 dsimp only
 rw [if_neg (by decide),if_neg (by simp)]
 refine wpAny_pure ?_
 dsimp only
 refine wpAny_pure ?_
 dsimp only
 refine wpAny_bind (wpAny_isInstance t2 F.sub_dict_dict ?_)
 rw [if_neg (by decide)]
 refine wpAny_bind ?_
 unfold Builtin.Dict.addrOf
 dsimp only
 refine wpAny_pure ?_
 refine wpAny_bind (wpAny_pure ?_)
 refine wpAny_bind (hs ?_)
 exact wpAny_pure q
theorem eq_empty {prog:Program} {w:World} {A:Around} {E:Value->Shared->Prop} {s:Shared} {a b:Addr} {oa ob:Obj} {ea:Array DictEntry} {pa pb:Nat} {Q:Value->Shared->Prop}
  (ma:(a == sysModules)=false) (mb:(b == sysModules)=false) (ha:s.heap.get? a=some oa) (xa:oa.ExactDict) (da:oa.data=.dict ea pa) (hb:s.heap.get? b=some ob) (xb:ob.ExactDict) (db:ob.data=.dict #[] pb)
  (hu:A.units < cLine) (q:Q (.bool (ea.size == 0)) s):wpAny (model prog w) A (compareOp .Eq (.ref a) (.ref b)) Q E s:=by
 refine aDy ha xa hb xb hu ?_
 rw [aDp]
 refine zT ⟨oa,ha,xa.1⟩ ⟨ob,hb,xb.1⟩ (n:=ea.size) (fun q=>aAh ma mb ha da hb db q) ⟨_,rfl,(fun z=>nomatch z),?_⟩
 have:(((ea.size == 0) == true))=(ea.size == 0):=by cases (ea.size == 0)<;>rfl
 rw [this]
 exact q
section
variable {X:Cx}
def aP7:R2:=fun x y H Q=>∃ a b kv,x=.ref a/\y=.ref b/\H a=some (.dT kv)/\H b=some (.dT [])/\Q (.bl (kv.isEmpty)) H
theorem aGz (hu:X.A.units < cLine):OpR X (compareOp .Eq) aP7:=by
 intro pins s σ H x y v u Q I rx ry h
 obtain ⟨a,b,kv,rfl,rfl,ha,hb,q⟩:=h
 cases rx
 cases ry
 obtain ⟨_,ma,xs,r,oa,ea,pa,h1,h2,h3,h4,h5⟩:=(show ObjOk X.prog X.w H s.heap a (.dT kv) from I.hok a _ ha)
 obtain ⟨_,mb,ys,r2,ob,eb,pb,g1,g2,g3,g4,g5⟩:=(show ObjOk X.prog X.w H s.heap b (.dT []) from I.hok b _ hb)
 cases r2
 have eb0:eb=#[]:=by
  have:eb.toList=[]:=g4
  exact Array.toList_eq_nil_iff.mp this
 subst eb0
 refine eq_empty ma mb h1 h2 h3 g1 g2 g3 hu ⟨.bl kv.isEmpty,H,I,?_,q⟩
 have hl:ea.size=kv.length:=by
  have e1:ea.toList.length=xs.length:=by rw [h4,List.length_map]
  rw [Array.length_toList] at e1
  rw [e1]
  exact (Paired.length r).symm
 show Value.bool _=Value.bool _
 rw [hl]
 cases kv<;>rfl
end
end L2
namespace M
open PySem PySem.Spec PyProof.Rows L2
variable {K:PySem.W.Frag}
def yX (x y:Ev):Res Ev:=match kN x,y with
 | some kvs,.p (.dict [])=>if (dsp kvs).1=false then .ok (.p (.bool kvs.isEmpty)) else .bad
 | _,_=>.bad
theorem aDn:NoX yX:=by
 intro x y A h
 unfold yX at h
 split at h
 ·split at h<;>cases h
 ·cases h
theorem aG8:OpM K aP7 yX:=by
 intro W G H v u x y Q gh hx hy hw
 unfold yX at hw
 split at hw
 ·rename_i kvs e1 e2
  split at hw
  ·rename_i hd
   obtain ⟨a,rfl,hh⟩:=xT gh hx e1
   rw [e2] at hy
   have hy:Rep K G u (.dict []):=hy
   rcases hh with ⟨kv,h1,h2⟩ | ⟨kv,r,rfl,h1,h2⟩
   ·cases hy with
    | @dT b kv2 _ g1 g2 =>
     cases g2
     refine ⟨a,b,kv,rfl,rfl,h1,gh _ _ g1,?_⟩
     have e:kv.isEmpty=kvs.isEmpty:=by cases h2<;>rfl
     rw [e]
     exact hw G H _ (Step.refl gh) (.bl _)
   ·cases hd
  ·exact hw.elim
 ·exact hw.elim
theorem lend {K:PySem.W.Frag} {B G0 G H:Hp} {W:Addr->Option Nat} {σ:L2.St} {en:En} {i:Nat} {a:Addr} {o:HO} (hh:SimH B G0 G W H) (hs:SimS K W G H σ en) (hv:σ[i]? = some (some (.ref a))) (hW:W a=some i) (hH:H a=some o) :
  SimH (upd B a o) G G (fun b=>if b=a then none else W b) H/\SimS K (fun b=>if b=a then none else W b) G H σ (en.set i (some (.h a))):=by
 obtain ⟨w1,w2,_⟩:=hh.wf a i hW
 refine ⟨⟨hh.gh,fun b u e=>?_,Same.refl _,fun b hb=>.inl hb,fun b j e=>?_⟩,by rw [List.length_set];exact hs.1,fun j l e=>?_⟩
 ·by_cases z:b=a
  ·subst z;rw [cS] at e;rw [hH];exact e
  ·rw [cI z] at e;exact hh.bh _ _ e
 ·split at e
  ·cases e
  ·rename_i z
   rw [cI z]
   exact hh.wf b j e
 ·rw [List.getElem?_set] at e
  by_cases hj:i=j
  ·subst hj
   rw [if_pos rfl] at e
   split at e
   ·cases e;exact ⟨_,hv,rfl⟩
   ·cases e
  ·rw [if_neg hj] at e
   obtain ⟨v,e1,e2⟩:=hs.2 j l e
   refine ⟨v,e1,?_⟩
   cases l with
   | p d=>exact e2
   | x C=>exact e2
   | h a=>exact e2
   | o d =>
    obtain ⟨b,ob,h1,h2,h3,h4⟩:=e2
    refine ⟨b,ob,h1,?_,h3,h4⟩
    dsimp only
    rw [if_neg (fun z=>by rw [z,hW] at h2;exact hj (Option.some.inj h2))]
    exact h2
section
variable {X:Cx} {E:L2.St->XK} {e:Expr}
def tH (i:Nat) (fe:En->Res Ev):MS:=fun en=>match en[i]? with
 | some (some (.o (.list ds)))=>match fe en with
  | .ok (.f (.list es))=>if ds.length+es.length<=100000 then some (.nx (en.set i (some (.o (.list (ds++es)))))) else none
  | .exc C=>some (.ex C en)
  | _=>none
 | _=>none
theorem aBl {i:Nat} {fe:En->Res Ev} {st:Stmt} (he:DE X E e fe) (hp:∀ t,PE X e t->PS X st (aIx (tBM X.K "list" aCc (aJ3 i) (aH4 t aO4)))):DS X E st (tH i fe):=by
 obtain ⟨t,q,mm⟩:=he.out
 refine DS.in ⟨_,hp t q,fun B G0 G W H σ en Dn hh hs hw=>?_⟩
 unfold tH at hw
 split at hw
 ·rename_i ds ei
  obtain ⟨v,e1,a,o,rfl,e2,e3,e4⟩:=hs.2 i _ ei
  cases e4 with
  | @lst xs _ rp =>
  refine ⟨_,e1,.inl ⟨rfl,_,SqL.of e3⟩,mm B G0 G W H σ en _ hh hs ?_⟩
  cases ef:fe en with
  | bad=>rw [ef] at hw;exact hw
  | exc C=>rw [ef] at hw;exact fun G1 H1 s=>hw G1 W H1 σ (hh.step s) (hs.step s)
  | ok r =>
   rw [ef] at hw
   cases r with
   | p d=>exact hw.elim
   | b d=>exact hw.elim
   | x C=>exact hw.elim
   | f d =>
    cases d with
    | list es =>
     dsimp only at hw
     split at hw
     ·rename_i hl
      rintro G1 H1 y s ⟨b,ob,rfl,k1,k2,k3,k4⟩
      cases k4 with
      | @lst zs _ rz =>
      have hx:=s.h _ _ e3
      refine ⟨a,b,xs,zs,rfl,rfl,hx,k3,Nat.le_trans (by rw [rp.length,rz.length];exact hl) (by decide),?_⟩
      obtain ⟨w1,w2⟩:=mW (o':=.lst (xs++zs)) (d':=.list (ds++es)) (hh.step s) (hs.step s) e2 e1 (.lst ((rp.mono s.g).append rz))
      exact hw _ _ _ _ w1 w2
     ·exact hw.elim
    | _=>exact hw.elim
 ·exact hw.elim
end
section
variable {X:Cx} {K:PySem.W.Frag}
def aP4 (K:PySem.W.Frag) (ng:Bool):R2:=fun x y H Q=>∃ d ds,Rep K H x d/\Rep K H y (.list ds)/\SeqAt.shaped d=true/\SeqAt.shaped (.list ds)=true/\(∀ z∈ds,SeqAt.noMix z d=true)/\Q (.bl (if ng then !decide (countIn d ds≠0) else decide (countIn d ds≠0))) H
theorem aLq {K:PySem.W.Frag} (hu:X.A.units+65 < cLine):OpR X (compareOp .In) (aP4 K false):=by
 intro pins s σ H x y v u Q I rx ry h
 obtain ⟨d,ds,h1,h2,o1,o2,hm,q⟩:=h
 obtain ⟨as,r1⟩:=h1.reads I.hok (Bool.and_eq_true_iff.mp o1).1 rx
 obtain ⟨bs,r2⟩:=h2.reads I.hok (Bool.and_eq_true_iff.mp o2).1 ry
 exact in_list_dataH r2 r1 o2 o1 hu hm ⟨.bl _,H,I,rfl,q⟩
open Classical in
noncomputable def aE2 (ng:Bool) (x y:Ev):Res Ev:=match dat x,dat y with
 | some d,some (.list ds)=>if SeqAt.shaped d=true/\SeqAt.shaped (.list ds)=true/\∀ z∈ds,SeqAt.noMix z d=true then .ok (.p (.bool (if ng then !decide (countIn d ds≠0) else decide (countIn d ds≠0)))) else .bad
 | _,_=>.bad
theorem aIh {ng:Bool}:NoX (aE2 ng):=by
 intro x y A h
 unfold aE2 at h
 split at h
 ·split at h<;>cases h
 ·cases h
theorem aLa {ng:Bool}:OpM K (aP4 K ng) (aE2 ng):=by
 intro W G H v u x y Q gh hx hy hw
 unfold aE2 at hw
 split at hw
 ·rename_i d ds e1 e2
  split at hw
  ·rename_i hs
   exact ⟨d,ds,hx.read gh e1,hy.read gh e2,hs.1,hs.2.1,hs.2.2,hw G H _ (Step.refl gh) (.bl _)⟩
  ·exact hw.elim
 ·exact hw.elim
end
theorem u65 {k:Nat} {A:Around} (hr:Room k A):A.units+65 < cLine:=by have:=hr.un;omega
end M
namespace L2
open PySem PySem.Spec PyProof.Rows
section
variable {X:Cx}
end
end L2
namespace M
open PySem PySem.Spec PyProof.Rows L2
end M
namespace L2
open PySem PySem.Spec PyProof.Rows
section
variable {X:Cx}
end
end L2
namespace M
open PySem PySem.Spec PyProof.Rows L2
variable {K:PySem.W.Frag}
end M
namespace L2
open PySem PySem.Spec PyProof.Rows
section
variable {X:Cx} {tg:Expr}
end
end L2
namespace M
open PySem PySem.Spec PyProof.Rows L2
section
variable {X:Cx} {E:L2.St->XK} {pos:Pos}
end
end M
namespace L2
open PySem PySem.Spec PyProof.Rows M
section
variable {X:Cx}
end
end L2
namespace M
open PySem PySem.Spec PyProof.Rows L2
variable {K:PySem.W.Frag}
end M
namespace L2
open PySem PySem.Spec PyProof.Rows
end L2
namespace M
open PySem PySem.Spec PyProof.Rows L2
section
variable {X:Cx} {E:L2.St->XK}
end
variable {K:PySem.W.Frag}
end M
namespace L2
open PySem PySem.Spec PyProof.Rows M
section
variable {X:Cx}
end
end L2
namespace M
open PySem PySem.Spec PyProof.Rows L2
variable {K:PySem.W.Frag}
end M
namespace L2
open PySem PySem.Spec PyProof.Rows
end L2
namespace M
open PySem PySem.Spec PyProof.Rows L2
variable {K:PySem.W.Frag}
end M
namespace L2
open PySem PySem.Spec PyProof.Rows M SRT
section
variable {prog:Program} {w:World} {A:Around} {E:Value->Shared->Prop} {s:Shared}
end
section
variable {X:Cx}
end
end L2
namespace M
open PySem PySem.Spec PyProof.Rows L2 SRT
variable {K:PySem.W.Frag}
end M
namespace L2
open PySem PySem.Spec PyProof.Rows
section
variable {X:Cx} {CX:CXT} {k:Nat} {f:Addr} {fd:FuncData} {ps:List Str} {sp:Sp} {E:St->XK} {x:Str} {p pos:Pos}
end
end L2
namespace M
open PySem PySem.Spec PyProof.Rows L2
section
variable {X:Cx} {E:L2.St->XK} {k j:Nat} {x:Str} {p pos:Pos} {n:Nat} {m:List L->Res L}
end
end M
namespace L2
open PySem PySem.Spec PyProof.Rows
section
variable {X:Cx} {pos:Pos}
end
end L2
namespace M
open PySem PySem.Spec PyProof.Rows L2
section
variable {X:Cx} {E:L2.St->XK} {pos:Pos}
end
end M
namespace L2
open PySem PySem.Spec PyProof.Rows
section
variable {X:Cx}
end
end L2
namespace M
open PySem PySem.Spec PyProof.Rows L2
section
variable {K:PySem.W.Frag}
end
end M
namespace L2
open PySem PySem.Spec PyProof.Rows
section
variable {X:Cx}
end
end L2
namespace M
open PySem PySem.Spec PyProof.Rows L2
end M
namespace L2
open PySem PySem.Spec PyProof.Rows
section
variable {prog:Program} {w:World} {A:Around} {E:Value->Shared->Prop} {s:Shared}
end
section
variable {X:Cx}
end
end L2
namespace M
open PySem PySem.Spec PyProof.Rows L2
section
variable {K:PySem.W.Frag}
end
end M
namespace L2
open PySem PySem.Spec PyProof.Rows
section
variable {X:Cx}
end
end L2
namespace M
open PySem PySem.Spec PyProof.Rows L2
variable {K:PySem.W.Frag}
end M
namespace L2
open PySem PySem.Spec PyProof.Rows
section
variable {X:Cx}
end
end L2
namespace M
open PySem PySem.Spec PyProof.Rows L2
section
variable {X:Cx} {E:L2.St->XK} {sts rest A:List Stmt} {st:Stmt} {fA g:MS} {fe:En->Res Ev} {fc:En->Res Bool} {e c:Expr} {pos pos2:Pos}
end
end M
namespace L2
open PySem
section
variable {prog:Program} {w:World} {A:Around} {E:Value->Shared->Prop} {s:Shared} {K:Type} [DecidableEq K] {knd:KeyKind prog w K}
end
section
variable {prog:Program} {w:World} {A:Around} {K:Type} [DecidableEq K] {knd:KeyKind prog w K} {R:Result->Shared->Prop} {I:Addr} {fp wr:List Addr} {G:Array GenState->Array GenState->Prop} {n:Nat} {P:Nat->Value->Prop} {St:Nat->Shared->Prop}
end
section
variable {prog:Program} {w:World} {A:Around} {E:Value->Shared->Prop} {s:Shared} {K:Type} [DecidableEq K] {knd:KeyKind prog w K}
end
section
variable {X:Cx}
end
end L2
namespace M
open PySem PySem.Spec PyProof.Rows L2
theorem lY {K:PySem.W.Frag} {G:Hp}:∀ {zs:List V} {k:List Int},Reps K G zs (k.map .int)->zs=(k.map Sum.inl).map kV
 | [],[],_=>rfl
 | [],_ :: _,r=>by cases r
 | _ :: _,[],r=>by cases r
 | z :: zs,i :: k,.cons r t=>by
  cases r
  rw [lY t]
  rfl
theorem mulL {prog:Program} {w:World} {A:Around} {E:Value->Shared->Prop} {s:Shared} {l:Addr} {items:Array Value} {k:Nat} {x:Int} {u:Tok} {Q:Value->Shared->Prop} (hl:s.heap.get? l=some { cls:=.type "list",dict:=none,data:=.seq items k,slots:=#[] }) (lo:-1000<=x) (hi:x<=1000) (sz:items.size<=1000)
  (h:Q (.ref s.heap.objs.size) { s with heap:=s.heap.push { cls:=.type "list",data:=.seq (List.foldl (fun a b=>a++b) #[] (List.replicate (if items.isEmpty=true then 0 else x.toNat) items)) } }):wpAny (model prog w) A (binaryOp .Mult (.ref l) (.int x u)) Q E s:=by
 have z:items.size*x.toNat<=1000*1000:=Nat.mul_le_mul sz (by omega)
 refine wpAny_binaryOp_repeat_ref (T:="list") (U:="int") (by decide) ⟨_,hl,rfl⟩ (fun s'=>typeIs_int s' x u) noFill_list_mul F.fills_int_mul F.slot_int_rmul repeat_list F.slot_int_index.lookup ?_
 refine call_meets F.slot_int_rmul (typeIs_int s x u) F.entry_int_rmul (F.args_int_rmul_2 _ _) (int___rmul___int_list x u l items k) ⟨hl,rfl,⟨_,hl,rfl⟩,?_⟩
 exact call_meets F.slot_list_mul ⟨_,hl,rfl⟩ F.entry_list_mul (F.args_list_mul_2 _ _) (AutoListH.list___mul___list_int_3 l items k x u (by simp [Builtin.List.listFitsIndex];omega) (by omega) (by simp [Builtin.List.listTooLong,sizeLine];omega)) ⟨hl,h⟩
theorem aCh (its:List Value) (n:Nat):List.foldl (fun a b=>a++b) #[] (List.replicate (if its.toArray.isEmpty=true then 0 else n) its.toArray)=(List.replicate n its).flatten.toArray:=by
 have g:∀ (m:Nat) (acc:List Value),List.foldl (fun a b=>a++b) acc.toArray (List.replicate m its.toArray)=(acc++(List.replicate m its).flatten).toArray:=by
  intro m
  induction m with
  | zero=>intro acc;simp
  | succ m ih =>
   intro acc
   rw [List.replicate_succ,List.foldl_cons,show acc.toArray++its.toArray=(acc++its).toArray by simp,ih,List.replicate_succ,List.flatten_cons,List.append_assoc]
 cases its with
 | nil =>
  simp
 | cons a r =>
  have:=g n []
  rw [List.nil_append] at this
  simpa using this
theorem zA {xs:List V} {its:List Value} (r:Vals xs its):∀ m:Nat,Vals (List.replicate m xs).flatten (List.replicate m its).flatten
 | 0=>.nil
 | m+1=>by
  rw [List.replicate_succ,List.replicate_succ,List.flatten_cons,List.flatten_cons]
  exact r.append (zA r m)
theorem y4 {K:PySem.W.Frag} {G:Hp} {xs:List V} {ds:List D} (r:Reps K G xs ds):∀ m:Nat,Reps K G (List.replicate m xs).flatten (List.replicate m ds).flatten
 | 0=>.nil
 | m+1=>by
  rw [List.replicate_succ,List.replicate_succ,List.flatten_cons,List.flatten_cons]
  exact r.append (y4 r m)
section
variable {X:Cx} {K:PySem.W.Frag}
def aKm:R2:=fun x y H Q=>∃ l xs n,x=.ref l/\y=.int n/\Rd H l (.lst xs)/\xs.length<=1000/\-1000<=n/\n<=1000/\∀ p,H p=none->Q (.ref p) (upd H p (.lst (List.replicate n.toNat xs).flatten))
theorem aIg:OpR X (binaryOp .Mult) aKm:=by
 intro pins s σ H x y v u Q I rx ry h
 obtain ⟨l,xs,n,rfl,rfl,hH,hz,lo,hi,q⟩:=h
 cases rx
 obtain ⟨tk,rfl⟩:=ry
 obtain ⟨z,its,k,r,e⟩:=hH.ok I.hok
 have hl:=r.length
 refine mulL e lo hi (by rw [List.size_toArray];omega) ?_
 rw [aCh]
 have z2:n.toNat*xs.length<=1000*1000:=Nat.mul_le_mul (by omega) (by omega)
 exact ⟨.ref _,_,I.lnew (t':=s.toks) (zA r n.toNat) (by rw [show (List.replicate n.toNat xs).flatten.length=n.toNat*xs.length by simp];exact Nat.le_trans z2 (by decide)),rfl,q _ I.fresh⟩
def aG9 (x y:Ev):Res Ev:=match jX x,y with
 | some ds,.p (.int n)=>if ds.length<=1000/\-1000<=n/\n<=1000 then .ok (.f (.list (List.replicate n.toNat ds).flatten)) else .bad
 | _,_=>.bad
theorem aEi:NoX aG9:=by
 intro x y A h
 unfold aG9 at h
 split at h
 ·split at h<;>cases h
 ·cases h
theorem aJf:OpM K aKm aG9:=by
 intro W G H v u x y Q gh hx hy hw
 unfold aG9 at hw
 split at hw
 ·rename_i ds n e1 e2
  obtain ⟨a,xs,rfl,h1,h2⟩:=vK gh hx e1
  rw [e2] at hy
  cases hy
  split at hw
  ·rename_i hl
   refine ⟨a,xs,n,rfl,rfl,h1,by rw [h2.length];exact hl.1,hl.2.1,hl.2.2,fun p hp=>?_⟩
   exact hw _ _ _ (Step.lay gh hp) ⟨p,_,rfl,hp,gh.free hp,cS,.lst (y4 h2 _)⟩
  ·exact hw.elim
 ·exact hw.elim
end
end M
namespace N
open PySem PySem.Spec PyProof.Rows L2 M
def frD (x:Int×Int):D:=.tuple [.int x.1,.int x.2]
abbrev Pl:=Int×Int×(Int×Int)
def plD (p:Pl):D:=.tuple [.int p.1,.int p.2.1,frD p.2.2]
def slD (p:Int×Int):D:=.tuple [.int p.1,.int p.2]
theorem at0 {α:Type} (x:α) (r:List α):atI (x :: r) 0=some x:=kU (j:=0) rfl
theorem at1 {α:Type} (x y:α) (r:List α):atI (x :: y :: r) 1=some y:=kU (j:=1) rfl
theorem at2 {α:Type} (x y z:α) (r:List α):atI (x :: y :: z :: r) 2=some z:=kU (j:=2) rfl
theorem gZ (i j:Int):PyData.eqv (.int i) (.int j)=(i == j):=by simp [PyData.eqv]
theorem gY (i:Int):SeqAt.shaped (.int i)=true:=by simp [SeqAt.shaped,PyData.canLay0,PyData.depth]
def aK4 {α:Type} (f:D->Option α):List D->Option (List α)
 | []=>some []
 | d :: r=>match f d with
  | none=>none
  | some a=>match aK4 f r with
   | none=>none
   | some as=>some (a :: as)
theorem l4 {α:Type} {f:D->Option α} {enc:α->D} (h:∀ a,f (enc a)=some a):∀ xs:List α,aK4 f (xs.map enc)=some xs
 | []=>rfl
 | x :: xs=>by
  show (match f (enc x) with | none=>none | some a=>match aK4 f (xs.map enc) with | none=>none | some as=>some (a :: as))=_
  rw [h x,l4 h xs]
def aN4:D->Option (Int×Int)
 | .tuple [.int a,.int b]=>some (a,b)
 | _=>none
def aPf:D->Option Pl
 | .tuple [.int i,.int j,.tuple [.int a,.int b]]=>some (i,j,(a,b))
 | _=>none
theorem y3 (x:Int×Int):aN4 (frD x)=some x:=rfl
theorem yM (x:Pl):aPf (plD x)=some x:=rfl
theorem eC {α:Type} {g:D->Option (Option D)} {enc:α->D} {out:α->D}:∀ xs:List α,(∀ x∈xs,g (enc x)=some (some (out x)))->mQ g (xs.map enc)=some (xs.map out)
 | [],_=>rfl
 | x :: xs,h=>by
  show (match g (enc x) with | none=>none | some o=>match mQ g (xs.map enc) with | none=>none | some r=>some (match o with | some y=>y :: r | none=>r))=_
  rw [h x (.head _),eC xs fun y hy=>h y (.tail _ hy)]
  rfl
def ltF (x y:Int×Int):Bool:=decide (x.1*y.2 < y.1*x.2)
def best (b:Int×Int):List (Int×Int)->Int×Int
 | []=>b
 | x :: r=>best (if ltF b x=true then x else b) r
def FSz (n:Nat) (x:Int×Int):Prop:=Sz n x.1/\Sz n x.2
def Good (n:Nat) (x:Int×Int):Prop:=1<=x.2/\Sz n x.1/\Sz n x.2
theorem Good.fsz {n:Nat} {x:Int×Int} (h:Good n x):FSz n x:=h.2
theorem Good.mono {m n:Nat} {x:Int×Int} (h:Good m x) (l:m<=n):Good n x:=⟨h.1,h.2.1.mono l,h.2.2.mono l⟩
theorem lN {n:Nat} {t b:Int} (ht:Sz n t) (hb:Sz n b) (h0:b≠0):Good n (FR.mk t b):=⟨(FR.mP h0).1.pos,Sz.le ht (natAbs_fdiv_le _ _),Sz.le hb (natAbs_fdiv_le _ _)⟩
def hT (i:Int) (x:Int×Int):Int×Int:=FR.mk (i*x.1) (1*x.2)
def hP (x y:Int×Int):Int×Int:=FR.mk (x.1*y.2+y.1*x.2) (x.2*y.2)
def hgt (p:Pl) (pt:(Int×Int)×(Int×Int)):Int×Int:=hP (hP (hT p.1 pt.1) (hT p.2.1 pt.2)) p.2.2
theorem aLo {m n:Nat} {x y:Int×Int} (hx:Good m x) (hy:Good n y):Good (m+n+1) (hP x y) :=
 lN (Sz.add (Sz.mul hx.2.1 hy.2.2) ((Sz.mul hy.2.1 hx.2.2).mono (by omega))) ((Sz.mul hx.2.2 hy.2.2).mono (by omega)) (fun z=>by
  rcases Int.mul_eq_zero.mp z with q | q
  ·have:=hx.1;omega
  ·have:=hy.1;omega)
theorem Good.ne {m n:Nat} {x y:Int×Int} (hx:Good m x) (hy:Good n y):x.2*y.2≠0:=fun z=>by
 rcases Int.mul_eq_zero.mp z with q | q
 ·have:=hx.1;omega
 ·have:=hy.1;omega
theorem aL5:Sz 2000 (1:Int):=by unfold Sz;exact Nat.one_lt_two_pow (by decide)
open Classical in
noncomputable def mOf {α:Type} (enc:α->List L) (P:α->Prop) (g:α->Res L) (ls:List L):Res L:=if h:∃ a,enc a=ls/\P a then g h.choose else .bad
theorem dI {α:Type} {enc:α->List L} {P:α->Prop} {g:α->Res L} (inj:∀ a b,enc a=enc b->a=b) {a:α} (h:P a):mOf enc P g (enc a)=g a:=by
 have hx:∃ b,enc b=enc a/\P b:=⟨a,rfl,h⟩
 unfold mOf
 rw [dif_pos hx,inj _ _ hx.choose_spec.1]
theorem dJ {α:Type} {enc:α->List L} {P:α->Prop} {g:α->Res L} {n:Nat} {f:MS} (h:∀ a,P a->fJ n f (enc a)=g a):∀ ls,mOf enc P g ls=.bad\/fJ n f ls=mOf enc P g ls:=by
 intro ls
 unfold mOf
 by_cases hx:∃ a,enc a=ls/\P a
 ·rw [dif_pos hx]
  exact .inr ((congrArg _ hx.choose_spec.1.symm).trans (h _ hx.choose_spec.2))
 ·exact .inl (dif_neg hx)
theorem frI {a b:Int×Int} (h:frD a=frD b):a=b:=Option.some.inj (congrArg aN4 h)
theorem plI {a b:Pl} (h:plD a=plD b):a=b:=Option.some.inj (congrArg aPf h)
theorem aNd {a b:List Pl} (h:a.map plD=b.map plD):a=b:=by
 have e:=congrArg (aK4 aPf) h
 rw [l4 yM,l4 yM] at e
 exact Option.some.inj e
theorem ptI {x y:(Int×Int)×(Int×Int)} (h:PyData.tuple [frD x.1,frD x.2]=.tuple [frD y.1,frD y.2]):x=y:=by
 injection h with h
 injection h with h1 h2
 injection h2 with h2 _
 exact Prod.ext (frI h1) (frI h2)
def ePH (a:Pl×(Int×Int)×(Int×Int)):List L:=[.p (plD a.1),.p (.tuple [frD a.2.1,frD a.2.2])]
theorem aJy (a b:Pl×(Int×Int)×(Int×Int)) (h:ePH a=ePH b):a=b:=by
 unfold ePH at h
 injection h with h1 h2
 injection h2 with h2 _
 injection h1 with h1
 injection h2 with h2
 exact Prod.ext (plI h1) (ptI h2)
def eHA (a:List Pl×(Int×Int)×(Int×Int)):List L:=[.p (.list (a.1.map plD)),.p (.tuple [frD a.2.1,frD a.2.2])]
theorem aDe (a b:List Pl×(Int×Int)×(Int×Int)) (h:eHA a=eHA b):a=b:=by
 unfold eHA at h
 injection h with h1 h2
 injection h2 with h2 _
 injection h1 with h1
 injection h1 with h1
 injection h2 with h2
 exact Prod.ext (aNd h1) (ptI h2)
theorem nH (a:D) (r:List D):ixE (.p (.tuple (a :: r))) (.p (.int 0))=.ok (.p a):=by simp [ixE,gC,at0]
theorem nL (a b:D) (r:List D):ixE (.p (.tuple (a :: b :: r))) (.p (.int 1))=.ok (.p b):=by simp [ixE,gC,at1]
theorem rY (a b d:D) (r:List D):ixE (.p (.tuple (a :: b :: d :: r))) (.p (.int 2))=.ok (.p d):=by simp [ixE,gC,at2]
theorem jO (p:Pl):ixE (.p (plD p)) (.p (.int 0))=.ok (.p (.int p.1)):=nH _ _
theorem j7 (p:Pl):ixE (.p (plD p)) (.p (.int 1))=.ok (.p (.int p.2.1)):=nL _ _ _
theorem jL (p:Pl):ixE (.p (plD p)) (.p (.int 2))=.ok (.p (frD p.2.2)):=rY _ _ _ _
theorem mR (p:Int×Int):ixE (.p (frD p)) (.p (.int 0))=.ok (.p (.int p.1)):=nH _ _
theorem nV (p:Int×Int):ixE (.p (frD p)) (.p (.int 1))=.ok (.p (.int p.2)):=nL _ _ _
section
variable {κ α:Type} [DecidableEq κ]
def iN:List (κ×α)->κ->Option α
 | [],_=>none
 | p :: r,k=>if p.1=k then some p.2 else iN r k
def aBf (k:κ) (v:α):List (κ×α)->List (κ×α)
 | []=>[]
 | p :: r=>(if p.1=k then (p.1,v) else p) :: aBf k v r
def mZ (m:List (κ×α)) (k:κ) (v:α):List (κ×α):=if (iN m k).isSome=true then aBf k v m else m++[(k,v)]
def encM (ek:κ->D) (ev:α->D) (m:List (κ×α)):List (D×D):=m.map fun p=>(ek p.1,ev p.2)
variable {ek:κ->D} {ev:α->D} (inj:∀ a b,ek a=ek b->a=b)
include inj
theorem rV (k:κ):∀ m:List (κ×α),yS (encM ek ev m) (ek k)=(iN m k).map ev
 | []=>rfl
 | p :: r=>by
  unfold encM
  rw [List.map_cons]
  unfold yS iN
  by_cases e:p.1=k
  ·rw [if_pos (by rw [e]),if_pos e];rfl
  ·rw [if_neg (fun z=>e (inj _ _ z)),if_neg e]
   exact rV k r
theorem zG (k:κ) (v:α):∀ m:List (κ×α),aGy (ek k) (ev v) (encM ek ev m)=encM ek ev (aBf k v m)
 | []=>rfl
 | p :: r=>by
  have ih:=zG k v r
  unfold encM at ih ⊢
  rw [List.map_cons]
  unfold aGy aBf
  rw [List.map_cons,ih]
  by_cases e:p.1=k
  ·rw [if_pos (by rw [e]),if_pos e]
  ·rw [if_neg (fun z=>e (inj _ _ z)),if_neg e]
theorem aFs (k:κ) (v:α) (m:List (κ×α)):aEd (encM ek ev m) (ek k) (ev v)=encM ek ev (mZ m k v):=by
 unfold aEd mZ
 rw [rV inj]
 cases e:iN m k with
 | none =>
  rw [if_neg (by simp),if_neg (by simp)]
  unfold encM
  rw [List.map_append]
  rfl
 | some x =>
  rw [if_pos (by rfl),if_pos (by rfl)]
  exact zG inj k v m
end
theorem aCx (a b:Int×Int) (h:slD a=slD b):a=b:=by
 unfold slD at h
 injection h with h
 injection h with h1 h2
 injection h2 with h2 _
 injection h1 with h1
 injection h2 with h2
 exact Prod.ext h1 h2
theorem qC {α:Type} {ev:α->D} (m:List ((Int×Int)×α)):dsp (encM slD ev m)=(false,encM slD ev m):=by
 cases m<;>rfl
theorem aAx (s:Int×Int):(aJ1 (slD s)).isSome=true:=rfl
theorem oP {α:Type} {ev:α->D} (m:List ((Int×Int)×α)) (s:Int×Int):vJ (encM slD ev m) (slD s)=some ((iN m s).map ev):=by
 unfold vJ
 rw [qC]
 dsimp only
 rw [if_pos (aAx s),rV aCx]
theorem wL {α:Type} {ev:α->D} (m:List ((Int×Int)×α)) (s:Int×Int) (v:α) (h:m.length<=100000):zZ (encM slD ev m) (slD s) (ev v)=some (encM slD ev (mZ m s v)):=by
 unfold zZ
 rw [qC]
 dsimp only
 rw [if_pos ⟨aAx s,by unfold encM;rw [List.length_map];exact h⟩,aFs aCx]
theorem sL {α κ:Type} [DecidableEq κ] (k:κ) (v:α):∀ m:List (κ×α),(aBf k v m).length=m.length
 | []=>rfl
 | _ :: r=>by unfold aBf;rw [List.length_cons,List.length_cons,sL k v r]
theorem jY {α κ:Type} [DecidableEq κ] (m:List (κ×α)) (k:κ) (v:α):(mZ m k v).length<=m.length+1:=by
 unfold mZ
 split
 ·rw [sL];exact Nat.le_succ _
 ·rw [List.length_append];exact Nat.le_refl _
theorem u4 {α κ:Type} [DecidableEq κ] (k:κ) (v:α) (j:κ):∀ m:List (κ×α),iN (aBf k v m) j=if j=k then (iN m k).map (fun _=>v) else iN m j
 | []=>by unfold aBf iN;split<;>rfl
 | p :: r=>by
  have ih:=u4 k v j r
  unfold aBf iN
  by_cases e:p.1=k
  ·rw [if_pos e]
   by_cases e2:p.1=j
   ·have:j=k:=by rw [<- e2,e]
    rw [if_pos e2,if_pos this,if_pos e];rfl
   ·have:j≠k:=fun z=>e2 (by rw [e,z])
    rw [if_neg e2,if_neg this,if_neg e2]
    rw [if_neg this] at ih
    exact ih
  ·rw [if_neg e]
   by_cases e2:p.1=j
   ·have:j≠k:=fun z=>e (by rw [e2,z])
    rw [if_pos e2,if_neg this,if_pos e2]
   ·rw [if_neg e2,ih]
    by_cases e3:j=k
    ·rw [if_pos e3,if_pos e3,if_neg e]
    ·rw [if_neg e3,if_neg e3,if_neg e2]
theorem y8 {α κ:Type} [DecidableEq κ] (j:κ) (l:List (κ×α)):∀ m:List (κ×α),iN (m++l) j=match iN m j with
  | some x=>some x
  | none=>iN l j
 | []=>rfl
 | p :: r=>by
  have ih:=y8 j l r
  rw [List.cons_append]
  show (if p.1=j then some p.2 else iN (r++l) j)=match (if p.1=j then some p.2 else iN r j) with
   | some x=>some x
   | none=>iN l j
  by_cases e:p.1=j
  ·rw [if_pos e,if_pos e]
  ·rw [if_neg e,if_neg e];exact ih
theorem mM {α κ:Type} [DecidableEq κ] (m:List (κ×α)) (k:κ) (v:α) (j:κ):iN (mZ m k v) j=if j=k then some v else iN m j:=by
 unfold mZ
 cases e:iN m k with
 | none =>
  rw [if_neg (by simp),y8]
  by_cases ej:j=k
  ·subst ej;rw [e,if_pos rfl];unfold iN;rw [if_pos rfl]
  ·rw [if_neg ej]
   cases e2:iN m j with
   | some x=>rfl
   | none=>unfold iN;rw [if_neg (fun z=>ej z.symm)];rfl
 | some x =>
  rw [if_pos (by rfl),u4]
  by_cases ej:j=k
  ·rw [if_pos ej,if_pos ej,e];rfl
  ·rw [if_neg ej,if_neg ej]
def slp (p:Pl):Int×Int:=(p.1,p.2.1)
def kys {α:Type} (m:List ((Int×Int)×α)):List (List Int):=m.map fun e=>[e.1.1,e.1.2]
def un2 (k:List Int):Int×Int:=(k.getD 0 0,k.getD 1 0)
def aMg {α:Type} (m:List ((Int×Int)×α)) (d:α) (k:List Int):α:=(iN m (un2 k)).getD d
theorem aEu {α:Type} {ev:α->D} (m:List ((Int×Int)×α)):(encM slD ev m).map (·.1)=(kys m).map qZ:=by
 unfold encM kys
 rw [List.map_map,List.map_map]
 rfl
theorem aKy {α:Type} (m:List ((Int×Int)×α)):((kys m).all fun k=>!k.isEmpty)=true:=by
 unfold kys
 rw [List.all_map]
 exact List.all_eq_true.mpr fun _ _=>rfl
theorem uR {α:Type} {ev:α->D} (m:List ((Int×Int)×α)) (h:m.length < 64):eU [.p (.dict (encM slD ev m))]=.ok (.f (.list ((lH (kys m)).map qZ))):=by
 unfold eU
 simp only [kN,qC,aEu,u9]
 rw [if_pos trivial,if_pos ⟨aKy m,by unfold kys;rw [List.length_map];exact h⟩]
theorem zD {α κ:Type} [DecidableEq κ]:∀ {m:List (κ×α)} {e:κ×α},e∈m->∃ v,iN m e.1=some v
 | p :: r,e,h=>by
  unfold iN
  by_cases q:p.1=e.1
  ·rw [if_pos q];exact ⟨_,rfl⟩
  ·rw [if_neg q]
   rcases List.mem_cons.mp h with z | z
   ·exact absurd (by rw [z]) q
   ·exact zD z
theorem qY {α:Type} {m:List ((Int×Int)×α)} {k:List Int} (h:k∈lH (kys m)) (d:α):qZ k=slD (un2 k)/\k=[(un2 k).1,(un2 k).2]/\iN m (un2 k)=some (aMg m d k):=by
 have h1:=(gI (kys m)).mem_iff.mp h
 obtain ⟨e,he,rfl⟩:=List.mem_map.mp h1
 obtain ⟨v,hv⟩:=zD he
 have hu:un2 [e.1.1,e.1.2]=e.1:=rfl
 refine ⟨rfl,rfl,?_⟩
 unfold aMg
 rw [hu,hv]
 rfl
theorem aAr {α:Type} (f:α->Bool):∀ xs:List α,vT (xs.map fun x=>PyData.bool (f x))=some (xs.map f)
 | []=>rfl
 | x :: xs=>by
  show (match vT (xs.map fun x=>PyData.bool (f x)) with | some bs=>some (f x :: bs) | none=>none)=_
  rw [aAr f xs]
  rfl
theorem any_map {α:Type} (f:α->Bool) (xs:List α):(xs.map f).any id=xs.any f:=by rw [List.any_map];rfl
theorem uX {x:Int} (n:Nat) (h:x.natAbs < 2 ^ n):Sz n x:=h
theorem cm {i j:Int} {m n:Nat} (h1:Sz m i) (h2:Sz n j) (hm:m<=60000) (hn:n<=60000):CMulW i j:=⟨h1.mono hm,h2.mono hn⟩
theorem bX {a b:Int} (hb:0 < b):0<=a.fmod b/\a.fmod b < b:=by
 rw [Int.fmod_eq_emod_of_nonneg a (Int.le_of_lt hb)]
 exact ⟨Int.emod_nonneg a (by omega),Int.emod_lt_of_pos a hb⟩
theorem aR {f g:MS} {en e1:En} (h:f en=some (.nx e1)):bB f g en=g e1:=by unfold bB;rw [h]
theorem j8 {f g:MS} {en:En} {l:L} (h:f en=some (.rt l)):bB f g en=some (.rt l):=by unfold bB;rw [h]
theorem dA {i:Nat} {fe:En->Res Ev} {en:En} {d:D} (h:fe en=.ok (.p d)):bU i fe en=some (.nx (en.set i (some (.p d)))):=by unfold bU;rw [h]
theorem iH {i:Nat} {fe:En->Res Ev} {en:En} {d:D} (h:fe en=.ok (.f d)):bU i fe en=some (.nx (en.set i (some (.o d)))):=by unfold bU;rw [h]
theorem k8 {ft:En->Res Bool} {f g:MS} {en:En} (h:ft en=.ok true):dN ft f g en=f en:=by unfold dN;rw [h];rfl
theorem jB {ft:En->Res Bool} {f g:MS} {en:En} (h:ft en=.ok false):dN ft f g en=g en:=by unfold dN;rw [h];rfl
theorem cF {n:Nat} {f:MS} {ls:List L} {l:L} (h:f (bQ n ls)=some (.rt l)):fJ n f ls=.ok l:=by unfold fJ;rw [h]
theorem aDx {α:Type} (f:α->D) (h:∀ a,PyData.canLay0 (f a)=true):∀ xs:List α,PyData.canLayAll0 (xs.map f)=true
 | []=>rfl
 | x :: xs=>by rw [List.map_cons,PyData.canLayAll0,h x,aDx f h xs];rfl
theorem aDa {α:Type} (f:α->D) (n:Nat) (h:∀ a,PyData.depth (f a)<=n):∀ xs:List α,PyData.depthAll (xs.map f)<=n
 | []=>Nat.zero_le _
 | x :: xs=>by
  rw [List.map_cons,PyData.depthAll]
  exact Nat.max_le.mpr ⟨h x,aDa f n h xs⟩
theorem aLc (p:Pl):PyData.canLay0 (plD p)=true:=by simp [plD,frD,PyData.canLay0,PyData.canLayAll0]
theorem aM7 (p:Pl):PyData.depth (plD p)<=9:=by simp [plD,frD,PyData.depth,PyData.depthAll]
theorem aJe {α:Type} (f:α->D) (h1:∀ a,PyData.canLay0 (f a)=true) (h2:∀ a,PyData.depth (f a)<=9) (xs:List α):SeqAt.shaped (.list (xs.map f))=true:=by
 have a:PyData.canLay0 (.list (xs.map f))=true:=by rw [PyData.canLay0];exact aDx f h1 xs
 have b:PyData.depth (.list (xs.map f))<=64:=by
  rw [PyData.depth]
  have:=aDa f 9 h2 xs
  omega
 unfold SeqAt.shaped
 rw [a,decide_eq_true b]
 rfl
theorem aB1 (ps:List Pl):SeqAt.shaped (.list (ps.map plD))=true:=aJe plD aLc aM7 ps
theorem nN {fi:En->Res (List D)} {tg:D->En->Option En} {f:MS} {en:En} {ds:List D} (h:fi en=.ok ds):vN fi tg f en=fM tg f ds en:=by unfold vN;rw [h]
theorem iD {α:Type} {g:D->Option (Option D)} {enc:α->D} {out:α->D} {p:α->Bool}:∀ xs:List α,(∀ x∈xs,g (enc x)=some (if p x=true then some (out x) else none))->mQ g (xs.map enc)=some ((xs.filter p).map out)
 | [],_=>rfl
 | x :: xs,h=>by
  show (match g (enc x) with | none=>none | some o=>match mQ g (xs.map enc) with | none=>none | some r=>some (match o with | some y=>y :: r | none=>r))=_
  rw [h x (.head _),iD xs fun y hy=>h y (.tail _ hy),List.filter_cons]
  cases p x<;>rfl
theorem tJ {α:Type} (f g:α->D):∀ xs:List α,aAi (xs.map f) (xs.map g)=xs.map fun x=>.tuple [f x,g x]
 | []=>rfl
 | x :: xs=>by
  show PyData.tuple [f x,g x] :: aAi (xs.map f) (xs.map g)=_
  rw [tJ f g xs]
  rfl
theorem aJ6 (x y:Int×Int):PyData.eqv (frD x) (frD y)=decide (x=y):=by
 have:PyData.eqv (frD x) (frD y)=(x.1 == y.1 && (x.2 == y.2 && true)):=by simp [frD,PyData.eqv,PyData.eqvAll]
 rw [this]
 by_cases h:x=y
 ·subst h;simp
 ·rw [decide_eq_false h]
  by_cases h1:x.1=y.1
  ·have h2:¬ x.2=y.2:=fun h2=>h (Prod.ext h1 h2)
   simp [h1,h2]
  ·simp [h1]
theorem aDs {α:Type} (f:α->D) (h:∀ a,lfD (f a)=true):∀ xs:List α,lfA (xs.map f)=true
 | []=>by simp [lfA]
 | x :: xs=>by rw [List.map_cons];unfold lfA;rw [h x,aDs f h xs];rfl
theorem aOa (x:Int×Int):lfD (frD x)=true:=by simp [frD,lfD,lfA]
theorem aNm (x:Pl):lfD (plD x)=true:=by simp [plD,frD,lfD,lfA]
theorem Sz.addM {m n:Nat} {x y:Int} (hx:Sz m x) (hy:Sz n y):Sz (max m n+1) (x+y):=Sz.add (hx.mono (Nat.le_max_left _ _)) (hy.mono (Nat.le_max_right _ _))
theorem Sz.subM {m n:Nat} {x y:Int} (hx:Sz m x) (hy:Sz n y):Sz (max m n+1) (x - y):=Sz.sub (hx.mono (Nat.le_max_left _ _)) (hy.mono (Nat.le_max_right _ _))
theorem lX {x:Int} (h:x.natAbs < 2 ^ 4):Sz 4 x:=h
theorem yR {x:Int} (h:x.natAbs < 2 ^ 70):Sz 70 x:=h
theorem aGv {x:Int} (h:x.natAbs < 2 ^ 20):Sz 20 x:=h
theorem aG4 {x:Int} (h:x.natAbs < 2 ^ 200):Sz 200 x:=h
theorem lW {n:Nat} {a b:Int} (h:0 < b) (hb:Sz n b):Sz n (a.fmod b):=by
 have:=bX (a:=a) h
 exact Sz.le hb (by omega)
theorem rX {n:Nat} {a b:Int} (ha:Sz n a):Sz n (a.fdiv b):=Sz.le ha (natAbs_fdiv_le _ _)
theorem cm2 {m n:Nat} {i j:Int} (h1:Sz m i) (h2:Sz n j) (hm:m<=60000) (hn:n<=60000):CMulW i j:=⟨h1.mono hm,h2.mono hn⟩
theorem cd2 {m:Nat} {j:Int} (i:Int) (h0:j≠0) (h1:Sz m j) (hm:m<=8000):iG i j:=⟨h0,h1.mono hm⟩
theorem mD {i j:Int} (h:CMulW i j):cV (.p (.int i)) (.p (.int j))=.ok (.p (.int (i*j))):=by simp [cV,tX,h]
theorem fH {i j:Int} (h:iG i j):bO (.p (.int i)) (.p (.int j))=.ok (.p (.int (i.fdiv j))):=by simp [bO,tX,h]
theorem dM {i j:Int} (h:j≠0):bY (.p (.int i)) (.p (.int j))=.ok (.p (.int (i.fmod j))):=by simp [bY,tX,h]
theorem mT {i j:Int} (h:aHg i j):k9 (.p (.int i)) (.p (.int j))=.ok (.p (.int (i ^ j.toNat))):=by simp [k9,tX,h]
theorem kW (i j:Int):dX (.p (.int i)) (.p (.int j))=.ok (.p (.int (i+j))):=by simp [dX]
theorem aDi (i j:Int):jJ (.p (.int i)) (.p (.int j))=.ok (.p (.int (i - j))):=by simp [jJ,gL]
def eII (a:Int×Int):List L:=[.p (.int a.1),.p (.int a.2)]
theorem aDm (a b:Int×Int) (h:eII a=eII b):a=b:=by
 unfold eII at h
 injection h with h1 h2
 injection h2 with h2 _
 injection h1 with h1
 injection h2 with h2
 injection h1 with h1
 injection h2 with h2
 exact Prod.ext h1 h2
theorem aOo {a b:List (Int×Int)} (h:a.map frD=b.map frD):a=b:=by
 have e:=congrArg (aK4 aN4) h
 rw [l4 y3,l4 y3] at e
 exact Option.some.inj e
def eFs (hs:List (Int×Int)):List L:=[.p (.list (hs.map frD))]
theorem sN (a b:List (Int×Int)) (h:eFs a=eFs b):a=b:=by
 unfold eFs at h
 injection h with h _
 injection h with h
 injection h with h
 exact aOo h
def eFF (a:(Int×Int)×(Int×Int)):List L:=[.p (frD a.1),.p (frD a.2)]
theorem lM (a b:(Int×Int)×(Int×Int)) (h:eFF a=eFF b):a=b:=by
 unfold eFF at h
 injection h with h1 h2
 injection h2 with h2 _
 injection h1 with h1
 injection h2 with h2
 exact Prod.ext (frI h1) (frI h2)
abbrev Pt:=(Int×Int)×(Int×Int)
theorem xE {α β:Type} (a:α) (f:α->Res β):(Res.ok a).bind f=f a:=rfl
theorem zM {fe:En->Res Ev} {en:En} {d:D} (h:fe en=.ok (.f d)):dE fe en=some (.rt (.o d)):=by unfold dE;rw [h];rfl
theorem hV {fe:En->Res Ev} {en:En} {d:D} (h:fe en=.ok (.p d)):dE fe en=some (.rt (.p d)):=by unfold dE;rw [h];rfl
theorem gE {n:Nat} {js:List Nat} {fi:En->Res (List D)} {tg:D->En->Option En} {ft:En->Res Bool} {fe:En->Res Ev} {en:En} {ds es:List D} (h1:fi en=.ok ds) (h2:ds.length<=100000) (h3:mQ (a5 n js tg ft fe en) ds=some es):dC n js fi tg ft fe en=.ok (.f (.list es)):=by
 unfold dC
 rw [h1,xE]
 unfold zJ
 rw [if_pos h2,h3]
theorem xM {tg:D->En->Option En} {f:MS} (I:Nat->En->Prop):∀ (ds:List D) (k:Nat) (en:En),I k en->(∀ j d e,ds[j]? = some d->I (k+j) e->∃ e1 e2,tg d e=some e1/\f e1=some (.nx e2)/\I (k+j+1) e2)->∃ e',I (k+ds.length) e'/\fM tg f ds en=some (.nx e')
 | [],k,en,h,_=>⟨en,h,rfl⟩
 | d :: ds,k,en,h,st=>by
  obtain ⟨e1,e2,h1,h2,h3⟩:=st 0 d en rfl h
  obtain ⟨e',g1,g2⟩:=xM I ds (k+1) e2 h3 fun j d' e hd hi=>by
   have:=st (j+1) d' e hd (by rw [show k+(j+1)=k+1+j by omega];exact hi)
   rw [show k+(j+1)+1=k+1+j+1 by omega] at this
   exact this
  refine ⟨e',by rw [show k+(d :: ds).length=k+1+ds.length by rw [List.length_cons];omega];exact g1,?_⟩
  unfold fM
  rw [h1]
  dsimp only
  rw [h2]
  exact g2
theorem tO {α:Type} {enc:α->D} {tg:D->En->Option En} {f:MS} (I:List α->En->Prop):∀ (xs ys:List α) (en:En),I ys en->(∀ x∈xs,∀ zs e,zs.length < ys.length+xs.length->I zs e->∃ e1 e2,tg (enc x) e=some e1/\f e1=some (.nx e2)/\I (zs++[x]) e2)->∃ e',I (ys++xs) e'/\fM tg f (xs.map enc) en=some (.nx e')
 | [],ys,en,h,_=>⟨en,by rw [List.append_nil];exact h,rfl⟩
 | x :: xs,ys,en,h,st=>by
  obtain ⟨e1,e2,h1,h2,h3⟩:=st x (.head _) ys en (by rw [List.length_cons];omega) h
  obtain ⟨e',g1,g2⟩:=tO I xs (ys++[x]) e2 h3 fun y hy zs e hl hi=>st y (.tail _ hy) zs e (by rw [List.length_append] at hl;rw [List.length_cons];simp at hl;omega) hi
  refine ⟨e',by rw [List.append_assoc] at g1;exact g1,?_⟩
  rw [List.map_cons]
  unfold fM
  rw [h1]
  dsimp only
  rw [h2]
  exact g2
theorem aJc (lo:Int) (n j:Nat) (d:D) (h:(qK lo n)[j]? = some d):j < n/\d=.int (lo+(j:Int)):=by
 unfold qK at h
 rw [List.getElem?_map,Option.map_eq_some_iff] at h
 obtain ⟨a,h1,h2⟩:=h
 have q:j < n:=by
  by_cases q:j < n
  ·exact q
  ·rw [List.getElem?_eq_none (by simp;omega)] at h1;cases h1
 rw [List.getElem?_range q] at h1
 cases h1
 exact ⟨q,h2.symm⟩
end N
local macro_rules | `(tactic| walk_at "z") => `(tactic| repeat (first | assumption | apply L2.Sz.mul | apply N.Sz.addM | apply N.Sz.subM | apply L2.Sz.neg | apply N.rX | (apply N.lW; (first | decide | omega)) | exact N.lX (by decide) | exact N.aGv (by decide) | exact N.yR (by decide) | exact N.aG4 (by decide)))
local macro_rules | `(tactic| walk_at "d") => `(tactic| first | assumption | (first | apply N.cm2 | apply N.cd2) <;> (first | decide | omega | (walk_at "z")) | decide | omega)
namespace N
open PySem PySem.Spec PyProof.Rows L2 M
def leF (x y:Int×Int):Prop:=x.1*y.2<=y.1*x.2
theorem kY (x:Int×Int):leF x x:=Int.le_refl _
theorem rF {x y:Int×Int} (h:ltF y x=false):leF x y:=by
 unfold ltF at h
 have:=of_decide_eq_false h
 unfold leF
 omega
theorem aGq {x y:Int×Int} (h:ltF x y=true):leF x y:=by
 unfold ltF at h
 have:=of_decide_eq_true h
 unfold leF
 omega
theorem iL {x y z:Int×Int} (hx:1<=x.2) (hy:1<=y.2) (hz:1<=z.2) (h1:leF x y) (h2:leF y z):leF x z:=by
 unfold leF at *
 have a:=Int.mul_le_mul_of_nonneg_right h1 (show 0<=z.2 by omega)
 have b:=Int.mul_le_mul_of_nonneg_right h2 (show 0<=x.2 by omega)
 refine Int.le_of_mul_le_mul_right (a:=y.2) ?_ (by omega)
 have e1:x.1*z.2*y.2=x.1*y.2*z.2:=by ac_rfl
 have e2:z.1*x.2*y.2=z.1*y.2*x.2:=by ac_rfl
 have e3:y.1*x.2*z.2=y.1*z.2*x.2:=by ac_rfl
 omega
theorem aAk {a b d:Int} (h:d∣a*b) (g:Int.gcd a d=1):d∣b:=by
 have h1:d.natAbs∣a.natAbs*b.natAbs:=by
  rw [<- Int.natAbs_mul]
  exact Int.natAbs_dvd_natAbs.mpr h
 have c:Nat.Coprime d.natAbs a.natAbs:=by
  show Nat.gcd d.natAbs a.natAbs=1
  rw [Nat.gcd_comm]
  exact g
 exact Int.natAbs_dvd_natAbs.mp (Nat.Coprime.dvd_of_dvd_mul_left c h1)
theorem aCa {x y:Int×Int} (hx:FR.Fr x) (hy:FR.Fr y) (h1:leF x y) (h2:leF y x):x=y:=by
 have e:x.1*y.2=y.1*x.2:=Int.le_antisymm h1 h2
 have p1:=hx.pos
 have p2:=hy.pos
 have d1:x.2∣y.2:=by
  have:x.2∣x.1*y.2:=⟨y.1,by rw [e];ac_rfl⟩
  exact aAk this hx.low
 have d2:y.2∣x.2:=by
  have:y.2∣y.1*x.2:=⟨x.1,by rw [<- e];ac_rfl⟩
  exact aAk this hy.low
 have eb:x.2=y.2:=Int.dvd_antisymm (by omega) (by omega) d1 d2
 have et:x.1=y.1:=by
  rw [eb] at e
  exact Int.eq_of_mul_eq_mul_right (by omega) e
 exact Prod.ext et eb
theorem jA:∀ (xs:List (Int×Int)) (b:Int×Int),best b xs=b\/best b xs∈xs
 | [],b=>.inl rfl
 | x :: xs,b=>by
  show best (if ltF b x=true then x else b) xs=b\/best (if ltF b x=true then x else b) xs∈x :: xs
  rcases jA xs (if ltF b x=true then x else b) with h | h
  ·rw [h]
   split
   ·exact .inr (.head _)
   ·exact .inl rfl
  ·exact .inr (.tail _ h)
theorem tQ:∀ (xs:List (Int×Int)) (b:Int×Int),1<=b.2->(∀ x∈xs,1<=x.2)->leF b (best b xs)/\(∀ x∈xs,leF x (best b xs))/\1<=(best b xs).2
 | [],b,h,_=>⟨kY b,(fun _ z=>nomatch z),h⟩
 | x :: xs,b,h,hx=>by
  have hx0:=hx x (.head _)
  have hb2:1<=(if ltF b x=true then x else b).2:=by split<;>assumption
  have g:best b (x :: xs)=best (if ltF b x=true then x else b) xs:=rfl
  obtain ⟨i1,i2,i3⟩:=tQ xs (if ltF b x=true then x else b) hb2 fun y hy=>hx y (.tail _ hy)
  rw [g]
  have l1:leF b (if ltF b x=true then x else b):=by
   split
   ·rename_i z;exact aGq z
   ·exact kY b
  have l2:leF x (if ltF b x=true then x else b):=by
   split
   ·exact kY x
   ·rename_i z;exact rF (by simpa using z)
  refine ⟨iL h hb2 i3 l1 i1,fun y hy=>?_,i3⟩
  rcases List.mem_cons.mp hy with z | z
  ·rw [z];exact iL hx0 hb2 i3 l2 i1
  ·exact i2 y z
structure AF (x y:Int×Int):Prop where
 a:1<=x.2
 b:1<=y.2
 e:x.1*y.2=y.1*x.2
theorem AF.refl {x:Int×Int} (h:1<=x.2):AF x x:=⟨h,h,rfl⟩
theorem bN {x y:Int} (hx:1<=x) (hy:1<=y):1<=x*y:=by
 have:=Int.mul_pos (show 0 < x by omega) (show 0 < y by omega)
 omega
theorem uH {t b:Int} {y:Int×Int} (hb:1<=b) (hy:1<=y.2) (h:t*y.2=y.1*b):AF (FR.mk t b) y:=by
 obtain ⟨f1,e1⟩:=FR.mP (t:=t) (b:=b) (by omega)
 refine ⟨f1.pos,hy,?_⟩
 have h2:(FR.mk t b).1*y.2*b=y.1*(FR.mk t b).2*b:=by
  have e3:(FR.mk t b).1*y.2*b=(FR.mk t b).1*b*y.2:=by ac_rfl
  rw [e3,e1]
  have e4:t*(FR.mk t b).2*y.2=t*y.2*(FR.mk t b).2:=by ac_rfl
  rw [e4,h]
  ac_rfl
 exact Int.eq_of_mul_eq_mul_right (by omega) h2
theorem aNj {i:Int} {x x':Int×Int} (h:AF x x'):AF (hT i x) (i*x'.1,x'.2):=by
 obtain ⟨a,b,e⟩:=h
 refine uH (by omega) b ?_
 show i*x.1*x'.2=i*x'.1*(1*x.2)
 rw [Int.mul_assoc,e,Int.one_mul,Int.mul_assoc]
theorem aNi {x x' y y':Int×Int} (h:AF x x') (g:AF y y'):AF (hP x y) (x'.1*y'.2+y'.1*x'.2,x'.2*y'.2):=by
 obtain ⟨a,b,e⟩:=h
 obtain ⟨a2,b2,e2⟩:=g
 refine uH (bN a a2) (bN b b2) ?_
 show (x.1*y.2+y.1*x.2)*(x'.2*y'.2)=(x'.1*y'.2+y'.1*x'.2)*(x.2*y.2)
 rw [Int.add_mul,Int.add_mul]
 have e3:x.1*y.2*(x'.2*y'.2)=x.1*x'.2*(y.2*y'.2):=by ac_rfl
 have e4:y.1*x.2*(x'.2*y'.2)=y.1*y'.2*(x.2*x'.2):=by ac_rfl
 rw [e3,e4,e,e2]
 have e5:x'.1*x.2*(y.2*y'.2)=x'.1*y'.2*(x.2*y.2):=by ac_rfl
 have e6:y'.1*y.2*(x.2*x'.2)=y'.1*x'.2*(x.2*y.2):=by ac_rfl
 rw [e5,e6]
theorem oF {x x' y y':Int×Int} (h:AF x x') (g:AF y y'):ltF x y=ltF x' y':=by
 obtain ⟨a,b,e⟩:=h
 obtain ⟨a2,b2,e2⟩:=g
 unfold ltF
 have k:(y.1*x.2 - x.1*y.2)*(x'.2*y'.2)=(y'.1*x'.2 - x'.1*y'.2)*(x.2*y.2):=by
  rw [Int.sub_mul,Int.sub_mul]
  have e3:y.1*x.2*(x'.2*y'.2)=y.1*y'.2*(x.2*x'.2):=by ac_rfl
  have e4:x.1*y.2*(x'.2*y'.2)=x.1*x'.2*(y.2*y'.2):=by ac_rfl
  rw [e3,e4,e,e2]
  have e5:y'.1*y.2*(x.2*x'.2)=y'.1*x'.2*(x.2*y.2):=by ac_rfl
  have e6:x'.1*x.2*(y.2*y'.2)=x'.1*y'.2*(x.2*y.2):=by ac_rfl
  rw [e5,e6]
 have p1:=bN b b2
 have p2:=bN a a2
 have iff:0 < (y.1*x.2 - x.1*y.2)↔0 < (y'.1*x'.2 - x'.1*y'.2):=by
  constructor
  ·intro q
   have:=Int.mul_pos q (show 0 < x'.2*y'.2 by omega)
   rw [k] at this
   exact Int.pos_of_mul_pos_left this (by omega)
  ·intro q
   have:=Int.mul_pos q (show 0 < x.2*y.2 by omega)
   rw [<- k] at this
   exact Int.pos_of_mul_pos_left this (by omega)
 rw [decide_eq_decide]
 constructor
 ·intro q;have:=iff.mp (by omega);omega
 ·intro q;have:=iff.mpr (by omega);omega
abbrev R2:=Int×Int
abbrev R3:=Int×Int×Int
def hM (x y:Int×Int):Int×Int:=FR.mk (x.1*y.2 - y.1*x.2) (x.2*y.2)
def hO (x y:Int×Int):Int×Int:=FR.mk (x.1*y.2) (x.2*y.1)
def worst (b:Int×Int):List (Int×Int)->Int×Int
 | []=>b
 | x :: r=>worst (if ltF x b=true then x else b) r
theorem t6:∀ (xs:List (Int×Int)) (b:Int×Int),worst b xs=b\/worst b xs∈xs
 | [],b=>.inl rfl
 | x :: xs,b=>by
  show worst (if ltF x b=true then x else b) xs=b\/worst (if ltF x b=true then x else b) xs∈x :: xs
  rcases t6 xs (if ltF x b=true then x else b) with h | h
  ·rw [h]
   split
   ·exact .inr (.head _)
   ·exact .inl rfl
  ·exact .inr (.tail _ h)
theorem xW:∀ (xs:List (Int×Int)) (b:Int×Int),1<=b.2->(∀ x∈xs,1<=x.2)->leF (worst b xs) b/\(∀ x∈xs,leF (worst b xs) x)/\1<=(worst b xs).2
 | [],b,h,_=>⟨kY b,(fun _ z=>nomatch z),h⟩
 | x :: xs,b,h,hx=>by
  have hx0:=hx x (.head _)
  have hb2:1<=(if ltF x b=true then x else b).2:=by split<;>assumption
  have g:worst b (x :: xs)=worst (if ltF x b=true then x else b) xs:=rfl
  obtain ⟨i1,i2,i3⟩:=xW xs (if ltF x b=true then x else b) hb2 fun y hy=>hx y (.tail _ hy)
  rw [g]
  have l1:leF (if ltF x b=true then x else b) b:=by
   split
   ·rename_i z;exact aGq z
   ·exact kY b
  have l2:leF (if ltF x b=true then x else b) x:=by
   split
   ·exact kY x
   ·rename_i z;exact rF (by simpa using z)
  refine ⟨iL i3 hb2 h i1 l1,fun y hy=>?_,i3⟩
  rcases List.mem_cons.mp hy with z | z
  ·rw [z];exact iL i3 hb2 hx0 i1 l2
  ·exact i2 y z
theorem aK6 {x y z:Int×Int} (hx:1<=x.2) (hy:1<=y.2) (hz:1<=z.2) (h1:ltF x y=true) (h2:leF y z):ltF x z=true:=by
 cases e:ltF x z with
 | true=>rfl
 | false =>
  have:=iL hy hz hx h2 (rF e)
  unfold ltF at h1
  have:=of_decide_eq_true h1
  unfold leF at *
  omega
theorem aLf {x y z:Int×Int} (hx:1<=x.2) (hy:1<=y.2) (hz:1<=z.2) (h1:leF x y) (h2:ltF y z=true):ltF x z=true:=by
 cases e:ltF x z with
 | true=>rfl
 | false =>
  have:=iL hz hx hy (rF e) h1
  unfold ltF at h2
  have:=of_decide_eq_true h2
  unfold leF at *
  omega
theorem vW {p q a b:Int} (hp:0 < p) (hq:0 < q) (e:p*a=q*b):0 < a↔0 < b:=by
 constructor
 ·intro h
  have:=Int.mul_pos hp h
  rw [e] at this
  exact Int.pos_of_mul_pos_right this (by omega)
 ·intro h
  have:=Int.mul_pos hq h
  rw [<- e] at this
  exact Int.pos_of_mul_pos_right this (by omega)
def Sat (rows:List R2) (x:Int×Int):Prop:=1<=x.2/\∀ r∈rows,0 < r.1*x.1+r.2*x.2
def C2 (rows:List R2):Prop:=(∀ r∈rows,r.1=0->0 < r.2)/\∀ r∈rows,∀ s∈rows,0 < r.1->s.1 < 0->0 < r.1*s.2 - s.1*r.2
theorem aPb {rows:List R2} {x:Int×Int} (h:Sat rows x):C2 rows:=by
 obtain ⟨h1,h2⟩:=h
 refine ⟨fun r hr e=>?_,fun r hr s hs hr0 hs0=>?_⟩
 ·have:=h2 r hr
  rw [e,Int.zero_mul,Int.zero_add] at this
  exact Int.pos_of_mul_pos_left this (by omega)
 ·have a:=Int.mul_pos hr0 (h2 s hs)
  have b:=Int.mul_pos (show 0 < -s.1 by omega) (h2 r hr)
  have e:x.2*(r.1*s.2 - s.1*r.2)=r.1*(s.1*x.1+s.2*x.2)+-s.1*(r.1*x.1+r.2*x.2):=by grind
  have:0 < x.2*(r.1*s.2 - s.1*r.2):=by rw [e];omega
  exact Int.pos_of_mul_pos_right this (by omega)
def mI (r:R2):Int×Int:=FR.mk (-r.2) r.1
theorem rB {r:R2} (h:r.1≠0):1<=(mI r).2/\(mI r).1*r.1 = -r.2*(mI r).2:=by
 obtain ⟨f,e⟩:=FR.mP (t:=-r.2) h
 exact ⟨f.pos,e⟩
theorem aHv {r:R2} (h:0 < r.1) (x:Int×Int):ltF (mI r) x=true↔0 < r.1*x.1+r.2*x.2:=by
 obtain ⟨p,e⟩:=rB (r:=r) (by omega)
 have k:=vW (p:=r.1) (q:=(mI r).2) (a:=x.1*(mI r).2 - (mI r).1*x.2) (b:=r.1*x.1+r.2*x.2) h (by omega) (by grind)
 unfold ltF
 rw [decide_eq_true_iff,<- k]
 omega
theorem aFd {r:R2} (h:r.1 < 0) (x:Int×Int):ltF x (mI r)=true↔0 < r.1*x.1+r.2*x.2:=by
 obtain ⟨p,e⟩:=rB (r:=r) (by omega)
 have k:=vW (p:=-r.1) (q:=(mI r).2) (a:=(mI r).1*x.2 - x.1*(mI r).2) (b:=r.1*x.1+r.2*x.2) (by omega) (by omega) (by grind)
 unfold ltF
 rw [decide_eq_true_iff,<- k]
 omega
theorem aGi {r s:R2} (hr:0 < r.1) (hs:s.1 < 0):ltF (mI r) (mI s)=true↔0 < r.1*s.2 - s.1*r.2:=by
 obtain ⟨p,e⟩:=rB (r:=r) (by omega)
 obtain ⟨p2,e2⟩:=rB (r:=s) (by omega)
 have k:=vW (p:=-s.1*r.1) (q:=(mI r).2*(mI s).2) (a:=(mI s).1*(mI r).2 - (mI r).1*(mI s).2) (b:=r.1*s.2 - s.1*r.2) (Int.mul_pos (by omega) hr) (Int.mul_pos (by omega) (by omega)) (by grind)
 unfold ltF
 rw [decide_eq_true_iff,<- k]
 omega
def iU (rows:List R2):List (Int×Int):=(rows.filter fun r=>decide (0 < r.1)).map mI
def fN (rows:List R2):List (Int×Int):=(rows.filter fun r=>decide (r.1 < 0)).map mI
def btw (lows highs:List (Int×Int)):Option (Int×Int) :=
 if lows=[]/\highs=[] then some (0,1)
 else if highs=[] then some (hP (best (lows.headD (0,1)) lows) (1,1))
 else if lows=[] then some (hM (worst (highs.headD (0,1)) highs) (1,1))
 else if ltF (best (lows.headD (0,1)) lows) (worst (highs.headD (0,1)) highs)=true then some (hO (hP (best (lows.headD (0,1)) lows) (worst (highs.headD (0,1)) highs)) (2,1)) else none
def solve (rows:List R2):Option (Int×Int):=if rows.any (fun r=>decide (r.1=0) && decide (r.2<=0))=true then none else btw (iU rows) (fN rows)
theorem head_mem {α:Type} {xs:List α} (d:α) (h:xs≠[]):xs.headD d∈xs:=by
 cases xs with
 | nil=>exact absurd rfl h
 | cons p r=>exact .head _
theorem nI {xs:List (Int×Int)} (h:xs≠[]) (hp:∀ x∈xs,1<=x.2):best (xs.headD (0,1)) xs∈xs/\(∀ x∈xs,leF x (best (xs.headD (0,1)) xs))/\1<=(best (xs.headD (0,1)) xs).2:=by
 have hm:=head_mem (0,1) h
 obtain ⟨a,b,c⟩:=tQ xs (xs.headD (0,1)) (hp _ hm) hp
 refine ⟨?_,b,c⟩
 rcases jA xs (xs.headD (0,1)) with z | z
 ·rw [z];exact hm
 ·exact z
theorem k7 {xs:List (Int×Int)} (h:xs≠[]) (hp:∀ x∈xs,1<=x.2):worst (xs.headD (0,1)) xs∈xs/\(∀ x∈xs,leF (worst (xs.headD (0,1)) xs) x)/\1<=(worst (xs.headD (0,1)) xs).2:=by
 have hm:=head_mem (0,1) h
 obtain ⟨a,b,c⟩:=xW xs (xs.headD (0,1)) (hp _ hm) hp
 refine ⟨?_,b,c⟩
 rcases t6 xs (xs.headD (0,1)) with z | z
 ·rw [z];exact hm
 ·exact z
theorem aO3 {x:Int×Int} (h:1<=x.2):AF (hM x (1,1)) (x.1 - x.2,x.2):=by
 refine uH (by show 1<=x.2*1;omega) h ?_
 show (x.1*1 - 1*x.2)*x.2=(x.1 - x.2)*(x.2*1)
 grind
theorem aPg {x:Int×Int} (h:1<=x.2):AF (hP x (1,1)) (x.1+x.2,x.2):=by
 refine uH (by show 1<=x.2*1;omega) h ?_
 show (x.1*1+1*x.2)*x.2=(x.1+x.2)*(x.2*1)
 grind
theorem aOz {x x':Int×Int} (h:AF x x'):AF (hO x (2,1)) (x'.1,x'.2*2):=by
 obtain ⟨a,b,e⟩:=h
 refine uH (by show 1<=x.2*2;omega) (by show 1<=x'.2*2;omega) ?_
 show x.1*1*(x'.2*2)=x'.1*(x.2*2)
 grind
theorem mem_lows {rows:List R2} {x:Int×Int}:x∈iU rows↔∃ r∈rows,0 < r.1/\mI r=x:=by
 unfold iU
 rw [List.mem_map]
 constructor
 ·rintro ⟨r,hr,e⟩
  obtain ⟨h1,h2⟩:=List.mem_filter.mp hr
  exact ⟨r,h1,of_decide_eq_true h2,e⟩
 ·rintro ⟨r,h1,h2,e⟩
  exact ⟨r,List.mem_filter.mpr ⟨h1,decide_eq_true h2⟩,e⟩
theorem mem_highs {rows:List R2} {x:Int×Int}:x∈fN rows↔∃ r∈rows,r.1 < 0/\mI r=x:=by
 unfold fN
 rw [List.mem_map]
 constructor
 ·rintro ⟨r,hr,e⟩
  obtain ⟨h1,h2⟩:=List.mem_filter.mp hr
  exact ⟨r,h1,of_decide_eq_true h2,e⟩
 ·rintro ⟨r,h1,h2,e⟩
  exact ⟨r,List.mem_filter.mpr ⟨h1,decide_eq_true h2⟩,e⟩
theorem aK2 {lows highs:List (Int×Int)} {x:Int×Int} (hl:∀ x∈lows,1<=x.2) (hh:∀ x∈highs,1<=x.2) (e:btw lows highs=some x):1<=x.2/\(∀ l∈lows,ltF l x=true)/\∀ h∈highs,ltF x h=true:=by
 unfold btw at e
 split at e
 ·rename_i z
  cases e
  rw [z.1,z.2]
  exact ⟨by decide,(fun _ h=>nomatch h),(fun _ h=>nomatch h)⟩
 ·rename_i z
  split at e
  ·rename_i z2
   cases e
   obtain ⟨b1,b2,b3⟩:=nI (fun q=>z ⟨q,z2⟩) hl
   have af:=aPg b3
   refine ⟨af.a,fun l h=>?_,fun h q=>by rw [z2] at q;cases q⟩
   refine aLf (hl l h) b3 af.a (b2 l h) ?_
   rw [oF (AF.refl b3) af]
   exact decide_eq_true (by show _*_ < (_+_)*_;have:=bN b3 b3;grind)
  ·rename_i z2
   split at e
   ·rename_i z3
    cases e
    obtain ⟨b1,b2,b3⟩:=k7 z2 hh
    have af:=aO3 b3
    refine ⟨af.a,fun l q=>(by rw [z3] at q;cases q),fun h q=>?_⟩
    refine aK6 af.a b3 (hh h q) ?_ (b2 h q)
    rw [oF af (AF.refl b3)]
    exact decide_eq_true (by show (_ - _)*_ < _*_;have:=bN b3 b3;grind)
   ·rename_i z3
    split at e
    ·rename_i z4
     cases e
     obtain ⟨b1,b2,b3⟩:=nI z3 hl
     obtain ⟨c1,c2,c3⟩:=k7 z2 hh
     have af:=aOz (aNi (AF.refl b3) (AF.refl c3))
     unfold ltF at z4
     have z4:=of_decide_eq_true z4
     generalize best (lows.headD (0,1)) lows=l at *
     generalize worst (highs.headD (0,1)) highs=h at *
     refine ⟨af.a,fun y q=>aLf (hl y q) b3 af.a (b2 y q) ?_,fun y q=>aK6 af.a c3 (hh y q) ?_ (c2 y q)⟩
     ·rw [oF (AF.refl b3) af]
      refine decide_eq_true ?_
      show l.1*(l.2*h.2*2) < (l.1*h.2+h.1*l.2)*l.2
      have:=Int.mul_pos (show 0 < h.1*l.2 - l.1*h.2 by omega) (show 0 < l.2 by omega)
      grind
     ·rw [oF af (AF.refl c3)]
      refine decide_eq_true ?_
      show (l.1*h.2+h.1*l.2)*h.2 < h.1*(l.2*h.2*2)
      have:=Int.mul_pos (show 0 < h.1*l.2 - l.1*h.2 by omega) (show 0 < h.2 by omega)
      grind
    ·cases e
theorem rZ {rows:List R2}:∀ x∈iU rows,1<=x.2:=fun x hx=>by
 obtain ⟨r,_,h,rfl⟩:=mem_lows.mp hx
 exact (rB (by omega)).1
theorem oI {rows:List R2}:∀ x∈fN rows,1<=x.2:=fun x hx=>by
 obtain ⟨r,_,h,rfl⟩:=mem_highs.mp hx
 exact (rB (by omega)).1
theorem qI {rows:List R2} {x:Int×Int} (e:solve rows=some x):Sat rows x:=by
 unfold solve at e
 split at e
 ·cases e
 ·rename_i z
  obtain ⟨h1,h2,h3⟩:=aK2 rZ oI e
  refine ⟨h1,fun r hr=>?_⟩
  rcases Int.lt_trichotomy r.1 0 with q | q | q
  ·exact (aFd q x).mp (h3 _ (mem_highs.mpr ⟨r,hr,q,rfl⟩))
  ·rw [q,Int.zero_mul,Int.zero_add]
   refine Int.mul_pos ?_ (by omega)
   by_cases y:0 < r.2
   ·exact y
   ·exfalso
    refine z (List.any_eq_true.mpr ⟨r,hr,?_⟩)
    simp only [Bool.and_eq_true,decide_eq_true_eq]
    exact ⟨q,by omega⟩
  ·exact (aHv q x).mp (h2 _ (mem_lows.mpr ⟨r,hr,q,rfl⟩))
theorem rJ {rows:List R2} (h:C2 rows):∃ x,solve rows=some x:=by
 unfold solve
 have:¬ rows.any (fun r=>decide (r.1=0) && decide (r.2<=0))=true:=fun z=>by
  obtain ⟨r,hr,q⟩:=List.any_eq_true.mp z
  simp only [Bool.and_eq_true,decide_eq_true_eq] at q
  have:=h.1 r hr q.1
  omega
 rw [if_neg this]
 unfold btw
 split
 ·exact ⟨_,rfl⟩
 ·split
  ·exact ⟨_,rfl⟩
  ·split
   ·exact ⟨_,rfl⟩
   ·rename_i z1 z2 z3
    obtain ⟨b1,_,_⟩:=nI z3 rZ
    obtain ⟨c1,_,_⟩:=k7 z2 oI
    obtain ⟨r,hr,q,er⟩:=mem_lows.mp b1
    obtain ⟨s,hs,q2,es⟩:=mem_highs.mp c1
    rw [if_pos (by rw [<- er,<- es];exact (aGi q q2).mpr (h.2 r hr s hs q q2))]
    exact ⟨_,rfl⟩
def nO (l h:R3):R2:=(l.2.1*h.1 - h.2.1*l.1,l.2.1*h.2.2 - h.2.1*l.2.2)
def qF (rows:List R3):List R2:=(rows.filter fun r=>decide (r.2.1=0)).map fun r=>(r.1,r.2.2)
def g8 (rows:List R3):List R3:=rows.filter fun r=>decide (r.2.1 < 0)
def nM (highs:List R3) (k:List R2) (l:R3):List R2:=if 0 < l.2.1 then k++highs.map (nO l) else k
def elim (rows:List R3):List R2:=rows.foldl (nM (g8 rows)) (qF rows)
theorem vO {highs:List R3} {x:R2}:∀ (rows:List R3) (k:List R2),x∈rows.foldl (nM highs) k↔x∈k\/∃ l∈rows,0 < l.2.1/\∃ h∈highs,nO l h=x
 | [],k=>by simp
 | l :: rows,k=>by
  rw [List.foldl_cons,vO rows]
  unfold nM
  constructor
  ·rintro (h | ⟨m,h1,h2⟩)
   ·split at h
    ·rename_i z
     rcases List.mem_append.mp h with q | q
     ·exact .inl q
     ·obtain ⟨y,hy,e⟩:=List.mem_map.mp q
      exact .inr ⟨l,.head _,z,y,hy,e⟩
    ·exact .inl h
   ·exact .inr ⟨m,.tail _ h1,h2⟩
  ·rintro (h | ⟨m,h1,h2,y,hy,e⟩)
   ·left
    split
    ·exact List.mem_append_left _ h
    ·exact h
   ·rcases List.mem_cons.mp h1 with z | z
    ·left
     subst z
     rw [if_pos h2]
     exact List.mem_append_right _ (List.mem_map.mpr ⟨y,hy,e⟩)
    ·exact .inr ⟨m,z,h2,y,hy,e⟩
theorem mem_elim {rows:List R3} {x:R2}:x∈elim rows↔(∃ r∈rows,r.2.1=0/\(r.1,r.2.2)=x)\/∃ l∈rows,0 < l.2.1/\∃ h∈rows,h.2.1 < 0/\nO l h=x:=by
 unfold elim
 rw [vO]
 have k:x∈qF rows↔∃ r∈rows,r.2.1=0/\(r.1,r.2.2)=x:=by
  unfold qF
  rw [List.mem_map]
  constructor
  ·rintro ⟨r,hr,e⟩
   obtain ⟨h1,h2⟩:=List.mem_filter.mp hr
   exact ⟨r,h1,of_decide_eq_true h2,e⟩
  ·rintro ⟨r,h1,h2,e⟩
   exact ⟨r,List.mem_filter.mpr ⟨h1,decide_eq_true h2⟩,e⟩
 have hh:∀ h,h∈g8 rows↔h∈rows/\h.2.1 < 0:=fun h=>by
  unfold g8
  rw [List.mem_filter,decide_eq_true_iff]
 rw [k]
 constructor
 ·rintro (h | ⟨l,h1,h2,h,h3,e⟩)
  ·exact .inl h
  ·exact .inr ⟨l,h1,h2,h,((hh h).mp h3).1,((hh h).mp h3).2,e⟩
 ·rintro (h | ⟨l,h1,h2,h,h3,h4,e⟩)
  ·exact .inl h
  ·exact .inr ⟨l,h1,h2,h,(hh h).mpr ⟨h3,h4⟩,e⟩
def aOg (rows:List R3) (X Y D:Int):Prop:=1<=D/\∀ r∈rows,0 < r.1*X+r.2.1*Y+r.2.2*D
theorem aHq {rows:List R3} {X Y D:Int} (h:aOg rows X Y D):Sat (elim rows) (X,D):=by
 refine ⟨h.1,fun x hx=>?_⟩
 rcases mem_elim.mp hx with ⟨r,hr,e0,rfl⟩ | ⟨l,hl,l0,g,hg,g0,rfl⟩
 ·have:=h.2 r hr
  rw [e0,Int.zero_mul,Int.add_zero] at this
  exact this
 ·have a:=Int.mul_pos l0 (h.2 g hg)
  have b:=Int.mul_pos (show 0 < -g.2.1 by omega) (h.2 l hl)
  show 0 < (l.2.1*g.1 - g.2.1*l.1)*X+(l.2.1*g.2.2 - g.2.1*l.2.2)*D
  have e:(l.2.1*g.1 - g.2.1*l.1)*X+(l.2.1*g.2.2 - g.2.1*l.2.2)*D=l.2.1*(g.1*X+g.2.1*Y+g.2.2*D)+-g.2.1*(l.1*X+l.2.1*Y+l.2.2*D):=by grind
  rw [e]
  omega
def aEf (x:Int×Int) (r:R3):R2:=(r.2.1*x.2,r.1*x.1+r.2.2*x.2)
theorem aPd {rows:List R3} {x:Int×Int} (h:Sat (elim rows) x):C2 (rows.map (aEf x)):=by
 have x0:=h.1
 refine ⟨fun y hy e=>?_,fun y hy z hz y0 z0=>?_⟩
 ·obtain ⟨r,hr,rfl⟩:=List.mem_map.mp hy
  have:r.2.1=0:=by
   rcases Int.mul_eq_zero.mp e with q | q
   ·exact q
   ·omega
  exact h.2 _ (mem_elim.mpr (.inl ⟨r,hr,this,rfl⟩))
 ·obtain ⟨r,hr,rfl⟩:=List.mem_map.mp hy
  obtain ⟨s,hs,rfl⟩:=List.mem_map.mp hz
  have r0:0 < r.2.1:=Int.pos_of_mul_pos_left y0 (by omega)
  have s0:s.2.1 < 0:=by
   have z0:s.2.1*x.2 < 0:=z0
   by_cases q:s.2.1 < 0
   ·exact q
   ·have:=Int.mul_nonneg (show 0<=s.2.1 by omega) (show 0<=x.2 by omega)
    omega
  have k:=h.2 _ (mem_elim.mpr (.inr ⟨r,hr,r0,s,hs,s0,rfl⟩))
  have k:0 < (r.2.1*s.1 - s.2.1*r.1)*x.1+(r.2.1*s.2.2 - s.2.1*r.2.2)*x.2:=k
  have m:=Int.mul_pos (show 0 < x.2 by omega) k
  show 0 < r.2.1*x.2*(s.1*x.1+s.2.2*x.2) - s.2.1*x.2*(r.1*x.1+r.2.2*x.2)
  have e:r.2.1*x.2*(s.1*x.1+s.2.2*x.2) - s.2.1*x.2*(r.1*x.1+r.2.2*x.2)=x.2*((r.2.1*s.1 - s.2.1*r.1)*x.1+(r.2.1*s.2.2 - s.2.1*r.2.2)*x.2):=by grind
  rw [e]
  exact m
def nC (rows:List R3):Option ((Int×Int)×(Int×Int)):=match solve (elim rows) with
 | none=>none
 | some x=>match solve (rows.map (aEf x)) with
  | none=>none
  | some y=>some (x,y)
theorem aAo {rows:List R3} {x:Int×Int} (e:solve (elim rows)=some x):∃ y,solve (rows.map (aEf x))=some y/\nC rows=some (x,y):=by
 obtain ⟨y,hy⟩:=rJ (aPd (qI e))
 refine ⟨y,hy,?_⟩
 unfold nC
 rw [e]
 dsimp only
 rw [hy]
theorem rM {rows:List R3} {pt:(Int×Int)×(Int×Int)} (e:nC rows=some pt):1<=pt.1.2/\1<=pt.2.2/\∀ r∈rows,0 < r.1*pt.1.1*pt.2.2+r.2.1*pt.2.1*pt.1.2+r.2.2*pt.1.2*pt.2.2:=by
 unfold nC at e
 cases ex:solve (elim rows) with
 | none=>rw [ex] at e;cases e
 | some x =>
  rw [ex] at e
  dsimp only at e
  cases ey:solve (rows.map (aEf x)) with
  | none=>rw [ey] at e;cases e
  | some y =>
   rw [ey] at e
   cases e
   have sx:=qI ex
   have sy:=qI ey
   refine ⟨sx.1,sy.1,fun r hr=>?_⟩
   have k:=sy.2 _ (List.mem_map.mpr ⟨r,hr,rfl⟩)
   have k:0 < r.2.1*x.2*y.1+(r.1*x.1+r.2.2*x.2)*y.2:=k
   have e:r.1*x.1*y.2+r.2.1*y.1*x.2+r.2.2*x.2*y.2=r.2.1*x.2*y.1+(r.1*x.1+r.2.2*x.2)*y.2:=by grind
   show 0 < r.1*x.1*y.2+r.2.1*y.1*x.2+r.2.2*x.2*y.2
   rw [e]
   exact k
theorem aCl {rows:List R3} {X Y D:Int} (h:aOg rows X Y D):∃ pt,nC rows=some pt:=by
 obtain ⟨x,hx⟩:=rJ (aPb (aHq h))
 obtain ⟨y,_,e⟩:=aAo hx
 exact ⟨_,e⟩
end N
namespace N
abbrev Q2:=Int×Int
theorem aJz {x y a b:Int×Int} (hx:FR.Fr x) (hy:FR.Fr y) (h:AF x a) (g:AF y b) (e:a.1*b.2=b.1*a.2):x=y:=by
 have q:x.1*y.2=y.1*x.2:=by
  have e1:=h.e
  have e2:=g.e
  have p:=bN h.b g.b
  have z:x.1*y.2*(a.2*b.2)=y.1*x.2*(a.2*b.2):=by grind
  exact Int.eq_of_mul_eq_mul_right (by omega) z
 exact aCa hx hy (Int.le_of_eq q) (Int.le_of_eq q.symm)
theorem aAp {t b:Int} (h:1<=b):FR.Fr (FR.mk t b):=(FR.mP (by omega)).1
theorem aO8 {x y:Int×Int} (hx:1<=x.2) (hy:1<=y.2):FR.Fr (hP x y):=aAp (bN hx hy)
def ng (x:Int×Int):Int×Int:=hM (0,1) x
theorem aKh {p:Pl} {pt:Pt} {a b c:Int×Int} (h1:AF pt.1 a) (h2:AF pt.2 b) (h3:AF p.2.2 c):AF (hgt p pt) ((p.1*a.1*b.2+p.2.1*b.1*a.2)*c.2+c.1*(a.2*b.2),a.2*b.2*c.2):=aNi (aNi (aNj h1) (aNj h2)) h3
theorem aJw {p:Pl} {pt:Pt} (h1:1<=pt.1.2) (h2:1<=pt.2.2) (h3:1<=p.2.2.2):FR.Fr (hgt p pt):=aO8 (aNi (aNj (i:=p.1) (AF.refl h1)) (aNj (i:=p.2.1) (AF.refl h2))).a h3
structure Pp (pt:Pt):Prop where
 x:1<=pt.1.2
 y:1<=pt.2.2
def Pos (ps:List Pl):Prop:=∀ p∈ps,1<=p.2.2.2
structure IsTop (ps:List Pl) (pt:Pt) (h:Int×Int):Prop where
 at':∃ p∈ps,hgt p pt=h
 le:∀ p∈ps,leF (hgt p pt) h
theorem o8 {p:Pl} {pt:Pt} (hp:1<=p.2.2.2) (g:Pp pt):FR.Fr (hgt p pt):=aJw g.x g.y hp
theorem IsTop.fr {ps:List Pl} {pt:Pt} {h:Int×Int} (t:IsTop ps pt h) (hp:Pos ps) (g:Pp pt):FR.Fr h:=by
 obtain ⟨p,h1,rfl⟩:=t.at'
 exact o8 (hp p h1) g
theorem IsTop.uniq {ps:List Pl} {pt:Pt} {a b:Int×Int} (hp:Pos ps) (g:Pp pt) (ha:IsTop ps pt a) (hb:IsTop ps pt b):a=b:=by
 obtain ⟨p,h1,e1⟩:=ha.at'
 obtain ⟨q,h2,e2⟩:=hb.at'
 refine aCa (ha.fr hp g) (hb.fr hp g) ?_ ?_
 ·rw [<- e1];exact hb.le p h1
 ·rw [<- e2];exact ha.le q h2
theorem sA {ps:List Pl} {pt:Pt} (h0:ps≠[]) (hp:Pos ps) (g:Pp pt):IsTop ps pt (best (hgt (ps.headD (0,0,(0,1))) pt) (ps.map fun q=>hgt q pt)):=by
 have hh:ps.headD (0,0,(0,1))∈ps:=head_mem _ h0
 refine ⟨?_,fun p h=>?_⟩
 ·rcases jA (ps.map fun q=>hgt q pt) (hgt (ps.headD (0,0,(0,1))) pt) with z | z
  ·exact ⟨_,hh,z.symm⟩
  ·obtain ⟨r,hr,e⟩:=List.mem_map.mp z
   exact ⟨r,hr,e⟩
 ·exact (tQ (ps.map fun q=>hgt q pt) (hgt (ps.headD (0,0,(0,1))) pt) (o8 (hp _ hh) g).pos (fun x hx=>by
   obtain ⟨r,hr,rfl⟩:=List.mem_map.mp hx
   exact (o8 (hp r hr) g).pos)).2.1 _ (List.mem_map.mpr ⟨p,h,rfl⟩)
end N
namespace N
def pr (R:List Q2) (k d:Nat):Q2:=R.getD (if k < d then R.length+k - d else k - d) (0,0)
end N
namespace N
section
variable {R P:List Q2} {x:Q2}
end
end N
namespace N
def swp (p:Q2):Q2:=(p.2,p.1)
end N
namespace N
def ab (i:Int):Int:=if i < 0 then -i else i
section
variable {R P:List Q2} {x:Q2}
end
end N
namespace My
open PySem PySem.Spec PyProof.Rows L2 M N
local macro_rules | `(tactic| walk_at "z") => `(tactic| repeat (first | assumption | apply L2.Sz.mul | apply N.Sz.addM | apply N.Sz.subM | apply L2.Sz.neg | apply N.rX | (apply N.lW; (first | decide | omega)) | exact N.lX (by decide) | exact N.aGv (by decide) | exact N.yR (by decide) | exact N.aG4 (by decide)))
local macro_rules | `(tactic| walk_at "d") => `(tactic| first | assumption | (first | apply N.cm2 | apply N.cd2) <;> (first | decide | omega | (walk_at "z")) | decide | omega)
local macro_rules | `(tactic| walk_at "1") => `(tactic| simp only [bB, bU, dE, dN, aD, mC, aE, mUn, aA, aL, aJ, eN, dG, kF, zW, Res.bind, Ev.c, aDu, lF, aH, a7, j9, jM, a9, cP, oM, mOr, rA, qS, aJu, wZ, lJ, bS, dX, gL, nA, jX, dat, gB, eqE, gY, gZ, jL, jO, j7, mR, nV, nH, nL, rY, mD, fH, dM, mT, List.getElem?_cons_zero, List.getElem?_cons_succ, List.set_cons_zero, List.set_cons_succ, List.length_cons, List.length_nil, List.length_map, List.length_append, if_true, if_false, ite_true, ite_false, decide_true, decide_false, Bool.false_eq_true, Nat.zero_add, Nat.reduceAdd, Nat.reduceEqDiff, Nat.reduceLeDiff, reduceIte, List.map_append, List.map_cons, List.map_nil])
local macro_rules | `(tactic| walk_at "1a") => `(tactic| simp (disch := assumption) only [bB, bU, dE, dN, aD, mC, aE, mUn, aA, aL, aJ, eN, dG, kF, zW, Res.bind, Ev.c, aDu, lF, aH, a7, j9, jM, a9, cP, oM, mOr, rA, qS, aJu, wZ, lJ, bS, dX, gL, nA, jX, dat, gB, eqE, gY, gZ, jL, jO, j7, mR, nV, nH, nL, rY, mD, fH, dM, mT, List.getElem?_cons_zero, List.getElem?_cons_succ, List.set_cons_zero, List.set_cons_succ, List.length_cons, List.length_nil, List.length_map, List.length_append, if_true, if_false, ite_true, ite_false, decide_true, decide_false, Bool.false_eq_true, Nat.zero_add, Nat.reduceAdd, Nat.reduceEqDiff, Nat.reduceLeDiff, reduceIte, List.map_append, List.map_cons, List.map_nil])
local macro_rules | `(tactic| ktr_call 11 ⟨$xs,*⟩) => `(tactic| simp (disch := assumption) only [bB, bU, dE, dN, aD, mC, aE, mUn, aA, aL, aJ, eN, dG, kF, zW, Res.bind, Ev.c, aDu, lF, aH, a7, j9, jM, a9, cP, oM, mOr, rA, qS, aJu, wZ, lJ, bS, dX, gL, nA, jX, dat, gB, eqE, gY, gZ, jL, jO, j7, mR, nV, nH, nL, rY, mD, fH, dM, mT, List.getElem?_cons_zero, List.getElem?_cons_succ, List.set_cons_zero, List.set_cons_succ, List.length_cons, List.length_nil, List.length_map, List.length_append, if_true, if_false, ite_true, ite_false, decide_true, decide_false, Bool.false_eq_true, Nat.zero_add, Nat.reduceAdd, Nat.reduceEqDiff, Nat.reduceLeDiff, reduceIte, List.map_append, List.map_cons, List.map_nil, $[$xs:term],*])
local macro_rules | `(tactic| walk_at "1d") => `(tactic| simp (disch := (walk_at "d")) only [bB, bU, dE, dN, aD, mC, aE, mUn, aA, aL, aJ, eN, dG, kF, zW, Res.bind, Ev.c, aDu, lF, aH, a7, j9, jM, a9, cP, oM, mOr, rA, qS, aJu, wZ, lJ, bS, dX, gL, nA, jX, dat, gB, eqE, gY, gZ, jL, jO, j7, mR, nV, nH, nL, rY, mD, fH, dM, mT, List.getElem?_cons_zero, List.getElem?_cons_succ, List.set_cons_zero, List.set_cons_succ, List.length_cons, List.length_nil, List.length_map, List.length_append, if_true, if_false, ite_true, ite_false, decide_true, decide_false, Bool.false_eq_true, Nat.zero_add, Nat.reduceAdd, Nat.reduceEqDiff, Nat.reduceLeDiff, reduceIte, List.map_append, List.map_cons, List.map_nil])
local macro_rules | `(tactic| ktr_call 21 ⟨$xs,*⟩) => `(tactic| simp (disch := (walk_at "d")) only [bB, bU, dE, dN, aD, mC, aE, mUn, aA, aL, aJ, eN, dG, kF, zW, Res.bind, Ev.c, aDu, lF, aH, a7, j9, jM, a9, cP, oM, mOr, rA, qS, aJu, wZ, lJ, bS, dX, gL, nA, jX, dat, gB, eqE, gY, gZ, jL, jO, j7, mR, nV, nH, nL, rY, mD, fH, dM, mT, List.getElem?_cons_zero, List.getElem?_cons_succ, List.set_cons_zero, List.set_cons_succ, List.length_cons, List.length_nil, List.length_map, List.length_append, if_true, if_false, ite_true, ite_false, decide_true, decide_false, Bool.false_eq_true, Nat.zero_add, Nat.reduceAdd, Nat.reduceEqDiff, Nat.reduceLeDiff, reduceIte, List.map_append, List.map_cons, List.map_nil, $[$xs:term],*])
local macro_rules | `(tactic| walk_at "2") => `(tactic| simp only [bB, bU, dE, dN, aD, mC, aE, mUn, aA, aL, aJ, eN, dG, kF, zW, Res.bind, Ev.c, aDu, lF, aH, a7, j9, jM, a9, cP, oM, mOr, rA, qS, aJu, wZ, lJ, bS, dX, gL, nA, jX, dat, gB, eqE, gY, gZ, jL, jO, j7, mR, nV, nH, nL, rY, List.getElem?_cons_zero, List.getElem?_cons_succ, List.set_cons_zero, List.set_cons_succ, List.length_cons, List.length_nil, List.length_map, List.length_append, if_true, if_false, ite_true, ite_false, decide_true, decide_false, Bool.false_eq_true, Nat.zero_add, Nat.reduceAdd, Nat.reduceEqDiff, Nat.reduceLeDiff, reduceIte, List.map_append, List.map_cons, List.map_nil])
local macro_rules | `(tactic| ktr_call 2 ⟨$xs,*⟩) => `(tactic| simp only [bB, bU, dE, dN, aD, mC, aE, mUn, aA, aL, aJ, eN, dG, kF, zW, Res.bind, Ev.c, aDu, lF, aH, a7, j9, jM, a9, cP, oM, mOr, rA, qS, aJu, wZ, lJ, bS, dX, gL, nA, jX, dat, gB, eqE, gY, gZ, jL, jO, j7, mR, nV, nH, nL, rY, List.getElem?_cons_zero, List.getElem?_cons_succ, List.set_cons_zero, List.set_cons_succ, List.length_cons, List.length_nil, List.length_map, List.length_append, if_true, if_false, ite_true, ite_false, decide_true, decide_false, Bool.false_eq_true, Nat.zero_add, Nat.reduceAdd, Nat.reduceEqDiff, Nat.reduceLeDiff, reduceIte, List.map_append, List.map_cons, List.map_nil, $[$xs:term],*])
local macro_rules | `(tactic| ktr_call 3 ⟨$xs,*⟩) => `(tactic| simp only [List.getElem?_cons_zero, List.getElem?_cons_succ, List.set_cons_zero, List.set_cons_succ, List.length_cons, List.length_nil, List.length_map, List.length_append, if_true, if_false, ite_true, ite_false, decide_true, decide_false, Bool.false_eq_true, Nat.zero_add, Nat.reduceAdd, Nat.reduceEqDiff, Nat.reduceLeDiff, reduceIte, List.map_append, List.map_cons, List.map_nil, $[$xs:term],*])
local macro_rules | `(tactic| ktr_call 13 ⟨$xs,*⟩) => `(tactic| simp (disch := assumption) only [List.getElem?_cons_zero, List.getElem?_cons_succ, List.set_cons_zero, List.set_cons_succ, List.length_cons, List.length_nil, List.length_map, List.length_append, if_true, if_false, ite_true, ite_false, decide_true, decide_false, Bool.false_eq_true, Nat.zero_add, Nat.reduceAdd, Nat.reduceEqDiff, Nat.reduceLeDiff, reduceIte, List.map_append, List.map_cons, List.map_nil, $[$xs:term],*])
def top (i:Nat):Stmt:=PySem.Challenge.pw_creasecurve_k61_whole_thinned_tells_the.main.body.getD i (.Pass ⟨0,0,0,0⟩)
abbrev eA:Stmt:=top 4
abbrev lE:Stmt:=top 5
abbrev xU:Stmt:=top 6
abbrev tL:Stmt:=top 7
abbrev xQ:Stmt:=top 8
abbrev yK:Stmt:=top 9
abbrev lG:Stmt:=top 10
abbrev tF:Stmt:=top 11
abbrev fP:Stmt:=top 12
abbrev sJ:Stmt:=top 13
abbrev gQ:Stmt:=top 15
abbrev lD:Stmt:=top 16
abbrev oJ:Stmt:=top 17
abbrev mK:Stmt:=top 19
abbrev oH:Stmt:=top 20
abbrev jT:Stmt:=top 21
abbrev aE5:Stmt:=top 22
abbrev i4:Stmt:=top 23
abbrev hZ:Stmt:=top 24
abbrev l8:Stmt:=top 25
abbrev mL:Stmt:=top 26
abbrev gP:Stmt:=top 28
abbrev gW:Stmt:=top 29
abbrev lA:Stmt:=top 31
abbrev fG:Stmt:=top 32
abbrev gU:Stmt:=top 33
abbrev fR:Stmt:=top 34
abbrev iW:Stmt:=top 35
abbrev gM:Stmt:=top 36
abbrev fW:Stmt:=top 37
abbrev fX:Stmt:=top 38
abbrev lC:Stmt:=top 39
abbrev gO:Stmt:=top 40
abbrev eQ:Stmt:=top 41
abbrev iZ:Stmt:=top 42
abbrev jV:Stmt:=top 43
abbrev fQ:Stmt:=top 44
abbrev i5:Stmt:=top 45
abbrev fU:Stmt:=top 46
abbrev uI:Stmt:=top 47
theorem zB:bootBuiltins "abs" = some (.builtin "abs"):=by decide +kernel
theorem aKg:bootBuiltins "any" = some (.builtin "any"):=by decide +kernel
theorem pW:bootBuiltins "list" = some (.type "list"):=by decide +kernel
theorem aLw:bootBuiltins "max" = some (.builtin "max"):=by decide +kernel
theorem oX:bootBuiltins "sorted" = some (.builtin "sorted"):=by decide +kernel
structure Blt (mg:Str->Option Value):Prop where
 abs_:mg "abs" = none
 any_:mg "any" = none
 bool_:mg "bool" = none
 int_:mg "int" = none
 isinstance_:mg "isinstance" = none
 len_:mg "len" = none
 list_:mg "list" = none
 max_:mg "max" = none
 range_:mg "range" = none
 sorted_:mg "sorted" = none
 zip_:mg "zip" = none
structure Cls where
 RoofError:Addr
 NoFraction:Addr
structure jP (mg:Str->Option Value) (c:Cls):Prop where
 mRoofError:mg "RoofError" = some (.ref c.RoofError)
 mNoFraction:mg "NoFraction" = some (.ref c.NoFraction)
structure jQ (mg:Str->Option Value) (base:Heap) (c:Cls):Prop where
 NoFraction:PyProof.Rows.OwnCls "NoFraction" c.NoFraction [.type "ValueError",.type "Exception",.type "BaseException",.type "object"] "ValueError.__new__" mg base
noncomputable def bM (K:PySem.W.Frag) (c:Cls):List L->Res L:=mOf eII (fun _=>True) fun a=>.ok (.p (.int (Int.gcd a.1 a.2:Nat)))
noncomputable def cG (K:PySem.W.Frag) (c:Cls):En->Res Bool:=(a9 (aE (eqE true) (aD 3) (mC (.int 0))))
noncomputable def cZ (K:PySem.W.Frag) (c:Cls):MS:=(bB (bU 4 (aE bY (aD 2) (aD 3))) (bB (bU 2 (aD 3)) (bU 3 (aD 4))))
noncomputable def iX (K:PySem.W.Frag) (c:Cls):MS:=(bB (bU 2 (aH aG7 (aA (aD 0) aL))) (bB (bU 3 (aH aG7 (aA (aD 1) aL))) (bB (oU (cG K c) (cZ K c)) (dE (aD 2)))))
theorem aN6 (K:PySem.W.Frag) (c:Cls) (A B:Option L):∀ (n:Nat) (l s:Int) (r:Option L),0<=l->0<=s->s.toNat<=n->∃ r',mWh (cG K c) (cZ K c) (n+1) [A,B,some (.p (.int l)),some (.p (.int s)),r]=some (.nx [A,B,some (.p (.int (Int.gcd l s:Nat))),some (.p (.int 0)),r']):=by
 intro n
 have hc:∀ (l s:Int) (r:Option L),cG K c [A,B,some (.p (.int l)),some (.p (.int s)),r]=.ok (!(s == 0)):=fun l s r=>by
  ktr_call 3 ⟨cG,a9,aE,aD,mC,Res.bind,Ev.c,eqE,dat,gY,gZ,cP⟩
  rfl
 have done:∀ (n:Nat) (l:Int) (r:Option L),0<=l->mWh (cG K c) (cZ K c) (n+1) [A,B,some (.p (.int l)),some (.p (.int 0)),r]=some (.nx [A,B,some (.p (.int (Int.gcd l 0:Nat))),some (.p (.int 0)),r]):=fun n l r hl=>by
  unfold mWh
  rw [hc,FR.aA8 hl]
  rfl
 induction n with
 | zero =>
  intro l s r hl hs hn
  have:s=0:=by omega
  subst this
  exact ⟨r,done 0 l r hl⟩
 | succ n ih =>
  intro l s r hl hs hn
  by_cases h0:s=0
  ·subst h0
   exact ⟨r,done _ l r hl⟩
  ·have em:l.fmod s=l % s:=Int.fmod_eq_emod_of_nonneg l hs
   have m0:=Int.emod_nonneg l h0
   have m1:=Int.emod_lt_of_pos l (show 0 < s by omega)
   obtain ⟨r',ih⟩:=ih s (l.fmod s) (some (.p (.int (l.fmod s)))) hs (by omega) (by omega)
   refine ⟨r',?_⟩
   rw [em,FR.xS hl hs] at ih
   have hb:cZ K c [A,B,some (.p (.int l)),some (.p (.int s)),r]=some (.nx [A,B,some (.p (.int s)),some (.p (.int (l % s))),some (.p (.int (l % s)))]):=by
    ktr_call 13 ⟨cZ,aE,aD,mC,bB,bU,Res.bind,Ev.c,dM,em⟩
   have ht:cG K c [A,B,some (.p (.int l)),some (.p (.int s)),r]=.ok true:=by rw [hc,beq_false_of_ne h0];rfl
   unfold mWh
   rw [ht]
   dsimp only
   rw [hb]
   exact ih
theorem lV (K:PySem.W.Frag) (c:Cls):∀ ls,bM K c ls=.bad\/fJ 5 (iX K c) ls=bM K c ls:=dJ fun x _=>by
 obtain ⟨a,b⟩:=x
 obtain ⟨r',h⟩:=aN6 K c (some (.p (.int a))) (some (.p (.int b))) _ (if a < 0 then -a else a) (if b < 0 then -b else b) none (by split<;>omega) (by split<;>omega) (Nat.le_refl _)
 have h:=u5 h
 rw [FR.aDf] at h
 refine cF ?_
 rw [show bQ 5 (eII (a,b))=[some (.p (.int a)),some (.p (.int b)),none,none,none] from rfl]
 refine (aR (dA (d:=.int (if a < 0 then -a else a)) rfl)).trans ((aR (dA (d:=.int (if b < 0 then -b else b)) rfl)).trans ((aR h).trans ?_))
 rfl
theorem yZ (K:PySem.W.Frag) (c:Cls) (a b:Int):bM K c [.p (.int a),.p (.int b)]=.ok (.p (.int (Int.gcd a b:Nat))):=dI (a:=(a,b)) aDm trivial
theorem aMq {b:Int} (t:Int) (hb:b≠0) (hz:Sz 8000 b):iG t ((Int.gcd t b:Nat):Int)/\iG t (-((Int.gcd t b:Nat):Int)):=by
 have g0:=FR.wB (t:=t) hb
 have gle:Int.gcd t b<=b.natAbs:=Nat.le_of_dvd (by omega) (Int.gcd_dvd_natAbs_right t b)
 refine ⟨⟨by omega,Sz.le hz (by rw [Int.natAbs_natCast];exact gle)⟩,by omega,Sz.le hz (by rw [Int.natAbs_neg,Int.natAbs_natCast];exact gle)⟩
open Classical in
noncomputable def cA (K:PySem.W.Frag) (c:Cls):List L->Res L:=mOf eII (fun a=>Sz 8000 a.2) fun a=>if a.2=0 then .exc c.NoFraction else .ok (.p (frD (FR.mk a.1 a.2)))
noncomputable def iE (K:PySem.W.Frag) (c:Cls):MS:=(bB (dN (a9 (aE (eqE false) (aD 1) (mC (.int 0)))) (lJ c.NoFraction (aA (mC (.str "nothing is divided by 0")) aL)) bS) (bB (bU 2 (aJ 2 (bM K c) (aA (aD 0) (aA (aD 1) aL)))) (bB (dN (a9 (aE ltE (aD 1) (mC (.int 0)))) (bU 2 (mUn nA (aD 2))) bS) (dE (aH a7 (aA (aE bO (aD 0) (aD 2)) (aA (aE bO (aD 1) (aD 2)) aL)))))))
theorem v7 (K:PySem.W.Frag) (c:Cls):∀ ls,cA K c ls=.bad\/fJ 3 (iE K c) ls=cA K c ls:=dJ fun x hz=>by
 obtain ⟨t,b⟩:=x
 have hz:Sz 8000 b:=hz
 show fJ 3 (iE K c) (eII (t,b))=if b=0 then .exc c.NoFraction else .ok (.p (frD (FR.mk t b)))
 have t0:a9 (aE (eqE false) (aD 1) (mC (.int 0))) [some (.p (.int t)),some (.p (.int b)),none]=.ok (b == 0):=by
  ktr_call 3 ⟨a9,aE,aD,mC,Res.bind,Ev.c,eqE,dat,gY,gZ,cP⟩
  rfl
 by_cases hb:b=0
 ·rw [if_pos hb]
  have t0:a9 (aE (eqE false) (aD 1) (mC (.int 0))) [some (.p (.int t)),some (.p (.int b)),none]=.ok true:=by rw [t0,hb];rfl
  have e:iE K c (bQ 3 (eII (t,b)))=some (.ex c.NoFraction [some (.p (.int t)),some (.p (.int b)),none]):=by
   unfold iE bB
   rw [show bQ 3 (eII (t,b))=[some (.p (.int t)),some (.p (.int b)),none] from rfl,k8 t0]
   rfl
  unfold fJ
  rw [e]
 ·rw [if_neg hb]
  rw [beq_false_of_ne hb] at t0
  obtain ⟨q1,q2⟩:=aMq t hb hz
  have q1':iG b ((Int.gcd t b:Nat):Int):=q1
  have q2':iG b (-((Int.gcd t b:Nat):Int)):=q2
  have g:=yZ K c t b
  have e1:(aJ 2 (bM K c) (aA (aD 0) (aA (aD 1) aL))) [some (.p (.int t)),some (.p (.int b)),none]=.ok (.p (.int (Int.gcd t b:Nat))):=by
   ktr_call 3 ⟨aJ,aA,aL,aD,Res.bind,Ev.c,eN,dG,kF,g,lF⟩
  refine cF ?_
  rw [show bQ 3 (eII (t,b))=[some (.p (.int t)),some (.p (.int b)),none] from rfl]
  unfold iE
  refine (aR (jB t0)).trans ((aR (dA e1)).trans ?_)
  have t1:a9 (aE ltE (aD 1) (mC (.int 0))) [some (.p (.int t)),some (.p (.int b)),some (.p (.int (Int.gcd t b:Nat)))]=.ok (decide (b < 0)):=by
   ktr_call 3 ⟨a9,aE,aD,mC,Res.bind,Ev.c,gL,cP⟩
  by_cases hn:b < 0
  ·rw [decide_eq_true hn] at t1
   have es:FR.mk t b=(t.fdiv (-((Int.gcd t b:Nat):Int)),b.fdiv (-((Int.gcd t b:Nat):Int))):=by unfold FR.mk FR.sgn;rw [if_pos hn]
   refine (aR ((k8 t1).trans (dA (d:=.int (-((Int.gcd t b:Nat):Int))) rfl))).trans (hV ?_)
   rw [es]
   ktr_call 11 ⟨frD⟩
  ·rw [decide_eq_false hn] at t1
   have es:FR.mk t b=(t.fdiv ((Int.gcd t b:Nat):Int),b.fdiv ((Int.gcd t b:Nat):Int)):=by unfold FR.mk FR.sgn;rw [if_neg hn]
   refine (aR (jB t1)).trans (hV ?_)
   rw [es]
   ktr_call 11 ⟨frD⟩
theorem nT (K:PySem.W.Frag) (c:Cls) {t b:Int} (h0:b≠0) (h1:Sz 8000 b):cA K c [.p (.int t),.p (.int b)]=.ok (.p (frD (FR.mk t b))):=(dI (a:=(t,b)) aDm h1).trans (if_neg h0)
noncomputable def lK (K:PySem.W.Frag) (c:Cls):List L->Res L:=mOf eFF (fun a=>FSz 2000 a.1/\FSz 2000 a.2/\a.1.2*a.2.2≠0) fun a=>.ok (.p (frD (FR.mk (a.1.1*a.2.2+a.2.1*a.1.2) (a.1.2*a.2.2))))
noncomputable def aBu (K:PySem.W.Frag) (c:Cls):MS:=(dE (aJ 2 (cA K c) (aA (aE dX (aE cV (aE ixE (aD 0) (mC (.int 0))) (aE ixE (aD 1) (mC (.int 1)))) (aE cV (aE ixE (aD 1) (mC (.int 0))) (aE ixE (aD 0) (mC (.int 1))))) (aA (aE cV (aE ixE (aD 0) (mC (.int 1))) (aE ixE (aD 1) (mC (.int 1)))) aL))))
theorem aJk (K:PySem.W.Frag) (c:Cls):∀ ls,lK K c ls=.bad\/fJ 2 (aBu K c) ls=lK K c ls:=dJ fun a h=>by
 obtain ⟨x,y⟩:=a
 obtain ⟨⟨x1,x2⟩,⟨y1,y2⟩,hb⟩:=h
 dsimp only at x1 x2 y1 y2 hb ⊢
 have f:=nT K c (t:=x.1*y.2+y.1*x.2) hb ((Sz.mul x2 y2).mono (by decide))
 refine cF ?_
 rw [show bQ 2 (eFF (x,y))=[some (.p (frD x)),some (.p (frD y))] from rfl]
 unfold aBu
 refine hV ?_
 ktr_call 21 ⟨f⟩
theorem aFi (K:PySem.W.Frag) (c:Cls) {x y:Int×Int} (h1:FSz 2000 x) (h2:FSz 2000 y) (h3:x.2*y.2≠0):lK K c [.p (frD x),.p (frD y)]=.ok (.p (frD (FR.mk (x.1*y.2+y.1*x.2) (x.2*y.2)))):=dI (a:=(x,y)) lM ⟨h1,h2,h3⟩
theorem uP (K:PySem.W.Frag) (c:Cls) {m n:Nat} {x y:Int×Int} (hx:Good m x) (hy:Good n y) (hm:m<=2000) (hn:n<=2000):lK K c [.p (frD x),.p (frD y)]=.ok (.p (frD (hP x y))):=aFi K c (hx.mono hm).fsz (hy.mono hn).fsz (hx.ne hy)
noncomputable def jZ (K:PySem.W.Frag) (c:Cls):List L->Res L:=mOf eFF (fun a=>FSz 2000 a.1/\FSz 2000 a.2/\a.1.2*a.2.2≠0) fun a=>.ok (.p (frD (FR.mk (a.1.1*a.2.2 - a.2.1*a.1.2) (a.1.2*a.2.2))))
noncomputable def w8 (K:PySem.W.Frag) (c:Cls):MS:=(dE (aJ 2 (cA K c) (aA (aE jJ (aE cV (aE ixE (aD 0) (mC (.int 0))) (aE ixE (aD 1) (mC (.int 1)))) (aE cV (aE ixE (aD 1) (mC (.int 0))) (aE ixE (aD 0) (mC (.int 1))))) (aA (aE cV (aE ixE (aD 0) (mC (.int 1))) (aE ixE (aD 1) (mC (.int 1)))) aL))))
theorem aEw (K:PySem.W.Frag) (c:Cls):∀ ls,jZ K c ls=.bad\/fJ 2 (w8 K c) ls=jZ K c ls:=dJ fun a h=>by
 obtain ⟨x,y⟩:=a
 obtain ⟨⟨x1,x2⟩,⟨y1,y2⟩,hb⟩:=h
 dsimp only at x1 x2 y1 y2 hb ⊢
 have f:=nT K c (t:=x.1*y.2 - y.1*x.2) hb ((Sz.mul x2 y2).mono (by decide))
 refine cF ?_
 rw [show bQ 2 (eFF (x,y))=[some (.p (frD x)),some (.p (frD y))] from rfl]
 unfold w8
 refine hV ?_
 ktr_call 21 ⟨f⟩
theorem aCe (K:PySem.W.Frag) (c:Cls) {x y:Int×Int} (h1:FSz 2000 x) (h2:FSz 2000 y) (h3:x.2*y.2≠0):jZ K c [.p (frD x),.p (frD y)]=.ok (.p (frD (FR.mk (x.1*y.2 - y.1*x.2) (x.2*y.2)))):=dI (a:=(x,y)) lM ⟨h1,h2,h3⟩
theorem zL (K:PySem.W.Frag) (c:Cls) {m n:Nat} {x y:Int×Int} (hx:Good m x) (hy:Good n y) (hm:m<=2000) (hn:n<=2000):jZ K c [.p (frD x),.p (frD y)]=.ok (.p (frD (hM x y))):=aCe K c (hx.mono hm).fsz (hy.mono hn).fsz (hx.ne hy)
noncomputable def nU (K:PySem.W.Frag) (c:Cls):List L->Res L:=mOf eFF (fun a=>FSz 2000 a.1/\FSz 2000 a.2/\a.1.2*a.2.1≠0) fun a=>.ok (.p (frD (FR.mk (a.1.1*a.2.2) (a.1.2*a.2.1))))
noncomputable def aA3 (K:PySem.W.Frag) (c:Cls):MS:=(dE (aJ 2 (cA K c) (aA (aE cV (aE ixE (aD 0) (mC (.int 0))) (aE ixE (aD 1) (mC (.int 1)))) (aA (aE cV (aE ixE (aD 0) (mC (.int 1))) (aE ixE (aD 1) (mC (.int 0)))) aL))))
theorem aJ0 (K:PySem.W.Frag) (c:Cls):∀ ls,nU K c ls=.bad\/fJ 2 (aA3 K c) ls=nU K c ls:=dJ fun a h=>by
 obtain ⟨x,y⟩:=a
 obtain ⟨⟨x1,x2⟩,⟨y1,y2⟩,hb⟩:=h
 dsimp only at x1 x2 y1 y2 hb ⊢
 have f:=nT K c (t:=x.1*y.2) hb ((Sz.mul x2 y1).mono (by decide))
 refine cF ?_
 rw [show bQ 2 (eFF (x,y))=[some (.p (frD x)),some (.p (frD y))] from rfl]
 unfold aA3
 refine hV ?_
 ktr_call 21 ⟨f⟩
theorem aEy (K:PySem.W.Frag) (c:Cls) {x y:Int×Int} (h1:FSz 2000 x) (h2:FSz 2000 y) (h3:x.2*y.1≠0):nU K c [.p (frD x),.p (frD y)]=.ok (.p (frD (FR.mk (x.1*y.2) (x.2*y.1)))):=dI (a:=(x,y)) lM ⟨h1,h2,h3⟩
theorem aDw (K:PySem.W.Frag) (c:Cls) {m:Nat} {x:Int×Int} (hx:Good m x) (hm:m<=2000):nU K c [.p (frD x),.p (.tuple [.int 2,.int 1])]=.ok (.p (frD (hO x (2,1)))):=aEy K c (y:=(2,1)) (hx.mono hm).fsz ⟨uX _ (Nat.lt_of_lt_of_le (show (2:Int).natAbs < 2 ^ 4 by decide) (Nat.pow_le_pow_right (by decide) (by decide))),aL5⟩ (by have:=hx.1;show x.2*2≠0;omega)
noncomputable def kC (K:PySem.W.Frag) (c:Cls):List L->Res L:=mOf eFF (fun a=>FSz 2000 a.1/\FSz 2000 a.2) fun a=>.ok (.p (.bool (ltF a.1 a.2)))
noncomputable def aB6 (K:PySem.W.Frag) (c:Cls):MS:=(dE (aE ltE (aE cV (aE ixE (aD 0) (mC (.int 0))) (aE ixE (aD 1) (mC (.int 1)))) (aE cV (aE ixE (aD 1) (mC (.int 0))) (aE ixE (aD 0) (mC (.int 1))))))
theorem aI0 (K:PySem.W.Frag) (c:Cls):∀ ls,kC K c ls=.bad\/fJ 2 (aB6 K c) ls=kC K c ls:=dJ fun a h=>by
 obtain ⟨x,y⟩:=a
 obtain ⟨⟨x1,x2⟩,⟨y1,y2⟩⟩:=h
 dsimp only at x1 x2 y1 y2 ⊢
 refine cF ?_
 rw [show bQ 2 (eFF (x,y))=[some (.p (frD x)),some (.p (frD y))] from rfl]
 unfold aB6
 refine hV ?_
 walk_at "1d"
 rfl
theorem o7 (K:PySem.W.Frag) (c:Cls) {x y:Int×Int} (hx:FSz 2000 x) (hy:FSz 2000 y):kC K c [.p (frD x),.p (frD y)]=.ok (.p (.bool (ltF x y))):=dI (a:=(x,y)) lM ⟨hx,hy⟩
noncomputable def eS (K:PySem.W.Frag) (c:Cls):List L->Res L:=mOf eFs (fun xs=>xs≠[]/\∀ y∈xs,FSz 2000 y) fun xs=>.ok (.p (frD (best (xs.headD (0,1)) xs)))
noncomputable def iB (K:PySem.W.Frag) (c:Cls):MS:=(dN (a9 (aJ 2 (kC K c) (aA (aD 1) (aA (aD 2) aL)))) (bU 1 (aD 2)) bS)
noncomputable def rL (K:PySem.W.Frag) (c:Cls):MS:=(bB (bU 1 (aE ixE (aD 0) (mC (.int 0)))) (bB (vN (fF (aD 0)) (aM 2) (iB K c)) (dE (aD 1))))
theorem lZ (K:PySem.W.Frag) (c:Cls) (Z:Option L):∀ (xs:List (Int×Int)) (b:Int×Int) (r:Option L),FSz 2000 b->(∀ y∈xs,FSz 2000 y)->∃ r',fM (aM 2) (iB K c) (xs.map frD) [Z,some (.p (frD b)),r]=some (.nx [Z,some (.p (frD (best b xs))),r'])
 | [],b,r,_,_=>⟨r,rfl⟩
 | x :: xs,b,r,hb,h=>by
  have hx:=h x (.head _)
  have hl:=o7 K c hb hx
  have hb1:iB K c [Z,some (.p (frD b)),some (.p (frD x))]=some (.nx [Z,some (.p (frD (if ltF b x=true then x else b))),some (.p (frD x))]):=by
   unfold iB
   cases e:ltF b x<;>rw [e] at hl<;>ktr_call 2 ⟨hl⟩
  obtain ⟨r',ih⟩:=lZ K c Z xs (if ltF b x=true then x else b) (some (.p (frD x))) (by split;exact hx;exact hb) fun y hy=>h y (.tail _ hy)
  refine ⟨r',?_⟩
  rw [List.map_cons]
  unfold fM
  simp only [aM,List.set_cons_succ,List.set_cons_zero]
  rw [hb1]
  exact ih
theorem wH (K:PySem.W.Frag) (c:Cls):∀ ls,eS K c ls=.bad\/fJ 3 (rL K c) ls=eS K c ls:=dJ fun xs h=>by
 obtain ⟨h0,hz⟩:=h
 obtain ⟨r',h⟩:=lZ K c (some (.p (.list (xs.map frD)))) xs (xs.headD (0,1)) none (hz _ (head_mem _ h0)) hz
 have e1:(aE ixE (aD 0) (mC (.int 0))) [some (.p (.list (xs.map frD))),none,none]=.ok (.p (frD (xs.headD (0,1)))):=by
  cases xs with
  | nil=>exact absurd rfl h0
  | cons x r=>ktr_call 3 ⟨aE,aD,mC,Res.bind,Ev.c,ixE,gC,at0,List.headD_cons⟩
 refine cF ?_
 rw [show bQ 3 (eFs xs)=[some (.p (.list (xs.map frD))),none,none] from rfl]
 refine (aR (dA e1)).trans ((aR ((nN (ds:=xs.map frD) rfl).trans h)).trans ?_)
 rfl
theorem mJ (K:PySem.W.Frag) (c:Cls) (xs:List (Int×Int)) (h0:xs≠[]) (h:∀ y∈xs,FSz 2000 y):eS K c [.p (.list (xs.map frD))]=.ok (.p (frD (best (xs.headD (0,1)) xs))):=dI (a:=xs) sN ⟨h0,h⟩
noncomputable def j4 (K:PySem.W.Frag) (c:Cls):List L->Res L:=mOf eFs (fun xs=>xs≠[]/\∀ y∈xs,FSz 2000 y) fun xs=>.ok (.p (frD (worst (xs.headD (0,1)) xs)))
noncomputable def kX (K:PySem.W.Frag) (c:Cls):MS:=(dN (a9 (aJ 2 (kC K c) (aA (aD 2) (aA (aD 1) aL)))) (bU 1 (aD 2)) bS)
noncomputable def aC0 (K:PySem.W.Frag) (c:Cls):MS:=(bB (bU 1 (aE ixE (aD 0) (mC (.int 0)))) (bB (vN (fF (aD 0)) (aM 2) (kX K c)) (dE (aD 1))))
theorem rD (K:PySem.W.Frag) (c:Cls) (Z:Option L):∀ (xs:List (Int×Int)) (b:Int×Int) (r:Option L),FSz 2000 b->(∀ y∈xs,FSz 2000 y)->∃ r',fM (aM 2) (kX K c) (xs.map frD) [Z,some (.p (frD b)),r]=some (.nx [Z,some (.p (frD (worst b xs))),r'])
 | [],b,r,_,_=>⟨r,rfl⟩
 | x :: xs,b,r,hb,h=>by
  have hx:=h x (.head _)
  have hl:=o7 K c hx hb
  have hb1:kX K c [Z,some (.p (frD b)),some (.p (frD x))]=some (.nx [Z,some (.p (frD (if ltF x b=true then x else b))),some (.p (frD x))]):=by
   unfold kX
   cases e:ltF x b<;>rw [e] at hl<;>ktr_call 2 ⟨hl⟩
  obtain ⟨r',ih⟩:=rD K c Z xs (if ltF x b=true then x else b) (some (.p (frD x))) (by split;exact hx;exact hb) fun y hy=>h y (.tail _ hy)
  refine ⟨r',?_⟩
  rw [List.map_cons]
  unfold fM
  simp only [aM,List.set_cons_succ,List.set_cons_zero]
  rw [hb1]
  exact ih
theorem aFa (K:PySem.W.Frag) (c:Cls):∀ ls,j4 K c ls=.bad\/fJ 3 (aC0 K c) ls=j4 K c ls:=dJ fun xs h=>by
 obtain ⟨h0,hz⟩:=h
 obtain ⟨r',h⟩:=rD K c (some (.p (.list (xs.map frD)))) xs (xs.headD (0,1)) none (hz _ (head_mem _ h0)) hz
 have e1:(aE ixE (aD 0) (mC (.int 0))) [some (.p (.list (xs.map frD))),none,none]=.ok (.p (frD (xs.headD (0,1)))):=by
  cases xs with
  | nil=>exact absurd rfl h0
  | cons x r=>ktr_call 3 ⟨aE,aD,mC,Res.bind,Ev.c,ixE,gC,at0,List.headD_cons⟩
 refine cF ?_
 rw [show bQ 3 (eFs xs)=[some (.p (.list (xs.map frD))),none,none] from rfl]
 refine (aR (dA e1)).trans ((aR ((nN (ds:=xs.map frD) rfl).trans h)).trans ?_)
 rfl
theorem qV (K:PySem.W.Frag) (c:Cls) (xs:List (Int×Int)) (h0:xs≠[]) (h:∀ y∈xs,FSz 2000 y):j4 K c [.p (.list (xs.map frD))]=.ok (.p (frD (worst (xs.headD (0,1)) xs))):=dI (a:=xs) sN ⟨h0,h⟩
def cbS (c b:Int):Int:=(c*b).fdiv (Int.gcd c b:Nat)
def cb (hs:List (Int×Int)):Int:=hs.foldl (fun c h=>cbS c h.2) 1
theorem aG2 {c b:Int} (hc:1<=c) (hb:1<=b):1<=cbS c b/\c∣cbS c b/\b∣cbS c b:=by
 have g0:0 < Int.gcd c b:=Int.gcd_pos_of_ne_zero_right c (by omega)
 obtain ⟨k,hk⟩:=Int.gcd_dvd_right c b
 obtain ⟨j,hj⟩:=Int.gcd_dvd_left c b
 have e1:cbS c b=c*k:=by
  unfold cbS
  have:c*b=((Int.gcd c b:Nat):Int)*(c*k):=by
   conv=>lhs;rw [hk]
   ac_rfl
  rw [this]
  exact Int.mul_fdiv_cancel_left _ (by omega)
 have e2:cbS c b=b*j:=by
  unfold cbS
  have:c*b=((Int.gcd c b:Nat):Int)*(b*j):=by
   conv=>lhs;rw [hj]
   ac_rfl
  rw [this]
  exact Int.mul_fdiv_cancel_left _ (by omega)
 have k0:0 < k:=Int.pos_of_mul_pos_right (show 0 < ((Int.gcd c b:Nat):Int)*k by rw [<- hk];omega) (by omega)
 refine ⟨?_,⟨k,e1⟩,⟨j,e2⟩⟩
 rw [e1]
 exact bN hc k0
def GB (h:Int×Int):Prop:=1<=h.2/\Sz 150 h.1/\Sz 20 h.2
theorem aLd:∀ (hs:List (Int×Int)) (c:Int) (k:Nat),1<=c->Sz (20*k+1) c->(∀ h∈hs,GB h)->1<=hs.foldl (fun c h=>cbS c h.2) c/\c∣hs.foldl (fun c h=>cbS c h.2) c/\(∀ h∈hs,h.2∣hs.foldl (fun c h=>cbS c h.2) c)/\Sz (20*(k+hs.length)+1) (hs.foldl (fun c h=>cbS c h.2) c)
 | [],c,k,h1,h2,_=>⟨h1,Int.dvd_refl _,(fun _ h=>nomatch h),h2⟩
 | h :: hs,c,k,h1,h2,hg=>by
  have g:=hg h (.head _)
  obtain ⟨a1,a2,a3⟩:=aG2 h1 g.1
  have sz:Sz (20*(k+1)+1) (cbS c h.2):=by
   have:=Sz.mul h2 g.2.2
   exact (Sz.le this (natAbs_fdiv_le _ _)).mono (by omega)
  obtain ⟨b1,b2,b3,b4⟩:=aLd hs (cbS c h.2) (k+1) a1 sz fun x hx=>hg x (.tail _ hx)
  rw [List.foldl_cons]
  refine ⟨b1,Int.dvd_trans a2 b2,fun x hx=>?_,b4.mono (by rw [List.length_cons];omega)⟩
  rcases List.mem_cons.mp hx with z | z
  ·rw [z];exact Int.dvd_trans a3 b2
  ·exact b3 x z
noncomputable def dF (K:PySem.W.Frag) (c:Cls):List L->Res L:=mOf eFs (fun hs=>hs.length<=100/\∀ h∈hs,GB h) fun hs=>.ok (.p (.int (cb hs)))
noncomputable def eB (K:PySem.W.Frag) (c:Cls):MS:=(bU 1 (aE bO (aE cV (aD 1) (aE ixE (aD 2) (mC (.int 1)))) (aJ 2 (bM K c) (aA (aD 1) (aA (aE ixE (aD 2) (mC (.int 1))) aL)))))
noncomputable def kO (K:PySem.W.Frag) (c:Cls):MS:=(bB (bU 1 (mC (.int 1))) (bB (vN (fF (aD 0)) (aM 2) (eB K c)) (dE (aD 1))))
theorem nZ (K:PySem.W.Frag) (c:Cls):∀ ls,dF K c ls=.bad\/fJ 3 (kO K c) ls=dF K c ls:=dJ fun hs h=>by
 obtain ⟨hl,hg⟩:=h
 have gen:∀ (xs:List (Int×Int)) (x:Int) (k:Nat) (r:Option L),1<=x->Sz (20*k+1) x->k+xs.length<=100->(∀ h∈xs,GB h)->∃ r',fM (aM 2) (eB K c) (xs.map frD) [some (.p (.list (hs.map frD))),some (.p (.int x)),r]=some (.nx [some (.p (.list (hs.map frD))),some (.p (.int (xs.foldl (fun c h=>cbS c h.2) x))),r']):=by
  intro xs
  induction xs with
  | nil=>intro x k r _ _ _ _;exact ⟨r,rfl⟩
  | cons h xs ih =>
   intro x k r x1 x2 hk hxs
   have g:=hxs h (.head _)
   have hk':k+(xs.length+1)<=100:=hk
   obtain ⟨a1,a2,a3⟩:=aG2 x1 g.1
   have sz:Sz (20*(k+1)+1) (cbS x h.2):=by
    have:=Sz.mul x2 g.2.2
    exact (Sz.le this (natAbs_fdiv_le _ _)).mono (by omega)
   obtain ⟨r',ih⟩:=ih (cbS x h.2) (k+1) (some (.p (frD h))) a1 sz (by omega) fun y hy=>hxs y (.tail _ hy)
   refine ⟨r',?_⟩
   have g0:0 < Int.gcd x h.2:=Int.gcd_pos_of_ne_zero_right x (by have:=g.1;omega)
   have q1:CMulW x h.2:=⟨x2.mono (by omega),g.2.2.mono (by decide)⟩
   have q2:iG (x*h.2) ((Int.gcd x h.2:Nat):Int):=⟨by omega,(Sz.le g.2.2 (by rw [Int.natAbs_natCast];exact Nat.le_of_dvd (by have:=g.1;omega) (Int.gcd_dvd_natAbs_right x h.2))).mono (by decide)⟩
   have hb:eB K c [some (.p (.list (hs.map frD))),some (.p (.int x)),some (.p (frD h))]=some (.nx [some (.p (.list (hs.map frD))),some (.p (.int (cbS x h.2))),some (.p (frD h))]):=by
    ktr_call 11 ⟨eB,yZ⟩
    rfl
   rw [List.map_cons]
   unfold fM
   simp only [aM,List.set_cons_succ,List.set_cons_zero]
   rw [hb]
   exact ih
 obtain ⟨r',h⟩:=gen hs 1 0 none (Int.le_refl 1) (uX _ (by decide)) (by omega) hg
 refine cF ?_
 rw [show bQ 3 (eFs hs)=[some (.p (.list (hs.map frD))),none,none] from rfl]
 refine (aR (dA (d:=.int 1) rfl)).trans ?_
 refine (aR ((nN (ds:=hs.map frD) rfl).trans h)).trans (hV rfl)
theorem aIe (K:PySem.W.Frag) (c:Cls) {hs:List (Int×Int)} (h1:hs.length<=100) (h2:∀ h∈hs,GB h):dF K c [.p (.list (hs.map frD))]=.ok (.p (.int (cb hs))):=dI (a:=hs) sN ⟨h1,h2⟩
def eHI (a:(Int×Int)×Int):List L:=[.p (frD a.1),.p (.int a.2)]
theorem aHx (a b:(Int×Int)×Int) (h:eHI a=eHI b):a=b:=by
 unfold eHI at h
 injection h with h1 h2
 injection h2 with h2 _
 injection h1 with h1
 injection h2 with h2
 injection h2 with h2
 exact Prod.ext (frI h1) h2
noncomputable def lQ (K:PySem.W.Frag) (c:Cls):List L->Res L:=mOf eHI (fun a=>GB a.1/\Sz 1000 a.2) fun a=>.ok (.p (.int (a.1.1*a.2.fdiv a.1.2)))
noncomputable def v8 (K:PySem.W.Frag) (c:Cls):MS:=(dE (aE cV (aE ixE (aD 0) (mC (.int 0))) (aE bO (aD 1) (aE ixE (aD 0) (mC (.int 1))))))
theorem aGb (K:PySem.W.Frag) (c:Cls):∀ ls,lQ K c ls=.bad\/fJ 2 (v8 K c) ls=lQ K c ls:=dJ fun a h=>by
 obtain ⟨x,F⟩:=a
 obtain ⟨⟨p,t,b⟩,hF⟩:=h
 dsimp only at p t b hF ⊢
 have bn:x.2≠0:=by omega
 refine cF ?_
 rw [show bQ 2 (eHI (x,F))=[some (.p (frD x)),some (.p (.int F))] from rfl]
 unfold v8
 refine hV ?_
 walk_at "1d"
theorem zN (K:PySem.W.Frag) (c:Cls) {x:Int×Int} {F:Int} (h1:GB x) (h2:Sz 1000 F):lQ K c [.p (frD x),.p (.int F)]=.ok (.p (.int (x.1*F.fdiv x.2))):=dI (a:=(x,F)) aHx ⟨h1,h2⟩
def ePs (ps:List Pl):List L:=[.p (.list (ps.map plD))]
theorem wW (a b:List Pl) (h:ePs a=ePs b):a=b:=by
 unfold ePs at h
 injection h with h _
 injection h with h
 injection h with h
 exact aNd h
def wf (ps:List Pl):Int:=cb (ps.map fun p=>p.2.2)
def GBs (ps:List Pl):Prop:=ps.length<=100/\∀ p∈ps,GB p.2.2
noncomputable def cD (K:PySem.W.Frag) (c:Cls):List L->Res L:=mOf ePs GBs fun ps=>.ok (.p (.int (wf ps)))
noncomputable def eX (K:PySem.W.Frag) (c:Cls):En->Res Ev:=(aE ixE (aD 0) (mC (.int 2)))
noncomputable def jD (K:PySem.W.Frag) (c:Cls):MS:=(dE (aJ 1 (dF K c) (aA (dC 1 [] (fF (aD 0)) (aM 0) fL (eX K c)) aL)))
theorem pU (K:PySem.W.Frag) (c:Cls):∀ ls,cD K c ls=.bad\/fJ 1 (jD K c) ls=cD K c ls:=dJ fun ps h=>by
 obtain ⟨hl,hg⟩:=h
 refine cF ?_
 rw [show bQ 1 (ePs ps)=[some (.p (.list (ps.map plD)))] from rfl]
 unfold jD
 have hm:mQ (a5 1 [] (aM 0) fL (eX K c) [some (.p (.list (ps.map plD)))]) (ps.map plD)=some (ps.map fun p=>frD p.2.2):=by
  refine eC _ fun p hp=>?_
  simp [a5,aM,lP,fL,eX,aE,aD,mC,Res.bind,Ev.c,jL]
 have hc:=gE (n:=1) (js:=[]) (fi:=fF (aD 0)) (tg:=aM 0) (ft:=fL) (fe:=eX K c) (en:=[some (.p (.list (ps.map plD)))]) (ds:=ps.map plD) rfl (by rw [List.length_map];omega) hm
 have e1:(ps.map fun p=>frD p.2.2)=(ps.map fun p=>p.2.2).map frD:=by rw [List.map_map];rfl
 have hcb:=aIe K c (hs:=ps.map fun p=>p.2.2) (by rw [List.length_map];exact hl) (fun h hh=>by obtain ⟨p,hp,rfl⟩:=List.mem_map.mp hh;exact hg p hp)
 rw [<- e1] at hcb
 refine hV ?_
 ktr_call 3 ⟨aJ,aA,aL,hc,Res.bind,Ev.c,eN,dG,kF,hcb,lF⟩
 rfl
theorem aBz (K:PySem.W.Frag) (c:Cls) {ps:List Pl} (h:GBs ps):cD K c [.p (.list (ps.map plD))]=.ok (.p (.int (wf ps))):=dI (a:=ps) wW h
theorem aOd {ps:List Pl} (h:GBs ps):1<=wf ps/\(∀ p∈ps,p.2.2.2∣wf ps)/\Sz (20*ps.length+1) (wf ps):=by
 obtain ⟨a,b,c,d⟩:=aLd (ps.map fun p=>p.2.2) 1 0 (Int.le_refl 1) (uX _ (by decide)) (fun h' hh=>by obtain ⟨p,hp,rfl⟩:=List.mem_map.mp hh;exact h.2 p hp)
 refine ⟨a,fun p hp=>c _ (List.mem_map.mpr ⟨p,hp,rfl⟩),?_⟩
 rw [List.length_map,Nat.zero_add] at d
 exact d
def blow (F:Int) (p:Pl):Pl:=(p.1,p.2.1,(p.2.2.1*F.fdiv p.2.2.2,1))
def ePI (a:List Pl×Int):List L:=[.p (.list (a.1.map plD)),.p (.int a.2)]
theorem aCo (a b:List Pl×Int) (h:ePI a=ePI b):a=b:=by
 unfold ePI at h
 injection h with h1 h2
 injection h2 with h2 _
 injection h1 with h1
 injection h1 with h1
 injection h2 with h2
 injection h2 with h2
 exact Prod.ext (aNd h1) h2
noncomputable def fI (K:PySem.W.Frag) (c:Cls):List L->Res L:=mOf ePI (fun a=>GBs a.1/\Sz 1000 a.2) fun a=>.ok (.o (.list ((a.1.map (blow a.2)).map plD)))
noncomputable def iC (K:PySem.W.Frag) (c:Cls):En->Res Ev:=(aH a7 (aA (aE ixE (aD 0) (mC (.int 0))) (aA (aE ixE (aD 0) (mC (.int 1))) (aA (aH a7 (aA (aJ 2 (lQ K c) (aA (aE ixE (aD 0) (mC (.int 2))) (aA (aD 1) aL))) (aA (mC (.int 1)) aL))) aL))))
noncomputable def nQ (K:PySem.W.Frag) (c:Cls):MS:=(dE (dC 1 [1] (fF (aD 0)) (aM 0) fL (iC K c)))
theorem vX (K:PySem.W.Frag) (c:Cls):∀ ls,fI K c ls=.bad\/fJ 2 (nQ K c) ls=fI K c ls:=dJ fun a h=>by
 obtain ⟨ps,F⟩:=a
 obtain ⟨⟨hl,hg⟩,hF⟩:=h
 dsimp only at hl hg hF ⊢
 refine cF ?_
 rw [show bQ 2 (ePI (ps,F))=[some (.p (.list (ps.map plD))),some (.p (.int F))] from rfl]
 unfold nQ
 have hm:mQ (a5 1 [1] (aM 0) fL (iC K c) [some (.p (.list (ps.map plD))),some (.p (.int F))]) (ps.map plD)=some (ps.map fun p=>plD (blow F p)):=by
  refine eC _ fun p hp=>?_
  have hw:=zN K c (hg p hp) hF
  unfold a5
  ktr_call 2 ⟨aM,lP,vP,fL,iC,List.replicate,List.cons_append,List.nil_append,hw⟩
  rfl
 have hc:=gE (n:=1) (js:=[1]) (fi:=fF (aD 0)) (tg:=aM 0) (ft:=fL) (fe:=iC K c) (en:=[some (.p (.list (ps.map plD))),some (.p (.int F))]) (ds:=ps.map plD) rfl (by rw [List.length_map];omega) hm
 refine (zM hc).trans ?_
 rw [List.map_map]
 rfl
theorem aC6 (K:PySem.W.Frag) (c:Cls) {ps:List Pl} {F:Int} (h:GBs ps) (hF:Sz 1000 F):fI K c [.p (.list (ps.map plD)),.p (.int F)]=.ok (.o (.list ((ps.map (blow F)).map plD))):=dI (a:=(ps,F)) aCo ⟨h,hF⟩
def aK1 (a:Pt×Int):List L:=[.p (.tuple [frD a.1.1,frD a.1.2]),.p (.int a.2)]
theorem aE0 (a b:Pt×Int) (h:aK1 a=aK1 b):a=b:=by
 unfold aK1 at h
 injection h with h1 h2
 injection h2 with h2 _
 injection h1 with h1
 injection h2 with h2
 injection h2 with h2
 exact Prod.ext (ptI h1) h2
def shr (F:Int) (pt:Pt):Pt:=(FR.mk pt.1.1 (pt.1.2*F),FR.mk pt.2.1 (pt.2.2*F))
noncomputable def j3 (K:PySem.W.Frag) (c:Cls):List L->Res L:=mOf aK1 (fun a=>1<=a.1.1.2/\1<=a.1.2.2/\Sz 3000 a.1.1.2/\Sz 3000 a.1.2.2/\1<=a.2/\Sz 1000 a.2) fun a=>.ok (.p (.tuple [frD (shr a.2 a.1).1,frD (shr a.2 a.1).2]))
noncomputable def rQ (K:PySem.W.Frag) (c:Cls):MS:=(dE (aH a7 (aA (aJ 2 (cA K c) (aA (aE ixE (aE ixE (aD 0) (mC (.int 0))) (mC (.int 0))) (aA (aE cV (aE ixE (aE ixE (aD 0) (mC (.int 0))) (mC (.int 1))) (aD 1)) aL))) (aA (aJ 2 (cA K c) (aA (aE ixE (aE ixE (aD 0) (mC (.int 1))) (mC (.int 0))) (aA (aE cV (aE ixE (aE ixE (aD 0) (mC (.int 1))) (mC (.int 1))) (aD 1)) aL))) aL))))
theorem aCs (K:PySem.W.Frag) (c:Cls):∀ ls,j3 K c ls=.bad\/fJ 2 (rQ K c) ls=j3 K c ls:=dJ fun a h=>by
 obtain ⟨pt,F⟩:=a
 obtain ⟨x0,y0,x1,y1,f0,f1⟩:=h
 dsimp only at x0 y0 x1 y1 f0 f1 ⊢
 have p1:=bN x0 f0
 have p2:=bN y0 f0
 have a1:=nT K c (t:=pt.1.1) (b:=pt.1.2*F) (by omega) ((Sz.mul x1 f1).mono (by decide))
 have a2:=nT K c (t:=pt.2.1) (b:=pt.2.2*F) (by omega) ((Sz.mul y1 f1).mono (by decide))
 refine cF ?_
 rw [show bQ 2 (aK1 (pt,F))=[some (.p (.tuple [frD pt.1,frD pt.2])),some (.p (.int F))] from rfl]
 unfold rQ
 refine hV ?_
 ktr_call 21 ⟨a1,a2⟩
 rfl
theorem aEv (K:PySem.W.Frag) (c:Cls) {pt:Pt} {F:Int} (h1:1<=pt.1.2) (h2:1<=pt.2.2) (h3:Sz 3000 pt.1.2) (h4:Sz 3000 pt.2.2) (h5:1<=F) (h6:Sz 1000 F):j3 K c [.p (.tuple [frD pt.1,frD pt.2]),.p (.int F)]=.ok (.p (.tuple [frD (shr F pt).1,frD (shr F pt).2])):=dI (a:=(pt,F)) aE0 ⟨h1,h2,h3,h4,h5,h6⟩
def aAj:Option (Int×Int)->D
 | none=>.none
 | some x=>frD x
def eLH (a:List (Int×Int)×List (Int×Int)):List L:=[.p (.list (a.1.map frD)),.p (.list (a.2.map frD))]
theorem aJb (a b:List (Int×Int)×List (Int×Int)) (h:eLH a=eLH b):a=b:=by
 unfold eLH at h
 injection h with h1 h2
 injection h2 with h2 _
 injection h1 with h1
 injection h1 with h1
 injection h2 with h2
 injection h2 with h2
 exact Prod.ext (aOo h1) (aOo h2)
def Gs (n:Nat) (xs:List (Int×Int)):Prop:=∀ x∈xs,Good n x
theorem Gs.best {n:Nat} {xs:List (Int×Int)} (h:Gs n xs) (h0:xs≠[]):Good n (best (xs.headD (0,1)) xs):=h _ (nI h0 fun x hx=>(h x hx).1).1
theorem Gs.worst {n:Nat} {xs:List (Int×Int)} (h:Gs n xs) (h0:xs≠[]):Good n (worst (xs.headD (0,1)) xs):=h _ (k7 h0 fun x hx=>(h x hx).1).1
theorem y6:Good 10 (1,1):=⟨Int.le_refl 1,uX _ (by decide),uX _ (by decide)⟩
noncomputable def iQ (K:PySem.W.Frag) (c:Cls):List L->Res L:=mOf eLH (fun a=>Gs 900 a.1/\Gs 900 a.2) fun a=>.ok (.p (aAj (btw a.1 a.2)))
noncomputable def pG (K:PySem.W.Frag) (c:Cls):MS:=(bB (dN (oM (a9 (aE (eqE false) (aH gB (aA (aD 0) aL)) (mC (.int 0)))) (a9 (aE (eqE false) (aH gB (aA (aD 1) aL)) (mC (.int 0))))) (dE (aH a7 (aA (mC (.int 0)) (aA (mC (.int 1)) aL)))) bS) (bB (dN (a9 (aE (eqE false) (aH gB (aA (aD 1) aL)) (mC (.int 0)))) (dE (aJ 2 (lK K c) (aA (aJ 1 (eS K c) (aA (aD 0) aL)) (aA (aH a7 (aA (mC (.int 1)) (aA (mC (.int 1)) aL))) aL)))) bS) (bB (dN (a9 (aE (eqE false) (aH gB (aA (aD 0) aL)) (mC (.int 0)))) (dE (aJ 2 (jZ K c) (aA (aJ 1 (j4 K c) (aA (aD 1) aL)) (aA (aH a7 (aA (mC (.int 1)) (aA (mC (.int 1)) aL))) aL)))) bS) (bB (bU 2 (aJ 1 (eS K c) (aA (aD 0) aL))) (bB (bU 3 (aJ 1 (j4 K c) (aA (aD 1) aL))) (dE (mIf (a9 (aJ 2 (kC K c) (aA (aD 2) (aA (aD 3) aL)))) (aJ 2 (nU K c) (aA (aJ 2 (lK K c) (aA (aD 2) (aA (aD 3) aL))) (aA (aH a7 (aA (mC (.int 2)) (aA (mC (.int 1)) aL))) aL))) (mC (.none)))))))))
theorem aMt (n:Nat):eqE false (.p (.int (n:Int))) (.p (.int 0))=.ok (.p (.bool (decide (n=0)))):=by
 simp [eqE,dat,gY,gZ]
 by_cases h:n=0
 ·subst h;rfl
 ·simp [h]
theorem aAd (K:PySem.W.Frag) (c:Cls):∀ ls,iQ K c ls=.bad\/fJ 4 (pG K c) ls=iQ K c ls:=dJ fun a h=>by
 obtain ⟨lo,hi⟩:=a
 obtain ⟨hl,hh⟩:=h
 dsimp only at hl hh ⊢
 have L0:∀ xs:List (Int×Int),gB [.p (.list (xs.map frD))]=.ok (.p (.int (xs.length:Nat))):=fun xs=>by simp [gB,gC]
 refine cF ?_
 rw [show bQ 4 (eLH (lo,hi))=[some (.p (.list (lo.map frD))),some (.p (.list (hi.map frD))),none,none] from rfl]
 unfold pG btw
 have t0:∀ r2 r3,a9 (aE (eqE false) (aH gB (aA (aD 0) aL)) (mC (.int 0))) [some (.p (.list (lo.map frD))),some (.p (.list (hi.map frD))),r2,r3]=.ok (decide (lo.length=0)):=fun r2 r3=>by
  ktr_call 3 ⟨a9,aE,aH,aA,aL,aD,mC,Res.bind,Ev.c,L0,aMt,cP⟩
 have t1:∀ r2 r3,a9 (aE (eqE false) (aH gB (aA (aD 1) aL)) (mC (.int 0))) [some (.p (.list (lo.map frD))),some (.p (.list (hi.map frD))),r2,r3]=.ok (decide (hi.length=0)):=fun r2 r3=>by
  ktr_call 3 ⟨a9,aE,aH,aA,aL,aD,mC,Res.bind,Ev.c,L0,aMt,cP⟩
 have t01:∀ r2 r3,(oM (a9 (aE (eqE false) (aH gB (aA (aD 0) aL)) (mC (.int 0)))) (a9 (aE (eqE false) (aH gB (aA (aD 1) aL)) (mC (.int 0))))) [some (.p (.list (lo.map frD))),some (.p (.list (hi.map frD))),r2,r3]=.ok (decide (lo.length=0) && decide (hi.length=0)):=fun r2 r3=>by
  unfold oM
  rw [t0,t1]
  cases decide (lo.length=0)<;>rfl
 have zl:∀ xs:List (Int×Int),xs.length=0↔xs=[]:=fun xs=>List.length_eq_zero_iff
 by_cases c1:lo=[]
 ·by_cases c2:hi=[]
  ·rw [if_pos ⟨c1,c2⟩]
   have t:=t01 none none
   rw [decide_eq_true ((zl lo).mpr c1),decide_eq_true ((zl hi).mpr c2)] at t
   exact j8 ((k8 t).trans rfl)
  ·rw [if_neg (fun z=>c2 z.2),if_neg c2,if_pos c1]
   have t:=t01 none none
   have u1:=t1 none none
   have u0:=t0 none none
   rw [decide_eq_true ((zl lo).mpr c1)] at u0
   rw [decide_eq_false (fun z=>c2 ((zl hi).mp z))] at u1
   rw [decide_eq_true ((zl lo).mpr c1),decide_eq_false (fun z=>c2 ((zl hi).mp z))] at t
   have w:=hh.worst c2
   have hw:=qV K c hi c2 fun y hy=>((hh y hy).mono (show 900<=2000 by decide)).fsz
   have hm:=zL K c w y6 (by decide) (by decide)
   have hm:jZ K c [.p (frD (worst (hi.headD (0,1)) hi)),.p (.tuple [.int 1,.int 1])]=.ok (.p (frD (hM (worst (hi.headD (0,1)) hi) (1,1)))):=hm
   refine (aR (jB t)).trans ((aR (jB u1)).trans (j8 ((k8 u0).trans (hV ?_))))
   ktr_call 2 ⟨hw,hm,aAj⟩
 ·by_cases c2:hi=[]
  ·rw [if_neg (fun z=>c1 z.1),if_pos c2]
   have t:=t01 none none
   have u1:=t1 none none
   rw [decide_eq_true ((zl hi).mpr c2)] at u1
   rw [decide_eq_false (fun z=>c1 ((zl lo).mp z)),decide_eq_true ((zl hi).mpr c2)] at t
   have w:=hl.best c1
   have hw:=mJ K c lo c1 fun y hy=>((hl y hy).mono (show 900<=2000 by decide)).fsz
   have hm:=uP K c w y6 (by decide) (by decide)
   have hm:lK K c [.p (frD (best (lo.headD (0,1)) lo)),.p (.tuple [.int 1,.int 1])]=.ok (.p (frD (hP (best (lo.headD (0,1)) lo) (1,1)))):=hm
   refine (aR (jB t)).trans (j8 ((k8 u1).trans (hV ?_)))
   ktr_call 2 ⟨hw,hm,aAj⟩
  ·rw [if_neg (fun z=>c1 z.1),if_neg c2,if_neg c1]
   have t:=t01 none none
   have u1:=t1 none none
   have u0:=t0 none none
   rw [decide_eq_false (fun z=>c1 ((zl lo).mp z))] at u0
   rw [decide_eq_false (fun z=>c2 ((zl hi).mp z))] at u1
   rw [decide_eq_false (fun z=>c1 ((zl lo).mp z)),decide_eq_false (fun z=>c2 ((zl hi).mp z))] at t
   have w1:=hl.best c1
   have w2:=hh.worst c2
   have h1:=mJ K c lo c1 fun y hy=>((hl y hy).mono (show 900<=2000 by decide)).fsz
   have h2:=qV K c hi c2 fun y hy=>((hh y hy).mono (show 900<=2000 by decide)).fsz
   generalize best (lo.headD (0,1)) lo=l at *
   generalize worst (hi.headD (0,1)) hi=h at *
   have hp:=uP K c w1 w2 (by decide) (by decide)
   have ho:=aDw K c (aLo w1 w2) (by decide)
   have hlt:=o7 K c ((w1.mono (show 900<=2000 by decide)).fsz) ((w2.mono (show 900<=2000 by decide)).fsz)
   have e1:(aJ 1 (eS K c) (aA (aD 0) aL)) [some (.p (.list (lo.map frD))),some (.p (.list (hi.map frD))),none,none]=.ok (.p (frD l)):=by
    ktr_call 3 ⟨aJ,aA,aL,aD,Res.bind,Ev.c,eN,dG,kF,h1,lF⟩
   have e2:(aJ 1 (j4 K c) (aA (aD 1) aL)) [some (.p (.list (lo.map frD))),some (.p (.list (hi.map frD))),some (.p (frD l)),none]=.ok (.p (frD h)):=by
    ktr_call 3 ⟨aJ,aA,aL,aD,Res.bind,Ev.c,eN,dG,kF,h2,lF⟩
   refine (aR (jB t)).trans ((aR (jB u1)).trans ((aR (jB u0)).trans ((aR (dA e1)).trans ((aR (dA e2)).trans (hV ?_)))))
   cases hb:ltF l h with
   | true =>
    rw [hb] at hlt
    ktr_call 2 ⟨mIf,hlt,hp,ho,aAj⟩
   | false =>
    rw [hb] at hlt
    ktr_call 2 ⟨mIf,hlt,aAj⟩
theorem aGe (K:PySem.W.Frag) (c:Cls) {lo hi:List (Int×Int)} (h1:Gs 900 lo) (h2:Gs 900 hi):iQ K c [.p (.list (lo.map frD)),.p (.list (hi.map frD))]=.ok (.p (aAj (btw lo hi))):=dI (a:=(lo,hi)) aJb ⟨h1,h2⟩
noncomputable def gN (K:PySem.W.Frag) (c:Cls):List L->Res L:=mOf eFs (fun rows=>rows.length<=10000/\∀ r∈rows,Sz 900 r.1/\Sz 900 r.2) fun rows=>.ok (.p (aAj (solve rows)))
noncomputable def iI (K:PySem.W.Frag) (c:Cls):En->Res Ev:=(aJ 2 (cA K c) (aA (mUn nA (aE ixE (aD 0) (mC (.int 1)))) (aA (aE ixE (aD 0) (mC (.int 0))) aL)))
noncomputable def iM (K:PySem.W.Frag) (c:Cls):En->Res Ev:=(aJ 2 (cA K c) (aA (mUn nA (aE ixE (aD 0) (mC (.int 1)))) (aA (aE ixE (aD 0) (mC (.int 0))) aL)))
noncomputable def iP (K:PySem.W.Frag) (c:Cls):En->Res Ev:=(qS (aE (eqE false) (aE ixE (aD 0) (mC (.int 0))) (mC (.int 0))) (aE leE (aE ixE (aD 0) (mC (.int 1))) (mC (.int 0))))
noncomputable def rS (K:PySem.W.Frag) (c:Cls):MS:=(bB (dN (a9 (aH aGx (aA (dC 1 [] (fF (aD 0)) (aM 0) fL (iP K c)) aL))) (dE (mC (.none))) bS) (bB (bU 1 (dC 1 [] (fF (aD 0)) (aM 0) (a9 (aE gtE (aE ixE (aD 0) (mC (.int 0))) (mC (.int 0)))) (iM K c))) (bB (bU 2 (dC 1 [] (fF (aD 0)) (aM 0) (a9 (aE ltE (aE ixE (aD 0) (mC (.int 0))) (mC (.int 0)))) (iI K c))) (dE (aJ 2 (iQ K c) (aA (aD 1) (aA (aD 2) aL)))))))
theorem uQ {n:Nat} {r:N.R2} (h:r.1≠0) (h1:Sz n r.1) (h2:Sz n r.2):Good n (mI r):=lN h2.neg h1 h
theorem aCt (K:PySem.W.Frag) (c:Cls):∀ ls,gN K c ls=.bad\/fJ 3 (rS K c) ls=gN K c ls:=dJ fun rows h=>by
 obtain ⟨hl,hz⟩:=h
 refine cF ?_
 rw [show bQ 3 (eFs rows)=[some (.p (.list (rows.map frD))),none,none] from rfl]
 unfold rS solve
 have hlen:(rows.map frD).length<=100000:=by rw [List.length_map];omega
 have fr:∀ r∈rows,r.1≠0->cA K c [.p (.int (-r.2)),.p (.int r.1)]=.ok (.p (frD (mI r))):=fun r hr h0=>nT K c h0 ((hz r hr).1.mono (by decide))
 have m1:mQ (a5 1 [] (aM 0) fL (iP K c) [some (.p (.list (rows.map frD))),none,none]) (rows.map frD)=some (rows.map fun r=>PyData.bool (decide (r.1=0) && decide (r.2<=0))):=by
  refine eC _ fun r hr=>?_
  have q:eqE false (.p (.int r.1)) (.p (.int 0))=.ok (.p (.bool (decide (r.1=0)))):=by
   simp [eqE,dat,gY,gZ]
   by_cases h:r.1=0
   ·simp [h]
   ·simp [h]
  unfold a5
  ktr_call 3 ⟨aM,lP,fL,iP,qS,aE,aD,mC,List.replicate,List.cons_append,List.nil_append,Res.bind,Ev.c,mR,nV,q,gL⟩
  by_cases h:r.1=0
  ·simp [h]
  ·simp [h]
 have c1:=gE (n:=1) (js:=[]) (fi:=fF (aD 0)) (tg:=aM 0) (ft:=fL) (fe:=iP K c) (en:=[some (.p (.list (rows.map frD))),none,none]) (ds:=rows.map frD) rfl hlen m1
 have ta:a9 (aH aGx (aA (dC 1 [] (fF (aD 0)) (aM 0) fL (iP K c)) aL)) [some (.p (.list (rows.map frD))),none,none]=.ok (rows.any fun r=>decide (r.1=0) && decide (r.2<=0)):=by
  have:aGx [.p (.list (rows.map fun r=>PyData.bool (decide (r.1=0) && decide (r.2<=0))))]=.ok (.p (.bool (rows.any fun r=>decide (r.1=0) && decide (r.2<=0)))):=by
   simp only [aGx,jX,aAr]
   rw [any_map]
  simp only [a9,aH,aA,aL,c1,Res.bind,Ev.c,this,cP]
 cases hb:(rows.any fun r=>decide (r.1=0) && decide (r.2<=0)) with
 | true =>
  rw [hb] at ta
  rw [if_pos rfl]
  exact j8 ((k8 ta).trans rfl)
 | false =>
  rw [hb] at ta
  rw [if_neg (by decide)]
  have m2:mQ (a5 1 [] (aM 0) (a9 (aE gtE (aE ixE (aD 0) (mC (.int 0))) (mC (.int 0)))) (iM K c) [some (.p (.list (rows.map frD))),none,none]) (rows.map frD)=some (((rows.filter fun r=>decide (0 < r.1))).map fun r=>frD (mI r)):=by
   refine iD _ fun r hr=>?_
   unfold a5
   by_cases h:0 < r.1
   ·have f:=fr r hr (by omega)
    rw [decide_eq_true h]
    ktr_call 2 ⟨aM,lP,iM,List.replicate,List.cons_append,List.nil_append,decide_eq_true h,f⟩
   ·rw [decide_eq_false h]
    ktr_call 2 ⟨aM,lP,iM,List.replicate,List.cons_append,List.nil_append,decide_eq_false h⟩
  have c2:=gE (n:=1) (js:=[]) (fi:=fF (aD 0)) (tg:=aM 0) (ft:=a9 (aE gtE (aE ixE (aD 0) (mC (.int 0))) (mC (.int 0)))) (fe:=iM K c) (en:=[some (.p (.list (rows.map frD))),none,none]) (ds:=rows.map frD) rfl hlen m2
  have m3:∀ x,mQ (a5 1 [] (aM 0) (a9 (aE ltE (aE ixE (aD 0) (mC (.int 0))) (mC (.int 0)))) (iI K c) [some (.p (.list (rows.map frD))),x,none]) (rows.map frD)=some (((rows.filter fun r=>decide (r.1 < 0))).map fun r=>frD (mI r)):=fun x=>by
   refine iD _ fun r hr=>?_
   unfold a5
   by_cases h:r.1 < 0
   ·have f:=fr r hr (by omega)
    rw [decide_eq_true h]
    ktr_call 2 ⟨aM,lP,iI,List.replicate,List.cons_append,List.nil_append,decide_eq_true h,f⟩
   ·rw [decide_eq_false h]
    ktr_call 2 ⟨aM,lP,iI,List.replicate,List.cons_append,List.nil_append,decide_eq_false h⟩
  have c3:=fun x=>gE (n:=1) (js:=[]) (fi:=fF (aD 0)) (tg:=aM 0) (ft:=a9 (aE ltE (aE ixE (aD 0) (mC (.int 0))) (mC (.int 0)))) (fe:=iI K c) (en:=[some (.p (.list (rows.map frD))),x,none]) (ds:=rows.map frD) rfl hlen (m3 x)
  have el:((rows.filter fun r=>decide (0 < r.1)).map fun r=>frD (mI r))=(iU rows).map frD:=by unfold iU;rw [List.map_map];rfl
  have eh:((rows.filter fun r=>decide (r.1 < 0)).map fun r=>frD (mI r))=(fN rows).map frD:=by unfold fN;rw [List.map_map];rfl
  rw [el] at c2
  simp only [eh] at c3
  have gl:Gs 900 (iU rows):=fun x hx=>by
   obtain ⟨r,hr,h0,rfl⟩:=mem_lows.mp hx
   exact uQ (by omega) (hz r hr).1 (hz r hr).2
  have gh:Gs 900 (fN rows):=fun x hx=>by
   obtain ⟨r,hr,h0,rfl⟩:=mem_highs.mp hx
   exact uQ (by omega) (hz r hr).1 (hz r hr).2
  have hbt:=aGe K c gl gh
  have hfl:vI (.p (aAj (btw (iU rows) (fN rows))))=true:=by
   unfold vI
   cases btw (iU rows) (fN rows) with
   | none=>simp [aAj,lfD]
   | some x=>exact aOa x
  refine (aR (jB ta)).trans ((aR (iH c2)).trans ((aR (iH (c3 _))).trans (hV ?_)))
  ktr_call 3 ⟨aJ,aA,aL,aD,Res.bind,Ev.c,eN,dG,kF,zW,hbt,hfl,lF⟩
theorem rG (K:PySem.W.Frag) (c:Cls) {rows:List N.R2} (h1:rows.length<=10000) (h2:∀ r∈rows,Sz 900 r.1/\Sz 900 r.2):gN K c [.p (.list (rows.map frD))]=.ok (.p (aAj (solve rows))):=dI (a:=rows) sN ⟨h1,h2⟩
def r3D (r:R3):D:=.tuple [.int r.1,.int r.2.1,.int r.2.2]
theorem r3I {a b:R3} (h:r3D a=r3D b):a=b:=by
 unfold r3D at h
 injection h with h
 injection h with h1 h
 injection h with h2 h
 injection h with h3 _
 injection h1 with h1
 injection h2 with h2
 injection h3 with h3
 exact Prod.ext h1 (Prod.ext h2 h3)
theorem aP3 {α:Type} {f:α->D} (hf:∀ a b,f a=f b->a=b):∀ {xs ys:List α},xs.map f=ys.map f->xs=ys
 | [],[],_=>rfl
 | [],_ :: _,h=>by cases h
 | _ :: _,[],h=>by cases h
 | x :: xs,y :: ys,h=>by
  injection h with h1 h2
  rw [hf x y h1,aP3 hf h2]
theorem aIq (p:R3):ixE (.p (r3D p)) (.p (.int 0))=.ok (.p (.int p.1)):=nH _ _
theorem wX (p:R3):ixE (.p (r3D p)) (.p (.int 1))=.ok (.p (.int p.2.1)):=nL _ _ _
theorem aIo (p:R3):ixE (.p (r3D p)) (.p (.int 2))=.ok (.p (.int p.2.2)):=rY _ _ _ _
def eRs (rows:List R3):List L:=[.p (.list (rows.map r3D))]
theorem aHw (a b:List R3) (h:eRs a=eRs b):a=b:=by
 unfold eRs at h
 injection h with h _
 injection h with h
 injection h with h
 exact aP3 (fun _ _=>r3I) h
def G3 (n:Nat) (r:R3):Prop:=Sz n r.1/\Sz n r.2.1/\Sz n r.2.2
noncomputable def eF (K:PySem.W.Frag) (c:Cls):List L->Res L:=mOf eRs (fun rows=>rows.length<=100/\∀ r∈rows,G3 620 r) fun rows=>.ok (.o (.list ((elim rows).map frD)))
noncomputable def gT (K:PySem.W.Frag) (c:Cls):En->Res Ev:=(aH a7 (aA (aE jJ (aE cV (aE ixE (aD 1) (mC (.int 1))) (aE ixE (aD 0) (mC (.int 0)))) (aE cV (aE ixE (aD 0) (mC (.int 1))) (aE ixE (aD 1) (mC (.int 0))))) (aA (aE jJ (aE cV (aE ixE (aD 1) (mC (.int 1))) (aE ixE (aD 0) (mC (.int 2)))) (aE cV (aE ixE (aD 0) (mC (.int 1))) (aE ixE (aD 1) (mC (.int 2))))) aL)))
noncomputable def gS (K:PySem.W.Frag) (c:Cls):MS:=(dN (a9 (aE gtE (aE ixE (aD 3) (mC (.int 1))) (mC (.int 0)))) (tH 1 (dC 1 [3] (fF (aD 2)) (aM 0) fL (gT K c))) bS)
noncomputable def fD (K:PySem.W.Frag) (c:Cls):En->Res Ev:=(aD 0)
noncomputable def fC (K:PySem.W.Frag) (c:Cls):En->Res Ev:=(aH a7 (aA (aE ixE (aD 0) (mC (.int 0))) (aA (aE ixE (aD 0) (mC (.int 2))) aL)))
noncomputable def lR (K:PySem.W.Frag) (c:Cls):MS:=(bB (bU 1 (dC 1 [] (fF (aD 0)) (aM 0) (a9 (aE (eqE false) (aE ixE (aD 0) (mC (.int 1))) (mC (.int 0)))) (fC K c))) (bB (bU 2 (dC 1 [] (fF (aD 0)) (aM 0) (a9 (aE ltE (aE ixE (aD 0) (mC (.int 1))) (mC (.int 0)))) (fD K c))) (fun en=>(bB (vN (fF (aD 0)) (aM 3) (gS K c)) (dE (aD 1))) (frz 2 en))))
theorem vH (highs:List R3):∀ (rows:List R3) (k:List N.R2),(rows.foldl (nM highs) k).length<=k.length+rows.length*highs.length
 | [],k=>by simp
 | l :: rows,k=>by
  rw [List.foldl_cons]
  have h:=vH highs rows (nM highs k l)
  have h2:(nM highs k l).length<=k.length+highs.length:=by
   unfold nM
   split
   ·rw [List.length_append,List.length_map];exact Nat.le_refl _
   ·omega
  have e:(l :: rows).length*highs.length=highs.length+rows.length*highs.length:=by rw [List.length_cons,Nat.add_mul,Nat.one_mul,Nat.add_comm]
  omega
theorem aE6 (rows:List R3):(elim rows).length<=rows.length+rows.length*rows.length:=by
 unfold elim
 have h:=vH (g8 rows) rows (qF rows)
 have h1:(qF rows).length<=rows.length:=by unfold qF;rw [List.length_map];exact List.length_filter_le _ _
 have h2:(g8 rows).length<=rows.length:=by unfold g8;exact List.length_filter_le _ _
 have h3:=Nat.mul_le_mul_left rows.length h2
 omega
theorem uT (K:PySem.W.Frag) (c:Cls):∀ ls,eF K c ls=.bad\/fJ 4 (lR K c) ls=eF K c ls:=dJ fun rows h=>by
 obtain ⟨hl,hz⟩:=h
 refine cF ?_
 rw [show bQ 4 (eRs rows)=[some (.p (.list (rows.map r3D))),none,none,none] from rfl]
 unfold lR
 have hlen:(rows.map r3D).length<=100000:=by rw [List.length_map];omega
 have q0:∀ x:Int,eqE false (.p (.int x)) (.p (.int 0))=.ok (.p (.bool (decide (x=0)))):=fun x=>by
  simp [eqE,dat,gY,gZ]
  by_cases h:x=0
  ·simp [h]
  ·simp [h]
 have m1:mQ (a5 1 [] (aM 0) (a9 (aE (eqE false) (aE ixE (aD 0) (mC (.int 1))) (mC (.int 0)))) (fC K c) [some (.p (.list (rows.map r3D))),none,none,none]) (rows.map r3D)=some ((rows.filter fun r=>decide (r.2.1=0)).map fun r=>frD (r.1,r.2.2)):=by
  refine iD _ fun r hr=>?_
  unfold a5
  by_cases h:r.2.1=0
  ·rw [decide_eq_true h]
   ktr_call 3 ⟨aM,lP,fC,a9,aE,aD,mC,aH,aA,aL,a7,jM,cP,List.replicate,List.cons_append,List.nil_append,Res.bind,Ev.c,aIq,wX,aIo,q0,decide_eq_true h⟩
   rfl
  ·rw [decide_eq_false h]
   ktr_call 3 ⟨aM,lP,fC,a9,aE,aD,mC,cP,List.replicate,List.cons_append,List.nil_append,Res.bind,Ev.c,wX,q0,decide_eq_false h⟩
 have c1:=gE (n:=1) (js:=[]) (fi:=fF (aD 0)) (tg:=aM 0) (ft:=a9 (aE (eqE false) (aE ixE (aD 0) (mC (.int 1))) (mC (.int 0)))) (fe:=fC K c) (en:=[some (.p (.list (rows.map r3D))),none,none,none]) (ds:=rows.map r3D) rfl hlen m1
 have m2:∀ x,mQ (a5 1 [] (aM 0) (a9 (aE ltE (aE ixE (aD 0) (mC (.int 1))) (mC (.int 0)))) (fD K c) [some (.p (.list (rows.map r3D))),x,none,none]) (rows.map r3D)=some ((rows.filter fun r=>decide (r.2.1 < 0)).map r3D):=fun x=>by
  refine iD _ fun r hr=>?_
  unfold a5
  by_cases h:r.2.1 < 0
  ·rw [decide_eq_true h]
   ktr_call 3 ⟨aM,lP,fD,a9,aE,aD,mC,gL,cP,List.replicate,List.cons_append,List.nil_append,Res.bind,Ev.c,wX,decide_eq_true h⟩
  ·rw [decide_eq_false h]
   ktr_call 3 ⟨aM,lP,fD,a9,aE,aD,mC,gL,cP,List.replicate,List.cons_append,List.nil_append,Res.bind,Ev.c,wX,decide_eq_false h⟩
 have c2:=fun x=>gE (n:=1) (js:=[]) (fi:=fF (aD 0)) (tg:=aM 0) (ft:=a9 (aE ltE (aE ixE (aD 0) (mC (.int 1))) (mC (.int 0)))) (fe:=fD K c) (en:=[some (.p (.list (rows.map r3D))),x,none,none]) (ds:=rows.map r3D) rfl hlen (m2 x)
 have ek:((rows.filter fun r=>decide (r.2.1=0)).map fun r=>frD (r.1,r.2.2))=(qF rows).map frD:=by unfold qF;rw [List.map_map];rfl
 rw [ek] at c1
 have eh:((rows.filter fun r=>decide (r.2.1 < 0)).map r3D)=(g8 rows).map r3D:=rfl
 simp only [eh] at c2
 have hz2:∀ r∈g8 rows,G3 620 r:=fun r hr=>hz r (List.mem_filter.mp hr).1
 have hl2:(g8 rows).length<=100:=Nat.le_trans (List.length_filter_le _ _) hl
 have gen:∀ (xs:List R3) (k:List N.R2) (r3:Option L),(∀ r∈xs,G3 620 r)->k.length+xs.length*100<=50000->∃ r',fM (aM 3) (gS K c) (xs.map r3D) [some (.p (.list (rows.map r3D))),some (.o (.list (k.map frD))),some (.p (.list ((g8 rows).map r3D))),r3]=some (.nx [some (.p (.list (rows.map r3D))),some (.o (.list ((xs.foldl (nM (g8 rows)) k).map frD))),some (.p (.list ((g8 rows).map r3D))),r']):=by
  intro xs
  induction xs with
  | nil=>intro k r3 _ _;exact ⟨r3,rfl⟩
  | cons l xs ih =>
   intro k r3 hx hk
   have gl:=hx l (.head _)
   have hk':k.length+(xs.length+1)*100<=50000:=hk
   have tl:a9 (aE gtE (aE ixE (aD 3) (mC (.int 1))) (mC (.int 0))) [some (.p (.list (rows.map r3D))),some (.o (.list (k.map frD))),some (.p (.list ((g8 rows).map r3D))),some (.p (r3D l))]=.ok (decide (0 < l.2.1)):=by
    ktr_call 3 ⟨a9,aE,aD,mC,gL,cP,Res.bind,Ev.c,wX⟩
   have hb:gS K c [some (.p (.list (rows.map r3D))),some (.o (.list (k.map frD))),some (.p (.list ((g8 rows).map r3D))),some (.p (r3D l))]=some (.nx [some (.p (.list (rows.map r3D))),some (.o (.list ((nM (g8 rows) k l).map frD))),some (.p (.list ((g8 rows).map r3D))),some (.p (r3D l))]):=by
    unfold gS nM
    by_cases h:0 < l.2.1
    ·rw [decide_eq_true h] at tl
     rw [if_pos h]
     refine (k8 tl).trans ?_
     have m3:mQ (a5 1 [3] (aM 0) fL (gT K c) [some (.p (.list (rows.map r3D))),some (.o (.list (k.map frD))),some (.p (.list ((g8 rows).map r3D))),some (.p (r3D l))]) ((g8 rows).map r3D)=some ((g8 rows).map fun h=>frD (nO l h)):=by
      refine eC _ fun g hg=>?_
      obtain ⟨a1,a2,a3⟩:=gl
      obtain ⟨b1,b2,b3⟩:=hz2 g hg
      unfold a5
      ktr_call 21 ⟨aM,lP,vP,fL,gT,List.replicate,List.cons_append,List.nil_append,aIq,wX,aIo⟩
      rfl
     have c3:=gE (n:=1) (js:=[3]) (fi:=fF (aD 2)) (tg:=aM 0) (ft:=fL) (fe:=gT K c) (en:=[some (.p (.list (rows.map r3D))),some (.o (.list (k.map frD))),some (.p (.list ((g8 rows).map r3D))),some (.p (r3D l))]) (ds:=(g8 rows).map r3D) rfl (by rw [List.length_map];omega) m3
     have e3:((g8 rows).map fun h=>frD (nO l h))=((g8 rows).map (nO l)).map frD:=by rw [List.map_map];rfl
     unfold tH
     ktr_call 3 ⟨c3⟩
     rw [if_pos (by omega),e3]
    ·rw [decide_eq_false h] at tl
     rw [if_neg h]
     exact jB tl
   have hln:(nM (g8 rows) k l).length<=k.length+100:=by
    unfold nM
    split
    ·rw [List.length_append,List.length_map];omega
    ·omega
   obtain ⟨r',ih⟩:=ih (nM (g8 rows) k l) (some (.p (r3D l))) (fun r hr=>hx r (.tail _ hr)) (by omega)
   refine ⟨r',?_⟩
   rw [List.map_cons]
   unfold fM
   simp only [aM,List.set_cons_succ,List.set_cons_zero]
   rw [hb]
   exact ih
 have hkl:(qF rows).length<=rows.length:=by unfold qF;rw [List.length_map];exact List.length_filter_le _ _
 obtain ⟨r',hloop⟩:=gen rows (qF rows) none hz (by omega)
 refine (aR (iH c1)).trans ((aR (iH (c2 _))).trans ?_)
 simp only [List.set_cons_succ,List.set_cons_zero,frz,List.getElem?_cons_succ,List.getElem?_cons_zero]
 refine (aR ((nN (ds:=rows.map r3D) rfl).trans hloop)).trans ?_
 rfl
theorem aAn (K:PySem.W.Frag) (c:Cls) {rows:List R3} (h1:rows.length<=100) (h2:∀ r∈rows,G3 620 r):eF K c [.p (.list (rows.map r3D))]=.ok (.o (.list ((elim rows).map frD))):=dI (a:=rows) aHw ⟨h1,h2⟩
def uL (p q:Pl):R3:=(p.1 - q.1,p.2.1 - q.2.1,p.2.2.1 - q.2.2.1)
def ePP (a:Pl×Pl):List L:=[.p (plD a.1),.p (plD a.2)]
theorem aH3 (a b:Pl×Pl) (h:ePP a=ePP b):a=b:=by
 unfold ePP at h
 injection h with h1 h2
 injection h2 with h2 _
 injection h1 with h1
 injection h2 with h2
 exact Prod.ext (plI h1) (plI h2)
noncomputable def wK (K:PySem.W.Frag) (c:Cls):List L->Res L:=mOf ePP (fun _=>True) fun a=>.ok (.p (r3D (uL a.1 a.2)))
noncomputable def aHy (K:PySem.W.Frag) (c:Cls):MS:=(dE (aH a7 (aA (aE jJ (aE ixE (aD 0) (mC (.int 0))) (aE ixE (aD 1) (mC (.int 0)))) (aA (aE jJ (aE ixE (aD 0) (mC (.int 1))) (aE ixE (aD 1) (mC (.int 1)))) (aA (aE jJ (aE ixE (aE ixE (aD 0) (mC (.int 2))) (mC (.int 0))) (aE ixE (aE ixE (aD 1) (mC (.int 2))) (mC (.int 0)))) aL)))))
theorem aL7 (K:PySem.W.Frag) (c:Cls):∀ ls,wK K c ls=.bad\/fJ 2 (aHy K c) ls=wK K c ls:=dJ fun a _=>by
 obtain ⟨p,q⟩:=a
 refine cF ?_
 rw [show bQ 2 (ePP (p,q))=[some (.p (plD p)),some (.p (plD q))] from rfl]
 unfold aHy
 refine hV ?_
 walk_at "1"
 rfl
theorem aFk (K:PySem.W.Frag) (c:Cls) (p q:Pl):wK K c [.p (plD p),.p (plD q)]=.ok (.p (r3D (uL p q))):=dI (a:=(p,q)) aH3 trivial
structure Gd (t b:Nat) (x:Int×Int):Prop where
 p:1<=x.2
 t:Sz t x.1
 b:Sz b x.2
theorem zS {m n:Nat} {t b:Int} (h0:b≠0) (ht:Sz m t) (hb:Sz n b):Gd m n (FR.mk t b):=⟨(FR.mP h0).1.pos,Sz.le ht (natAbs_fdiv_le _ _),Sz.le hb (natAbs_fdiv_le _ _)⟩
theorem Gd.mono {a b c d:Nat} {x:Int×Int} (h:Gd a b x) (h1:a<=c) (h2:b<=d):Gd c d x:=⟨h.p,h.t.mono h1,h.b.mono h2⟩
theorem sR {m n:Nat} {rows:List N.R2} {x:Int×Int} (h:∀ r∈rows,Sz m r.1/\Sz n r.2) (e:solve rows=some x):Gd (n+m+3) (2*m+3) x:=by
 have gl:∀ y∈iU rows,Gd n m y:=fun y hy=>by
  obtain ⟨r,hr,h0,rfl⟩:=mem_lows.mp hy
  exact zS (by omega) (h r hr).2.neg (h r hr).1
 have gh:∀ y∈fN rows,Gd n m y:=fun y hy=>by
  obtain ⟨r,hr,h0,rfl⟩:=mem_highs.mp hy
  exact zS (by omega) (h r hr).2.neg (h r hr).1
 unfold solve at e
 split at e
 ·cases e
 ·unfold btw at e
  split at e
  ·cases e
   exact ⟨Int.le_refl 1,uX _ (Nat.two_pow_pos _),uX _ (Nat.one_lt_two_pow (by omega))⟩
  ·rename_i z
   split at e
   ·rename_i z2
    cases e
    have g:=gl _ (nI (fun q=>z ⟨q,z2⟩) rZ).1
    generalize best ((iU rows).headD (0,1)) (iU rows)=y at g
    have gp:=g.p
    refine (zS (m:=max n m+1) (n:=m) (t:=y.1*1+1*y.2) (b:=y.2*1) (by omega) ?_ ?_).mono (by omega) (by omega)
    ·rw [Int.mul_one,Int.one_mul];exact Sz.addM g.t g.b
    ·rw [Int.mul_one];exact g.b
   ·rename_i z2
    split at e
    ·cases e
     have g:=gh _ (k7 z2 oI).1
     generalize worst ((fN rows).headD (0,1)) (fN rows)=y at g
     have gp:=g.p
     refine (zS (m:=max n m+1) (n:=m) (t:=y.1*1 - 1*y.2) (b:=y.2*1) (by omega) ?_ ?_).mono (by omega) (by omega)
     ·rw [Int.mul_one,Int.one_mul];exact Sz.subM g.t g.b
     ·rw [Int.mul_one];exact g.b
    ·rename_i z3
     split at e
     ·cases e
      have g:=gl _ (nI z3 rZ).1
      have g2:=gh _ (k7 z2 oI).1
      generalize best ((iU rows).headD (0,1)) (iU rows)=y at g
      generalize worst ((fN rows).headD (0,1)) (fN rows)=w at g2
      have gp:=g.p
      have gp2:=g2.p
      have pp:=bN gp gp2
      have h1:Gd (n+m+1) (m+m) (hP y w):=(zS (by omega) (Sz.addM (Sz.mul g.t g2.b) (Sz.mul g2.t g.b)) (Sz.mul g.b g2.b)).mono (by omega) (by omega)
      have hp:=h1.p
      generalize hP y w=v at h1 hp
      refine (zS (m:=n+m+1) (n:=m+m+2) (t:=v.1*1) (b:=v.2*2) (by omega) ?_ ?_).mono (by omega) (by omega)
      ·rw [Int.mul_one];exact h1.t
      ·exact Sz.mul h1.b (uX 2 (by decide))
     ·cases e
structure PW (p:Pl):Prop where
 i:Sz 4 p.1
 j:Sz 4 p.2.1
 h:Sz 591 p.2.2.1
def rowsOf (p:Pl) (ps:List Pl):List R3:=(ps.filter fun q=>decide (q≠p)).map (uL p)
theorem aM3 {p q:Pl} (hp:PW p) (hq:PW q):Sz 5 (uL p q).1/\Sz 5 (uL p q).2.1/\Sz 592 (uL p q).2.2:=⟨Sz.subM hp.i hq.i,Sz.subM hp.j hq.j,Sz.subM hp.h hq.h⟩
theorem aBx {p:Pl} {ps:List Pl} (hp:PW p) (hq:∀ q∈ps,PW q):∀ r∈rowsOf p ps,Sz 5 r.1/\Sz 5 r.2.1/\Sz 592 r.2.2:=fun r hr=>by
 obtain ⟨q,h1,rfl⟩:=List.mem_map.mp hr
 exact aM3 hp (hq q (List.mem_filter.mp h1).1)
theorem aCf {rows:List R3} (h:∀ r∈rows,Sz 5 r.1/\Sz 5 r.2.1/\Sz 592 r.2.2):∀ r∈elim rows,Sz 11 r.1/\Sz 598 r.2:=fun x hx=>by
 rcases mem_elim.mp hx with ⟨r,hr,_,rfl⟩ | ⟨l,hl,_,g,hg,_,rfl⟩
 ·exact ⟨(h r hr).1.mono (by decide),(h r hr).2.2.mono (by decide)⟩
 ·obtain ⟨a1,a2,a3⟩:=h l hl
  obtain ⟨b1,b2,b3⟩:=h g hg
  exact ⟨Sz.subM (Sz.mul a2 b1) (Sz.mul b2 a1),Sz.subM (Sz.mul a2 b3) (Sz.mul b2 a3)⟩
theorem aAv {rows:List R3} {x:Int×Int} (h:∀ r∈rows,Sz 5 r.1/\Sz 5 r.2.1/\Sz 592 r.2.2) (hx:Gd 612 25 x):∀ r∈rows.map (aEf x),Sz 30 r.1/\Sz 618 r.2:=fun y hy=>by
 obtain ⟨r,hr,rfl⟩:=List.mem_map.mp hy
 obtain ⟨a1,a2,a3⟩:=h r hr
 exact ⟨Sz.mul a2 hx.b,Sz.addM (Sz.mul a1 hx.t) (Sz.mul a3 hx.b)⟩
theorem aIj {rows:List R3} {pt:Pt} (h:∀ r∈rows,Sz 5 r.1/\Sz 5 r.2.1/\Sz 592 r.2.2) (e:nC rows=some pt):Gd 612 25 pt.1/\Gd 651 63 pt.2:=by
 unfold nC at e
 cases ex:solve (elim rows) with
 | none=>rw [ex] at e;cases e
 | some x =>
  rw [ex] at e
  dsimp only at e
  cases ey:solve (rows.map (aEf x)) with
  | none=>rw [ey] at e;cases e
  | some y =>
   rw [ey] at e
   cases e
   have gx:Gd 612 25 x:=(sR (aCf h) ex).mono (by decide) (by decide)
   exact ⟨gx,(sR (aAv h gx) ey).mono (by decide) (by decide)⟩
def jI:Option Pt->D
 | none=>.none
 | some pt=>.tuple [frD pt.1,frD pt.2]
def ePL (a:Pl×List Pl):List L:=[.p (plD a.1),.p (.list (a.2.map plD))]
theorem aJp (a b:Pl×List Pl) (h:ePL a=ePL b):a=b:=by
 unfold ePL at h
 injection h with h1 h2
 injection h2 with h2 _
 injection h1 with h1
 injection h2 with h2
 injection h2 with h2
 exact Prod.ext (plI h1) (aNd h2)
noncomputable def eI (K:PySem.W.Frag) (c:Cls):List L->Res L:=mOf ePL (fun a=>a.2.length<=90/\PW a.1/\∀ q∈a.2,PW q) fun a=>.ok (.p (jI (nC (rowsOf a.1 a.2))))
noncomputable def eJ (K:PySem.W.Frag) (c:Cls):En->Res Ev:=(aH a7 (aA (aE cV (aE ixE (aD 0) (mC (.int 1))) (aE ixE (aD 1) (mC (.int 1)))) (aA (aE dX (aE cV (aE ixE (aD 0) (mC (.int 0))) (aE ixE (aD 1) (mC (.int 0)))) (aE cV (aE ixE (aD 0) (mC (.int 2))) (aE ixE (aD 1) (mC (.int 1))))) aL)))
noncomputable def eK (K:PySem.W.Frag) (c:Cls):En->Res Ev:=(aJ 2 (wK K c) (aA (aD 1) (aA (aD 0) aL)))
noncomputable def kB (K:PySem.W.Frag) (c:Cls):MS:=(bB (bU 2 (dC 1 [0] (fF (aD 1)) (aM 0) (a9 (aE (eqE true) (aD 0) (aD 1))) (eK K c))) (fun en=>(bB (bU 3 (aJ 1 (gN K c) (aA (aJ 1 (eF K c) (aA (aD 2) aL)) aL))) (bB (dN (a9 (mUn (qJ false) (aD 3))) (dE (mC (.none))) bS) (bB (bU 4 (aJ 1 (gN K c) (aA (dC 1 [3] (fF (aD 2)) (aM 0) fL (eJ K c)) aL))) (dE (aH a7 (aA (aD 3) (aA (aD 4) aL))))))) (frz 2 en)))
theorem aAu (x y:Pl):PyData.eqv (plD x) (plD y)=decide (x=y):=by
 have:PyData.eqv (plD x) (plD y)=(x.1 == y.1 && (x.2.1 == y.2.1 && (PyData.eqv (frD x.2.2) (frD y.2.2) && true))):=by simp [plD,PyData.eqv,PyData.eqvAll]
 rw [this,aJ6]
 by_cases h:x=y
 ·subst h;simp
 ·rw [decide_eq_false h]
  by_cases h1:x.1=y.1
  ·by_cases h2:x.2.1=y.2.1
   ·have h3:¬ x.2.2=y.2.2:=fun h3=>h (Prod.ext h1 (Prod.ext h2 h3))
    simp [h3]
   ·simp [h2]
  ·simp [h1]
theorem aFg (x:Pl):SeqAt.shaped (plD x)=true:=by simp [SeqAt.shaped,plD,frD,PyData.canLay0,PyData.canLayAll0,PyData.depth,PyData.depthAll]
theorem sW (K:PySem.W.Frag) (c:Cls):∀ ls,eI K c ls=.bad\/fJ 5 (kB K c) ls=eI K c ls:=dJ fun a h=>by
 obtain ⟨p,ps⟩:=a
 obtain ⟨hl,hp,hq⟩:=h
 dsimp only at hl hp hq ⊢
 have hr:=aBx hp hq
 have hrl:(rowsOf p ps).length<=90:=by unfold rowsOf;rw [List.length_map];exact Nat.le_trans (List.length_filter_le _ _) hl
 refine cF ?_
 rw [show bQ 5 (ePL (p,ps))=[some (.p (plD p)),some (.p (.list (ps.map plD))),none,none,none] from rfl]
 unfold kB
 have m1:mQ (a5 1 [0] (aM 0) (a9 (aE (eqE true) (aD 0) (aD 1))) (eK K c) [some (.p (plD p)),some (.p (.list (ps.map plD))),none,none,none]) (ps.map plD)=some ((ps.filter fun q=>decide (q≠p)).map fun q=>r3D (uL p q)):=by
  refine iD _ fun q hq=>?_
  have g:=aFk K c p q
  have e:eqE true (.p (plD q)) (.p (plD p))=.ok (.p (.bool (decide (q≠p)))):=by
   simp only [eqE,dat,aFg,aAu]
   by_cases h:q=p
   ·simp [h]
   ·simp [h]
  unfold a5
  by_cases h:q≠p
  ·rw [decide_eq_true h] at e ⊢
   ktr_call 3 ⟨aM,lP,vP,eK,a9,aE,aD,aJ,aA,aL,eN,dG,kF,cP,List.replicate,List.cons_append,List.nil_append,Res.bind,Ev.c,e,g,lF⟩
  ·rw [decide_eq_false h] at e ⊢
   ktr_call 3 ⟨aM,lP,vP,eK,a9,aE,aD,cP,List.replicate,List.cons_append,List.nil_append,Res.bind,Ev.c,e⟩
 have c1:=gE (n:=1) (js:=[0]) (fi:=fF (aD 1)) (tg:=aM 0) (ft:=a9 (aE (eqE true) (aD 0) (aD 1))) (fe:=eK K c) (en:=[some (.p (plD p)),some (.p (.list (ps.map plD))),none,none,none]) (ds:=ps.map plD) rfl (by rw [List.length_map];omega) m1
 have e1:((ps.filter fun q=>decide (q≠p)).map fun q=>r3D (uL p q))=(rowsOf p ps).map r3D:=by unfold rowsOf;rw [List.map_map];rfl
 rw [e1] at c1
 refine (aR (iH c1)).trans ?_
 simp only [List.set_cons_succ,List.set_cons_zero,frz,List.getElem?_cons_succ,List.getElem?_cons_zero]
 have hel:=aAn K c (rows:=rowsOf p ps) (by omega) (fun r h=>⟨(hr r h).1.mono (by decide),(hr r h).2.1.mono (by decide),(hr r h).2.2.mono (by decide)⟩)
 have hsz:=aCf hr
 have hell:=aE6 (rowsOf p ps)
 have hmul:=Nat.mul_le_mul hrl hrl
 have hso:=rG K c (rows:=elim (rowsOf p ps)) (by omega) (fun r h=>⟨(hsz r h).1.mono (by decide),(hsz r h).2.mono (by decide)⟩)
 have e2:(aJ 1 (gN K c) (aA (aJ 1 (eF K c) (aA (aD 2) aL)) aL)) [some (.p (plD p)),some (.p (.list (ps.map plD))),some (.p (.list ((rowsOf p ps).map r3D))),none,none]=.ok (.p (aAj (solve (elim (rowsOf p ps))))):=by
  ktr_call 3 ⟨aJ,aA,aL,aD,Res.bind,Ev.c,eN,dG,kF,hel,hso,lF⟩
 refine (aR (dA e2)).trans ?_
 simp only [List.set_cons_succ,List.set_cons_zero]
 cases ex:solve (elim (rowsOf p ps)) with
 | none =>
  have:nC (rowsOf p ps)=none:=by unfold nC;rw [ex]
  rw [this]
  exact j8 ((k8 rfl).trans rfl)
 | some x =>
  obtain ⟨y,hy,hlp⟩:=aAo ex
  rw [hlp]
  have gx:Gd 612 25 x:=(sR hsz ex).mono (by decide) (by decide)
  have hys:=aAv hr gx
  have hso2:=rG K c (rows:=(rowsOf p ps).map (aEf x)) (by rw [List.length_map];omega) (fun r h=>⟨(hys r h).1.mono (by decide),(hys r h).2.mono (by decide)⟩)
  have m2:mQ (a5 1 [3] (aM 0) fL (eJ K c) [some (.p (plD p)),some (.p (.list (ps.map plD))),some (.p (.list ((rowsOf p ps).map r3D))),some (.p (frD x)),none]) ((rowsOf p ps).map r3D)=some ((rowsOf p ps).map fun r=>frD (aEf x r)):=by
   refine eC _ fun r hrm=>?_
   obtain ⟨a1,a2,a3⟩:=hr r hrm
   have x1:=gx.t
   have x2:=gx.b
   unfold a5
   ktr_call 21 ⟨aM,lP,vP,fL,eJ,List.replicate,List.cons_append,List.nil_append,aIq,wX,aIo⟩
   rfl
  have c2:=gE (n:=1) (js:=[3]) (fi:=fF (aD 2)) (tg:=aM 0) (ft:=fL) (fe:=eJ K c) (en:=[some (.p (plD p)),some (.p (.list (ps.map plD))),some (.p (.list ((rowsOf p ps).map r3D))),some (.p (frD x)),none]) (ds:=(rowsOf p ps).map r3D) rfl (by rw [List.length_map];omega) m2
  have e3:((rowsOf p ps).map fun r=>frD (aEf x r))=((rowsOf p ps).map (aEf x)).map frD:=by rw [List.map_map];rfl
  rw [e3] at c2
  have e4:(aJ 1 (gN K c) (aA (dC 1 [3] (fF (aD 2)) (aM 0) fL (eJ K c)) aL)) [some (.p (plD p)),some (.p (.list (ps.map plD))),some (.p (.list ((rowsOf p ps).map r3D))),some (.p (frD x)),none]=.ok (.p (frD y)):=by
   rw [hy] at hso2
   ktr_call 3 ⟨aJ,aA,aL,c2,Res.bind,Ev.c,eN,dG,kF,hso2,aAj,lF⟩
  have tn:a9 (mUn (qJ false) (aD 3)) [some (.p (plD p)),some (.p (.list (ps.map plD))),some (.p (.list ((rowsOf p ps).map r3D))),some (.p (frD x)),none]=.ok false:=rfl
  refine (aR (jB tn)).trans ((aR (dA e4)).trans ?_)
  rfl
theorem aCb (K:PySem.W.Frag) (c:Cls) {p:Pl} {ps:List Pl} (h1:ps.length<=90) (h2:PW p) (h3:∀ q∈ps,PW q):eI K c [.p (plD p),.p (.list (ps.map plD))]=.ok (.p (jI (nC (rowsOf p ps)))):=dI (a:=(p,ps)) aJp ⟨h1,h2,h3⟩
structure PG (p:Pl):Prop where
 i:Sz 4 p.1
 j:Sz 4 p.2.1
 h:GB p.2.2
theorem PG.blow {p:Pl} {F:Int} (g:PG p) (hF:Sz 441 F):PW (blow F p):=⟨g.i,g.j,Sz.mul g.h.2.1 (rX hF)⟩
def eY (F:Int) (ps:List Pl) (p:Pl):Option Pt:=nC (rowsOf (blow F p) (ps.map (blow F)))
noncomputable def cJ (K:PySem.W.Frag) (c:Cls):List L->Res L:=mOf ePI (fun a=>a.1.length<=90/\(∀ p∈a.1,PG p)/\Sz 441 a.2) fun a=>.ok (.o (.list (a.1.map fun p=>jI (eY a.2 a.1 p))))
noncomputable def fE (K:PySem.W.Frag) (c:Cls):En->Res Ev:=(aJ 2 (eI K c) (aA (aD 0) (aA (aD 1) aL)))
noncomputable def jW (K:PySem.W.Frag) (c:Cls):MS:=(bB (bU 2 (aJ 2 (fI K c) (aA (aD 0) (aA (aD 1) aL)))) (fun en=>(dE (dC 1 [2] (fF (aD 2)) (aM 0) fL (fE K c))) (frz 2 en)))
theorem qM (K:PySem.W.Frag) (c:Cls):∀ ls,cJ K c ls=.bad\/fJ 3 (jW K c) ls=cJ K c ls:=dJ fun a h=>by
 obtain ⟨ps,F⟩:=a
 obtain ⟨hl,hg,hF⟩:=h
 dsimp only at hl hg hF ⊢
 refine cF ?_
 rw [show bQ 3 (ePI (ps,F))=[some (.p (.list (ps.map plD))),some (.p (.int F)),none] from rfl]
 unfold jW
 have hb:=aC6 K c (ps:=ps) (F:=F) ⟨by omega,fun p hp=>(hg p hp).h⟩ (hF.mono (by decide))
 have e1:(aJ 2 (fI K c) (aA (aD 0) (aA (aD 1) aL))) [some (.p (.list (ps.map plD))),some (.p (.int F)),none]=.ok (.f (.list ((ps.map (blow F)).map plD))):=by
  ktr_call 3 ⟨aJ,aA,aL,aD,Res.bind,Ev.c,eN,dG,kF,hb,lF⟩
 refine (aR (iH e1)).trans ?_
 simp only [List.set_cons_succ,List.set_cons_zero,frz,List.getElem?_cons_succ,List.getElem?_cons_zero]
 have hw:∀ q∈ps.map (blow F),PW q:=fun q hq=>by
  obtain ⟨p,hp,rfl⟩:=List.mem_map.mp hq
  exact (hg p hp).blow hF
 have m1:mQ (a5 1 [2] (aM 0) fL (fE K c) [some (.p (.list (ps.map plD))),some (.p (.int F)),some (.p (.list ((ps.map (blow F)).map plD)))]) ((ps.map (blow F)).map plD)=some ((ps.map (blow F)).map fun p=>jI (nC (rowsOf p (ps.map (blow F))))):=by
  refine eC _ fun p hp=>?_
  have g:=aCb K c (p:=p) (ps:=ps.map (blow F)) (by rw [List.length_map];exact hl) (hw p hp) hw
  unfold a5
  ktr_call 3 ⟨aM,lP,vP,fL,fE,aD,aJ,aA,aL,eN,dG,kF,List.replicate,List.cons_append,List.nil_append,Res.bind,Ev.c,g,lF⟩
 have c1:=gE (n:=1) (js:=[2]) (fi:=fF (aD 2)) (tg:=aM 0) (ft:=fL) (fe:=fE K c) (en:=[some (.p (.list (ps.map plD))),some (.p (.int F)),some (.p (.list ((ps.map (blow F)).map plD)))]) (ds:=(ps.map (blow F)).map plD) rfl (by rw [List.length_map,List.length_map];omega) m1
 refine (zM c1).trans ?_
 rw [List.map_map]
 rfl
theorem qU (K:PySem.W.Frag) (c:Cls) {ps:List Pl} {F:Int} (h1:ps.length<=90) (h2:∀ p∈ps,PG p) (h3:Sz 441 F):cJ K c [.p (.list (ps.map plD)),.p (.int F)]=.ok (.o (.list (ps.map fun p=>jI (eY F ps p)))):=dI (a:=(ps,F)) aCo ⟨h1,h2,h3⟩
def stD (a:Pl×Pt):D:=.tuple [plD a.1,.tuple [frD a.2.1,frD a.2.2]]
def stays (ps:List Pl) (p:Pl):Bool:=(eY (wf ps) ps p).isSome
def iY (ps:List Pl) (p:Pl):Pt:=shr (wf ps) ((eY (wf ps) ps p).getD ((0,1),(0,1)))
def cC (ps:List Pl):List (Pl×Pt):=(ps.filter (stays ps)).map fun p=>(p,iY ps p)
noncomputable def fO (K:PySem.W.Frag) (c:Cls):List L->Res L:=mOf ePs (fun ps=>ps.length<=22/\∀ p∈ps,PG p) fun ps=>.ok (.o (.list ((cC ps).map stD)))
noncomputable def iV (K:PySem.W.Frag) (c:Cls):En->Res Ev:=(aH a7 (aA (aD 0) (aA (aJ 2 (j3 K c) (aA (aD 1) (aA (aD 2) aL))) aL)))
noncomputable def pL (K:PySem.W.Frag) (c:Cls):MS:=(bB (bU 1 (aJ 1 (cD K c) (aA (aD 0) aL))) (bB (bU 2 (aJ 2 (cJ K c) (aA (aD 0) (aA (aD 1) aL)))) (fun en=>(dE (dC 2 [1] (qP aEc (aA (aD 0) (aA (aD 2) aL))) (iR 2 (cQ (aM 0) (cQ (aM 1) iS))) (a9 (mUn (qJ true) (aD 1))) (iV K c))) (frz 2 en))))
theorem qQ {ps:List Pl} (h1:ps.length<=22) (h2:∀ p∈ps,PG p):1<=wf ps/\(∀ p∈ps,p.2.2.2∣wf ps)/\Sz 441 (wf ps):=by
 obtain ⟨a,b,d⟩:=aOd (ps:=ps) ⟨by omega,fun p hp=>(h2 p hp).h⟩
 exact ⟨a,b,d.mono (by omega)⟩
theorem t8 {ps:List Pl} (h1:ps.length<=22) (h2:∀ p∈ps,PG p) {p:Pl} (hp:p∈ps) {pt:Pt} (e:eY (wf ps) ps p=some pt):Gd 612 25 pt.1/\Gd 651 63 pt.2:=by
 have hF:=(qQ h1 h2).2.2
 refine aIj (aBx ((h2 p hp).blow hF) fun q hq=>?_) e
 obtain ⟨r,hr,rfl⟩:=List.mem_map.mp hq
 exact (h2 r hr).blow hF
theorem zV (K:PySem.W.Frag) (c:Cls):∀ ls,fO K c ls=.bad\/fJ 3 (pL K c) ls=fO K c ls:=dJ fun ps h=>by
 obtain ⟨hl,hg⟩:=h
 obtain ⟨f0,f1,f2⟩:=qQ hl hg
 refine cF ?_
 rw [show bQ 3 (ePs ps)=[some (.p (.list (ps.map plD))),none,none] from rfl]
 unfold pL
 have hw:=aBz K c (ps:=ps) ⟨by omega,fun p hp=>(hg p hp).h⟩
 have e1:(aJ 1 (cD K c) (aA (aD 0) aL)) [some (.p (.list (ps.map plD))),none,none]=.ok (.p (.int (wf ps))):=by
  ktr_call 3 ⟨aJ,aA,aL,aD,Res.bind,Ev.c,eN,dG,kF,hw,lF⟩
 refine (aR (dA e1)).trans ?_
 simp only [List.set_cons_succ,List.set_cons_zero]
 have hp:=qU K c (ps:=ps) (by omega) hg f2
 have e2:(aJ 2 (cJ K c) (aA (aD 0) (aA (aD 1) aL))) [some (.p (.list (ps.map plD))),some (.p (.int (wf ps))),none]=.ok (.f (.list (ps.map fun p=>jI (eY (wf ps) ps p)))):=by
  ktr_call 3 ⟨aJ,aA,aL,aD,Res.bind,Ev.c,eN,dG,kF,hp,lF⟩
 refine (aR (iH e2)).trans ?_
 simp only [List.set_cons_succ,List.set_cons_zero,frz,List.getElem?_cons_succ,List.getElem?_cons_zero]
 have hit:(qP aEc (aA (aD 0) (aA (aD 2) aL))) [some (.p (.list (ps.map plD))),some (.p (.int (wf ps))),some (.p (.list (ps.map fun p=>jI (eY (wf ps) ps p))))]=.ok (ps.map fun p=>.tuple [plD p,jI (eY (wf ps) ps p)]):=by
  ktr_call 3 ⟨qP,aA,aL,aD,Res.bind,Ev.c,aEc,tJ⟩
 have m1:mQ (a5 2 [1] (iR 2 (cQ (aM 0) (cQ (aM 1) iS))) (a9 (mUn (qJ true) (aD 1))) (iV K c) [some (.p (.list (ps.map plD))),some (.p (.int (wf ps))),some (.p (.list (ps.map fun p=>jI (eY (wf ps) ps p))))]) (ps.map fun p=>.tuple [plD p,jI (eY (wf ps) ps p)])=some ((ps.filter (stays ps)).map fun p=>stD (p,iY ps p)):=by
  refine iD _ fun p hp=>?_
  unfold a5 stays iY
  cases e:eY (wf ps) ps p with
  | none =>
   ktr_call 3 ⟨iR,cQ,iS,aM,lP,vP,List.replicate,List.cons_append,List.nil_append,Option.isSome_none,jI,a9,mUn,aD,Res.bind,Ev.c,qJ,cP,Bool.not_true⟩
  | some pt =>
   obtain ⟨gx,gy⟩:=t8 hl hg hp e
   have hs:=aEv K c (pt:=pt) (F:=wf ps) gx.p gy.p (gx.b.mono (by decide)) (gy.b.mono (by decide)) f0 (f2.mono (by decide))
   ktr_call 3 ⟨iR,cQ,iS,aM,lP,vP,List.replicate,List.cons_append,List.nil_append,Option.isSome_some,jI,a9,mUn,aD,Res.bind,Ev.c,qJ,cP,iV,aH,aA,aL,aJ,eN,dG,kF,hs,lF,a7,jM,Option.getD_some⟩
   rfl
 have c1:=gE (n:=2) (js:=[1]) (fi:=qP aEc (aA (aD 0) (aA (aD 2) aL))) (tg:=iR 2 (cQ (aM 0) (cQ (aM 1) iS))) (ft:=a9 (mUn (qJ true) (aD 1))) (fe:=iV K c) (en:=[some (.p (.list (ps.map plD))),some (.p (.int (wf ps))),some (.p (.list (ps.map fun p=>jI (eY (wf ps) ps p))))]) hit (by rw [List.length_map];omega) m1
 refine (zM c1).trans ?_
 unfold cC
 rw [List.map_map]
 rfl
theorem u7 (K:PySem.W.Frag) (c:Cls) {ps:List Pl} (h1:ps.length<=22) (h2:∀ p∈ps,PG p):fO K c [.p (.list (ps.map plD))]=.ok (.o (.list ((cC ps).map stD))):=dI (a:=ps) wW ⟨h1,h2⟩
noncomputable def a8 (K:PySem.W.Frag) (c:Cls):List L->Res L:=mOf ePs (fun ps=>ps.length<=22/\∀ p∈ps,PG p) fun ps=>.ok (.o (.list ((ps.filter (stays ps)).map plD)))
noncomputable def i7 (K:PySem.W.Frag) (c:Cls):En->Res Ev:=(aD 0)
noncomputable def pV (K:PySem.W.Frag) (c:Cls):MS:=(bB (bU 1 (aJ 2 (cJ K c) (aA (aD 0) (aA (aJ 1 (cD K c) (aA (aD 0) aL)) aL)))) (fun en=>(dE (dC 2 [] (qP aEc (aA (aD 0) (aA (aD 1) aL))) (iR 2 (cQ (aM 0) (cQ (aM 1) iS))) (a9 (mUn (qJ true) (aD 1))) (i7 K c))) (frz 1 en)))
theorem aAf (K:PySem.W.Frag) (c:Cls):∀ ls,a8 K c ls=.bad\/fJ 2 (pV K c) ls=a8 K c ls:=dJ fun ps h=>by
 obtain ⟨hl,hg⟩:=h
 obtain ⟨f0,f1,f2⟩:=qQ hl hg
 refine cF ?_
 rw [show bQ 2 (ePs ps)=[some (.p (.list (ps.map plD))),none] from rfl]
 unfold pV
 have hw:=aBz K c (ps:=ps) ⟨by omega,fun p hp=>(hg p hp).h⟩
 have hp:=qU K c (ps:=ps) (by omega) hg f2
 have e2:(aJ 2 (cJ K c) (aA (aD 0) (aA (aJ 1 (cD K c) (aA (aD 0) aL)) aL))) [some (.p (.list (ps.map plD))),none]=.ok (.f (.list (ps.map fun p=>jI (eY (wf ps) ps p)))):=by
  ktr_call 3 ⟨aJ,aA,aL,aD,Res.bind,Ev.c,eN,dG,kF,hw,hp,lF⟩
 refine (aR (iH e2)).trans ?_
 simp only [List.set_cons_succ,List.set_cons_zero,frz,List.getElem?_cons_succ,List.getElem?_cons_zero]
 have hit:(qP aEc (aA (aD 0) (aA (aD 1) aL))) [some (.p (.list (ps.map plD))),some (.p (.list (ps.map fun p=>jI (eY (wf ps) ps p))))]=.ok (ps.map fun p=>.tuple [plD p,jI (eY (wf ps) ps p)]):=by
  ktr_call 3 ⟨qP,aA,aL,aD,Res.bind,Ev.c,aEc,tJ⟩
 have m1:mQ (a5 2 [] (iR 2 (cQ (aM 0) (cQ (aM 1) iS))) (a9 (mUn (qJ true) (aD 1))) (i7 K c) [some (.p (.list (ps.map plD))),some (.p (.list (ps.map fun p=>jI (eY (wf ps) ps p))))]) (ps.map fun p=>.tuple [plD p,jI (eY (wf ps) ps p)])=some ((ps.filter (stays ps)).map plD):=by
  refine iD _ fun p hp=>?_
  unfold a5 stays
  cases e:eY (wf ps) ps p with
  | none=>ktr_call 3 ⟨iR,cQ,iS,aM,lP,List.replicate,List.cons_append,List.nil_append,Option.isSome_none,jI,a9,mUn,aD,Res.bind,Ev.c,qJ,cP,Bool.not_true⟩
  | some pt=>ktr_call 3 ⟨iR,cQ,iS,aM,lP,List.replicate,List.cons_append,List.nil_append,Option.isSome_some,jI,a9,mUn,aD,Res.bind,Ev.c,qJ,cP,i7⟩
 have c1:=gE (n:=2) (js:=[]) (fi:=qP aEc (aA (aD 0) (aA (aD 1) aL))) (tg:=iR 2 (cQ (aM 0) (cQ (aM 1) iS))) (ft:=a9 (mUn (qJ true) (aD 1))) (fe:=i7 K c) (en:=[some (.p (.list (ps.map plD))),some (.p (.list (ps.map fun p=>jI (eY (wf ps) ps p))))]) hit (by rw [List.length_map];omega) m1
 exact zM c1
theorem kR (K:PySem.W.Frag) (c:Cls) {ps:List Pl} (h1:ps.length<=22) (h2:∀ p∈ps,PG p):a8 K c [.p (.list (ps.map plD))]=.ok (.o (.list ((ps.filter (stays ps)).map plD))):=dI (a:=ps) wW ⟨h1,h2⟩
structure jH (K:PySem.W.Frag) (c:Cls):Prop where
 ii:PySem.W.kitOne K (.type "int") (.type "int")=some true
 ib:PySem.W.kitOne K (.type "int") (.type "bool")=some false
 tt:PySem.W.kitOne K (.type "tuple") (.type "tuple")=some true
 ll:PySem.W.kitOne K (.type "list") (.type "list")=some true
noncomputable def jE (K:PySem.W.Frag) (c:Cls):MS:=(bB (dN (a9 (aE ltE (aD 1) (aH gB (aA (aD 0) aL)))) (dE (aE ixE (aD 0) (aD 1))) bS) (dE (mC (.int 0))))
noncomputable def aG (K:PySem.W.Frag) (c:Cls) (ls:List L):Res L:=fJ 2 (jE K c) ls
theorem qE (K:PySem.W.Frag) (c:Cls):∀ ls,aG K c ls=.bad\/fJ 2 (jE K c) ls=aG K c ls:=fun _=>.inr rfl
theorem aJ7 {ns:List Int} {k:Nat} (h:k < ns.length):atI (ns.map PyData.int) (k:Int)=some (.int (ns.getD k 0)):=by
 have:ns.getD k 0=ns[k]:=by simp [List.getD,h]
 rw [this]
 exact kU (by rw [List.getElem?_map,List.getElem?_eq_getElem h];rfl)
theorem sU (K:PySem.W.Frag) (c:Cls) (ns:List Int) (k:Nat):aG K c [.p (.list (ns.map .int)),.p (.int (k:Int))]=.ok (.p (.int (ns.getD k 0))):=by
 have hlen:gB [.p (.list (ns.map .int))]=.ok (.p (.int (ns.length:Nat))):=by simp [gB,gC]
 unfold aG
 refine cF ?_
 rw [show bQ 2 [.p (.list (ns.map .int)),.p (.int (k:Int))]=[some (.p (.list (ns.map .int))),some (.p (.int (k:Int)))] from rfl]
 have ht:a9 (aE ltE (aD 1) (aH gB (aA (aD 0) aL))) [some (.p (.list (ns.map .int))),some (.p (.int (k:Int)))]=.ok (decide (k < ns.length)):=by
  simp [a9,aE,aD,aH,aA,aL,Res.bind,Ev.c,hlen,gL,cP]
 by_cases hk:k < ns.length
 ·rw [decide_eq_true hk] at ht
  refine (j8 ((k8 ht).trans ?_))
  simp [dE,aE,aD,Res.bind,Ev.c,ixE,gC,aJ7 hk,aDu]
 ·rw [decide_eq_false hk] at ht
  refine (aR (jB ht)).trans ?_
  have:ns.getD k 0=0:=by simp [List.getD,Nat.le_of_not_lt hk]
  rw [this]
  rfl
noncomputable def eW (K:PySem.W.Frag) (c:Cls):MS:=(bB (bU 4 (aE bY (aJ 2 (aG K c) (aA (aD 0) (aA (aD 3) aL))) (aD 1))) (bB (bU 4 (aE bY (aE dX (aE dX (aE dX (aE cV (aD 4) (mC (.int 48271))) (aE cV (aE cV (aD 3) (aD 3)) (mC (.int 7919)))) (aD 3)) (mC (.int 1))) (aD 1))) (gG 2 (aE bY (aE cV (aE bY (aE cV (aD 4) (mC (.int 413338662677311947023157))) (aD 1)) (mC (.int 282475249))) (aD 1)))))
noncomputable def jC (K:PySem.W.Frag) (c:Cls):MS:=(bB (bU 1 (mC (.int 618970019642690137449562111))) (bB (bU 2 (aH j9 aL)) (bB (vN (qP oD (aA (aH (aJq fun i j=>if j > i then j else i) (aA (aH gB (aA (aD 0) aL)) (aA (mC (.int 7)) aL))) aL)) (aM 3) (eW K c)) (dE (aD 2)))))
noncomputable def cY (K:PySem.W.Frag) (c:Cls) (ls:List L):Res L:=fJ 5 (jC K c) ls
theorem oS (K:PySem.W.Frag) (c:Cls):∀ ls,cY K c ls=.bad\/fJ 5 (jC K c) ls=cY K c ls:=fun _=>.inr rfl
def PR:Int:=618970019642690137449562111
theorem aLp (K:PySem.W.Frag) (c:Cls) (ns vs:List Int) (hv:vs.length<=1000) (k:Nat) (hk:k<=100) (r4:Option L):∃ v w,0<=v/\v < PR/\eW K c [some (.p (.list (ns.map .int))),some (.p (.int PR)),some (.o (.list (vs.map .int))),some (.p (.int (k:Int))),r4]=some (.nx [some (.p (.list (ns.map .int))),some (.p (.int PR)),some (.o (.list ((vs++[v]).map .int))),some (.p (.int (k:Int))),w]):=by
 have hc:=sU K c ns k
 have p0:(0:Int) < PR:=by decide
 have pz:Sz 200 PR:=by unfold Sz PR;decide
 have kz:Sz 20 (k:Int):=by unfold Sz;omega
 have pn:PR≠0:=by decide
 have m1:=bX (a:=ns.getD k 0) p0
 have z1:Sz 200 ((ns.getD k 0).fmod PR):=lW p0 pz
 generalize hC:(ns.getD k 0).fmod PR=C at m1 z1
 have z2:Sz 200 ((C*48271+(k:Int)*(k:Int)*7919+(k:Int)+1).fmod PR):=lW p0 pz
 refine ⟨(((C*48271+(k:Int)*(k:Int)*7919+(k:Int)+1).fmod PR*413338662677311947023157).fmod PR*282475249).fmod PR,some (.p (.int ((C*48271+(k:Int)*(k:Int)*7919+(k:Int)+1).fmod PR))),(bX p0).1,(bX p0).2,?_⟩
 have l1:vs.length<=100000:=by omega
 ktr_call 21 ⟨eW,hc,hC,gG,l1⟩
theorem aIb (K:PySem.W.Frag) (c:Cls) (ns:List Int) (hn:ns.length<=63):∃ vs:List Int,vs.length<=100/\(∀ v∈vs,0<=v/\v < PR)/\cY K c [.p (.list (ns.map .int))]=.ok (.o (.list (vs.map .int))):=by
 have hlen:gB [.p (.list (ns.map .int))]=.ok (.p (.int (ns.length:Nat))):=by simp [gB,gC]
 obtain ⟨n,hn2,hr⟩:∃ n:Nat,n<=63/\∀ r3 r4,(qP oD (aA (aH (aJq fun i j=>if j > i then j else i) (aA (aH gB (aA (aD 0) aL)) (aA (mC (.int 7)) aL))) aL)) [some (.p (.list (ns.map .int))),some (.p (.int PR)),some (.o (.list [])),r3,r4]=.ok (qK 0 n):=by
  refine ⟨(if (7:Int) > (ns.length:Nat) then (7:Int) else (ns.length:Nat)).toNat,by split<;>omega,fun r3 r4=>?_⟩
  have hb:-(2 ^ 62)<=(if (7:Int) > (ns.length:Nat) then (7:Int) else (ns.length:Nat))/\(if (7:Int) > (ns.length:Nat) then (7:Int) else (ns.length:Nat)) < 2 ^ 62:=by split<;>omega
  simp only [qP,aA,aL,aH,aD,mC,List.getElem?_cons_zero,List.getElem?_cons_succ,Res.bind,Ev.c,hlen,aJq,oD]
  first
  | rw [if_pos ⟨hb.1,hb.2⟩]
  | rw [if_pos hb.2]
  | rfl
 obtain ⟨e',⟨vs,r3,r4,h1,h2,rfl⟩,hl⟩:=xM (tg:=aM 3) (f:=eW K c) (fun k e=>∃ vs r3 r4,vs.length=k/\(∀ v∈vs,0<=v/\v < PR)/\e=[some (.p (.list (ns.map .int))),some (.p (.int PR)),some (.o (.list (vs.map .int))),r3,r4]) (qK 0 n) 0 [some (.p (.list (ns.map .int))),some (.p (.int PR)),some (.o (.list [])),none,none] ⟨[],none,none,rfl,(fun _ h=>nomatch h),rfl⟩ (by
  rintro j d e hd ⟨vs,r3,r4,h1,h2,rfl⟩
  obtain ⟨hj,rfl⟩:=aJc _ _ _ _ hd
  obtain ⟨v,w,v0,v1,hb⟩:=aLp K c ns vs (by omega) j (by omega) r4
  refine ⟨_,_,rfl,?_,vs++[v],some (.p (.int (j:Int))),w,by simp [h1],fun x hx=>?_,rfl⟩
  ·simp only [List.set_cons_succ,List.set_cons_zero,Int.zero_add]
   exact hb
  ·rcases List.mem_append.mp hx with z | z
   ·exact h2 x z
   ·rw [List.mem_singleton.mp z];exact ⟨v0,v1⟩)
 refine ⟨vs,by rw [h1];unfold qK;rw [List.length_map,List.length_range];omega,h2,?_⟩
 unfold cY
 refine cF ?_
 rw [show bQ 5 [.p (.list (ns.map .int))]=[some (.p (.list (ns.map .int))),none,none,none,none] from rfl]
 refine (aR (dA (d:=.int PR) rfl)).trans ?_
 refine (aR (iH (d:=.list []) rfl)).trans ?_
 simp only [List.set_cons_succ,List.set_cons_zero]
 refine (aR ((nN (hr _ _)).trans hl)).trans ?_
 rfl
noncomputable def aV (K:PySem.W.Frag) (c:Cls):List L->Res L:=mOf (fun a:Int×Int=>[.p (.int a.1),.p (.int a.2)]) (fun a=>a.2≠0/\Sz 8000 a.2) fun a=>.ok (.p (frD (FR.mk a.1 a.2)))
noncomputable def eR (K:PySem.W.Frag) (c:Cls):En->Res Bool:=(a9 (aE gtE (aD 3) (mC (.int 0))))
noncomputable def fY (K:PySem.W.Frag) (c:Cls):MS:=(aNl 2 3 (aA (aD 3) (aA (aE bY (aD 2) (aD 3)) aL)))
noncomputable def rC (K:PySem.W.Frag) (c:Cls):MS:=(bB (bU 2 (aH aG7 (aA (aD 0) aL))) (bB (bU 3 (aH aG7 (aA (aD 1) aL))) (bB (oU (eR K c) (fY K c)) (bB (dN (a9 (aE ltE (aD 1) (mC (.int 0)))) (bU 2 (mUn nA (aD 2))) bS) (dE (aH a7 (aA (aE bO (aD 0) (aD 2)) (aA (aE bO (aD 1) (aD 2)) aL))))))))
theorem aKk (K:PySem.W.Frag) (c:Cls) (A B:Option L):∀ (n:Nat) (l s:Int),0<=l->0<=s->s.toNat<=n->mWh (eR K c) (fY K c) (n+1) [A,B,some (.p (.int l)),some (.p (.int s))]=some (.nx [A,B,some (.p (.int (Int.gcd l s:Nat))),some (.p (.int 0))]):=by
 intro n
 have hc:∀ (l s:Int),eR K c [A,B,some (.p (.int l)),some (.p (.int s))]=.ok (decide (0 < s)):=fun l s=>by
  simp [eR,a9,aE,aD,mC,Res.bind,Ev.c,cP,gL]
 have done:∀ (n:Nat) (l:Int),0<=l->mWh (eR K c) (fY K c) (n+1) [A,B,some (.p (.int l)),some (.p (.int 0))]=some (.nx [A,B,some (.p (.int (Int.gcd l 0:Nat))),some (.p (.int 0))]):=fun n l hl=>by
  unfold mWh
  rw [hc,FR.aA8 hl]
  simp
 induction n with
 | zero =>
  intro l s hl hs hn
  have:s=0:=by omega
  subst this
  exact done 0 l hl
 | succ n ih =>
  intro l s hl hs hn
  by_cases h0:s=0
  ·subst h0
   exact done _ l hl
  ·have em:l.fmod s=l % s:=Int.fmod_eq_emod_of_nonneg l hs
   have m0:=Int.emod_nonneg l h0
   have m1:=Int.emod_lt_of_pos l (show 0 < s by omega)
   have ih:=ih s (l.fmod s) hs (by omega) (by omega)
   rw [em,FR.xS hl hs] at ih
   have hb:fY K c [A,B,some (.p (.int l)),some (.p (.int s))]=some (.nx [A,B,some (.p (.int s)),some (.p (.int (l % s)))]):=by
    simp [fY,aNl,aE,aD,mC,aA,aL,Res.bind,Ev.c,tX,em,h0]
   have ht:eR K c [A,B,some (.p (.int l)),some (.p (.int s))]=.ok true:=by
    rw [hc]
    rw [decide_eq_true (show 0 < s by omega)]
   unfold mWh
   rw [ht]
   dsimp only
   rw [hb]
   exact ih
theorem wC (K:PySem.W.Frag) (c:Cls):∀ ls,aV K c ls=.bad\/fJ 4 (rC K c) ls=aV K c ls:=dJ fun a h=>by
 obtain ⟨t,b⟩:=a
 obtain ⟨hb,hz⟩:=h
 dsimp only at hb hz ⊢
 have h:=aKk K c (some (.p (.int t))) (some (.p (.int b))) _ (if t < 0 then -t else t) (if b < 0 then -b else b) (by split<;>omega) (by split<;>omega) (Nat.le_refl _)
 have h:=u5 h
 rw [FR.aDf] at h
 obtain ⟨d1,d2⟩:=aMq t hb hz
 obtain ⟨e1,e2⟩:=d1
 obtain ⟨_,e3⟩:=d2
 have q1:∀ x:Int,iG x ((Int.gcd t b:Nat):Int):=fun x=>⟨e1,e2⟩
 have q2:∀ x:Int,iG x (-((Int.gcd t b:Nat):Int)):=fun x=>⟨by omega,e3⟩
 refine cF ?_
 rw [show bQ 4 [.p (.int t),.p (.int b)]=[some (.p (.int t)),some (.p (.int b)),none,none] from rfl]
 refine (aR (dA (d:=.int (if t < 0 then -t else t)) rfl)).trans ?_
 refine (aR (dA (d:=.int (if b < 0 then -b else b)) rfl)).trans ?_
 refine (aR h).trans ?_
 by_cases hn:b < 0
 ·simp [bB,bU,aH,aA,aL,aD,Res.bind,Ev.c,dN,a9,aE,mC,cP,gL,hn,mUn,nA,dE,a7,jM,tX,q2,aDu,FR.mk,FR.sgn,frD]
 ·simp [bB,bU,aH,aA,aL,aD,Res.bind,Ev.c,dN,a9,aE,mC,cP,gL,hn,mUn,nA,bS,dE,a7,jM,tX,q1,aDu,FR.mk,FR.sgn,frD]
theorem kM (K:PySem.W.Frag) (c:Cls) {t b:Int} (h0:b≠0) (h1:Sz 8000 b):aV K c [.p (.int t),.p (.int b)]=.ok (.p (frD (FR.mk t b))):=dI (a:=(t,b)) (fun a b h=>by
 injection h with h1 h2
 injection h2 with h2 _
 injection h1 with h1
 injection h2 with h2
 injection h1 with h1
 injection h2 with h2
 exact Prod.ext h1 h2) ⟨h0,h1⟩
structure GH (h:Int×Int):Prop where
 p:1<=h.2
 t:Sz 80 h.1
 b:Sz 5 h.2
 f:FR.Fr h
structure GPl (p:Pl):Prop where
 i0:0<=p.1
 i1:p.1<=8
 j0:0<=p.2.1
 j1:p.2.1<=8
 h:GH p.2.2
theorem aA0 {t:Int} (ht:Sz 80 t):GH (t,1):=⟨Int.le_refl 1,ht,(show Sz 5 (1:Int) by unfold Sz;decide),⟨Int.le_refl 1,Int.gcd_one⟩⟩
theorem aK3 {t b:Int} (h0:b≠0) (ht:Sz 80 t) (hb:Sz 5 b):GH (FR.mk t b):=⟨(FR.mP h0).1.pos,Sz.le ht (natAbs_fdiv_le _ _),Sz.le hb (natAbs_fdiv_le _ _),(FR.mP h0).1⟩
noncomputable def dZ (K:PySem.W.Frag) (c:Cls):MS:=(bB (dN (a9 (aE (eqE false) (aE bY (aD 0) (mC (.int 4))) (mC (.int 1)))) (dE (aH a7 (aA (aE jJ (aE bY (aD 3) (mC (.int 3))) (aE cV (aE dX (aE dX (aE cV (aD 1) (aD 1)) (aE cV (aD 1) (aD 2))) (aE cV (aD 2) (aD 2))) (aE dX (mC (.int 1)) (aE bY (aE bO (aD 0) (mC (.int 36))) (mC (.int 5)))))) (aA (mC (.int 1)) aL)))) bS) (bB (dN (a9 (aE (eqE false) (aE bY (aD 0) (mC (.int 4))) (mC (.int 3)))) (dE (aH a7 (aA (aE bY (aD 3) (mC (.int 3))) (aA (mC (.int 1)) aL)))) bS) (bB (dN (a9 (aE (eqE false) (aE bY (aE bO (aD 0) (mC (.int 36))) (mC (.int 2))) (mC (.int 1)))) (dE (aJ 2 (aV K c) (aA (aE jJ (aE bY (aD 3) (aE dX (aE cV (mC (.int 2)) (aE k9 (mC (.int 10)) (mC (.int 20)))) (mC (.int 1)))) (aE k9 (mC (.int 10)) (mC (.int 20)))) (aA (aE dX (mC (.int 1)) (aE bY (aE bO (aD 3) (mC (.int 11))) (mC (.int 12)))) aL)))) bS) (dE (aJ 2 (aV K c) (aA (aE jJ (aE bY (aD 3) (mC (.int 13))) (mC (.int 6))) (aA (aE dX (mC (.int 1)) (aE bY (aE bO (aD 3) (mC (.int 13))) (mC (.int 4)))) aL)))))))
noncomputable def bV (K:PySem.W.Frag) (c:Cls) (ls:List L):Res L:=fJ 4 (dZ K c) ls
theorem nJ (K:PySem.W.Frag) (c:Cls):∀ ls,bV K c ls=.bad\/fJ 4 (dZ K c) ls=bV K c ls:=fun _=>.inr rfl
theorem aAm (K:PySem.W.Frag) (c:Cls) {kind i j rest:Int} (hk:Sz 200 kind) (i0:0<=i) (i1:i<=8) (j0:0<=j) (j1:j<=8) (hr:Sz 200 rest):∃ h,GH h/\bV K c [.p (.int kind),.p (.int i),.p (.int j),.p (.int rest)]=.ok (.p (frD h)):=by
 have si:Sz 4 i:=by unfold Sz;omega
 have sj:Sz 4 j:=by unfold Sz;omega
 have p20:aHg 10 20:=⟨by decide,by decide,by decide⟩
 unfold bV
 suffices h:∃ h,GH h/\dZ K c (bQ 4 [.p (.int kind),.p (.int i),.p (.int j),.p (.int rest)])=some (.rt (.p (frD h))) from let ⟨h,g,e⟩:=h;⟨h,g,cF e⟩
 rw [show bQ 4 [.p (.int kind),.p (.int i),.p (.int j),.p (.int rest)]=[some (.p (.int kind)),some (.p (.int i)),some (.p (.int j)),some (.p (.int rest))] from rfl]
 have tst:∀ n:Int,a9 (aE (eqE false) (aE bY (aD 0) (mC (.int 4))) (mC (.int n))) [some (.p (.int kind)),some (.p (.int i)),some (.p (.int j)),some (.p (.int rest))]=.ok (kind.fmod 4 == n):=fun n=>by
  simp [a9,aE,aD,mC,Res.bind,Ev.c,tX,eqE,dat,gY,gZ,cP]
 unfold dZ
 cases h1:(kind.fmod 4 == 1) with
 | true =>
  have t1:=tst 1
  rw [h1] at t1
  refine ⟨(rest.fmod 3 - (i*i+i*j+j*j)*(1+(kind.fdiv 36).fmod 5),1),aA0 ?_,?_⟩
  ·refine Sz.mono (m:=20) ?_ (by decide)
   have:Sz (max 4 (max (max (4+4) (4+4)+1) (4+4)+1+(max 4 4+1))+1) (rest.fmod 3 - (i*i+i*j+j*j)*(1+(kind.fdiv 36).fmod 5)):=by (walk_at "z")
   exact this.mono (by decide)
  ·refine j8 ((k8 t1).trans ?_)
   ktr_call 21 ⟨frD⟩
 | false =>
  have t1:=tst 1
  rw [h1] at t1
  cases h3:(kind.fmod 4 == 3) with
  | true =>
   have t3:=tst 3
   rw [h3] at t3
   refine ⟨(rest.fmod 3,1),aA0 ((lW (by decide) (lX (by decide))).mono (by decide)),?_⟩
   refine (aR (jB t1)).trans (j8 ((k8 t3).trans ?_))
   ktr_call 21 ⟨frD⟩
  | false =>
   have t3:=tst 3
   rw [h3] at t3
   have tk:a9 (aE (eqE false) (aE bY (aE bO (aD 0) (mC (.int 36))) (mC (.int 2))) (mC (.int 1))) [some (.p (.int kind)),some (.p (.int i)),some (.p (.int j)),some (.p (.int rest))]=.ok ((kind.fdiv 36).fmod 2 == 1):=by
    walk_at "1d"
    simp
   cases h5:((kind.fdiv 36).fmod 2 == 1) with
   | true =>
    rw [h5] at tk
    have b0:(1+(rest.fdiv 11).fmod 12)≠0:=by have:=(bX (a:=rest.fdiv 11) (b:=12) (by decide)).1;omega
    have sb:Sz 5 (1+(rest.fdiv 11).fmod 12):=by
     have:Sz (max 4 4+1) (1+(rest.fdiv 11).fmod 12):=by (walk_at "z")
     exact this.mono (by decide)
    have hl:=kM K c (t:=rest.fmod (2*10 ^ Int.toNat 20+1) - 10 ^ Int.toNat 20) b0 (sb.mono (by decide))
    refine ⟨_,aK3 (t:=rest.fmod (2*10 ^ Int.toNat 20+1) - 10 ^ Int.toNat 20) b0 ?_ sb,(aR (jB t1)).trans ((aR (jB t3)).trans (j8 ((k8 tk).trans ?_)))⟩
    ·have:Sz (max (max (4+70) 4+1) 70+1) (rest.fmod (2*10 ^ Int.toNat 20+1) - 10 ^ Int.toNat 20):=by (walk_at "z")
     exact this.mono (by decide)
    ·ktr_call 21 ⟨hl⟩
   | false =>
    rw [h5] at tk
    have b0:(1+(rest.fdiv 13).fmod 4)≠0:=by have:=(bX (a:=rest.fdiv 13) (b:=4) (by decide)).1;omega
    have sb:Sz 5 (1+(rest.fdiv 13).fmod 4):=by
     have:Sz (max 4 4+1) (1+(rest.fdiv 13).fmod 4):=by (walk_at "z")
     exact this.mono (by decide)
    have hl:=kM K c (t:=rest.fmod 13 - 6) b0 (sb.mono (by decide))
    refine ⟨_,aK3 (t:=rest.fmod 13 - 6) b0 ?_ sb,(aR (jB t1)).trans ((aR (jB t3)).trans ((aR (jB tk)).trans ?_))⟩
    ·have:Sz (max 4 4+1) (rest.fmod 13 - 6):=by (walk_at "z")
     exact this.mono (by decide)
    ·ktr_call 21 ⟨hl⟩
abbrev Mp:=List ((Int×Int)×(Int×Int))
def Gm (m:Mp):Prop:=(m.map (·.1)).Nodup/\∀ k h,iN m k=some h->(0<=k.1/\k.1<=8/\0<=k.2/\k.2<=8)/\GH h
theorem u3 {α κ:Type} [DecidableEq κ] (k:κ) (v:α):∀ m:List (κ×α),(aBf k v m).map (·.1)=m.map (·.1)
 | []=>rfl
 | p :: r=>by
  unfold aBf
  rw [List.map_cons,List.map_cons,u3 k v r]
  split<;>rfl
theorem uJ {α κ:Type} [DecidableEq κ] {k:κ}:∀ {m:List (κ×α)},iN m k=none->k∉m.map (·.1)
 | [],_=>fun h=>nomatch h
 | p :: r,e=>by
  unfold iN at e
  split at e
  ·cases e
  ·rename_i z
   rw [List.map_cons,List.mem_cons]
   rintro (q | q)
   ·exact z q.symm
   ·exact uJ e q
theorem aEa {α κ:Type} [DecidableEq κ] {m:List (κ×α)} (h:(m.map (·.1)).Nodup) (k:κ) (v:α):((mZ m k v).map (·.1)).Nodup:=by
 unfold mZ
 cases e:iN m k with
 | none =>
  rw [if_neg (by simp),List.map_append]
  refine List.nodup_append.mpr ⟨h,List.pairwise_singleton _ _,fun a ha b hb z=>?_⟩
  have:b=k:=by simpa using hb
  rw [z,this] at ha
  exact uJ e ha
 | some x =>
  rw [if_pos (by rfl),u3]
  exact h
theorem Gm.put {m:Mp} (g:Gm m) {k h:Int×Int} (hk:0<=k.1/\k.1<=8/\0<=k.2/\k.2<=8) (hh:GH h):Gm (mZ m k h):=⟨aEa g.1 k h,fun k' h' e=>by
 rw [mM] at e
 split at e
 ·rename_i z;cases e;rw [z];exact ⟨hk,hh⟩
 ·exact g.2 k' h' e⟩
noncomputable def dQ (K:PySem.W.Frag) (c:Cls):En->Res Ev:=(aH a7 (aA (aE ixE (aD 0) (mC (.int 0))) (aA (aE ixE (aD 0) (mC (.int 1))) (aA (aE mU (aD 1) (aD 0)) aL))))
noncomputable def eP (K:PySem.W.Frag) (c:Cls):MS:=(bB (bU 6 (aE bY (aD 5) (aD 3))) (bB (bU 7 (aE bY (aE bO (aD 5) (aD 3)) (aD 3))) (bB (dN (a9 (aE (eqE false) (aE bY (aD 0) (mC (.int 4))) (mC (.int 2)))) (bU 7 (aE cV (aD 6) (aE bY (aE bO (aD 0) (mC (.int 4))) (mC (.int 2))))) bS) (bB (bU 8 (aJ 4 (bV K c) (aA (aD 0) (aA (aD 6) (aA (aD 7) (aA (aE bO (aD 5) (aE cV (aD 3) (aD 3))) aL)))))) (dN (a9 (aE (vQ false) (aH a7 (aA (aD 6) (aA (aD 7) aL))) (aD 4))) (bB (bU 9 (aE mU (aD 4) (aH a7 (aA (aD 6) (aA (aD 7) aL))))) (dN (a9 (aE gtE (aE cV (aE ixE (aD 8) (mC (.int 0))) (aE ixE (aD 9) (mC (.int 1)))) (aE cV (aE ixE (aD 9) (mC (.int 0))) (aE ixE (aD 8) (mC (.int 1)))))) (kA 4 (aH a7 (aA (aD 6) (aA (aD 7) aL))) (aD 8)) bS)) (dN (a9 (aE ltE (aH mS (aA (aD 4) aL)) (aD 2))) (kA 4 (aH a7 (aA (aD 6) (aA (aD 7) aL))) (aD 8)) bS))))))
noncomputable def jF (K:PySem.W.Frag) (c:Cls):MS:=(bB (bU 4 mDT) (bB (vN (fF (aD 1)) (aM 5) (eP K c)) (bB (dN (a9 (aE yX (aD 4) mDT)) (kA 4 (aH a7 (aA (aE bY (aD 0) (aD 3)) (aA (mC (.int 0)) aL))) (aH a7 (aA (mC (.int 0)) (aA (mC (.int 1)) aL)))) bS) (fun en=>(dE (dC 1 [4] (fF (aH eU (aA (aD 4) aL))) (aM 0) fL (dQ K c))) (frz 4 en)))))
noncomputable def cX (K:PySem.W.Frag) (c:Cls) (ls:List L):Res L:=fJ 10 (jF K c) ls
theorem pQ (K:PySem.W.Frag) (c:Cls):∀ ls,cX K c ls=.bad\/fJ 10 (jF K c) ls=cX K c ls:=fun _=>.inr rfl
theorem GH.c {x y:Int×Int} (hx:GH x) (hy:GH y):CMulW x.1 y.2:=⟨hx.t.mono (by decide),hy.b.mono (by decide)⟩
theorem xX (K:PySem.W.Frag) (c:Cls) (A B N W:Option L) (m:Mp) (hm:m.length<=1000) (i j:Int) (h:Int×Int) (r5 r9:Option L):kA 4 (aH a7 (aA (aD 6) (aA (aD 7) aL))) (aD 8) [A,B,N,W,some (.o (.dict (encM slD frD m))),r5,some (.p (.int i)),some (.p (.int j)),some (.p (frD h)),r9]=some (.nx [A,B,N,W,some (.o (.dict (encM slD frD (mZ m (i,j) h)))),r5,some (.p (.int i)),some (.p (.int j)),some (.p (frD h)),r9]):=by
 have hp:=wL (ev:=frD) m (i,j) h (by omega)
 have hp2:zZ (encM slD frD m) (.tuple [.int i,.int j]) (frD h)=some (encM slD frD (mZ m (i,j) h)):=hp
 have hk:(aH a7 (aA (aD 6) (aA (aD 7) aL))) [A,B,N,W,some (.o (.dict (encM slD frD m))),r5,some (.p (.int i)),some (.p (.int j)),some (.p (frD h)),r9]=.ok (.p (.tuple [.int i,.int j])):=by
  walk_at "2"
 have hv:(aD 8) [A,B,N,W,some (.o (.dict (encM slD frD m))),r5,some (.p (.int i)),some (.p (.int j)),some (.p (frD h)),r9]=.ok (.p (frD h)):=rfl
 unfold kA
 ktr_call 3 ⟨hk,hv,Ev.c,hp2⟩
def Wm (w:Int) (m:Mp):Prop:=∀ k h,iN m k=some h->k.1 < w/\k.2 < w
theorem Wm.put {w:Int} {m:Mp} (g:Wm w m) {k:Int×Int} (h:Int×Int) (h1:k.1 < w) (h2:k.2 < w):Wm w (mZ m k h):=fun k' h' e=>by
 rw [mM] at e
 split at e
 ·rename_i z;rw [z];exact ⟨h1,h2⟩
 ·exact g k' h' e
structure Lm (mo w:Int) (m m':Mp):Prop where
 a:m'.length<=m.length+1
 b:(m.length:Int)<=mo->(m'.length:Int)<=mo
 c:Wm w m->Wm w m'
theorem uB {m:Mp} {k h f:Int×Int} (e:iN m k=some f):(mZ m k h).length=m.length:=by
 unfold mZ
 rw [e,if_pos (by rfl),sL]
theorem aMw (K:PySem.W.Frag) (c:Cls) (B:Option L) {kind cell w mo:Int} (hk:Sz 200 kind) (c0:0<=cell) (hc:Sz 200 cell) (w0:1<=w) (w1:w<=9) (m:Mp) (hm:m.length<=1000) (gm:Gm m) (r6 r7 r8 r9:Option L) :
  ∃ m' q6 q7 q8 q9,Gm m'/\Lm mo w m m'/\eP K c [some (.p (.int kind)),B,some (.p (.int mo)),some (.p (.int w)),some (.o (.dict (encM slD frD m))),some (.p (.int cell)),r6,r7,r8,r9]=some (.nx [some (.p (.int kind)),B,some (.p (.int mo)),some (.p (.int w)),some (.o (.dict (encM slD frD m'))),some (.p (.int cell)),q6,q7,q8,q9]):=by
 have sw:Sz 4 w:=by unfold Sz;omega
 have wn:w≠0:=by omega
 have ww:w*w≠0:=fun z=>by rcases Int.mul_eq_zero.mp z with z | z<;>omega
 have mi:=bX (a:=cell) (b:=w) (by omega)
 have mj:=bX (a:=cell.fdiv w) (b:=w) (by omega)
 have mk2:=bX (a:=kind.fdiv 4) (b:=2) (by decide)
 have e1:(aE bY (aD 5) (aD 3)) [some (.p (.int kind)),B,some (.p (.int mo)),some (.p (.int w)),some (.o (.dict (encM slD frD m))),some (.p (.int cell)),r6,r7,r8,r9]=.ok (.p (.int (cell.fmod w))):=by
  walk_at "1d"
 have e2:(aE bY (aE bO (aD 5) (aD 3)) (aD 3)) [some (.p (.int kind)),B,some (.p (.int mo)),some (.p (.int w)),some (.o (.dict (encM slD frD m))),some (.p (.int cell)),some (.p (.int (cell.fmod w))),r7,r8,r9]=.ok (.p (.int ((cell.fdiv w).fmod w))):=by
  walk_at "1d"
 generalize hi:cell.fmod w=i at mi e1 e2
 generalize hj:(cell.fdiv w).fmod w=j0 at mj e2
 have si:Sz 4 i:=by unfold Sz;omega
 obtain ⟨j,jl,jh,jw,e3⟩:∃ j:Int,0<=j/\j<=8/\j < w/\dN (a9 (aE (eqE false) (aE bY (aD 0) (mC (.int 4))) (mC (.int 2)))) (bU 7 (aE cV (aD 6) (aE bY (aE bO (aD 0) (mC (.int 4))) (mC (.int 2))))) bS [some (.p (.int kind)),B,some (.p (.int mo)),some (.p (.int w)),some (.o (.dict (encM slD frD m))),some (.p (.int cell)),some (.p (.int i)),some (.p (.int j0)),r8,r9]=some (.nx [some (.p (.int kind)),B,some (.p (.int mo)),some (.p (.int w)),some (.o (.dict (encM slD frD m))),some (.p (.int cell)),some (.p (.int i)),some (.p (.int j)),r8,r9]):=by
  have tst:a9 (aE (eqE false) (aE bY (aD 0) (mC (.int 4))) (mC (.int 2))) [some (.p (.int kind)),B,some (.p (.int mo)),some (.p (.int w)),some (.o (.dict (encM slD frD m))),some (.p (.int cell)),some (.p (.int i)),some (.p (.int j0)),r8,r9]=.ok (kind.fmod 4 == 2):=by
   simp [a9,aE,aD,mC,Res.bind,Ev.c,tX,eqE,dat,gY,gZ,cP]
  cases h:(kind.fmod 4 == 2) with
  | false =>
   rw [h] at tst
   exact ⟨j0,by omega,by omega,mj.2,jB tst⟩
  | true =>
   rw [h] at tst
   refine ⟨i*(kind.fdiv 4).fmod 2,Int.mul_nonneg mi.1 mk2.1,?_,?_,(k8 tst).trans ?_⟩
   ·have:(kind.fdiv 4).fmod 2=0\/(kind.fdiv 4).fmod 2=1:=by omega
    rcases this with z | z<;>rw [z]<;>omega
   ·have:(kind.fdiv 4).fmod 2=0\/(kind.fdiv 4).fmod 2=1:=by omega
    rcases this with z | z<;>rw [z]<;>omega
   ·walk_at "1d"
 have sd:Sz 200 (cell.fdiv (w*w)):=rX hc
 obtain ⟨h,gh,hh⟩:=aAm K c hk mi.1 (show i<=8 by omega) jl jh sd
 have e4:(aJ 4 (bV K c) (aA (aD 0) (aA (aD 6) (aA (aD 7) (aA (aE bO (aD 5) (aE cV (aD 3) (aD 3))) aL))))) [some (.p (.int kind)),B,some (.p (.int mo)),some (.p (.int w)),some (.o (.dict (encM slD frD m))),some (.p (.int cell)),some (.p (.int i)),some (.p (.int j)),r8,r9]=.ok (.p (frD h)):=by
  ktr_call 21 ⟨hh⟩
 have hd:=oP (ev:=frD) m (i,j)
 have hd2:vJ (encM slD frD m) (.tuple [.int i,.int j])=some ((iN m (i,j)).map frD):=hd
 have step:∀ st,(∃ m' q9,Gm m'/\Lm mo w m m'/\st [some (.p (.int kind)),B,some (.p (.int mo)),some (.p (.int w)),some (.o (.dict (encM slD frD m))),some (.p (.int cell)),some (.p (.int i)),some (.p (.int j)),some (.p (frD h)),r9]=some (.nx [some (.p (.int kind)),B,some (.p (.int mo)),some (.p (.int w)),some (.o (.dict (encM slD frD m'))),some (.p (.int cell)),some (.p (.int i)),some (.p (.int j)),some (.p (frD h)),q9])) ->
   ∃ m' q6 q7 q8 q9,Gm m'/\Lm mo w m m'/\(bB (bU 6 (aE bY (aD 5) (aD 3))) (bB (bU 7 (aE bY (aE bO (aD 5) (aD 3)) (aD 3))) (bB (dN (a9 (aE (eqE false) (aE bY (aD 0) (mC (.int 4))) (mC (.int 2)))) (bU 7 (aE cV (aD 6) (aE bY (aE bO (aD 0) (mC (.int 4))) (mC (.int 2))))) bS) (bB (bU 8 (aJ 4 (bV K c) (aA (aD 0) (aA (aD 6) (aA (aD 7) (aA (aE bO (aD 5) (aE cV (aD 3) (aD 3))) aL)))))) st)))) [some (.p (.int kind)),B,some (.p (.int mo)),some (.p (.int w)),some (.o (.dict (encM slD frD m))),some (.p (.int cell)),r6,r7,r8,r9]=some (.nx [some (.p (.int kind)),B,some (.p (.int mo)),some (.p (.int w)),some (.o (.dict (encM slD frD m'))),some (.p (.int cell)),q6,q7,q8,q9]):=by
  rintro st ⟨m',q9,g1,g2,g3⟩
  refine ⟨m',_,_,_,q9,g1,g2,(aR (dA e1)).trans ((aR (dA e2)).trans ((aR e3).trans ((aR (dA e4)).trans g3)))⟩
 unfold eP
 refine step _ ?_
 have tin:a9 (aE (vQ false) (aH a7 (aA (aD 6) (aA (aD 7) aL))) (aD 4)) [some (.p (.int kind)),B,some (.p (.int mo)),some (.p (.int w)),some (.o (.dict (encM slD frD m))),some (.p (.int cell)),some (.p (.int i)),some (.p (.int j)),some (.p (frD h)),r9]=.ok (iN m (i,j)).isSome:=by
  ktr_call 2 ⟨vQ,kN,hd2⟩
  simp
 have hr:0<=(i,j).1/\(i,j).1<=8/\0<=(i,j).2/\(i,j).2<=8:=⟨mi.1,by show i<=8;omega,jl,jh⟩
 cases ea:iN m (i,j) with
 | none =>
  rw [ea] at tin
  have tl:a9 (aE ltE (aH mS (aA (aD 4) aL)) (aD 2)) [some (.p (.int kind)),B,some (.p (.int mo)),some (.p (.int w)),some (.o (.dict (encM slD frD m))),some (.p (.int cell)),some (.p (.int i)),some (.p (.int j)),some (.p (frD h)),r9]=.ok (decide ((m.length:Int) < mo)):=by
   have:mS [.b (.dict (encM slD frD m))]=.ok (.p (.int (m.length:Nat))):=by simp [mS,kN,qC];unfold N.encM;simp
   ktr_call 2 ⟨this⟩
  cases hl:decide ((m.length:Int) < mo) with
  | true =>
   rw [hl] at tl
   exact ⟨mZ m (i,j) h,r9,gm.put hr gh,⟨jY _ _ _,fun _=>by have:=jY m (i,j) h;have:=of_decide_eq_true hl;omega,fun z=>z.put h mi.2 jw⟩,(jB tin).trans ((k8 tl).trans (xX K c _ _ _ _ m hm i j h _ _))⟩
  | false =>
   rw [hl] at tl
   exact ⟨m,r9,gm,⟨Nat.le_succ _,id,id⟩,(jB tin).trans (jB tl)⟩
 | some f =>
  rw [ea] at tin hd2
  have gf:=(gm.2 _ _ ea).2
  have es:(aE mU (aD 4) (aH a7 (aA (aD 6) (aA (aD 7) aL)))) [some (.p (.int kind)),B,some (.p (.int mo)),some (.p (.int w)),some (.o (.dict (encM slD frD m))),some (.p (.int cell)),some (.p (.int i)),some (.p (.int j)),some (.p (frD h)),r9]=.ok (.p (frD f)):=by
   ktr_call 2 ⟨mU,kN,hd2,Option.map_some⟩
  have q1:=gh.c gf
  have q2:=gf.c gh
  have tg:a9 (aE gtE (aE cV (aE ixE (aD 8) (mC (.int 0))) (aE ixE (aD 9) (mC (.int 1)))) (aE cV (aE ixE (aD 9) (mC (.int 0))) (aE ixE (aD 8) (mC (.int 1))))) [some (.p (.int kind)),B,some (.p (.int mo)),some (.p (.int w)),some (.o (.dict (encM slD frD m))),some (.p (.int cell)),some (.p (.int i)),some (.p (.int j)),some (.p (frD h)),some (.p (frD f))]=.ok (decide (f.1*h.2 < h.1*f.2)):=by
   walk_at "1a"
  cases hl:decide (f.1*h.2 < h.1*f.2) with
  | true =>
   rw [hl] at tg
   exact ⟨mZ m (i,j) h,_,gm.put hr gh,⟨jY _ _ _,fun z=>by rw [uB ea];exact z,fun z=>z.put h mi.2 jw⟩,(k8 tin).trans ((aR (dA es)).trans ((k8 tg).trans (xX K c _ _ _ _ m hm i j h _ _)))⟩
  | false =>
   rw [hl] at tg
   exact ⟨m,_,gm,⟨Nat.le_succ _,id,id⟩,(k8 tin).trans ((aR (dA es)).trans (jB tg))⟩
def fK (m:Mp):List Pl:=(lH (kys m)).map fun k=>((un2 k).1,(un2 k).2,aMg m (0,1) k)
theorem wQ {m:Mp} (g:Gm m):∀ p∈fK m,GPl p:=fun p hp=>by
 unfold fK at hp
 obtain ⟨k,hk,rfl⟩:=List.mem_map.mp hp
 obtain ⟨_,_,h3⟩:=qY hk (0,1)
 obtain ⟨⟨a,b,c,d⟩,h⟩:=g.2 _ _ h3
 exact ⟨a,b,c,d,h⟩
theorem jN (m:Mp):(fK m).length=m.length:=by
 unfold fK
 rw [List.length_map,(gI (kys m)).length_eq]
 unfold kys
 rw [List.length_map]
theorem aEp (K:PySem.W.Frag) (c:Cls) (A B N0 W:Option L) (m:Mp) (hm:m.length < 64) (r5 r6 r7 r8 r9:Option L):(fun en=>(dE (dC 1 [4] (fF (aH eU (aA (aD 4) aL))) (aM 0) fL (dQ K c))) (frz 4 en)) [A,B,N0,W,some (.o (.dict (N.encM slD frD m))),r5,r6,r7,r8,r9]=some (.rt (.o (.list ((fK m).map plD)))):=by
 ktr_call 3 ⟨frz⟩
 have hs:=uR (ev:=frD) m hm
 have hmap:mQ (a5 1 [4] (aM 0) fL (dQ K c) [A,B,N0,W,some (.p (.dict (N.encM slD frD m))),r5,r6,r7,r8,r9]) ((lH (kys m)).map qZ)=some ((lH (kys m)).map fun k=>plD ((un2 k).1,(un2 k).2,aMg m (0,1) k)):=by
  refine eC _ fun k hk=>?_
  obtain ⟨h1,h2,h3⟩:=qY hk (0,1)
  have hd:=oP (ev:=frD) m (un2 k)
  rw [h3] at hd
  have x0:ixE (.p (slD (un2 k))) (.p (.int 0))=.ok (.p (.int (un2 k).1)):=nH _ _
  have x1:ixE (.p (slD (un2 k))) (.p (.int 1))=.ok (.p (.int (un2 k).2)):=nL _ _ _
  rw [h1]
  unfold a5
  ktr_call 2 ⟨aM,lP,vP,fL,dQ,List.replicate,List.cons_append,List.nil_append,mU,kN,hd,x0,x1,Option.map_some,plD⟩
 have hc:dC 1 [4] (fF (aH eU (aA (aD 4) aL))) (aM 0) fL (dQ K c) [A,B,N0,W,some (.p (.dict (N.encM slD frD m))),r5,r6,r7,r8,r9]=.ok (.f (.list ((fK m).map plD))):=by
  unfold dC zJ
  ktr_call 3 ⟨fF,aH,aA,aL,aD,Res.bind,Ev.c,hs,aIt⟩
  rw [if_pos (show (lH (kys m)).length<=100000 by rw [(gI (kys m)).length_eq];unfold kys;rw [List.length_map];omega),hmap]
  unfold fK
  rw [List.map_map]
  rfl
 unfold dE
 rw [hc]
 rfl
theorem aEj (K:PySem.W.Frag) (c:Cls) {kind w mo:Int} (hk:Sz 200 kind) (w0:1<=w) (w1:w<=9) (cs:List Int) (hl:cs.length<=60) (hc:∀ x∈cs,0<=x/\Sz 200 x) (hmo:1<=mo:=by decide) :
  ∃ m:Mp,Gm m/\fK m≠[]/\(m.length<=cs.length+1/\(m.length:Int)<=mo/\Wm w m)/\cX K c [.p (.int kind),.p (.list (cs.map .int)),.p (.int mo),.p (.int w)]=.ok (.o (.list ((fK m).map plD))):=by
 obtain ⟨e',⟨m,q5,q6,q7,q8,q9,g1,g2,rfl⟩,hloop⟩:=tO (enc:=PyData.int) (tg:=aM 5) (f:=eP K c) (fun zs e=>∃ m q5 q6 q7 q8 q9,Gm m/\(m.length<=zs.length/\(m.length:Int)<=mo/\Wm w m)/\e=[some (.p (.int kind)),some (.p (.list (cs.map .int))),some (.p (.int mo)),some (.p (.int w)),some (.o (.dict (N.encM slD frD m))),q5,q6,q7,q8,q9]) cs [] [some (.p (.int kind)),some (.p (.list (cs.map .int))),some (.p (.int mo)),some (.p (.int w)),some (.o (.dict [])),none,none,none,none,none] ⟨[],none,none,none,none,none,⟨List.Pairwise.nil,fun _ _ h=>nomatch h⟩,⟨Nat.le_refl _,by show (0:Int)<=mo;omega,fun _ _ e=>nomatch e⟩,rfl⟩ (by
  rintro x hx zs e hz ⟨m,q5,q6,q7,q8,q9,g1,g2,rfl⟩
  have hz:zs.length < 0+cs.length:=hz
  obtain ⟨m',p6,p7,p8,p9,h1,h2,h3⟩:=aMw K c (some (.p (.list (cs.map .int)))) (mo:=mo) hk (hc x hx).1 (hc x hx).2 w0 w1 m (by omega) g1 q6 q7 q8 q9
  refine ⟨_,_,rfl,h3,m',_,p6,p7,p8,p9,h1,⟨?_,h2.b g2.2.1,h2.c g2.2.2⟩,rfl⟩
  have:=h2.a
  rw [List.length_append];simp;omega)
 have g2:m.length<=cs.length/\(m.length:Int)<=mo/\Wm w m:=g2
 have wn:w≠0:=by omega
 have mi:=bX (a:=kind) (b:=w) (by omega)
 have td:a9 (aE yX (aD 4) mDT) [some (.p (.int kind)),some (.p (.list (cs.map .int))),some (.p (.int mo)),some (.p (.int w)),some (.o (.dict (N.encM slD frD m))),q5,q6,q7,q8,q9]=.ok m.isEmpty:=by
  have:yX (.b (.dict (N.encM slD frD m))) (.p (.dict []))=.ok (.p (.bool m.isEmpty)):=by
   unfold yX
   simp only [kN,qC,if_true]
   unfold N.encM
   rw [List.isEmpty_map]
  ktr_call 3 ⟨a9,aE,aD,mDT,Res.bind,Ev.c,this,cP⟩
 obtain ⟨m2,n1,n2,n3,e2⟩:∃ m2:Mp,m2≠[]/\Gm m2/\(m2.length<=cs.length+1/\(m2.length:Int)<=mo/\Wm w m2)/\dN (a9 (aE yX (aD 4) mDT)) (kA 4 (aH a7 (aA (aE bY (aD 0) (aD 3)) (aA (mC (.int 0)) aL))) (aH a7 (aA (mC (.int 0)) (aA (mC (.int 1)) aL)))) bS [some (.p (.int kind)),some (.p (.list (cs.map .int))),some (.p (.int mo)),some (.p (.int w)),some (.o (.dict (N.encM slD frD m))),q5,q6,q7,q8,q9]=some (.nx [some (.p (.int kind)),some (.p (.list (cs.map .int))),some (.p (.int mo)),some (.p (.int w)),some (.o (.dict (N.encM slD frD m2))),q5,q6,q7,q8,q9]):=by
  cases m with
  | cons p r=>exact ⟨p :: r,List.cons_ne_nil _ _,g1,⟨by omega,g2.2.1,g2.2.2⟩,jB td⟩
  | nil =>
   refine ⟨mZ [] (kind.fmod w,0) (0,1),(fun z=>nomatch z),g1.put ⟨mi.1,by show kind.fmod w<=8;omega,Int.le_refl 0,(show (0:Int)<=8 by decide)⟩ (aA0 (show Sz 80 (0:Int) by unfold Sz;decide)),⟨(show (1:Nat)<=cs.length+1 by omega),(show ((1:Nat):Int)<=mo by omega),g2.2.2.put _ (show kind.fmod w < w by omega) (show (0:Int) < w by omega)⟩,(k8 td).trans ?_⟩
   have hp:=wL (ev:=frD) [] (kind.fmod w,0) (0,1) (by decide)
   have hp2:zZ (N.encM slD frD []) (.tuple [.int (kind.fmod w),.int 0]) (.tuple [.int 0,.int 1])=some (N.encM slD frD (mZ [] (kind.fmod w,0) (0,1))):=hp
   have hk':(aH a7 (aA (aE bY (aD 0) (aD 3)) (aA (mC (.int 0)) aL))) [some (.p (.int kind)),some (.p (.list (cs.map .int))),some (.p (.int mo)),some (.p (.int w)),some (.o (.dict (N.encM slD frD []))),q5,q6,q7,q8,q9]=.ok (.p (.tuple [.int (kind.fmod w),.int 0])):=by
    walk_at "1d"
   have hv:(aH a7 (aA (mC (.int 0)) (aA (mC (.int 1)) aL))) [some (.p (.int kind)),some (.p (.list (cs.map .int))),some (.p (.int mo)),some (.p (.int w)),some (.o (.dict (N.encM slD frD []))),q5,q6,q7,q8,q9]=.ok (.p (.tuple [.int 0,.int 1])):=rfl
   unfold kA
   ktr_call 3 ⟨hk',hv,Ev.c,hp2⟩
 refine ⟨m2,n2,?_,n3,?_⟩
 ·intro z
  have:=jN m2
  rw [z] at this
  exact n1 (List.length_eq_zero_iff.mp this.symm)
 unfold cX
 refine cF ?_
 rw [show bQ 10 [.p (.int kind),.p (.list (cs.map .int)),.p (.int mo),.p (.int w)]=[some (.p (.int kind)),some (.p (.list (cs.map .int))),some (.p (.int mo)),some (.p (.int w)),none,none,none,none,none,none] from rfl]
 refine (aR (iH (d:=.dict []) rfl)).trans ?_
 refine (aR ((nN (ds:=cs.map .int) rfl).trans hloop)).trans ?_
 refine (aR e2).trans ?_
 exact aEp K c _ _ _ _ m2 (by omega) _ _ _ _ _
structure GPB (q:Pl):Prop where
 i0:0<=q.1
 i1:q.1<=8
 j0:0<=q.2.1
 j1:q.2.1<=8
 p:1<=q.2.2.2
 t:Sz 120 q.2.2.1
 b:Sz 20 q.2.2.2
 f:FR.Fr q.2.2
theorem GPB.si {p:Pl} (g:GPB p):Sz 4 p.1:=by have:=g.i0;have:=g.i1;unfold Sz;omega
theorem GPB.sj {p:Pl} (g:GPB p):Sz 4 p.2.1:=by have:=g.j0;have:=g.j1;unfold Sz;omega
structure lT (p:Pl) (pt:Pt):Prop where
 i:Sz 100 p.1
 j:Sz 100 p.2.1
 h:Good 200 p.2.2
 x:Good 800 pt.1
 y:Good 800 pt.2
def lev (p:Pl) (pt:Pt):Int×Int:=((p.1*pt.1.1*pt.2.2+p.2.1*pt.2.1*pt.1.2)*p.2.2.2+p.2.2.1*(pt.1.2*pt.2.2),pt.1.2*pt.2.2*p.2.2.2)
structure GPt (pt:Pt):Prop where
 x:Good 800 pt.1
 y:Good 800 pt.2
theorem GPB.at {p:Pl} {pt:Pt} (g:GPB p) (h:GPt pt):lT p pt:=⟨g.si.mono (by decide),g.sj.mono (by decide),⟨g.p,g.t.mono (by decide),g.b.mono (by decide)⟩,h.x,h.y⟩
theorem aCy {p:Pl} {pt:Pt} (g:lT p pt):FSz 2000 (lev p pt):=by
 have i:=g.i
 have j:=g.j
 have h1:=g.h.2.1
 have h2:=g.h.2.2
 have x1:=g.x.2.1
 have x2:=g.x.2.2
 have y1:=g.y.2.1
 have y2:=g.y.2.2
 constructor
 ·have:Sz (max (max (100+800+800) (100+800+800)+1+200) (200+(800+800))+1) (lev p pt).1:=by unfold lev;(walk_at "z")
  exact this.mono (by decide)
 ·have:Sz (800+800+200) (lev p pt).2:=by unfold lev;(walk_at "z")
  exact this.mono (by decide)
noncomputable def cB (K:PySem.W.Frag) (c:Cls):List L->Res L:=mOf ePH (fun a=>lT a.1 a.2) fun a=>.ok (.p (frD (lev a.1 a.2)))
noncomputable def kT (K:PySem.W.Frag) (c:Cls):MS:=(bB (xZ (iR 2 (cQ (aM 2) (cQ (aM 3) iS))) (aD 1)) (bB (bU 4 (aE dX (aE cV (aE cV (aE ixE (aD 0) (mC (.int 0))) (aE ixE (aD 2) (mC (.int 0)))) (aE ixE (aD 3) (mC (.int 1)))) (aE cV (aE cV (aE ixE (aD 0) (mC (.int 1))) (aE ixE (aD 3) (mC (.int 0)))) (aE ixE (aD 2) (mC (.int 1)))))) (bB (bU 5 (aE cV (aE ixE (aD 2) (mC (.int 1))) (aE ixE (aD 3) (mC (.int 1))))) (dE (aH a7 (aA (aE dX (aE cV (aD 4) (aE ixE (aE ixE (aD 0) (mC (.int 2))) (mC (.int 1)))) (aE cV (aE ixE (aE ixE (aD 0) (mC (.int 2))) (mC (.int 0))) (aD 5))) (aA (aE cV (aD 5) (aE ixE (aE ixE (aD 0) (mC (.int 2))) (mC (.int 1)))) aL)))))))
theorem n6 (K:PySem.W.Frag) (c:Cls):∀ ls,cB K c ls=.bad\/fJ 6 (kT K c) ls=cB K c ls:=dJ fun a g=>by
 obtain ⟨p,pt⟩:=a
 dsimp only at g ⊢
 have i:=g.i
 have j:=g.j
 have h1:=g.h.2.1
 have h2:=g.h.2.2
 have x1:=g.x.2.1
 have x2:=g.x.2.2
 have y1:=g.y.2.1
 have y2:=g.y.2.2
 refine cF ?_
 rw [show bQ 6 (ePH (p,pt))=[some (.p (plD p)),some (.p (.tuple [frD pt.1,frD pt.2])),none,none,none,none] from rfl]
 have e1:xZ (iR 2 (cQ (aM 2) (cQ (aM 3) iS))) (aD 1) [some (.p (plD p)),some (.p (.tuple [frD pt.1,frD pt.2])),none,none,none,none]=some (.nx [some (.p (plD p)),some (.p (.tuple [frD pt.1,frD pt.2])),some (.p (frD pt.1)),some (.p (frD pt.2)),none,none]):=rfl
 refine (aR e1).trans ?_
 walk_at "1d"
 rfl
theorem aGw (K:PySem.W.Frag) (c:Cls) {p:Pl} {pt:Pt} (g:lT p pt):cB K c [.p (plD p),.p (.tuple [frD pt.1,frD pt.2])]=.ok (.p (frD (lev p pt))):=dI (a:=(p,pt)) aJy g
noncomputable def aX (K:PySem.W.Frag) (c:Cls):List L->Res L:=mOf eFF (fun a=>FSz 2000 a.1/\FSz 2000 a.2) fun a=>.ok (.p (.bool (ltF a.1 a.2)))
noncomputable def kG (K:PySem.W.Frag) (c:Cls):MS:=(dE (aE ltE (aE cV (aE ixE (aD 0) (mC (.int 0))) (aE ixE (aD 1) (mC (.int 1)))) (aE cV (aE ixE (aD 1) (mC (.int 0))) (aE ixE (aD 0) (mC (.int 1))))))
theorem s8 (K:PySem.W.Frag) (c:Cls):∀ ls,aX K c ls=.bad\/fJ 2 (kG K c) ls=aX K c ls:=dJ fun a h=>by
 obtain ⟨x,y⟩:=a
 obtain ⟨⟨x1,x2⟩,⟨y1,y2⟩⟩:=h
 dsimp only at x1 x2 y1 y2 ⊢
 refine cF ?_
 rw [show bQ 2 (eFF (x,y))=[some (.p (frD x)),some (.p (frD y))] from rfl]
 unfold kG
 walk_at "1d"
 rfl
theorem mH (K:PySem.W.Frag) (c:Cls) {x y:Int×Int} (hx:FSz 2000 x) (hy:FSz 2000 y):aX K c [.p (frD x),.p (frD y)]=.ok (.p (.bool (ltF x y))):=dI (a:=(x,y)) lM ⟨hx,hy⟩
theorem jA:∀ (xs:List (Int×Int)) (b:Int×Int),best b xs=b\/best b xs∈xs
 | [],b=>.inl rfl
 | x :: xs,b=>by
  unfold best
  rcases jA xs (if ltF b x=true then x else b) with h | h
  ·rw [h]
   split
   ·exact .inr (.head _)
   ·exact .inl rfl
  ·exact .inr (.tail _ h)
theorem aIr {n:Nat} {b:Int×Int} {xs:List (Int×Int)} (hb:FSz n b) (h:∀ x∈xs,FSz n x):FSz n (best b xs):=by
 rcases jA xs b with z | z
 ·rw [z];exact hb
 ·exact h _ z
theorem getD_map {α:Type} (xs:List α) (d:α):(List.range xs.length).map (fun k=>xs.getD k d)=xs:=by
 apply List.ext_getElem
 ·simp
 ·intro i h1 h2
  simp [List.getD,h2]
theorem aF9 {α:Type} (d:α) {g:D->Option (Option D)} {out:α->D} {p:α->Bool} (xs:List α) (h:∀ k,k < xs.length->g (.int (k:Int))=some (if p (xs.getD k d)=true then some (out (xs.getD k d)) else none)):mQ g (qK 0 xs.length)=some ((xs.filter p).map out):=by
 have e:qK 0 xs.length=(List.range xs.length).map fun (k:Nat)=>PyData.int (k:Int):=by unfold qK;simp
 rw [e,iD (p:=fun k=>p (xs.getD k d)) (out:=fun k=>out (xs.getD k d)) _ fun k hk=>h k (List.mem_range.mp hk)]
 conv=>rhs;rw [<- getD_map xs d]
 rw [List.filter_map,List.map_map]
 rfl
def oW (ps:List Pl) (pt:Pt):Int×Int:=best (lev (ps.headD (0,0,(0,1))) pt) (ps.map fun q=>lev q pt)
def pS (ps:List Pl) (pt:Pt):List Pl:=ps.filter fun q=>!ltF (lev q pt) (oW ps pt)
noncomputable def dD (K:PySem.W.Frag) (c:Cls):List L->Res L:=mOf eHA (fun a=>a.1≠[]/\a.1.length<=1000/\∀ q∈a.1,lT q a.2) fun a=>.ok (.o (.list ((pS a.1 a.2).map plD)))
noncomputable def eO (K:PySem.W.Frag) (c:Cls):En->Res Ev:=(aE ixE (aD 2) (aD 0))
noncomputable def dU (K:PySem.W.Frag) (c:Cls):MS:=(dN (a9 (aJ 2 (aX K c) (aA (aD 3) (aA (aD 4) aL)))) (bU 3 (aD 4)) bS)
noncomputable def eV (K:PySem.W.Frag) (c:Cls):En->Res Ev:=(aJ 2 (cB K c) (aA (aD 0) (aA (aD 1) aL)))
noncomputable def lL (K:PySem.W.Frag) (c:Cls):MS:=(bB (bU 2 (dC 1 [1] (fF (aD 0)) (aM 0) fL (eV K c))) (fun en=>(bB (bU 3 (aE ixE (aD 2) (mC (.int 0)))) (bB (vN (fF (aD 2)) (aM 4) (dU K c)) (dE (dC 1 [3,0,2] (qP oD (aA (aH gB (aA (aD 0) aL)) aL)) (aM 0) (rA (a9 (aJ 2 (aX K c) (aA (aE ixE (aD 3) (aD 0)) (aA (aD 1) aL))))) (eO K c))))) (frz 2 en)))
theorem aBr {α:Type} (f:α->D) (xs:List α) (d:α) {k:Nat} (h:k < xs.length):atI (xs.map f) (k:Int)=some (f (xs.getD k d)):=by
 have:xs.getD k d=xs[k]:=by simp [List.getD,h]
 rw [this]
 exact kU (by rw [List.getElem?_map,List.getElem?_eq_getElem h];rfl)
theorem getD_mem {α:Type} (xs:List α) (d:α) {k:Nat} (h:k < xs.length):xs.getD k d∈xs:=by
 have:xs.getD k d=xs[k]:=by simp [List.getD,h]
 rw [this]
 exact List.getElem_mem h
theorem aJs (K:PySem.W.Frag) (c:Cls) (A B C:Option L):∀ (xs:List (Int×Int)) (b:Int×Int) (r:Option L),FSz 2000 b->(∀ x∈xs,FSz 2000 x)->∃ r',fM (aM 4) (dU K c) (xs.map frD) [A,B,C,some (.p (frD b)),r]=some (.nx [A,B,C,some (.p (frD (best b xs))),r']):=by
 intro xs
 induction xs with
 | nil=>intro b r _ _;exact ⟨r,rfl⟩
 | cons x xs ih =>
  intro b r hb hx
  have hu:=mH K c hb (hx x (.head _))
  obtain ⟨r',ih⟩:=ih (if ltF b x=true then x else b) (some (.p (frD x))) (by split;exact hx x (.head _);exact hb) fun y hy=>hx y (.tail _ hy)
  refine ⟨r',?_⟩
  have hb1:dU K c [A,B,C,some (.p (frD b)),some (.p (frD x))]=some (.nx [A,B,C,some (.p (frD (if ltF b x=true then x else b))),some (.p (frD x))]):=by
   cases e:ltF b x<;>simp [dU,dN,a9,aJ,aA,aL,aD,Res.bind,Ev.c,eN,dG,kF,hu,e,lF,cP,bU,bS]
  rw [List.map_cons]
  unfold fM
  simp only [aM,List.set_cons_succ,List.set_cons_zero]
  rw [hb1]
  exact ih
theorem tK (n:Nat) (hl:n<=1000):oD [.p (.int ((n:Nat):Int))]=.ok (qK 0 n):=by
 have hb:-(2 ^ 62)<=((n:Nat):Int)/\((n:Nat):Int) < 2 ^ 62:=by omega
 simp only [oD]
 rw [if_pos hb,Int.toNat_natCast]
theorem aKj (ps:List Pl) (hl:ps.length<=1000) (B C G E:Option L):(qP oD (aA (aH gB (aA (aD 0) aL)) aL)) [some (.p (.list (ps.map plD))),B,C,G,E]=.ok (qK 0 ps.length):=by
 have e:(aA (aH gB (aA (aD 0) aL)) aL) [some (.p (.list (ps.map plD))),B,C,G,E]=.ok [.p (.int (ps.length:Nat))]:=by
  simp [aA,aL,aH,aD,Res.bind,Ev.c,gB,gC]
 have h:=tK ps.length hl
 unfold qP
 rw [e,xE,h]
theorem pP (K:PySem.W.Frag) (c:Cls):∀ ls,dD K c ls=.bad\/fJ 5 (lL K c) ls=dD K c ls:=dJ fun a h=>by
 obtain ⟨ps,pt⟩:=a
 obtain ⟨hne,hl,hz⟩:=h
 dsimp only at hne hl hz ⊢
 have hm:∀ r2 r3 r4,mQ (a5 1 [1] (aM 0) fL (eV K c) [some (.p (.list (ps.map plD))),some (.p (.tuple [frD pt.1,frD pt.2])),r2,r3,r4]) (ps.map plD)=some (ps.map fun q=>frD (lev q pt)):=fun r2 r3 r4=>by
  refine eC _ fun q hq=>?_
  have hp:=aGw K c (hz q hq)
  simp [a5,aM,lP,vP,fL,eV,aD,aA,aL,aJ,eN,dG,kF,Res.bind,Ev.c,hp,lF]
 have hl2:(ps.map plD).length<=100000:=by rw [List.length_map];omega
 have hc:∀ r2 r3 r4,dC 1 [1] (fF (aD 0)) (aM 0) fL (eV K c) [some (.p (.list (ps.map plD))),some (.p (.tuple [frD pt.1,frD pt.2])),r2,r3,r4]=.ok (.f (.list (ps.map fun q=>frD (lev q pt)))):=fun r2 r3 r4=>by
  unfold dC zJ
  simp only [fF,aD,List.getElem?_cons_zero,Res.bind,Ev.c,aIt]
  rw [if_pos hl2,hm]
 have hsz:∀ x∈ps.map fun q=>lev q pt,FSz 2000 x:=fun x hx=>by
  obtain ⟨q,hq,rfl⟩:=List.mem_map.mp hx
  have:=aCy (hz q hq)
  exact ⟨this.1.mono (by decide),this.2.mono (by decide)⟩
 have h0:0 < ps.length:=List.length_pos_iff.mpr hne
 have hhead:ps.headD (0,0,(0,1))∈ps:=by cases ps with | nil=>exact absurd rfl hne | cons p r=>exact .head _
 have hh0:FSz 2000 (lev (ps.headD (0,0,(0,1))) pt):=hsz _ (List.mem_map.mpr ⟨_,hhead,rfl⟩)
 have e1:(ps.map fun q=>frD (lev q pt))=(ps.map fun q=>lev q pt).map frD:=by rw [List.map_map];rfl
 obtain ⟨r4',hloop⟩:∃ r4',fM (aM 4) (dU K c) (ps.map fun q=>frD (lev q pt)) [some (.p (.list (ps.map plD))),some (.p (.tuple [frD pt.1,frD pt.2])),some (.p (.list (ps.map fun q=>frD (lev q pt)))),some (.p (frD (lev (ps.headD (0,0,(0,1))) pt))),none]=some (.nx [some (.p (.list (ps.map plD))),some (.p (.tuple [frD pt.1,frD pt.2])),some (.p (.list (ps.map fun q=>frD (lev q pt)))),some (.p (frD (oW ps pt))),r4']):=by
  rw [e1]
  obtain ⟨r',h⟩:=aJs K c _ _ _ (ps.map fun q=>lev q pt) (lev (ps.headD (0,0,(0,1))) pt) none hh0 hsz
  exact ⟨r',h⟩
 have hms:FSz 2000 (oW ps pt):=aIr hh0 hsz
 refine cF (l:=.o (.list ((pS ps pt).map plD))) ?_
 rw [show bQ 5 (eHA (ps,pt))=[some (.p (.list (ps.map plD))),some (.p (.tuple [frD pt.1,frD pt.2])),none,none,none] from rfl]
 refine (aR (iH (hc none none none))).trans ?_
 simp only [List.set_cons_succ,List.set_cons_zero,frz,List.getElem?_cons_succ,List.getElem?_cons_zero]
 have a1:(aE ixE (aD 2) (mC (.int 0))) [some (.p (.list (ps.map plD))),some (.p (.tuple [frD pt.1,frD pt.2])),some (.p (.list (ps.map fun q=>frD (lev q pt)))),none,none]=.ok (.p (frD (lev (ps.headD (0,0,(0,1))) pt))):=by
  cases ps with
  | nil=>exact absurd rfl hne
  | cons p r=>simp [aE,aD,mC,Res.bind,Ev.c,ixE,gC,at0]
 refine (aR (dA a1)).trans ?_
 simp only [List.set_cons_succ,List.set_cons_zero]
 refine (aR ((nN (ds:=ps.map fun q=>frD (lev q pt)) rfl).trans hloop)).trans ?_
 have hr:=aKj ps (by omega) (some (.p (.tuple [frD pt.1,frD pt.2]))) (some (.p (.list (ps.map fun q=>frD (lev q pt))))) (some (.p (frD (oW ps pt)))) r4'
 have hm2:mQ (a5 1 [3,0,2] (aM 0) (rA (a9 (aJ 2 (aX K c) (aA (aE ixE (aD 3) (aD 0)) (aA (aD 1) aL))))) (eO K c) [some (.p (.list (ps.map plD))),some (.p (.tuple [frD pt.1,frD pt.2])),some (.p (.list (ps.map fun q=>frD (lev q pt)))),some (.p (frD (oW ps pt))),r4']) (qK 0 ps.length)=some ((pS ps pt).map plD):=by
  refine aF9 (0,0,(0,1)) ps fun k hk=>?_
  have hq:=getD_mem ps (0,0,(0,1)) hk
  have i1:=aBr plD ps (0,0,(0,1)) hk
  have i2:=aBr (fun q=>frD (lev q pt)) ps (0,0,(0,1)) hk
  generalize ps.getD k (0,0,(0,1))=q at hq i1 i2
  have hlq:FSz 2000 (lev q pt):=hsz _ (List.mem_map.mpr ⟨q,hq,rfl⟩)
  have hu:=mH K c hlq hms
  cases e:ltF (lev q pt) (oW ps pt)<;>simp [a5,aM,lP,vP,eO,rA,a9,aJ,aA,aL,aE,aD,Res.bind,Ev.c,ixE,gC,i1,i2,eN,dG,kF,hu,e,lF,cP]
 have a2:dC 1 [3,0,2] (qP oD (aA (aH gB (aA (aD 0) aL)) aL)) (aM 0) (rA (a9 (aJ 2 (aX K c) (aA (aE ixE (aD 3) (aD 0)) (aA (aD 1) aL))))) (eO K c) [some (.p (.list (ps.map plD))),some (.p (.tuple [frD pt.1,frD pt.2])),some (.p (.list (ps.map fun q=>frD (lev q pt)))),some (.p (frD (oW ps pt))),r4']=.ok (.f (.list ((pS ps pt).map plD))):=by
  have hle:(qK 0 ps.length).length<=100000:=by unfold qK;rw [List.length_map,List.length_range];omega
  unfold dC
  rw [hr,xE]
  unfold zJ
  rw [if_pos hle,hm2]
 exact zM a2
theorem aEk (K:PySem.W.Frag) (c:Cls) (ps:List Pl) (pt:Pt) (h0:ps≠[]) (hl:ps.length<=1000) (h:∀ q∈ps,lT q pt):dD K c [.p (.list (ps.map plD)),.p (.tuple [frD pt.1,frD pt.2])]=.ok (.o (.list ((pS ps pt).map plD))):=dI (a:=(ps,pt)) aDe ⟨h0,hl,h⟩
noncomputable def iK (K:PySem.W.Frag) (c:Cls):MS:=(bB (bU 3 (aH a7 (aA (aE jJ (aE ixE (aD 0) (mC (.int 0))) (aE ixE (aD 1) (mC (.int 0)))) (aA (aE jJ (aE ixE (aD 0) (mC (.int 1))) (aE ixE (aD 1) (mC (.int 1)))) (aA (aE jJ (aE cV (aE ixE (aE ixE (aD 1) (mC (.int 2))) (mC (.int 0))) (aE ixE (aE ixE (aD 0) (mC (.int 2))) (mC (.int 1)))) (aE cV (aE ixE (aE ixE (aD 0) (mC (.int 2))) (mC (.int 0))) (aE ixE (aE ixE (aD 1) (mC (.int 2))) (mC (.int 1))))) aL))))) (bB (bU 4 (aH a7 (aA (aE jJ (aE ixE (aD 0) (mC (.int 0))) (aE ixE (aD 2) (mC (.int 0)))) (aA (aE jJ (aE ixE (aD 0) (mC (.int 1))) (aE ixE (aD 2) (mC (.int 1)))) (aA (aE jJ (aE cV (aE ixE (aE ixE (aD 2) (mC (.int 2))) (mC (.int 0))) (aE ixE (aE ixE (aD 0) (mC (.int 2))) (mC (.int 1)))) (aE cV (aE ixE (aE ixE (aD 0) (mC (.int 2))) (mC (.int 0))) (aE ixE (aE ixE (aD 2) (mC (.int 2))) (mC (.int 1))))) aL))))) (bB (bU 5 (aE jJ (aE cV (aE ixE (aD 3) (mC (.int 0))) (aE ixE (aD 4) (mC (.int 1)))) (aE cV (aE ixE (aD 3) (mC (.int 1))) (aE ixE (aD 4) (mC (.int 0)))))) (bB (dN (a9 (aE (eqE false) (aD 5) (mC (.int 0)))) (dE (mC (.none))) bS) (bB (bU 6 (aE cV (aE ixE (aE ixE (aD 1) (mC (.int 2))) (mC (.int 1))) (aE ixE (aE ixE (aD 0) (mC (.int 2))) (mC (.int 1))))) (bB (bU 7 (aE cV (aE ixE (aE ixE (aD 2) (mC (.int 2))) (mC (.int 1))) (aE ixE (aE ixE (aD 0) (mC (.int 2))) (mC (.int 1))))) (bB (bU 8 (aE jJ (aE cV (aE cV (aE ixE (aD 3) (mC (.int 2))) (aE ixE (aD 4) (mC (.int 1)))) (aD 7)) (aE cV (aE cV (aE ixE (aD 4) (mC (.int 2))) (aE ixE (aD 3) (mC (.int 1)))) (aD 6)))) (bB (bU 9 (aE jJ (aE cV (aE cV (aE ixE (aD 4) (mC (.int 2))) (aE ixE (aD 3) (mC (.int 0)))) (aD 6)) (aE cV (aE cV (aE ixE (aD 3) (mC (.int 2))) (aE ixE (aD 4) (mC (.int 0)))) (aD 7)))) (dE (aH a7 (aA (aJ 2 (aV K c) (aA (aD 8) (aA (aE cV (aE cV (aD 5) (aD 6)) (aD 7)) aL))) (aA (aJ 2 (aV K c) (aA (aD 9) (aA (aE cV (aE cV (aD 5) (aD 6)) (aD 7)) aL))) aL))))))))))))
noncomputable def bL (K:PySem.W.Frag) (c:Cls) (ls:List L):Res L:=fJ 10 (iK K c) ls
theorem oA (K:PySem.W.Frag) (c:Cls):∀ ls,bL K c ls=.bad\/fJ 10 (iK K c) ls=bL K c ls:=fun _=>.inr rfl
theorem aF7 (K:PySem.W.Frag) (c:Cls) {p q r:Pl} (gp:GPB p) (gq:GPB q) (gr:GPB r):bL K c [.p (plD p),.p (plD q),.p (plD r)]=.ok (.p .none)\/∃ pt,GPt pt/\bL K c [.p (plD p),.p (plD q),.p (plD r)]=.ok (.p (.tuple [frD pt.1,frD pt.2])):=by
 have p1:=gp.si;have p2:=gp.sj;have p3:=gp.t;have p4:=gp.b;have p5:=gp.p
 have q1:=gq.si;have q2:=gq.sj;have q3:=gq.t;have q4:=gq.b;have q5:=gq.p
 have r1:=gr.si;have r2:=gr.sj;have r3:=gr.t;have r4:=gr.b;have r5:=gr.p
 unfold bL
 have st0:bQ 10 [.p (plD p),.p (plD q),.p (plD r)]=[some (.p (plD p)),some (.p (plD q)),some (.p (plD r)),none,none,none,none,none,none,none]:=rfl
 obtain ⟨A0,A1,A2,a0,a1,a2,e1⟩:∃ A0 A1 A2:Int,Sz 5 A0/\Sz 5 A1/\Sz 141 A2/\(aH a7 (aA (aE jJ (aE ixE (aD 0) (mC (.int 0))) (aE ixE (aD 1) (mC (.int 0)))) (aA (aE jJ (aE ixE (aD 0) (mC (.int 1))) (aE ixE (aD 1) (mC (.int 1)))) (aA (aE jJ (aE cV (aE ixE (aE ixE (aD 1) (mC (.int 2))) (mC (.int 0))) (aE ixE (aE ixE (aD 0) (mC (.int 2))) (mC (.int 1)))) (aE cV (aE ixE (aE ixE (aD 0) (mC (.int 2))) (mC (.int 0))) (aE ixE (aE ixE (aD 1) (mC (.int 2))) (mC (.int 1))))) aL)))) [some (.p (plD p)),some (.p (plD q)),some (.p (plD r)),none,none,none,none,none,none,none]=.ok (.p (.tuple [.int A0,.int A1,.int A2])):=by
  refine ⟨p.1 - q.1,p.2.1 - q.2.1,q.2.2.1*p.2.2.2 - p.2.2.1*q.2.2.2,Sz.subM p1 q1,Sz.subM p2 q2,Sz.subM (Sz.mul q3 p4) (Sz.mul p3 q4),?_⟩
  walk_at "1d"
 obtain ⟨B0,B1,B2,b0,b1,b2,e2⟩:∃ B0 B1 B2:Int,Sz 5 B0/\Sz 5 B1/\Sz 141 B2/\(aH a7 (aA (aE jJ (aE ixE (aD 0) (mC (.int 0))) (aE ixE (aD 2) (mC (.int 0)))) (aA (aE jJ (aE ixE (aD 0) (mC (.int 1))) (aE ixE (aD 2) (mC (.int 1)))) (aA (aE jJ (aE cV (aE ixE (aE ixE (aD 2) (mC (.int 2))) (mC (.int 0))) (aE ixE (aE ixE (aD 0) (mC (.int 2))) (mC (.int 1)))) (aE cV (aE ixE (aE ixE (aD 0) (mC (.int 2))) (mC (.int 0))) (aE ixE (aE ixE (aD 2) (mC (.int 2))) (mC (.int 1))))) aL)))) [some (.p (plD p)),some (.p (plD q)),some (.p (plD r)),some (.p (.tuple [.int A0,.int A1,.int A2])),none,none,none,none,none,none]=.ok (.p (.tuple [.int B0,.int B1,.int B2])):=by
  refine ⟨p.1 - r.1,p.2.1 - r.2.1,r.2.2.1*p.2.2.2 - p.2.2.1*r.2.2.2,Sz.subM p1 r1,Sz.subM p2 r2,Sz.subM (Sz.mul r3 p4) (Sz.mul p3 r4),?_⟩
  walk_at "1d"
 have e3:(aE jJ (aE cV (aE ixE (aD 3) (mC (.int 0))) (aE ixE (aD 4) (mC (.int 1)))) (aE cV (aE ixE (aD 3) (mC (.int 1))) (aE ixE (aD 4) (mC (.int 0))))) [some (.p (plD p)),some (.p (plD q)),some (.p (plD r)),some (.p (.tuple [.int A0,.int A1,.int A2])),some (.p (.tuple [.int B0,.int B1,.int B2])),none,none,none,none,none]=.ok (.p (.int (A0*B1 - A1*B0))):=by
  walk_at "1d"
 have sw:Sz 11 (A0*B1 - A1*B0):=Sz.subM (Sz.mul a0 b1) (Sz.mul a1 b0)
 generalize A0*B1 - A1*B0=w at e3 sw
 have tw:∀ x5 x6 x7 x8,a9 (aE (eqE false) (aD 5) (mC (.int 0))) [some (.p (plD p)),some (.p (plD q)),some (.p (plD r)),some (.p (.tuple [.int A0,.int A1,.int A2])),some (.p (.tuple [.int B0,.int B1,.int B2])),some (.p (.int w)),x5,x6,x7,x8]=.ok (w == 0):=fun x5 x6 x7 x8=>by
  simp [a9,aE,aD,mC,Res.bind,Ev.c,eqE,dat,gY,gZ,cP]
 cases hw:(w == 0) with
 | true =>
  left
  have tw:=tw none none none none
  rw [hw] at tw
  refine cF ?_
  rw [st0]
  refine (aR (dA e1)).trans ((aR (dA e2)).trans ((aR (dA e3)).trans (j8 ((k8 tw).trans ?_))))
  rfl
 | false =>
  right
  have tw:=tw none none none none
  rw [hw] at tw
  have wn:w≠0:=by simpa using hw
  have f0:0 < q.2.2.2*p.2.2.2:=Int.mul_pos (by omega) (by omega)
  have s0:0 < r.2.2.2*p.2.2.2:=Int.mul_pos (by omega) (by omega)
  have f1:Sz 40 (q.2.2.2*p.2.2.2):=Sz.mul q4 p4
  have s1:Sz 40 (r.2.2.2*p.2.2.2):=Sz.mul r4 p4
  have e5:(aE cV (aE ixE (aE ixE (aD 1) (mC (.int 2))) (mC (.int 1))) (aE ixE (aE ixE (aD 0) (mC (.int 2))) (mC (.int 1)))) [some (.p (plD p)),some (.p (plD q)),some (.p (plD r)),some (.p (.tuple [.int A0,.int A1,.int A2])),some (.p (.tuple [.int B0,.int B1,.int B2])),some (.p (.int w)),none,none,none,none]=.ok (.p (.int (q.2.2.2*p.2.2.2))):=by
   walk_at "1d"
  have e6:∀ x6,(aE cV (aE ixE (aE ixE (aD 2) (mC (.int 2))) (mC (.int 1))) (aE ixE (aE ixE (aD 0) (mC (.int 2))) (mC (.int 1)))) [some (.p (plD p)),some (.p (plD q)),some (.p (plD r)),some (.p (.tuple [.int A0,.int A1,.int A2])),some (.p (.tuple [.int B0,.int B1,.int B2])),some (.p (.int w)),x6,none,none,none]=.ok (.p (.int (r.2.2.2*p.2.2.2))):=fun x6=>by
   walk_at "1d"
  generalize q.2.2.2*p.2.2.2=F at e5 f0 f1
  generalize r.2.2.2*p.2.2.2=S at e6 s0 s1
  have e7:(aE jJ (aE cV (aE cV (aE ixE (aD 3) (mC (.int 2))) (aE ixE (aD 4) (mC (.int 1)))) (aD 7)) (aE cV (aE cV (aE ixE (aD 4) (mC (.int 2))) (aE ixE (aD 3) (mC (.int 1)))) (aD 6))) [some (.p (plD p)),some (.p (plD q)),some (.p (plD r)),some (.p (.tuple [.int A0,.int A1,.int A2])),some (.p (.tuple [.int B0,.int B1,.int B2])),some (.p (.int w)),some (.p (.int F)),some (.p (.int S)),none,none]=.ok (.p (.int (A2*B1*S - B2*A1*F))):=by
   walk_at "1d"
  have e8:∀ x8,(aE jJ (aE cV (aE cV (aE ixE (aD 4) (mC (.int 2))) (aE ixE (aD 3) (mC (.int 0)))) (aD 6)) (aE cV (aE cV (aE ixE (aD 3) (mC (.int 2))) (aE ixE (aD 4) (mC (.int 0)))) (aD 7))) [some (.p (plD p)),some (.p (plD q)),some (.p (plD r)),some (.p (.tuple [.int A0,.int A1,.int A2])),some (.p (.tuple [.int B0,.int B1,.int B2])),some (.p (.int w)),some (.p (.int F)),some (.p (.int S)),x8,none]=.ok (.p (.int (B2*A0*F - A2*B0*S))):=fun x8=>by
   walk_at "1d"
  have sx:Sz 187 (A2*B1*S - B2*A1*F):=Sz.subM (Sz.mul (Sz.mul a2 b1) s1) (Sz.mul (Sz.mul b2 a1) f1)
  have sy:Sz 187 (B2*A0*F - A2*B0*S):=Sz.subM (Sz.mul (Sz.mul b2 a0) f1) (Sz.mul (Sz.mul a2 b0) s1)
  generalize A2*B1*S - B2*A1*F=X at e7 sx
  generalize B2*A0*F - A2*B0*S=Y at e8 sy
  have sd:Sz 91 (w*F*S):=Sz.mul (Sz.mul sw f1) s1
  have dn:w*F*S≠0:=fun z=>by
   rcases Int.mul_eq_zero.mp z with z | z
   ·rcases Int.mul_eq_zero.mp z with z | z
    ·exact wn z
    ·omega
   ·omega
  have l1:=kM K c (t:=X) dn (sd.mono (by decide))
  have l2:=kM K c (t:=Y) dn (sd.mono (by decide))
  refine ⟨(FR.mk X (w*F*S),FR.mk Y (w*F*S)),⟨lN (sx.mono (by decide)) (sd.mono (by decide)) dn,lN (sy.mono (by decide)) (sd.mono (by decide)) dn⟩,cF ?_⟩
  rw [st0]
  refine (aR (dA e1)).trans ((aR (dA e2)).trans ((aR (dA e3)).trans ((aR (jB tw)).trans ((aR (dA e5)).trans ((aR (dA (e6 _))).trans ((aR (dA e7)).trans ((aR (dA (e8 _))).trans (hV ?_))))))))
  ktr_call 21 ⟨l1,l2⟩
noncomputable def eG (K:PySem.W.Frag) (c:Cls):MS:=(bB (dN (a9 (aE (eqE false) (aE bY (aD 1) (mC (.int 3))) (mC (.int 0)))) (bB (bU 3 (aH gB (aA (aD 0) aL))) (bB (bU 4 (aJ 3 (bL K c) (aA (aE ixE (aD 0) (aE bY (aD 2) (aD 3))) (aA (aE ixE (aD 0) (aE bY (aE bO (aD 2) (aD 3)) (aD 3))) (aA (aE ixE (aD 0) (aE bY (aE bO (aD 1) (mC (.int 3))) (aD 3))) aL))))) (dN (a9 (mUn (qJ true) (aD 4))) (dE (aD 4)) bS))) bS) (bB (dN (a9 (aE (eqE false) (aE bY (aD 1) (mC (.int 3))) (mC (.int 1)))) (dE (aH a7 (aA (aJ 2 (aV K c) (aA (aE jJ (aE bY (aE bO (aD 1) (mC (.int 3))) (mC (.int 9))) (mC (.int 4))) (aA (aE dX (mC (.int 1)) (aE bY (aE bO (aD 1) (mC (.int 27))) (mC (.int 3)))) aL))) (aA (aJ 2 (aV K c) (aA (aE jJ (aE bY (aD 2) (mC (.int 9))) (mC (.int 4))) (aA (aE dX (mC (.int 1)) (aE bY (aE bO (aD 2) (mC (.int 9))) (mC (.int 3)))) aL))) aL)))) bS) (bB (bU 5 (aJ 2 (aV K c) (aA (aE jJ (aE bY (aE bO (aD 1) (mC (.int 3))) (aE dX (aE cV (mC (.int 2)) (aE k9 (mC (.int 10)) (mC (.int 20)))) (mC (.int 1)))) (aE k9 (mC (.int 10)) (mC (.int 20)))) (aA (aE dX (mC (.int 1)) (aE bY (aE bO (aD 1) (mC (.int 7))) (mC (.int 9)))) aL)))) (dE (aH a7 (aA (aD 5) (aA (aJ 2 (aV K c) (aA (aE jJ (aE bY (aD 2) (aE dX (aE cV (mC (.int 2)) (aE k9 (mC (.int 10)) (mC (.int 20)))) (mC (.int 1)))) (aE k9 (mC (.int 10)) (mC (.int 20)))) (aA (aE dX (mC (.int 1)) (aE bY (aE bO (aD 2) (mC (.int 7))) (mC (.int 9)))) aL))) aL)))))))
noncomputable def bP (K:PySem.W.Frag) (c:Cls) (ls:List L):Res L:=fJ 6 (eG K c) ls
theorem nY (K:PySem.W.Frag) (c:Cls):∀ ls,bP K c ls=.bad\/fJ 6 (eG K c) ls=bP K c ls:=fun _=>.inr rfl
theorem sO (K:PySem.W.Frag) (c:Cls) {t b:Int} (h0:1<=b) (ht:Sz 80 t) (hb:Sz 6 b):Good 800 (FR.mk t b)/\aV K c [.p (.int t),.p (.int b)]=.ok (.p (frD (FR.mk t b))) :=
 ⟨lN (ht.mono (by decide)) (hb.mono (by decide)) (by omega),kM K c (by omega) (hb.mono (by decide))⟩
theorem aA1 {α:Type} (f:α->D) (xs:List α) (d:α) (h:0 < xs.length) (x:Int):∃ y∈xs,atI (xs.map f) (x.fmod (xs.length:Nat))=some (f y):=by
 have m:=bX (a:=x) (b:=(xs.length:Nat)) (by omega)
 obtain ⟨n,hn⟩:∃ n:Nat,x.fmod (xs.length:Nat)=(n:Int):=⟨(x.fmod (xs.length:Nat)).toNat,by omega⟩
 have hl:n < xs.length:=by omega
 exact ⟨_,getD_mem xs d hl,by rw [hn];exact aBr f xs d hl⟩
theorem aGn (x:Int):Sz 80 (x.fmod (2*10 ^ Int.toNat 20+1) - 10 ^ Int.toNat 20):=by
 have:Sz (max (max (4+70) 4+1) 70+1) (x.fmod (2*10 ^ Int.toNat 20+1) - 10 ^ Int.toNat 20):=by (walk_at "z")
 exact this.mono (by decide)
theorem yC (x:Int) (n:Int) (h:0 < n) (hn:n<=15):1<=1+x.fmod n/\Sz 6 (1+x.fmod n):=by
 have:=bX (a:=x) h
 exact ⟨by omega,by unfold Sz;omega⟩
theorem aEn (K:PySem.W.Frag) (c:Cls) (ps:List Pl) (h0:ps≠[]) (hl:ps.length<=1000) (hp:∀ p∈ps,GPB p) {cell other:Int} (hc:Sz 200 cell) (ho:Sz 200 other):∃ pt,GPt pt/\bP K c [.p (.list (ps.map plD)),.p (.int cell),.p (.int other)]=.ok (.p (.tuple [frD pt.1,frD pt.2])):=by
 have p20:aHg 10 20:=⟨by decide,by decide,by decide⟩
 have hpos:0 < ps.length:=List.length_pos_iff.mpr h0
 unfold bP
 suffices h:∃ pt,GPt pt/\eG K c (bQ 6 [.p (.list (ps.map plD)),.p (.int cell),.p (.int other)])=some (.rt (.p (.tuple [frD pt.1,frD pt.2]))) from let ⟨h,g,e⟩:=h;⟨h,g,cF e⟩
 rw [show bQ 6 [.p (.list (ps.map plD)),.p (.int cell),.p (.int other)]=[some (.p (.list (ps.map plD))),some (.p (.int cell)),some (.p (.int other)),none,none,none] from rfl]
 have tst:∀ (n:Int) r3 r4 r5,a9 (aE (eqE false) (aE bY (aD 1) (mC (.int 3))) (mC (.int n))) [some (.p (.list (ps.map plD))),some (.p (.int cell)),some (.p (.int other)),r3,r4,r5]=.ok (cell.fmod 3 == n):=fun n r3 r4 r5=>by
  simp [a9,aE,aD,mC,Res.bind,Ev.c,tX,eqE,dat,gY,gZ,cP]
 unfold eG
 have first:(∃ pt,GPt pt/\(dN (a9 (aE (eqE false) (aE bY (aD 1) (mC (.int 3))) (mC (.int 0)))) (bB (bU 3 (aH gB (aA (aD 0) aL))) (bB (bU 4 (aJ 3 (bL K c) (aA (aE ixE (aD 0) (aE bY (aD 2) (aD 3))) (aA (aE ixE (aD 0) (aE bY (aE bO (aD 2) (aD 3)) (aD 3))) (aA (aE ixE (aD 0) (aE bY (aE bO (aD 1) (mC (.int 3))) (aD 3))) aL))))) (dN (a9 (mUn (qJ true) (aD 4))) (dE (aD 4)) bS))) bS) [some (.p (.list (ps.map plD))),some (.p (.int cell)),some (.p (.int other)),none,none,none]=some (.rt (.p (.tuple [frD pt.1,frD pt.2]))))\/∃ r3 r4,(dN (a9 (aE (eqE false) (aE bY (aD 1) (mC (.int 3))) (mC (.int 0)))) (bB (bU 3 (aH gB (aA (aD 0) aL))) (bB (bU 4 (aJ 3 (bL K c) (aA (aE ixE (aD 0) (aE bY (aD 2) (aD 3))) (aA (aE ixE (aD 0) (aE bY (aE bO (aD 2) (aD 3)) (aD 3))) (aA (aE ixE (aD 0) (aE bY (aE bO (aD 1) (mC (.int 3))) (aD 3))) aL))))) (dN (a9 (mUn (qJ true) (aD 4))) (dE (aD 4)) bS))) bS) [some (.p (.list (ps.map plD))),some (.p (.int cell)),some (.p (.int other)),none,none,none]=some (.nx [some (.p (.list (ps.map plD))),some (.p (.int cell)),some (.p (.int other)),r3,r4,none]):=by
  have t0:=tst 0 none none none
  cases h:(cell.fmod 3 == 0) with
  | false =>
   rw [h] at t0
   exact .inr ⟨none,none,jB t0⟩
  | true =>
   rw [h] at t0
   have eL:(aH gB (aA (aD 0) aL)) [some (.p (.list (ps.map plD))),some (.p (.int cell)),some (.p (.int other)),none,none,none]=.ok (.p (.int (ps.length:Nat))):=by
    simp [aA,aL,aH,aD,Res.bind,Ev.c,gB,gC]
   have nz:((ps.length:Nat):Int)≠0:=by omega
   have sn:Sz 20 ((ps.length:Nat):Int):=by unfold Sz;omega
   obtain ⟨p,hp1,i1⟩:=aA1 plD ps (0,0,(0,1)) hpos other
   obtain ⟨q,hq1,i2⟩:=aA1 plD ps (0,0,(0,1)) hpos (other.fdiv (ps.length:Nat))
   obtain ⟨r,hr1,i3⟩:=aA1 plD ps (0,0,(0,1)) hpos (cell.fdiv 3)
   have x1:ixE (.p (.list (ps.map plD))) (.p (.int (other.fmod (ps.length:Nat))))=.ok (.p (plD p)):=by simp [ixE,gC,i1]
   have x2:ixE (.p (.list (ps.map plD))) (.p (.int ((other.fdiv (ps.length:Nat)).fmod (ps.length:Nat))))=.ok (.p (plD q)):=by simp [ixE,gC,i2]
   have x3:ixE (.p (.list (ps.map plD))) (.p (.int ((cell.fdiv 3).fmod (ps.length:Nat))))=.ok (.p (plD r)):=by simp [ixE,gC,i3]
   have fin:∀ d,bL K c [.p (plD p),.p (plD q),.p (plD r)]=.ok (.p d)->(aJ 3 (bL K c) (aA (aE ixE (aD 0) (aE bY (aD 2) (aD 3))) (aA (aE ixE (aD 0) (aE bY (aE bO (aD 2) (aD 3)) (aD 3))) (aA (aE ixE (aD 0) (aE bY (aE bO (aD 1) (mC (.int 3))) (aD 3))) aL)))) [some (.p (.list (ps.map plD))),some (.p (.int cell)),some (.p (.int other)),some (.p (.int (ps.length:Nat))),none,none]=.ok (.p d):=fun d hd=>by
    ktr_call 21 ⟨x1,x2,x3,hd⟩
   rcases aF7 K c (hp p hp1) (hp q hq1) (hp r hr1) with hn | ⟨pt,gpt,hs⟩
   ·refine .inr ⟨_,_,(k8 t0).trans ((aR (dA eL)).trans ((aR (dA (fin _ hn))).trans (jB ?_)))⟩
    rfl
   ·refine .inl ⟨pt,gpt,(k8 t0).trans ((aR (dA eL)).trans ((aR (dA (fin _ hs))).trans ((k8 ?_).trans ?_)))⟩
    ·rfl
    ·rfl
 rcases first with ⟨pt,g,e⟩ | ⟨r3,r4,e⟩
 ·exact ⟨pt,g,j8 e⟩
 ·have t1:=tst 1 r3 r4 none
  cases h:(cell.fmod 3 == 1) with
  | true =>
   rw [h] at t1
   have n1:=yC (cell.fdiv 27) 3 (by decide) (by decide)
   have n2:=yC (other.fdiv 9) 3 (by decide) (by decide)
   have s1:Sz 80 ((cell.fdiv 3).fmod 9 - 4):=(Sz.subM (lW (by decide) (lX (by decide))) (lX (by decide))).mono (by decide)
   have s2:Sz 80 (other.fmod 9 - 4):=(Sz.subM (lW (by decide) (lX (by decide))) (lX (by decide))).mono (by decide)
   obtain ⟨g1,l1⟩:=sO K c n1.1 s1 n1.2
   obtain ⟨g2,l2⟩:=sO K c n2.1 s2 n2.2
   refine ⟨(FR.mk ((cell.fdiv 3).fmod 9 - 4) (1+(cell.fdiv 27).fmod 3),FR.mk (other.fmod 9 - 4) (1+(other.fdiv 9).fmod 3)),⟨g1,g2⟩,(aR e).trans (j8 ((k8 t1).trans (hV ?_)))⟩
   ktr_call 21 ⟨l1,l2⟩
  | false =>
   rw [h] at t1
   have n1:=yC (cell.fdiv 7) 9 (by decide) (by decide)
   have n2:=yC (other.fdiv 7) 9 (by decide) (by decide)
   obtain ⟨g1,l1⟩:=sO K c n1.1 (aGn (cell.fdiv 3)) n1.2
   obtain ⟨g2,l2⟩:=sO K c n2.1 (aGn other) n2.2
   have e3:(aJ 2 (aV K c) (aA (aE jJ (aE bY (aE bO (aD 1) (mC (.int 3))) (aE dX (aE cV (mC (.int 2)) (aE k9 (mC (.int 10)) (mC (.int 20)))) (mC (.int 1)))) (aE k9 (mC (.int 10)) (mC (.int 20)))) (aA (aE dX (mC (.int 1)) (aE bY (aE bO (aD 1) (mC (.int 7))) (mC (.int 9)))) aL))) [some (.p (.list (ps.map plD))),some (.p (.int cell)),some (.p (.int other)),r3,r4,none]=.ok (.p (frD (FR.mk ((cell.fdiv 3).fmod (2*10 ^ Int.toNat 20+1) - 10 ^ Int.toNat 20) (1+(cell.fdiv 7).fmod 9)))):=by
    ktr_call 21 ⟨l1⟩
   refine ⟨(FR.mk ((cell.fdiv 3).fmod (2*10 ^ Int.toNat 20+1) - 10 ^ Int.toNat 20) (1+(cell.fdiv 7).fmod 9),FR.mk (other.fmod (2*10 ^ Int.toNat 20+1) - 10 ^ Int.toNat 20) (1+(other.fdiv 7).fmod 9)),⟨g1,g2⟩,(aR e).trans ((aR (jB t1)).trans ((aR (dA e3)).trans (hV ?_)))⟩
   ktr_call 21 ⟨l2⟩
theorem w_mul {F:Int} {h:Int×Int} (h0:1<=h.2) (hd:h.2∣F):h.1*F.fdiv h.2*h.2=h.1*F:=by
 obtain ⟨k,hk⟩:=hd
 have:F.fdiv h.2=k:=by
  rw [hk]
  exact Int.mul_fdiv_cancel_left _ (by omega)
 rw [this,hk]
 ac_rfl
def wt (G:Int) (h:Int×Int):Int:=h.1*G.fdiv h.2
theorem aOs {G:Int} {x y:Int×Int} (hG:1<=G) (x0:1<=x.2) (y0:1<=y.2) (xd:x.2∣G) (yd:y.2∣G) (h:leF x y):wt G x<=wt G y:=by
 have e1:wt G x*x.2=x.1*G:=w_mul x0 xd
 have e2:wt G y*y.2=y.1*G:=w_mul y0 yd
 have p:=bN x0 y0
 refine Int.le_of_mul_le_mul_right (a:=x.2*y.2) ?_ (by omega)
 have a1:wt G x*(x.2*y.2)=x.1*y.2*G:=by
  rw [<- Int.mul_assoc,e1]
  ac_rfl
 have a2:wt G y*(x.2*y.2)=y.1*x.2*G:=by
  rw [Int.mul_comm x.2,<- Int.mul_assoc,e2]
  ac_rfl
 rw [a1,a2]
 exact Int.mul_le_mul_of_nonneg_right h (by omega)
theorem aG1 {G:Int} {x y:Int×Int} (hG:1<=G) (fx:FR.Fr x) (fy:FR.Fr y) (xd:x.2∣G) (yd:y.2∣G) (h:wt G x=wt G y):x=y:=by
 have e1:wt G x*x.2=x.1*G:=w_mul fx.pos xd
 have e2:wt G y*y.2=y.1*G:=w_mul fy.pos yd
 have e:x.1*y.2=y.1*x.2:=by
  refine Int.eq_of_mul_eq_mul_right (a:=G) (by omega) ?_
  have a1:x.1*y.2*G=wt G x*(x.2*y.2):=by
   rw [<- Int.mul_assoc,e1]
   ac_rfl
  have a2:y.1*x.2*G=wt G y*(x.2*y.2):=by
   rw [Int.mul_comm x.2,<- Int.mul_assoc,e2]
   ac_rfl
  rw [a1,a2,h]
 exact aCa fx fy (Int.le_of_eq e) (Int.le_of_eq e.symm)
theorem yN {F G:Int} {x:Int×Int} (x0:1<=x.2) (d1:x.2∣F) (d2:x.2∣G):wt F x*G=wt G x*F:=by
 have e1:wt F x*x.2=x.1*F:=w_mul x0 d1
 have e2:wt G x*x.2=x.1*G:=w_mul x0 d2
 refine Int.eq_of_mul_eq_mul_right (a:=x.2) (by omega) ?_
 have a1:wt F x*G*x.2=wt F x*x.2*G:=by ac_rfl
 have a2:wt G x*F*x.2=wt G x*x.2*F:=by ac_rfl
 rw [a1,a2,e1,e2]
 ac_rfl
def vv (G:Int) (p:Pl) (X Y D:Int):Int:=p.1*X+p.2.1*Y+wt G p.2.2*D
structure Cp (G:Int) (p:Pl):Prop where
 i0:0<=p.1
 i1:p.1<=8
 j0:0<=p.2.1
 j1:p.2.1<=8
 f:FR.Fr p.2.2
 d:p.2.2.2∣G
def Cd (G:Int) (ps:List Pl):Prop:=∀ p∈ps,Cp G p
def aNf (G:Int) (ps:List Pl) (p:Pl):Prop:=∃ X Y D,1<=D/\∀ q∈ps,q≠p->vv G q X Y D < vv G p X Y D
def Dom (G:Int) (ps qs:List Pl):Prop:=∀ X Y D,1<=D->∀ p∈ps,∃ q∈qs,vv G p X Y D<=vv G q X Y D
theorem Dom.sub {G:Int} {ps qs:List Pl} (h:∀ p∈ps,p∈qs):Dom G ps qs:=fun _ _ _ _ p hp=>⟨p,h p hp,Int.le_refl _⟩
theorem Dom.trans {G:Int} {ps qs rs:List Pl} (h:Dom G ps qs) (k:Dom G qs rs):Dom G ps rs:=fun X Y D hD p hp=>by
 obtain ⟨q,hq,l⟩:=h X Y D hD p hp
 obtain ⟨r,hr,l'⟩:=k X Y D hD q hq
 exact ⟨r,hr,Int.le_trans l l'⟩
theorem nD (G:Int) (p:Pl) (X Y D dx dy:Int):vv G p (40*X+dx) (40*Y+dy) (40*D)=40*vv G p X Y D+(p.1*dx+p.2.1*dy):=by
 unfold vv
 rw [Int.mul_add,Int.mul_add,Int.mul_add,Int.mul_add,Int.mul_left_comm,Int.mul_left_comm p.2.1,Int.mul_left_comm (wt G p.2.2)]
 omega
theorem vA {G:Int} (hG:1<=G) {ps qs:List Pl} (c1:Cd G ps) (c2:Cd G qs) (h:Dom G ps qs) (k:Dom G qs ps) {p:Pl} (hp:p∈ps) (l:aNf G ps p):p∈qs/\aNf G qs p:=by
 obtain ⟨X,Y,D,hD,hl⟩:=l
 have top:∀ q∈qs,vv G q X Y D<=vv G p X Y D:=fun q hq=>by
  obtain ⟨r,hr,l⟩:=k X Y D hD q hq
  by_cases e:r=p
  ·rw [e] at l;exact l
  ·have:=hl r hr e;omega
 have same:∀ q∈qs,vv G q X Y D=vv G p X Y D->q=p:=fun q hq e=>by
  have step:∀ dx dy:Int,(dx=0\/dx=1\/dx = -1)->(dy=0\/dy=1\/dy = -1)->q.1*dx+q.2.1*dy<=p.1*dx+p.2.1*dy:=fun dx dy h1 h2=>by
   obtain ⟨r,hr,l⟩:=k (40*X+dx) (40*Y+dy) (40*D) (by omega) q hq
   rw [nD,nD,e] at l
   by_cases er:r=p
   ·rw [er] at l;omega
   ·have a:=hl r hr er
    have b:=c1 r hr
    have d:=c1 p hp
    have:=b.i0;have:=b.i1;have:=b.j0;have:=b.j1
    have:=d.i0;have:=d.i1;have:=d.j0;have:=d.j1
    rcases h1 with rfl | rfl | rfl<;>rcases h2 with rfl | rfl | rfl<;>omega
  have s1:=step 1 0 (by decide) (by decide)
  have s2:=step (-1) 0 (by decide) (by decide)
  have s3:=step 0 1 (by decide) (by decide)
  have s4:=step 0 (-1) (by decide) (by decide)
  have e1:q.1=p.1:=by omega
  have e2:q.2.1=p.2.1:=by omega
  have e3:wt G q.2.2=wt G p.2.2:=by
   unfold vv at e
   rw [e1,e2] at e
   exact Int.eq_of_mul_eq_mul_right (a:=D) (by omega) (by omega)
  exact Prod.ext e1 (Prod.ext e2 (aG1 hG (c2 q hq).f (c1 p hp).f (c2 q hq).d (c1 p hp).d e3))
 have hp':p∈qs:=by
  obtain ⟨q,hq,l⟩:=h X Y D hD p hp
  have:=top q hq
  have e:=same q hq (by omega)
  rw [<- e]
  exact hq
 refine ⟨hp',X,Y,D,hD,fun q hq hne=>?_⟩
 have:=top q hq
 have:vv G q X Y D≠vv G p X Y D:=fun z=>hne (same q hq z)
 omega
theorem xH {α β:Type} {f:α->β}:∀ {xs:List α},(xs.map f).Nodup->∀ a∈xs,∀ b∈xs,f a=f b->a=b
 | x :: xs,h,a,ha,b,hb,e=>by
  rw [List.map_cons,List.nodup_cons] at h
  rcases List.mem_cons.mp ha with ea | ha'<;>rcases List.mem_cons.mp hb with eb | hb'
  ·rw [ea,eb]
  ·rw [ea] at e
   exact absurd (List.mem_map.mpr ⟨b,hb',e.symm⟩) h.1
  ·rw [eb] at e
   exact absurd (List.mem_map.mpr ⟨a,ha',e⟩) h.1
  ·exact xH h.2 a ha' b hb' e
structure Rf (G:Int) (ps:List Pl):Prop where
 n:ps≠[]
 l:ps.length<=22
 g:∀ p∈ps,PG p
 c:Cd G ps
 u:(ps.map slp).Nodup
theorem aLr {F G:Int} {p q:Pl} (hp:Cp G p) (hq:Cp G q) (pd:p.2.2.2∣F) (qd:q.2.2.2∣F) (X Y D:Int):((uL (blow F p) (blow F q)).1*(F*X)+(uL (blow F p) (blow F q)).2.1*(F*Y)+(uL (blow F p) (blow F q)).2.2*(G*D))=F*(vv G p X Y D - vv G q X Y D):=by
 have e1:wt F p.2.2*G=wt G p.2.2*F:=yN hp.f.pos pd hp.d
 have e2:wt F q.2.2*G=wt G q.2.2*F:=yN hq.f.pos qd hq.d
 show (p.1 - q.1)*(F*X)+(p.2.1 - q.2.1)*(F*Y)+(wt F p.2.2 - wt F q.2.2)*(G*D)=_
 have e3:(wt F p.2.2 - wt F q.2.2)*(G*D)=(wt G p.2.2 - wt G q.2.2)*F*D:=by
  rw [<- Int.mul_assoc,Int.sub_mul,e1,e2,<- Int.sub_mul]
 rw [e3]
 unfold vv
 grind
theorem nK {G:Int} (hG:1<=G) {ps:List Pl} (h:Rf G ps) {p:Pl} (hp:p∈ps) (l:aNf G ps p):stays ps p=true:=by
 obtain ⟨f0,f1,_⟩:=qQ h.l h.g
 obtain ⟨X,Y,D,hD,hl⟩:=l
 have st:N.aOg (rowsOf (blow (wf ps) p) (ps.map (blow (wf ps)))) (wf ps*X) (wf ps*Y) (G*D):=by
  refine ⟨bN hG hD,fun r hr=>?_⟩
  obtain ⟨b,hb,rfl⟩:=List.mem_map.mp hr
  obtain ⟨hb1,hb2⟩:=List.mem_filter.mp hb
  obtain ⟨q,hq,rfl⟩:=List.mem_map.mp hb1
  have hne:q≠p:=fun z=>of_decide_eq_true hb2 (by rw [z])
  rw [aLr (h.c p hp) (h.c q hq) (f1 p hp) (f1 q hq)]
  have:=hl q hq hne
  exact Int.mul_pos (by omega) (by omega)
 obtain ⟨pt,e⟩:=aCl st
 unfold stays
 rw [show eY (wf ps) ps p=some pt from e]
 rfl
theorem qW {G:Int} (hG:1<=G) {ps:List Pl} (h:Rf G ps) {p:Pl} (hp:p∈ps) (s:stays ps p=true):aNf G ps p:=by
 obtain ⟨f0,f1,_⟩:=qQ h.l h.g
 unfold stays at s
 obtain ⟨pt,e⟩:=Option.isSome_iff_exists.mp s
 obtain ⟨s1,s2,s3⟩:=rM e
 refine ⟨G*(pt.1.1*pt.2.2),G*(pt.2.1*pt.1.2),wf ps*(pt.1.2*pt.2.2),bN f0 (bN s1 s2),fun q hq hne=>?_⟩
 have hb:blow (wf ps) q≠blow (wf ps) p:=fun z=>hne (xH h.u q hq p hp (by
  have z1:(blow (wf ps) q).1=(blow (wf ps) p).1:=by rw [z]
  have z2:(blow (wf ps) q).2.1=(blow (wf ps) p).2.1:=by rw [z]
  exact Prod.ext z1 z2))
 have k:=s3 (uL (blow (wf ps) p) (blow (wf ps) q)) (List.mem_map.mpr ⟨blow (wf ps) q,List.mem_filter.mpr ⟨List.mem_map.mpr ⟨q,hq,rfl⟩,decide_eq_true hb⟩,rfl⟩)
 have e1:wt (wf ps) p.2.2*G=wt G p.2.2*wf ps:=yN (h.c p hp).f.pos (f1 p hp) (h.c p hp).d
 have e2:wt (wf ps) q.2.2*G=wt G q.2.2*wf ps:=yN (h.c q hq).f.pos (f1 q hq) (h.c q hq).d
 have k:0 < (p.1 - q.1)*pt.1.1*pt.2.2+(p.2.1 - q.2.1)*pt.2.1*pt.1.2+(wt (wf ps) p.2.2 - wt (wf ps) q.2.2)*pt.1.2*pt.2.2:=k
 have k2:=Int.mul_pos (show 0 < G by omega) k
 have e3:G*((p.1 - q.1)*pt.1.1*pt.2.2+(p.2.1 - q.2.1)*pt.2.1*pt.1.2+(wt (wf ps) p.2.2 - wt (wf ps) q.2.2)*pt.1.2*pt.2.2)=(p.1 - q.1)*(G*(pt.1.1*pt.2.2))+(p.2.1 - q.2.1)*(G*(pt.2.1*pt.1.2))+(wt (wf ps) p.2.2*G - wt (wf ps) q.2.2*G)*(pt.1.2*pt.2.2):=by grind
 rw [e3,e1,e2] at k2
 unfold vv
 have e4:(p.1 - q.1)*(G*(pt.1.1*pt.2.2))+(p.2.1 - q.2.1)*(G*(pt.2.1*pt.1.2))+(wt G p.2.2*wf ps - wt G q.2.2*wf ps)*(pt.1.2*pt.2.2)=(p.1*(G*(pt.1.1*pt.2.2))+p.2.1*(G*(pt.2.1*pt.1.2))+wt G p.2.2*(wf ps*(pt.1.2*pt.2.2))) - (q.1*(G*(pt.1.1*pt.2.2))+q.2.1*(G*(pt.2.1*pt.1.2))+wt G q.2.2*(wf ps*(pt.1.2*pt.2.2))):=by grind
 rw [e4] at k2
 omega
theorem aHc {α:Type} (R:α->α->Prop) (tot:∀ a b,R a b\/R b a) (tr:∀ a b c,R a b->R b c->R a c):∀ {xs:List α},xs≠[]->∃ m∈xs,∀ x∈xs,R x m
 | [x],_=>⟨x,.head _,fun y hy=>by rw [List.mem_singleton.mp hy];exact (tot x x).elim id id⟩
 | x :: y :: xs,_=>by
  obtain ⟨m,hm,h⟩:=aHc R tot tr (xs:=y :: xs) (List.cons_ne_nil _ _)
  rcases tot x m with z | z
  ·refine ⟨m,.tail _ hm,fun w hw=>?_⟩
   rcases List.mem_cons.mp hw with e | e
   ·rw [e];exact z
   ·exact h w e
  ·refine ⟨x,.head _,fun w hw=>?_⟩
   rcases List.mem_cons.mp hw with e | e
   ·rw [e];exact (tot x x).elim id id
   ·exact tr w m x (h w e) z
def up3 (a b:Int×Int×Int):Prop:=a.1 < b.1\/(a.1=b.1/\(a.2.1 < b.2.1\/(a.2.1=b.2.1/\a.2.2<=b.2.2)))
theorem aIf (a b:Int×Int×Int):up3 a b\/up3 b a:=by unfold up3;omega
theorem aJ9 (a b c:Int×Int×Int) (h1:up3 a b) (h2:up3 b c):up3 a c:=by unfold up3 at *;omega
theorem yB {G:Int} (hG:1<=G) {ps:List Pl} (h:Rf G ps) (X Y D:Int) (hD:1<=D):∃ p∈ps,stays ps p=true/\∀ q∈ps,vv G q X Y D<=vv G p X Y D:=by
 obtain ⟨p,hp,hm⟩:=aHc (fun a b:Pl=>up3 (vv G a X Y D,a.1,a.2.1) (vv G b X Y D,b.1,b.2.1)) (fun a b=>aIf _ _) (fun a b c=>aJ9 _ _ _) h.n
 refine ⟨p,hp,nK hG h hp ⟨40*(40*X+1),40*(40*Y)+1,40*(40*D),by omega,fun q hq hne=>?_⟩,fun q hq=>?_⟩
 ·have n1:=nD G q (40*X+1) (40*Y) (40*D) 0 1
  have n2:=nD G p (40*X+1) (40*Y) (40*D) 0 1
  have n3:=nD G q X Y D 1 0
  have n4:=nD G p X Y D 1 0
  rw [Int.add_zero] at n1 n2 n3 n4
  rw [n1,n2,n3,n4]
  have k:=hm q hq
  unfold up3 at k
  dsimp only at k
  have a:=h.c p hp
  have b:=h.c q hq
  have:=a.i0;have:=a.i1;have:=a.j0;have:=a.j1
  have:=b.i0;have:=b.i1;have:=b.j0;have:=b.j1
  have ns:¬ (q.1=p.1/\q.2.1=p.2.1):=fun z=>hne (xH h.u q hq p hp (Prod.ext z.1 z.2))
  omega
 ·have:=hm q hq
  unfold up3 at this
  dsimp only at this
  omega
def thn (ps:List Pl):List Pl:=ps.filter (stays ps)
theorem sC {ps:List Pl} {p:Pl} (h:p∈thn ps):p∈ps:=(List.mem_filter.mp h).1
theorem aAq {G:Int} (hG:1<=G) {ps:List Pl} (h:Rf G ps):thn ps≠[]:=by
 obtain ⟨p,hp,hs,_⟩:=yB hG h 0 0 1 (by decide)
 exact List.ne_nil_of_mem (List.mem_filter.mpr ⟨hp,hs⟩)
theorem aBg {G:Int} (hG:1<=G) {ps:List Pl} (h:Rf G ps):Dom G ps (thn ps):=fun X Y D hD q hq=>by
 obtain ⟨p,hp,hs,hm⟩:=yB hG h X Y D hD
 exact ⟨p,List.mem_filter.mpr ⟨hp,hs⟩,hm q hq⟩
def slt (p q:Pl):Prop:=p.1 < q.1\/(p.1=q.1/\p.2.1 < q.2.1)
theorem aC9:∀ {a b:List Pl},a.Pairwise slt->b.Pairwise slt->(∀ x,x∈a↔x∈b)->a=b
 | [],b,_,_,h=>by
  cases b with
  | nil=>rfl
  | cons y r=>exact absurd ((h y).mpr (.head _)) (fun z=>nomatch z)
 | x :: a,[],_,_,h=>absurd ((h x).mp (.head _)) (fun z=>nomatch z)
 | x :: a,y :: b,ha,hb,h=>by
  obtain ⟨a1,a2⟩:=List.pairwise_cons.mp ha
  obtain ⟨b1,b2⟩:=List.pairwise_cons.mp hb
  have e:x=y:=by
   rcases List.mem_cons.mp ((h x).mp (.head _)) with z | z
   ·exact z
   ·rcases List.mem_cons.mp ((h y).mpr (.head _)) with w | w
    ·exact w.symm
    ·have c1:=b1 x z
     have c2:=a1 y w
     unfold slt at c1 c2
     omega
  subst e
  have irr:∀ {l:List Pl},(∀ z∈l,slt x z)->x∉l:=fun hl z=>by
   have:=hl x z
   unfold slt at this
   omega
  rw [aC9 a2 b2 fun z=>?_]
  constructor
  ·intro hz
   rcases List.mem_cons.mp ((h z).mp (.tail _ hz)) with w | w
   ·rw [w] at hz;exact absurd hz (irr a1)
   ·exact w
  ·intro hz
   rcases List.mem_cons.mp ((h z).mpr (.tail _ hz)) with w | w
   ·rw [w] at hz;exact absurd hz (irr b1)
   ·exact w
theorem aMi {G:Int} (hG:1<=G) {ps qs:List Pl} (h:Rf G ps) (k:Rf G qs) (s1:ps.Pairwise slt) (s2:qs.Pairwise slt) (d:Dom G ps qs) (e:Dom G qs ps):thn ps=thn qs:=by
 refine aC9 (s1.filter _) (s2.filter _) fun p=>⟨fun hp=>?_,fun hp=>?_⟩
 ·obtain ⟨h1,h2⟩:=List.mem_filter.mp hp
  obtain ⟨m,l⟩:=vA hG h.c k.c d e h1 (qW hG h h1 h2)
  exact List.mem_filter.mpr ⟨m,nK hG k m l⟩
 ·obtain ⟨h1,h2⟩:=List.mem_filter.mp hp
  obtain ⟨m,l⟩:=vA hG k.c h.c e d h1 (qW hG k h1 h2)
  exact List.mem_filter.mpr ⟨m,nK hG h m l⟩
theorem kK {f:En->Res Ev} {g:En->Res (List Ev)} {en:En} {x:Ev} {xs:List Ev} (h1:f en=.ok x) (h2:g en=.ok xs):aA f g en=.ok (x.c :: xs):=by
 simp only [aA,h1,h2,Res.bind]
theorem aIv {n:Nat} {m:List L->Res L} {fr:En->Res (List Ev)} {en:En} {rs:List Ev} {ls:List L} {r:L} (h:fr en=.ok rs) (ha:dG kF rs=some ls) (hn:ls.length=n) (hm:m ls=.ok r):aJ n m fr en=.ok (lF r):=by
 simp only [aJ,h,Res.bind,eN,ha,hn,hm,if_true]
theorem aOv {n:Nat} {m:List L->Res L} {fr:En->Res (List Ev)} {en:En} {rs:List Ev} {ls:List L} {r:L} (h:fr en=.ok rs) (ha:dG kF rs=none) (hb:dG zW rs=some ls) (hn:ls.length=n) (hm:m ls=.ok r) (hf:vI r=true):aJ n m fr en=.ok (lF r):=by
 simp only [aJ,h,Res.bind,eN,ha,hb,hn,hm,hf,if_true]
theorem bA {op:Ev->Ev->Res Ev} {f g:En->Res Ev} {en:En} {x y:Ev} {o:Res Ev} (h1:f en=.ok x) (h2:g en=.ok y) (h:op x.c y.c=o):aE op f g en=o:=by
 simp only [aE,h1,h2,Res.bind,h]
theorem jR {f:En->Res Ev} {en:En} {b:Bool} (h:f en=.ok (.p (.bool b))):a9 f en=.ok b:=by
 simp only [a9,h,Res.bind,cP]
theorem aOl {f:En->Res Bool} {en:En} {b:Bool} (h:f en=.ok b):rA f en=.ok (!b):=by
 simp only [rA,h,Res.bind]
theorem aQd {f g:En->Res Bool} {en:En} (h1:f en=.ok false) (h2:g en=.ok false):mOr f g en=.ok false:=by
 simp only [mOr,h1,h2,Res.bind]
 rfl
theorem wJ {i j:Int}:eqE false (.p (.int i)) (.p (.int j))=.ok (.p (.bool (i == j))):=by
 simp only [eqE,dat,gY,gZ]
 rfl
theorem dW {m:List L->Res L} {f g:En->Res Ev} {en:En} {a b r:D} (h1:f en=.ok (.p a)) (h2:g en=.ok (.p b)) (hm:m [.p a,.p b]=.ok (.p r)):aJ 2 m (aA f (aA g aL)) en=.ok (.p r):=by
 ktr_call 3 ⟨aJ,aA,aL,h1,h2,Res.bind,Ev.c,eN,dG,kF,hm,lF⟩
theorem aHe {m:List L->Res L} {f:En->Res Ev} {en:En} {a:D} {r:L} (h1:f en=.ok (.p a)) (hm:m [.p a]=.ok r):aJ 1 m (aA f aL) en=.ok (lF r):=by
 ktr_call 3 ⟨aJ,aA,aL,h1,Res.bind,Ev.c,eN,dG,kF,hm⟩
theorem uK {m:List L->Res L} {f:En->Res Ev} {en:En} {a:D} {r:L} (h1:f en=.ok (.f a)) (hm:m [.p a]=.ok r):aJ 1 m (aA f aL) en=.ok (lF r):=by
 ktr_call 3 ⟨aJ,aA,aL,h1,Res.bind,Ev.c,eN,dG,kF,hm⟩
theorem nP {r:List Ev->Res Ev} {f:En->Res Ev} {en:En} {a:D} {o:Res Ev} (h1:f en=.ok (.p a)) (h:r [.p a]=o):aH r (aA f aL) en=o:=by
 simp only [aH,aA,aL,h1,Res.bind,Ev.c,h]
theorem aGs {m:List L->Res L} {f g h:En->Res Ev} {en:En} {a b d r:D} (h1:f en=.ok (.p a)) (h2:g en=.ok (.p b)) (h3:h en=.ok (.p d)) (hm:m [.p a,.p b,.p d]=.ok (.p r)):aJ 3 m (aA f (aA g (aA h aL))) en=.ok (.p r):=by
 ktr_call 3 ⟨aJ,aA,aL,h1,h2,h3,Res.bind,Ev.c,eN,dG,kF,hm,lF⟩
theorem aLg {f g:En->Res Ev} {en:En} {a b:D} (h1:f en=.ok (.p a)) (h2:g en=.ok (.p b)):aH a7 (aA f (aA g aL)) en=.ok (.p (.tuple [a,b])):=by
 ktr_call 3 ⟨aH,aA,aL,h1,h2,a7,jM,Res.bind,Ev.c⟩
theorem mX {f g:En->Res Bool} {en:En} {o:Res Bool} (h1:f en=.ok true) (h2:g en=o):oM f g en=o:=by
 simp only [oM,h1,Res.bind,h2]
 rfl
theorem aDb {f g:En->Res Bool} {en:En} (h1:f en=.ok false):oM f g en=.ok false:=by
 simp only [oM,h1,Res.bind]
 rfl
theorem uY {i:Nat} {f g:En->Res Ev} {en:En} {m:Mp} {s h:Int×Int} (he:en[i]? = some (some (.o (.dict (encM slD frD m))))) (h1:f en=.ok (.p (slD s))) (h2:g en=.ok (.p (frD h))) (hm:m.length<=1000):kA i f g en=some (.nx (en.set i (some (.o (.dict (encM slD frD (mZ m s h))))))):=by
 have hp:=wL (ev:=frD) m s h (by omega)
 unfold kA
 simp only [he,h1,h2,Ev.c,hp]
theorem vB {m:Mp} {k h:Int×Int}:mZ m k h≠[]:=fun z=>by
 have:=mM m k h k
 rw [z] at this
 simp [iN] at this
theorem cdl {i j:Int} (h0:j≠0) (h:j.natAbs < 2 ^ 90):iG i j:=⟨h0,(show Sz 90 j from h).mono (by decide)⟩
noncomputable def bK (K:PySem.W.Frag) (c:Cls):List L->Res L:=mOf eFF (fun a=>Good 2000 a.1/\Good 2000 a.2) fun a=>.ok (.p (frD (hP a.1 a.2)))
noncomputable def nE (K:PySem.W.Frag) (c:Cls):MS:=(dE (aJ 2 (aV K c) (aA (aE dX (aE cV (aE ixE (aD 0) (mC (.int 0))) (aE ixE (aD 1) (mC (.int 1)))) (aE cV (aE ixE (aD 1) (mC (.int 0))) (aE ixE (aD 0) (mC (.int 1))))) (aA (aE cV (aE ixE (aD 0) (mC (.int 1))) (aE ixE (aD 1) (mC (.int 1)))) aL))))
theorem vU (K:PySem.W.Frag) (c:Cls):∀ ls,bK K c ls=.bad\/fJ 2 (nE K c) ls=bK K c ls:=dJ fun a h=>by
 obtain ⟨x,y⟩:=a
 obtain ⟨g1,g2⟩:=h
 obtain ⟨x0,x1,x2⟩:=id g1
 obtain ⟨y0,y1,y2⟩:=id g2
 dsimp only at g1 g2 x0 x1 x2 y0 y1 y2 ⊢
 have l:=kM K c (t:=x.1*y.2+y.1*x.2) (b:=x.2*y.2) (g1.ne g2) ((Sz.mul x2 y2).mono (by decide))
 refine cF ?_
 rw [show bQ 2 (eFF (x,y))=[some (.p (frD x)),some (.p (frD y))] from rfl]
 unfold nE
 refine hV ?_
 ktr_call 21 ⟨l⟩
 rfl
theorem sP (K:PySem.W.Frag) (c:Cls) {m n:Nat} {x y:Int×Int} (hx:Good m x) (hy:Good n y) (h1:m<=2000) (h2:n<=2000):bK K c [.p (frD x),.p (frD y)]=.ok (.p (frD (hP x y))):=dI (a:=(x,y)) lM ⟨hx.mono h1,hy.mono h2⟩
noncomputable def cW (K:PySem.W.Frag) (c:Cls):List L->Res L:=mOf eFF (fun a=>Good 2000 a.1/\Good 2000 a.2) fun a=>.ok (.p (frD (FR.mk (a.1.1*a.2.1) (a.1.2*a.2.2))))
noncomputable def jG (K:PySem.W.Frag) (c:Cls):MS:=(dE (aJ 2 (aV K c) (aA (aE cV (aE ixE (aD 0) (mC (.int 0))) (aE ixE (aD 1) (mC (.int 0)))) (aA (aE cV (aE ixE (aD 0) (mC (.int 1))) (aE ixE (aD 1) (mC (.int 1)))) aL))))
theorem qA (K:PySem.W.Frag) (c:Cls):∀ ls,cW K c ls=.bad\/fJ 2 (jG K c) ls=cW K c ls:=dJ fun a h=>by
 obtain ⟨x,y⟩:=a
 obtain ⟨g1,g2⟩:=h
 obtain ⟨x0,x1,x2⟩:=id g1
 obtain ⟨y0,y1,y2⟩:=id g2
 dsimp only at g1 g2 x0 x1 x2 y0 y1 y2 ⊢
 have l:=kM K c (t:=x.1*y.1) (b:=x.2*y.2) (g1.ne g2) ((Sz.mul x2 y2).mono (by decide))
 refine cF ?_
 rw [show bQ 2 (eFF (x,y))=[some (.p (frD x)),some (.p (frD y))] from rfl]
 unfold jG
 refine hV ?_
 ktr_call 21 ⟨l⟩
theorem yV {m:Mp} (hn:(m.map (·.1)).Nodup):(fK m).Pairwise slt:=by
 have e:kys m=(m.map (·.1)).map fun s=>[s.1,s.2]:=by unfold kys;rw [List.map_map];rfl
 have nd:(kys m).Nodup:=by
  rw [e]
  exact List.pairwise_map.mpr (hn.imp fun {a b} w z=>w (Prod.ext (List.cons.inj z).1 (List.cons.inj (List.cons.inj z).2).1))
 have nd2:(lH (kys m)).Nodup:=(gI _).nodup_iff.mpr nd
 unfold fK
 refine List.pairwise_map.mpr (List.Pairwise.imp_of_mem (fun {a b} ha hb w=>?_) ((kQ (kys m)).and nd2))
 obtain ⟨_,ea,_⟩:=qY ha (0,1)
 obtain ⟨_,eb,_⟩:=qY hb (0,1)
 obtain ⟨w1,w2⟩:=w
 unfold leK at w1
 rw [ea,eb] at w1 w2
 unfold slt
 dsimp only
 generalize un2 a=x at *
 generalize un2 b=y at *
 by_cases h1:y.1=x.1
 ·right
  refine ⟨h1.symm,?_⟩
  by_cases h2:y.2=x.2
  ·exact absurd (by rw [h1,h2]) w2
  ·have:¬ (y.2 < x.2):=by
    rw [HT.gH,if_pos h1,HT.gH,if_neg h2] at w1
    exact of_decide_eq_false w1
   omega
 ·left
  rw [HT.gH,if_neg h1] at w1
  have:=of_decide_eq_false w1
  omega
theorem aPp {f g:En->Res Bool} {en:En} (h1:f en=.ok true):mOr f g en=.ok true:=by
 simp only [mOr,h1,Res.bind]
 rfl
theorem aNh {f g:En->Res Bool} {en:En} {o:Res Bool} (h1:f en=.ok false) (h2:g en=o):mOr f g en=o:=by
 simp only [mOr,h1,Res.bind,h2]
 rfl
theorem p20:aHg 10 20:=⟨by decide,by decide,by decide⟩
theorem w20:(10:Int) ^ Int.toNat 20=100000000000000000000:=by decide
theorem aPv (en:En):aE k9 (mC (.int 10)) (mC (.int 20)) en=.ok (.p (.int 100000000000000000000)):=bA (x:=.p (.int 10)) (y:=.p (.int 20)) rfl rfl (by show k9 (.p (.int 10)) (.p (.int 20))=_;rw [mT p20,w20])
theorem aOt (en:En):aE dX (aE cV (mC (.int 2)) (aE k9 (mC (.int 10)) (mC (.int 20)))) (mC (.int 1)) en=.ok (.p (.int (2*100000000000000000000+1))):=bA (bA rfl (aPv en) (mD ⟨(show Sz 90 (2:Int) by unfold Sz;decide).mono (by decide),(show Sz 90 (100000000000000000000:Int) by unfold Sz;decide).mono (by decide)⟩)) rfl (kW _ _)
structure GN (a b:Nat) (h:Int×Int):Prop where
 p:1<=h.2
 t:Sz a h.1
 s:Sz b h.2
 f:FR.Fr h
theorem GN.mono {a b a' b':Nat} {h:Int×Int} (g:GN a b h) (ha:a<=a') (hb:b<=b'):GN a' b' h:=⟨g.p,g.t.mono ha,g.s.mono hb,g.f⟩
theorem GN.good {a b:Nat} {h:Int×Int} (g:GN a b h) (ha:a<=2000) (hb:b<=2000):Good 2000 h:=⟨g.p,g.t.mono ha,g.s.mono hb⟩
theorem zO {a b:Nat} {t u:Int} (h0:u≠0) (ht:Sz a t) (hu:Sz b u):GN a b (FR.mk t u):=⟨(FR.mP h0).1.pos,Sz.le ht (natAbs_fdiv_le _ _),Sz.le hu (natAbs_fdiv_le _ _),(FR.mP h0).1⟩
theorem aPq {a b d e:Nat} {x y:Int×Int} (hx:GN a b x) (hy:GN d e y):GN (max (a+e) (d+b)+1) (b+e) (hP x y):=zO (fun z=>by
 have h1:=hx.p
 have h2:=hy.p
 rcases Int.mul_eq_zero.mp z with z | z<;>omega) (Sz.addM (Sz.mul hx.t hy.s) (Sz.mul hy.t hx.s)) (Sz.mul hx.s hy.s)
def aHn (k:Int×Int):Prop:=0<=k.1/\k.1<=8/\0<=k.2/\k.2<=8
structure GM (a b:Nat) (m:Mp):Prop where
 n:(m.map (·.1)).Nodup
 g:∀ k h,iN m k=some h->aHn k/\GN a b h
theorem GM.nil {a b:Nat}:GM a b []:=⟨List.Pairwise.nil,fun _ _ h=>nomatch h⟩
theorem GM.put {a b:Nat} {m:Mp} (g:GM a b m) {k h:Int×Int} (hk:aHn k) (hh:GN a b h):GM a b (mZ m k h):=⟨aEa g.n k h,fun k' h' e=>by
 rw [mM] at e
 split at e
 ·rename_i z;cases e;rw [z];exact ⟨hk,hh⟩
 ·exact g.g k' h' e⟩
theorem GM.mono {a b a' b':Nat} {m:Mp} (g:GM a b m) (ha:a<=a') (hb:b<=b'):GM a' b' m:=⟨g.n,fun k h e=>⟨(g.g k h e).1,(g.g k h e).2.mono ha hb⟩⟩
structure RO (a b:Nat) (ps:List Pl):Prop where
 n:ps≠[]
 s:ps.Pairwise slt
 g:∀ p∈ps,aHn (slp p)/\GN a b p.2.2
theorem aM0 {ps:List Pl} (h:ps.Pairwise slt):(ps.map slp).Nodup:=List.pairwise_map.mpr (h.imp fun {a b} w z=>by
 unfold slt at w
 injection z with z1 z2
 omega)
theorem aKa {a b:Nat} {m:Mp} (g:GM a b m) (h:m≠[]):RO a b (fK m):=by
 refine ⟨fun z=>?_,yV g.n,fun p hp=>?_⟩
 ·have:=jN m
  rw [z] at this
  exact h (List.length_eq_zero_iff.mp this.symm)
 ·unfold fK at hp
  obtain ⟨k,hk,rfl⟩:=List.mem_map.mp hp
  obtain ⟨_,_,h3⟩:=qY hk (0,1)
  exact g.g _ _ h3
theorem aCp {i:Nat} {fe:En->Res Ev} {en:En} {m:Mp} (hm:m.length < 64) (h0:en[i]? = some (some (.o (.dict (encM slD frD m))))) (he:∀ k h,iN m k=some h->fe [some (.p (slD k)),some (.p (.dict (encM slD frD m)))]=.ok (.p (plD (k.1,k.2,h)))):dE (dC 1 [i] (fF (aH eU (aA (aD i) aL))) (aM 0) fL fe) (frz i en)=some (.rt (.o (.list ((fK m).map plD)))):=by
 have il:i < en.length:=by
  rcases Nat.lt_or_ge i en.length with z | z
  ·exact z
  ·rw [List.getElem?_eq_none z] at h0;cases h0
 have h1:(frz i en)[i]? = some (some (.p (.dict (encM slD frD m)))):=by
  unfold frz
  rw [h0]
  dsimp only
  rw [List.getElem?_set_self il]
 have hs:=uR (ev:=frD) m hm
 have cap:lP [i] (frz i en)=[some (.p (.dict (encM slD frD m)))]:=by
  unfold lP
  simp only [List.map_cons,List.map_nil,h1,vP]
 have hmap:mQ (a5 1 [i] (aM 0) fL fe (frz i en)) ((lH (kys m)).map qZ)=some ((lH (kys m)).map fun k=>plD ((un2 k).1,(un2 k).2,aMg m (0,1) k)):=by
  refine eC _ fun k hk=>?_
  obtain ⟨e1,e2,e3⟩:=qY hk (0,1)
  have:=he _ _ e3
  rw [e1]
  unfold a5
  rw [cap]
  ktr_call 3 ⟨aM,fL,List.replicate,List.cons_append,List.nil_append,this,Ev.c⟩
 have v:aD i (frz i en)=.ok (.p (.dict (encM slD frD m))):=by unfold aD;rw [h1]
 have it:fF (aH eU (aA (aD i) aL)) (frz i en)=.ok ((lH (kys m)).map qZ):=by
  unfold fF
  rw [nP v hs]
  rfl
 have lk:(lH (kys m)).length=m.length:=by rw [(gI (kys m)).length_eq];unfold kys;rw [List.length_map]
 have hc:=gE (n:=1) (js:=[i]) it (by rw [List.length_map,lk];omega) hmap
 rw [zM hc]
 unfold fK
 rw [List.map_map]
 rfl
theorem aBd {m:Mp} {k h:Int×Int} (e:iN m k=some h) {x:Ev} (hx:kN x=some (encM slD frD m)):mU x (.p (slD k))=.ok (.p (frD h)):=by
 have hd:=oP (ev:=frD) m k
 rw [e] at hd
 unfold mU
 rw [hx]
 simp only [hd,Option.map_some]
theorem aK5 (ng:Bool) {m:Mp} (k:Int×Int) {x:Ev} (hx:kN x=some (encM slD frD m)):vQ ng (.p (slD k)) x=.ok (.p (.bool (if ng then !(iN m k).isSome else (iN m k).isSome))):=by
 have hd:=oP (ev:=frD) m k
 unfold vQ
 rw [hx]
 simp only [hd]
 cases iN m k<;>cases ng<;>rfl
theorem lend (m:Mp):mS [.b (.dict (encM slD frD m))]=.ok (.p (.int (m.length:Nat))):=by simp [mS,kN,qC];unfold N.encM;simp
noncomputable def i6 (K:PySem.W.Frag) (c:Cls):En->Res Ev:=(aH a7 (aA (aE ixE (aD 0) (mC (.int 0))) (aA (aE ixE (aD 0) (mC (.int 1))) (aA (aE mU (aD 1) (aD 0)) aL))))
noncomputable def eD (K:PySem.W.Frag) (c:Cls):MS:=(bB (bU 4 (aH a7 (aA (aE bY (aD 3) (aD 1)) (aA (aE bY (aE bO (aD 3) (aD 1)) (aD 1)) aL)))) (bB (bU 5 (aE bO (aD 3) (aE cV (aD 1) (aD 1)))) (bB (bU 6 (aJ 2 (aV K c) (aA (aE jJ (aE bY (aE bO (aD 5) (mC (.int 12))) (aE dX (aE cV (mC (.int 2)) (aE k9 (mC (.int 10)) (mC (.int 20)))) (mC (.int 1)))) (aE k9 (mC (.int 10)) (mC (.int 20)))) (aA (aE dX (mC (.int 1)) (aE bY (aD 5) (mC (.int 12)))) aL)))) (dN (mOr (a9 (aE (vQ true) (aD 4) (aD 2))) (a9 (aJ 2 (aX K c) (aA (aE mU (aD 2) (aD 4)) (aA (aD 6) aL))))) (kA 2 (aD 4) (aD 6)) bS))))
noncomputable def fV (K:PySem.W.Frag) (c:Cls):MS:=(bB (bU 2 mDT) (bB (vN (fF (aD 0)) (aM 3) (eD K c)) (bB (dN (a9 (aE yX (aD 2) mDT)) (kA 2 (aH a7 (aA (mC (.int 0)) (aA (mC (.int 0)) aL))) (aH a7 (aA (mC (.int 0)) (aA (mC (.int 1)) aL)))) bS) (fun en=>(dE (dC 1 [2] (fF (aH eU (aA (aD 2) aL))) (aM 0) fL (i6 K c))) (frz 2 en)))))
noncomputable def cK (K:PySem.W.Frag) (c:Cls) (ls:List L):Res L:=fJ 7 (fV K c) ls
theorem nW (K:PySem.W.Frag) (c:Cls):∀ ls,cK K c ls=.bad\/fJ 7 (fV K c) ls=cK K c ls:=fun _=>.inr rfl
theorem aN9 (K:PySem.W.Frag) (c:Cls) (A:Option L) {w:Int} (w1:1<=w) (w9:w<=9) (x:Int) (m:Mp) (hm:m.length<=1000) (g:GM 80 5 m) (r4 r5 r6:Option L):∃ m' q4 q5 q6,(GM 80 5 m'/\m'≠[]/\m'.length<=m.length+1)/\eD K c [A,some (.p (.int w)),some (.o (.dict (encM slD frD m))),some (.p (.int x)),r4,r5,r6]=some (.nx [A,some (.p (.int w)),some (.o (.dict (encM slD frD m'))),some (.p (.int x)),q4,q5,q6]):=by
 have wn:w≠0:=by omega
 have sw:Sz 20 w:=by unfold Sz;omega
 have dw:iG x w:=⟨wn,sw.mono (by decide)⟩
 have qw:CMulW w w:=⟨sw.mono (by decide),sw.mono (by decide)⟩
 have dww:iG x (w*w):=⟨Int.mul_ne_zero wn wn,(Sz.mul sw sw).mono (by decide)⟩
 have f1:=bX (a:=x) (b:=w) (by omega)
 have f2:=bX (a:=x.fdiv w) (b:=w) (by omega)
 have d12:iG (x.fdiv (w*w)) 12:=cdl (by decide) (by decide)
 have n12:(12:Int)≠0:=by decide
 have nb:(2*100000000000000000000+1:Int)≠0:=by decide
 have f3:=bX (a:=(x.fdiv (w*w)).fdiv 12) (b:=2*100000000000000000000+1) (by decide)
 have f4:=bX (a:=x.fdiv (w*w)) (b:=12) (by decide)
 have bx:aHn (x.fmod w,(x.fdiv w).fmod w):=⟨f1.1,by show x.fmod w<=8;omega,f2.1,by show (x.fdiv w).fmod w<=8;omega⟩
 have l:=kM K c (t:=((x.fdiv (w*w)).fdiv 12).fmod (2*100000000000000000000+1) - 100000000000000000000) (b:=1+(x.fdiv (w*w)).fmod 12) (by omega) ((show Sz 5 _ by unfold Sz;omega).mono (by decide))
 have gh:GN 80 5 (FR.mk (((x.fdiv (w*w)).fdiv 12).fmod (2*100000000000000000000+1) - 100000000000000000000) (1+(x.fdiv (w*w)).fmod 12)):=zO (by omega) (by unfold Sz;omega) (by unfold Sz;omega)
 have e4:(aH a7 (aA (aE bY (aD 3) (aD 1)) (aA (aE bY (aE bO (aD 3) (aD 1)) (aD 1)) aL))) [A,some (.p (.int w)),some (.o (.dict (encM slD frD m))),some (.p (.int x)),r4,r5,r6]=.ok (.p (.tuple [.int (x.fmod w),.int ((x.fdiv w).fmod w)])):=aLg (bA rfl rfl (dM wn)) (bA (bA rfl rfl (fH dw)) rfl (dM wn))
 have e5:(aE bO (aD 3) (aE cV (aD 1) (aD 1))) [A,some (.p (.int w)),some (.o (.dict (encM slD frD m))),some (.p (.int x)),some (.p (slD (x.fmod w,(x.fdiv w).fmod w))),r5,r6]=.ok (.p (.int (x.fdiv (w*w)))):=bA rfl (bA rfl rfl (mD qw)) (fH dww)
 generalize hs:(x.fmod w,(x.fdiv w).fmod w)=sl at bx e5
 generalize x.fdiv (w*w)=rs at *
 generalize hh:FR.mk ((rs.fdiv 12).fmod (2*100000000000000000000+1) - 100000000000000000000) (1+rs.fmod 12)=ht at l gh
 have e6:(aJ 2 (aV K c) (aA (aE jJ (aE bY (aE bO (aD 5) (mC (.int 12))) (aE dX (aE cV (mC (.int 2)) (aE k9 (mC (.int 10)) (mC (.int 20)))) (mC (.int 1)))) (aE k9 (mC (.int 10)) (mC (.int 20)))) (aA (aE dX (mC (.int 1)) (aE bY (aD 5) (mC (.int 12)))) aL))) [A,some (.p (.int w)),some (.o (.dict (encM slD frD m))),some (.p (.int x)),some (.p (slD sl)),some (.p (.int rs)),r6]=.ok (.p (frD ht)):=dW (bA (bA (bA rfl rfl (fH d12)) (aOt _) (dM nb)) (aPv _) (aDi _ _)) (bA rfl (bA rfl rfl (dM n12)) (kW _ _)) l
 have tn:a9 (aE (vQ true) (aD 4) (aD 2)) [A,some (.p (.int w)),some (.o (.dict (encM slD frD m))),some (.p (.int x)),some (.p (slD sl)),some (.p (.int rs)),some (.p (frD ht))]=.ok (!(iN m sl).isSome):=jR (bA rfl rfl (aK5 true sl rfl))
 suffices hx:∃ m',(GM 80 5 m'/\m'≠[]/\m'.length<=m.length+1)/\(dN (mOr (a9 (aE (vQ true) (aD 4) (aD 2))) (a9 (aJ 2 (aX K c) (aA (aE mU (aD 2) (aD 4)) (aA (aD 6) aL))))) (kA 2 (aD 4) (aD 6)) bS) [A,some (.p (.int w)),some (.o (.dict (encM slD frD m))),some (.p (.int x)),some (.p (slD sl)),some (.p (.int rs)),some (.p (frD ht))]=some (.nx [A,some (.p (.int w)),some (.o (.dict (encM slD frD m'))),some (.p (.int x)),some (.p (slD sl)),some (.p (.int rs)),some (.p (frD ht))]) by
  obtain ⟨m',gm,hb⟩:=hx
  refine ⟨m',some (.p (slD sl)),some (.p (.int rs)),some (.p (frD ht)),gm,?_⟩
  unfold eD
  refine (aR (dA e4)).trans ?_
  simp only [List.set_cons_succ,List.set_cons_zero]
  have hs':(.tuple [.int (x.fmod w),.int ((x.fdiv w).fmod w)]:D)=slD sl:=by rw [<- hs];rfl
  rw [hs']
  exact (aR (dA e5)).trans ((aR (dA e6)).trans hb)
 cases ea:iN m sl with
 | none =>
  rw [ea] at tn
  exact ⟨mZ m sl ht,⟨g.put bx gh,vB,jY _ _ _⟩,(k8 (aPp tn)).trans (uY rfl rfl rfl hm)⟩
 | some h0 =>
  rw [ea] at tn
  have gh0:=(g.g _ _ ea).2
  have u:=mH K c (x:=h0) (y:=ht) ⟨gh0.t.mono (by decide),gh0.s.mono (by decide)⟩ ⟨gh.t.mono (by decide),gh.s.mono (by decide)⟩
  have tu:a9 (aJ 2 (aX K c) (aA (aE mU (aD 2) (aD 4)) (aA (aD 6) aL))) [A,some (.p (.int w)),some (.o (.dict (encM slD frD m))),some (.p (.int x)),some (.p (slD sl)),some (.p (.int rs)),some (.p (frD ht))]=.ok (ltF h0 ht):=jR (dW (bA rfl rfl (aBd ea rfl)) rfl u)
  cases el:ltF h0 ht with
  | true =>
   rw [el] at tu
   exact ⟨mZ m sl ht,⟨g.put bx gh,vB,jY _ _ _⟩,(k8 (aNh tn tu)).trans (uY rfl rfl rfl hm)⟩
  | false =>
   rw [el] at tu
   exact ⟨m,⟨g,(fun z=>by rw [z] at ea;cases ea),Nat.le_succ _⟩,jB (aNh tn tu)⟩
theorem aM5 (K:PySem.W.Frag) (c:Cls) {w:Int} (w1:1<=w) (w9:w<=9) (cs:List Int) (hl:cs.length<=40):∃ ps:List Pl,RO 80 5 ps/\ps.length<=cs.length+1/\cK K c [.p (.list (cs.map .int)),.p (.int w)]=.ok (.o (.list (ps.map plD))):=by
 obtain ⟨e',⟨m,q3,q4,q5,q6,⟨g1,g3⟩,rfl⟩,hlp⟩:=tO (enc:=PyData.int) (tg:=aM 3) (f:=eD K c) (fun zs e=>∃ m q3 q4 q5 q6,(GM 80 5 m/\m.length<=zs.length)/\e=[some (.p (.list (cs.map .int))),some (.p (.int w)),some (.o (.dict (encM slD frD m))),q3,q4,q5,q6]) cs [] [some (.p (.list (cs.map .int))),some (.p (.int w)),some (.o (.dict [])),none,none,none,none] ⟨[],none,none,none,none,⟨.nil,Nat.le_refl _⟩,rfl⟩ (by
  rintro x hx zs e hz ⟨m,q3,q4,q5,q6,⟨g1,g3⟩,rfl⟩
  have hz:zs.length < 0+cs.length:=hz
  obtain ⟨m',p4,p5,p6,⟨a1,a2,a3⟩,hb⟩:=aN9 K c (some (.p (.list (cs.map .int)))) w1 w9 x m (by omega) g1 q4 q5 q6
  exact ⟨_,_,rfl,hb,m',_,p4,p5,p6,⟨a1,by rw [List.length_append];simp;omega⟩,rfl⟩)
 have g3:m.length<=cs.length:=g3
 have td:a9 (aE yX (aD 2) mDT) [some (.p (.list (cs.map .int))),some (.p (.int w)),some (.o (.dict (encM slD frD m))),q3,q4,q5,q6]=.ok m.isEmpty:=by
  have:yX (.b (.dict (N.encM slD frD m))) (.p (.dict []))=.ok (.p (.bool m.isEmpty)):=by
   unfold yX
   simp only [kN,qC,if_true]
   unfold N.encM
   rw [List.isEmpty_map]
  ktr_call 3 ⟨a9,aE,aD,mDT,Res.bind,Ev.c,this,cP⟩
 obtain ⟨m2,n1,n2,n3,e2⟩:∃ m2:Mp,m2≠[]/\GM 80 5 m2/\m2.length<=cs.length+1/\(dN (a9 (aE yX (aD 2) mDT)) (kA 2 (aH a7 (aA (mC (.int 0)) (aA (mC (.int 0)) aL))) (aH a7 (aA (mC (.int 0)) (aA (mC (.int 1)) aL)))) bS) [some (.p (.list (cs.map .int))),some (.p (.int w)),some (.o (.dict (encM slD frD m))),q3,q4,q5,q6]=some (.nx [some (.p (.list (cs.map .int))),some (.p (.int w)),some (.o (.dict (encM slD frD m2))),q3,q4,q5,q6]):=by
  cases m with
  | cons p r=>exact ⟨p :: r,List.cons_ne_nil _ _,g1,by omega,jB td⟩
  | nil=>exact ⟨mZ [] (0,0) (0,1),vB,g1.put ⟨Int.le_refl 0,by decide,Int.le_refl 0,by decide⟩ ⟨Int.le_refl 1,(show Sz 80 (0:Int) by unfold Sz;decide),(show Sz 5 (1:Int) by unfold Sz;decide),⟨Int.le_refl 1,Int.gcd_one⟩⟩,(show (1:Nat)<=cs.length+1 by omega),(k8 td).trans (uY (s:=(0,0)) (h:=(0,1)) rfl rfl rfl (by decide))⟩
 refine ⟨fK m2,aKa n2 n1,by rw [jN];exact n3,?_⟩
 unfold cK
 refine cF ?_
 rw [show bQ 7 [.p (.list (cs.map .int)),.p (.int w)]=[some (.p (.list (cs.map .int))),some (.p (.int w)),none,none,none,none,none] from rfl]
 unfold fV
 refine (aR (iH (d:=.dict []) rfl)).trans ((aR ((nN (ds:=cs.map .int) rfl).trans hlp)).trans ((aR e2).trans ?_))
 exact aCp (i:=2) (by omega) rfl fun k h e=>by
  have x0:ixE (.p (slD k)) (.p (.int 0))=.ok (.p (.int k.1)):=nH _ _
  have x1:ixE (.p (slD k)) (.p (.int 1))=.ok (.p (.int k.2)):=nL _ _ _
  have x2:=aBd e (x:=.p (.dict (encM slD frD m2))) rfl
  ktr_call 2 ⟨i6,x0,x1,x2,plD⟩
theorem aCw {tg:D->En->Option En} {f:MS} {d:D} {ds:List D} {en e e':En} (h1:tg d en=some e) (h2:f e=some (.nx e')):fM tg f (d :: ds) en=fM tg f ds e':=by
 rw [fM,h1]
 dsimp only
 rw [h2]
theorem aK8 {r:List Ev->Res (List D)} {f:En->Res Ev} {en:En} {a:D} {o:Res (List D)} (h1:f en=.ok (.p a)) (h:r [.p a]=o):qP r (aA f aL) en=o:=by
 simp only [qP,aA,aL,h1,Res.bind,Ev.c,h]
theorem zH (k n:Nat):qK (k:Int) (n+1)=.int (k:Int) :: qK ((k+1:Nat):Int) n:=by
 unfold qK
 rw [List.range_succ_eq_map,List.map_cons,List.map_map]
 refine congr (congrArg List.cons ?_) (List.map_congr_left fun i _=>?_)
 ·show PyData.int ((k:Int)+(0:Nat))=_
  rw [show ((k:Int)+(0:Nat))=k by omega]
 ·show PyData.int ((k:Int)+((i+1:Nat):Int))=PyData.int (((k+1:Nat):Int)+(i:Int))
  rw [show (k:Int)+((i+1:Nat):Int)=((k+1:Nat):Int)+(i:Int) by omega]
noncomputable def hX (K:PySem.W.Frag) (c:Cls):En->Res Ev:=(aH a7 (aA (aE ixE (aD 0) (mC (.int 0))) (aA (aE ixE (aD 0) (mC (.int 1))) (aA (aE mU (aD 1) (aD 0)) aL))))
noncomputable def cN (K:PySem.W.Frag) (c:Cls):MS:=(bB (bU 6 (aE dX (aE ixE (aE ixE (aD 0) (aD 4)) (mC (.int 0))) (aE ixE (aE ixE (aD 0) (aD 5)) (mC (.int 0))))) (bB (bU 7 (aE dX (aE ixE (aE ixE (aD 0) (aD 4)) (mC (.int 1))) (aE ixE (aE ixE (aD 0) (aD 5)) (mC (.int 1))))) (dN (oM (a9 (aE (eqE false) (aE bY (aD 6) (mC (.int 2))) (mC (.int 0)))) (oM (a9 (aE (eqE false) (aE bY (aD 7) (mC (.int 2))) (mC (.int 0)))) (oM (a9 (aE (vQ true) (aH a7 (aA (aE bO (aD 6) (mC (.int 2))) (aA (aE bO (aD 7) (mC (.int 2))) aL))) (aD 2))) (a9 (aE ltE (aH mS (aA (aD 2) aL)) (mC (.int 10))))))) (bB (bU 8 (aJ 2 (cW K c) (aA (aH a7 (aA (mC (.int 1)) (aA (mC (.int 2)) aL))) (aA (aJ 2 (bK K c) (aA (aE ixE (aE ixE (aD 0) (aD 4)) (mC (.int 2))) (aA (aE ixE (aE ixE (aD 0) (aD 5)) (mC (.int 2))) aL))) aL)))) (bB (bU 9 (aE cV (aE bY (aE dX (aE dX (aD 1) (aE cV (aD 4) (aD 4))) (aD 5)) (mC (.int 3))) (aE bY (aD 1) (mC (.int 1000003))))) (kA 2 (aH a7 (aA (aE bO (aD 6) (mC (.int 2))) (aA (aE bO (aD 7) (mC (.int 2))) aL))) (aJ 2 (bK K c) (aA (aD 8) (aA (aJ 2 (aV K c) (aA (mUn nA (aD 9)) (aA (aE dX (mC (.int 1)) (aE bY (aD 1) (mC (.int 7)))) aL))) aL)))))) bS)))
noncomputable def dP (K:PySem.W.Frag) (c:Cls):MS:=(vN (qP oD (aA (aD 4) aL)) (aM 5) (cN K c))
noncomputable def dO (K:PySem.W.Frag) (c:Cls):MS:=(kA 2 (aH a7 (aA (aE ixE (aD 3) (mC (.int 0))) (aA (aE ixE (aD 3) (mC (.int 1))) aL))) (aE ixE (aD 3) (mC (.int 2))))
noncomputable def eT (K:PySem.W.Frag) (c:Cls):MS:=(bB (bU 2 mDT) (bB (vN (fF (aD 0)) (aM 3) (dO K c)) (bB (vN (qP oD (aA (aH gB (aA (aD 0) aL)) aL)) (aM 4) (dP K c)) (fun en=>(dE (dC 1 [2] (fF (aH eU (aA (aD 2) aL))) (aM 0) fL (hX K c))) (frz 2 en)))))
noncomputable def b5 (K:PySem.W.Frag) (c:Cls) (ls:List L):Res L:=fJ 10 (eT K c) ls
theorem mF (K:PySem.W.Frag) (c:Cls):∀ ls,b5 K c ls=.bad\/fJ 10 (eT K c) ls=b5 K c ls:=fun _=>.inr rfl
theorem aPk (K:PySem.W.Frag) (c:Cls) {ps:List Pl} (ro:RO 80 5 ps) (cell:Int) (r3:Option L) {k l:Nat} (hk:k < ps.length) (hl:l < ps.length) (h10:ps.length<=10) (m:Mp) (g:GM 100 15 m) (m0:m≠[]) (hm:m.length<=10) (r6 r7 r8 r9:Option L):∃ m' q6 q7 q8 q9,(GM 100 15 m'/\m'≠[]/\m'.length<=10)/\cN K c [some (.p (.list (ps.map plD))),some (.p (.int cell)),some (.o (.dict (encM slD frD m))),r3,some (.p (.int (k:Int))),some (.p (.int (l:Int))),r6,r7,r8,r9]=some (.nx [some (.p (.list (ps.map plD))),some (.p (.int cell)),some (.o (.dict (encM slD frD m'))),r3,some (.p (.int (k:Int))),some (.p (.int (l:Int))),q6,q7,q8,q9]):=by
 have gp:=ro.g _ (List.getElem_mem hk)
 have gq:=ro.g _ (List.getElem_mem hl)
 have ip:ixE (.p (.list (ps.map plD))) (.p (.int (k:Int)))=.ok (.p (plD ps[k])):=by
  simp only [ixE,gC,kU (j:=k) (v:=plD ps[k]) (by rw [List.getElem?_map,List.getElem?_eq_getElem hk];rfl)]
 have iq:ixE (.p (.list (ps.map plD))) (.p (.int (l:Int)))=.ok (.p (plD ps[l])):=by
  simp only [ixE,gC,kU (j:=l) (v:=plD ps[l]) (by rw [List.getElem?_map,List.getElem?_eq_getElem hl];rfl)]
 generalize ps[k]=p at gp ip
 generalize ps[l]=q at gq iq
 have n2:(2:Int)≠0:=by decide
 have n3:(3:Int)≠0:=by decide
 have n7:(7:Int)≠0:=by decide
 have nm:(1000003:Int)≠0:=by decide
 obtain ⟨⟨a1,a2,a3,a4⟩,hp⟩:=gp
 obtain ⟨⟨b1,b2,b3,b4⟩,hq⟩:=gq
 unfold slp at a1 a2 a3 a4 b1 b2 b3 b4
 dsimp only at a1 a2 a3 a4 b1 b2 b3 b4
 have e6:(aE dX (aE ixE (aE ixE (aD 0) (aD 4)) (mC (.int 0))) (aE ixE (aE ixE (aD 0) (aD 5)) (mC (.int 0)))) [some (.p (.list (ps.map plD))),some (.p (.int cell)),some (.o (.dict (encM slD frD m))),r3,some (.p (.int (k:Int))),some (.p (.int (l:Int))),r6,r7,r8,r9]=.ok (.p (.int (p.1+q.1))):=bA (bA (bA rfl rfl ip) rfl (jO p)) (bA (bA rfl rfl iq) rfl (jO q)) (kW _ _)
 have e7:(aE dX (aE ixE (aE ixE (aD 0) (aD 4)) (mC (.int 1))) (aE ixE (aE ixE (aD 0) (aD 5)) (mC (.int 1)))) [some (.p (.list (ps.map plD))),some (.p (.int cell)),some (.o (.dict (encM slD frD m))),r3,some (.p (.int (k:Int))),some (.p (.int (l:Int))),some (.p (.int (p.1+q.1))),r7,r8,r9]=.ok (.p (.int (p.2.1+q.2.1))):=bA (bA (bA rfl rfl ip) rfl (j7 p)) (bA (bA rfl rfl iq) rfl (j7 q)) (kW _ _)
 generalize hi:p.1+q.1=i at e6 e7
 generalize hj:p.2.1+q.2.1=j at e7
 have di:iG i 2:=cdl (by decide) (by decide)
 have dj:iG j 2:=cdl (by decide) (by decide)
 have bx:aHn (i.fdiv 2,j.fdiv 2):=by
  rw [Int.fdiv_eq_ediv_of_nonneg _ (by decide),Int.fdiv_eq_ediv_of_nonneg _ (by decide)]
  exact ⟨by show 0<=i / 2;omega,by show i / 2<=8;omega,by show 0<=j / 2;omega,by show j / 2<=8;omega⟩
 have ek:∀ r8 r9,(aH a7 (aA (aE bO (aD 6) (mC (.int 2))) (aA (aE bO (aD 7) (mC (.int 2))) aL))) [some (.p (.list (ps.map plD))),some (.p (.int cell)),some (.o (.dict (encM slD frD m))),r3,some (.p (.int (k:Int))),some (.p (.int (l:Int))),some (.p (.int i)),some (.p (.int j)),r8,r9]=.ok (.p (slD (i.fdiv 2,j.fdiv 2))):=fun r8 r9=>aLg (bA rfl rfl (fH di)) (bA rfl rfl (fH dj))
 have t1:a9 (aE (eqE false) (aE bY (aD 6) (mC (.int 2))) (mC (.int 0))) [some (.p (.list (ps.map plD))),some (.p (.int cell)),some (.o (.dict (encM slD frD m))),r3,some (.p (.int (k:Int))),some (.p (.int (l:Int))),some (.p (.int i)),some (.p (.int j)),r8,r9]=.ok (i.fmod 2 == 0):=jR (bA (bA rfl rfl (dM n2)) rfl wJ)
 have t2:a9 (aE (eqE false) (aE bY (aD 7) (mC (.int 2))) (mC (.int 0))) [some (.p (.list (ps.map plD))),some (.p (.int cell)),some (.o (.dict (encM slD frD m))),r3,some (.p (.int (k:Int))),some (.p (.int (l:Int))),some (.p (.int i)),some (.p (.int j)),r8,r9]=.ok (j.fmod 2 == 0):=jR (bA (bA rfl rfl (dM n2)) rfl wJ)
 have t3:a9 (aE (vQ true) (aH a7 (aA (aE bO (aD 6) (mC (.int 2))) (aA (aE bO (aD 7) (mC (.int 2))) aL))) (aD 2)) [some (.p (.list (ps.map plD))),some (.p (.int cell)),some (.o (.dict (encM slD frD m))),r3,some (.p (.int (k:Int))),some (.p (.int (l:Int))),some (.p (.int i)),some (.p (.int j)),r8,r9]=.ok (!(iN m (i.fdiv 2,j.fdiv 2)).isSome):=jR (bA (ek _ _) rfl (aK5 true _ rfl))
 have t4:a9 (aE ltE (aH mS (aA (aD 2) aL)) (mC (.int 10))) [some (.p (.list (ps.map plD))),some (.p (.int cell)),some (.o (.dict (encM slD frD m))),r3,some (.p (.int (k:Int))),some (.p (.int (l:Int))),some (.p (.int i)),some (.p (.int j)),r8,r9]=.ok (decide ((m.length:Int) < 10)):=by
  ktr_call 2 ⟨lend⟩
 have pre:∀ e',(dN (oM (a9 (aE (eqE false) (aE bY (aD 6) (mC (.int 2))) (mC (.int 0)))) (oM (a9 (aE (eqE false) (aE bY (aD 7) (mC (.int 2))) (mC (.int 0)))) (oM (a9 (aE (vQ true) (aH a7 (aA (aE bO (aD 6) (mC (.int 2))) (aA (aE bO (aD 7) (mC (.int 2))) aL))) (aD 2))) (a9 (aE ltE (aH mS (aA (aD 2) aL)) (mC (.int 10))))))) (bB (bU 8 (aJ 2 (cW K c) (aA (aH a7 (aA (mC (.int 1)) (aA (mC (.int 2)) aL))) (aA (aJ 2 (bK K c) (aA (aE ixE (aE ixE (aD 0) (aD 4)) (mC (.int 2))) (aA (aE ixE (aE ixE (aD 0) (aD 5)) (mC (.int 2))) aL))) aL)))) (bB (bU 9 (aE cV (aE bY (aE dX (aE dX (aD 1) (aE cV (aD 4) (aD 4))) (aD 5)) (mC (.int 3))) (aE bY (aD 1) (mC (.int 1000003))))) (kA 2 (aH a7 (aA (aE bO (aD 6) (mC (.int 2))) (aA (aE bO (aD 7) (mC (.int 2))) aL))) (aJ 2 (bK K c) (aA (aD 8) (aA (aJ 2 (aV K c) (aA (mUn nA (aD 9)) (aA (aE dX (mC (.int 1)) (aE bY (aD 1) (mC (.int 7)))) aL))) aL)))))) bS) [some (.p (.list (ps.map plD))),some (.p (.int cell)),some (.o (.dict (encM slD frD m))),r3,some (.p (.int (k:Int))),some (.p (.int (l:Int))),some (.p (.int i)),some (.p (.int j)),r8,r9]=some (.nx e')->cN K c [some (.p (.list (ps.map plD))),some (.p (.int cell)),some (.o (.dict (encM slD frD m))),r3,some (.p (.int (k:Int))),some (.p (.int (l:Int))),r6,r7,r8,r9]=some (.nx e'):=fun e' h=>by
  unfold cN
  exact (aR (dA e6)).trans ((aR (dA e7)).trans h)
 have no:∀ {tt:En->Res Bool},(oM (a9 (aE (eqE false) (aE bY (aD 6) (mC (.int 2))) (mC (.int 0)))) (oM (a9 (aE (eqE false) (aE bY (aD 7) (mC (.int 2))) (mC (.int 0)))) (oM (a9 (aE (vQ true) (aH a7 (aA (aE bO (aD 6) (mC (.int 2))) (aA (aE bO (aD 7) (mC (.int 2))) aL))) (aD 2))) (a9 (aE ltE (aH mS (aA (aD 2) aL)) (mC (.int 10)))))))=tt->tt [some (.p (.list (ps.map plD))),some (.p (.int cell)),some (.o (.dict (encM slD frD m))),r3,some (.p (.int (k:Int))),some (.p (.int (l:Int))),some (.p (.int i)),some (.p (.int j)),r8,r9]=.ok false->∃ m' q6 q7 q8 q9,(GM 100 15 m'/\m'≠[]/\m'.length<=10)/\cN K c [some (.p (.list (ps.map plD))),some (.p (.int cell)),some (.o (.dict (encM slD frD m))),r3,some (.p (.int (k:Int))),some (.p (.int (l:Int))),r6,r7,r8,r9]=some (.nx [some (.p (.list (ps.map plD))),some (.p (.int cell)),some (.o (.dict (encM slD frD m'))),r3,some (.p (.int (k:Int))),some (.p (.int (l:Int))),q6,q7,q8,q9]):=fun ht h=>⟨m,_,_,_,_,⟨g,m0,hm⟩,pre _ (jB (ht▸h))⟩
 cases c1:(i.fmod 2 == 0) with
 | false=>rw [c1] at t1;exact no rfl (aDb t1)
 | true =>
 rw [c1] at t1
 cases c2:(j.fmod 2 == 0) with
 | false=>rw [c2] at t2;exact no rfl (mX t1 (aDb t2))
 | true =>
 rw [c2] at t2
 cases c3:iN m (i.fdiv 2,j.fdiv 2) with
 | some h0=>rw [c3] at t3;exact no rfl (mX t1 (mX t2 (aDb t3)))
 | none =>
 rw [c3] at t3
 by_cases c4:(m.length:Int) < 10
 case neg=>rw [decide_eq_false c4] at t4;exact no rfl (mX t1 (mX t2 (mX t3 t4)))
 rw [decide_eq_true c4] at t4
 have gs:=aPq hp hq
 have ls:=sP K c (hp.good (by decide) (by decide)) (hq.good (by decide) (by decide)) (Nat.le_refl _) (Nat.le_refl _)
 have one:GN 1 2 (1,2):=⟨by decide,by unfold Sz;decide,by unfold Sz;decide,⟨by decide,by decide⟩⟩
 have lp:cW K c [.p (.tuple [.int 1,.int 2]),.p (frD (hP p.2.2 q.2.2))]=.ok (.p (frD (FR.mk (1*(hP p.2.2 q.2.2).1) (2*(hP p.2.2 q.2.2).2)))):=dI (a:=((1,2),hP p.2.2 q.2.2)) lM ⟨one.good (by decide) (by decide),gs.good (by decide) (by decide)⟩
 have ga:GN 87 12 (FR.mk (1*(hP p.2.2 q.2.2).1) (2*(hP p.2.2 q.2.2).2)):=zO (by have:=gs.p;omega) (by rw [Int.one_mul];exact gs.t.mono (by decide)) ((Sz.mul one.s gs.s).mono (by decide))
 have e8:(aJ 2 (cW K c) (aA (aH a7 (aA (mC (.int 1)) (aA (mC (.int 2)) aL))) (aA (aJ 2 (bK K c) (aA (aE ixE (aE ixE (aD 0) (aD 4)) (mC (.int 2))) (aA (aE ixE (aE ixE (aD 0) (aD 5)) (mC (.int 2))) aL))) aL))) [some (.p (.list (ps.map plD))),some (.p (.int cell)),some (.o (.dict (encM slD frD m))),r3,some (.p (.int (k:Int))),some (.p (.int (l:Int))),some (.p (.int i)),some (.p (.int j)),r8,r9]=.ok (.p (frD (FR.mk (1*(hP p.2.2 q.2.2).1) (2*(hP p.2.2 q.2.2).2)))):=dW rfl (dW (bA (bA rfl rfl ip) rfl (jL p)) (bA (bA rfl rfl iq) rfl (jL q)) ls) lp
 generalize FR.mk (1*(hP p.2.2 q.2.2).1) (2*(hP p.2.2 q.2.2).2)=am at e8 ga
 have fa:=bX (a:=cell+(k:Int)*(k:Int)+(l:Int)) (b:=3) (by decide)
 have fb:=bX (a:=cell) (b:=1000003) (by decide)
 have fc:=bX (a:=cell) (b:=7) (by decide)
 have kk:CMulW (k:Int) (k:Int):=⟨(show Sz 20 (k:Int) by unfold Sz;omega).mono (by decide),(show Sz 20 (k:Int) by unfold Sz;omega).mono (by decide)⟩
 have sa:Sz 2 ((cell+(k:Int)*(k:Int)+(l:Int)).fmod 3):=by unfold Sz;omega
 have sb:Sz 20 (cell.fmod 1000003):=by unfold Sz;omega
 have qq:CMulW ((cell+(k:Int)*(k:Int)+(l:Int)).fmod 3) (cell.fmod 1000003):=⟨sa.mono (by decide),sb.mono (by decide)⟩
 have e9:(aE cV (aE bY (aE dX (aE dX (aD 1) (aE cV (aD 4) (aD 4))) (aD 5)) (mC (.int 3))) (aE bY (aD 1) (mC (.int 1000003)))) [some (.p (.list (ps.map plD))),some (.p (.int cell)),some (.o (.dict (encM slD frD m))),r3,some (.p (.int (k:Int))),some (.p (.int (l:Int))),some (.p (.int i)),some (.p (.int j)),some (.p (frD am)),r9]=.ok (.p (.int ((cell+(k:Int)*(k:Int)+(l:Int)).fmod 3*cell.fmod 1000003))):=bA (bA (bA (bA rfl (bA rfl rfl (mD kk)) (kW _ _)) rfl (kW _ _)) rfl (dM n3)) (bA rfl rfl (dM nm)) (mD qq)
 have s9:=Sz.mul sa sb
 generalize (cell+(k:Int)*(k:Int)+(l:Int)).fmod 3*cell.fmod 1000003=lw at e9 s9
 have ll:=kM K c (t:=-lw) (b:=1+cell.fmod 7) (by omega) ((show Sz 3 _ by unfold Sz;omega).mono (by decide))
 have gl:GN 22 3 (FR.mk (-lw) (1+cell.fmod 7)):=zO (by omega) (L2.Sz.neg s9) (by unfold Sz;omega)
 have l2:=sP K c (ga.good (by decide) (by decide)) (gl.good (by decide) (by decide)) (Nat.le_refl _) (Nat.le_refl _)
 have ev:(aJ 2 (bK K c) (aA (aD 8) (aA (aJ 2 (aV K c) (aA (mUn nA (aD 9)) (aA (aE dX (mC (.int 1)) (aE bY (aD 1) (mC (.int 7)))) aL))) aL))) [some (.p (.list (ps.map plD))),some (.p (.int cell)),some (.o (.dict (encM slD frD m))),r3,some (.p (.int (k:Int))),some (.p (.int (l:Int))),some (.p (.int i)),some (.p (.int j)),some (.p (frD am)),some (.p (.int lw))]=.ok (.p (frD (hP am (FR.mk (-lw) (1+cell.fmod 7))))):=dW rfl (dW rfl (bA rfl (bA rfl rfl (dM n7)) (kW _ _)) ll) l2
 have gv:=(aPq ga gl).mono (a':=100) (b':=15) (by decide) (by decide)
 refine ⟨mZ m (i.fdiv 2,j.fdiv 2) (hP am (FR.mk (-lw) (1+cell.fmod 7))),some (.p (.int i)),some (.p (.int j)),some (.p (frD am)),some (.p (.int lw)),⟨g.put bx gv,vB,by have:=jY m (i.fdiv 2,j.fdiv 2) (hP am (FR.mk (-lw) (1+cell.fmod 7)));omega⟩,pre _ ((k8 (mX t1 (mX t2 (mX t3 t4)))).trans ((aR (dA e8)).trans ((aR (dA e9)).trans (uY rfl (ek _ _) ev (by omega)))))⟩
theorem aHi (K:PySem.W.Frag) (c:Cls) {ps:List Pl} (ro:RO 80 5 ps) (cell:Int) (r3:Option L) {k:Nat} (hk:k < ps.length) (h10:ps.length<=10):∀ (n l:Nat) (m:Mp) (r5 r6 r7 r8 r9:Option L),l+n<=k->GM 100 15 m->m≠[]->m.length<=10->∃ m' q5 q6 q7 q8 q9,(GM 100 15 m'/\m'≠[]/\m'.length<=10)/\fM (aM 5) (cN K c) (qK (l:Int) n) [some (.p (.list (ps.map plD))),some (.p (.int cell)),some (.o (.dict (encM slD frD m))),r3,some (.p (.int (k:Int))),r5,r6,r7,r8,r9]=some (.nx [some (.p (.list (ps.map plD))),some (.p (.int cell)),some (.o (.dict (encM slD frD m'))),r3,some (.p (.int (k:Int))),q5,q6,q7,q8,q9])
 | 0,l,m,r5,r6,r7,r8,r9,_,g,m0,hm=>⟨m,r5,r6,r7,r8,r9,⟨g,m0,hm⟩,rfl⟩
 | n+1,l,m,r5,r6,r7,r8,r9,hl,g,m0,hm=>by
  obtain ⟨m1,q6,q7,q8,q9,⟨g1,n1,l1⟩,hb⟩:=aPk K c ro cell r3 hk (show l < ps.length by omega) h10 m g m0 hm r6 r7 r8 r9
  obtain ⟨m2,p5,p6,p7,p8,p9,g2,ih⟩:=aHi K c ro cell r3 hk h10 n (l+1) m1 (some (.p (.int (l:Int)))) q6 q7 q8 q9 (by omega) g1 n1 l1
  refine ⟨m2,p5,p6,p7,p8,p9,g2,?_⟩
  rw [zH]
  exact (aCw rfl hb).trans ih
theorem aC1 (K:PySem.W.Frag) (c:Cls) {ps:List Pl} (ro:RO 80 5 ps) (cell:Int) (r3:Option L) (h10:ps.length<=10):∀ (n k:Nat) (m:Mp) (r4 r5 r6 r7 r8 r9:Option L),k+n<=ps.length->GM 100 15 m->m≠[]->m.length<=10->∃ m' q4 q5 q6 q7 q8 q9,(GM 100 15 m'/\m'≠[]/\m'.length<=10)/\fM (aM 4) (dP K c) (qK (k:Int) n) [some (.p (.list (ps.map plD))),some (.p (.int cell)),some (.o (.dict (encM slD frD m))),r3,r4,r5,r6,r7,r8,r9]=some (.nx [some (.p (.list (ps.map plD))),some (.p (.int cell)),some (.o (.dict (encM slD frD m'))),r3,q4,q5,q6,q7,q8,q9])
 | 0,k,m,r4,r5,r6,r7,r8,r9,_,g,m0,hm=>⟨m,r4,r5,r6,r7,r8,r9,⟨g,m0,hm⟩,rfl⟩
 | n+1,k,m,r4,r5,r6,r7,r8,r9,hl,g,m0,hm=>by
  obtain ⟨m1,q5,q6,q7,q8,q9,⟨g1,n1,l1⟩,hi⟩:=aHi K c ro cell r3 (k:=k) (by omega) h10 k 0 m r5 r6 r7 r8 r9 (by omega) g m0 hm
  have hb:dP K c [some (.p (.list (ps.map plD))),some (.p (.int cell)),some (.o (.dict (encM slD frD m))),r3,some (.p (.int (k:Int))),r5,r6,r7,r8,r9]=some (.nx [some (.p (.list (ps.map plD))),some (.p (.int cell)),some (.o (.dict (encM slD frD m1))),r3,some (.p (.int (k:Int))),q5,q6,q7,q8,q9]):=by
   unfold dP
   exact (nN (aK8 rfl (tK k (by omega)))).trans hi
  obtain ⟨m2,p4,p5,p6,p7,p8,p9,g2,ih⟩:=aC1 K c ro cell r3 h10 n (k+1) m1 (some (.p (.int (k:Int)))) q5 q6 q7 q8 q9 (by omega) g1 n1 l1
  refine ⟨m2,p4,p5,p6,p7,p8,p9,g2,?_⟩
  rw [zH]
  exact (aCw rfl hb).trans ih
theorem uF (K:PySem.W.Frag) (c:Cls) {ps:List Pl} (cell:Int):∀ (qs:List Pl) (m:Mp) (r3:Option L),(∀ p∈qs,aHn (slp p)/\GN 80 5 p.2.2)->m.length+qs.length<=1000->GM 80 5 m->∃ m' q3,(GM 80 5 m'/\(qs≠[]\/m≠[]->m'≠[])/\m'.length<=m.length+qs.length)/\fM (aM 3) (dO K c) (qs.map plD) [some (.p (.list (ps.map plD))),some (.p (.int cell)),some (.o (.dict (encM slD frD m))),r3,none,none,none,none,none,none]=some (.nx [some (.p (.list (ps.map plD))),some (.p (.int cell)),some (.o (.dict (encM slD frD m'))),q3,none,none,none,none,none,none])
 | [],m,r3,_,_,g=>⟨m,r3,⟨g,fun h=>h.elim (fun z=>absurd rfl z) id,Nat.le_refl _⟩,rfl⟩
 | p :: qs,m,r3,hq,hl,g=>by
  rw [List.length_cons] at hl
  have gp:=hq p (.head _)
  have x0:ixE (.p (plD p)) (.p (.int 0))=.ok (.p (.int p.1)):=jO p
  have hb:dO K c [some (.p (.list (ps.map plD))),some (.p (.int cell)),some (.o (.dict (encM slD frD m))),some (.p (plD p)),none,none,none,none,none,none]=some (.nx [some (.p (.list (ps.map plD))),some (.p (.int cell)),some (.o (.dict (encM slD frD (mZ m (slp p) p.2.2)))),some (.p (plD p)),none,none,none,none,none,none]):=by
   unfold dO
   exact uY rfl (aLg (bA rfl rfl (jO p)) (bA rfl rfl (j7 p))) (bA rfl rfl (jL p)) (by omega)
  have l1:=jY m (slp p) p.2.2
  obtain ⟨m2,q3,⟨g2,n2,l2⟩,ih⟩:=uF K c cell qs (mZ m (slp p) p.2.2) (some (.p (plD p))) (fun z hz=>hq z (.tail _ hz)) (by omega) (g.put gp.1 gp.2)
  exact ⟨m2,q3,⟨g2,fun _=>n2 (.inr vB),by rw [List.length_cons];omega⟩,(aCw rfl hb).trans ih⟩
theorem aF3 (K:PySem.W.Frag) (c:Cls) {ps:List Pl} (ro:RO 80 5 ps) (h10:ps.length<=10) (cell:Int):∃ qs:List Pl,RO 100 15 qs/\qs.length<=10/\b5 K c [.p (.list (ps.map plD)),.p (.int cell)]=.ok (.o (.list (qs.map plD))):=by
 obtain ⟨m1,q3,⟨g1,n1,l1⟩,h1⟩:=uF K c (ps:=ps) cell ps [] none ro.g (by rw [List.length_nil];omega) .nil
 rw [List.length_nil,Nat.zero_add] at l1
 obtain ⟨m2,q4,q5,q6,q7,q8,q9,⟨g2,n2,l2⟩,h2⟩:=aC1 K c ro cell q3 h10 ps.length 0 m1 none none none none none none (by omega) (g1.mono (by decide) (by decide)) (n1 (.inl ro.n)) (by omega)
 refine ⟨fK m2,aKa g2 n2,by rw [jN];exact l2,?_⟩
 have ln:gB [.p (.list (ps.map plD))]=.ok (.p (.int (ps.length:Nat))):=by simp [gB,gC]
 unfold b5
 refine cF ?_
 rw [show bQ 10 [.p (.list (ps.map plD)),.p (.int cell)]=[some (.p (.list (ps.map plD))),some (.p (.int cell)),none,none,none,none,none,none,none,none] from rfl]
 unfold eT
 refine (aR (iH (d:=.dict []) rfl)).trans ((aR ((nN (ds:=ps.map plD) rfl).trans h1)).trans ?_)
 refine (aR ((nN (aK8 (nP rfl ln) (tK ps.length (by omega)))).trans h2)).trans ?_
 exact aCp (i:=2) (by omega) rfl fun k h e=>by
  have x0:ixE (.p (slD k)) (.p (.int 0))=.ok (.p (.int k.1)):=nH _ _
  have x1:ixE (.p (slD k)) (.p (.int 1))=.ok (.p (.int k.2)):=nL _ _ _
  have x2:=aBd e (x:=.p (.dict (encM slD frD m2))) rfl
  ktr_call 2 ⟨hX,x0,x1,x2,plD⟩
abbrev lI (ps:List Pl) (pt:Pt):Int×Int:=best (hgt (ps.headD (0,0,(0,1))) pt) (ps.map fun q=>hgt q pt)
theorem j6 {p:Pl} {pt:Pt} (g:Pp pt) (hp:1<=p.2.2.2):AF (hgt p pt) (lev p pt):=aKh (AF.refl g.x) (AF.refl g.y) (AF.refl hp)
theorem aAl {ps:List Pl} {pt:Pt} (g:Pp pt) (hp:Pos ps) (h0:ps≠[]) {q:Pl} (h:q∈pS ps pt):q∈ps/\IsTop ps pt (hgt q pt):=by
 unfold pS at h
 obtain ⟨h1,h2⟩:=List.mem_filter.mp h
 have h2:ltF (lev q pt) (oW ps pt)=false:=by simpa using h2
 have hh:ps.headD (0,0,(0,1))∈ps:=head_mem _ h0
 refine ⟨h1,⟨q,h1,rfl⟩,fun p hp'=>?_⟩
 obtain ⟨r2,h3,e2⟩:∃ r∈ps,oW ps pt=lev r pt:=by
  rcases N.jA (ps.map fun q=>lev q pt) (lev (ps.headD (0,0,(0,1))) pt) with z | z
  ·exact ⟨_,hh,z⟩
  ·obtain ⟨r,hr,e⟩:=List.mem_map.mp z
   exact ⟨r,hr,e.symm⟩
 have m2:=(tQ (ps.map fun q=>lev q pt) (lev (ps.headD (0,0,(0,1))) pt) (j6 g (hp _ hh)).b (fun x hx=>by
  obtain ⟨r,hr,rfl⟩:=List.mem_map.mp hx
  exact (j6 g (hp r hr)).b)).2.1 _ (List.mem_map.mpr ⟨p,hp',rfl⟩)
 have l:leF (lev p pt) (lev q pt):=by
  refine iL (j6 g (hp p hp')).b (j6 g (hp r2 h3)).b (j6 g (hp q h1)).b ?_ (rF ?_)
  ·rw [<- e2];exact m2
  ·rw [<- e2];exact h2
 refine rF ?_
 rw [oF (j6 g (hp q h1)) (j6 g (hp p hp'))]
 unfold leF at l
 exact decide_eq_false (by omega)
theorem aEm {ps:List Pl} {pt:Pt} {h:Int×Int} (g:Pp pt) (hp:Pos ps) (h0:ps≠[]) (t:IsTop ps pt h) {q:Pl} (h1:q∈ps) (e:hgt q pt=h):q∈pS ps pt:=by
 unfold pS
 refine List.mem_filter.mpr ⟨h1,?_⟩
 have hh:ps.headD (0,0,(0,1))∈ps:=head_mem _ h0
 obtain ⟨r2,h3,e2⟩:∃ r∈ps,oW ps pt=lev r pt:=by
  rcases N.jA (ps.map fun q=>lev q pt) (lev (ps.headD (0,0,(0,1))) pt) with z | z
  ·exact ⟨_,hh,z⟩
  ·obtain ⟨r,hr,e⟩:=List.mem_map.mp z
   exact ⟨r,hr,e.symm⟩
 have l:=t.le r2 h3
 rw [<- e] at l
 have:ltF (lev q pt) (lev r2 pt)=false:=by
  rw [<- oF (j6 g (hp q h1)) (j6 g (hp r2 h3))]
  unfold leF at l
  exact decide_eq_false (by omega)
 show (!ltF (lev q pt) (oW ps pt))=true
 rw [e2,this]
 rfl
noncomputable def aU (K:PySem.W.Frag) (c:Cls):List L->Res L:=mOf eHA (fun a=>a.1≠[]/\a.1.length<=1000/\∀ q∈a.1,lT q a.2) fun a=>.ok (.p (frD (lI a.1 a.2)))
noncomputable def kS (K:PySem.W.Frag) (c:Cls):MS:=(bB (bU 2 (aJ 2 (cB K c) (aA (aE ixE (aJ 2 (dD K c) (aA (aD 0) (aA (aD 1) aL))) (mC (.int 0))) (aA (aD 1) aL)))) (dE (aJ 2 (aV K c) (aA (aE ixE (aD 2) (mC (.int 0))) (aA (aE ixE (aD 2) (mC (.int 1))) aL)))))
theorem sS (K:PySem.W.Frag) (c:Cls):∀ ls,aU K c ls=.bad\/fJ 3 (kS K c) ls=aU K c ls:=dJ fun a h=>by
 obtain ⟨ps,pt⟩:=a
 obtain ⟨h0,hl,hg⟩:=h
 dsimp only at h0 hl hg ⊢
 have hp:Pos ps:=fun p h=>(hg p h).h.1
 have hh:ps.headD (0,0,(0,1))∈ps:=head_mem _ h0
 have g:Pp pt:=⟨(hg _ hh).x.1,(hg _ hh).y.1⟩
 have tt:IsTop ps pt (lI ps pt):=sA h0 hp g
 have htl:=aEk K c ps pt h0 hl hg
 obtain ⟨q,r,eq⟩:∃ q r,pS ps pt=q :: r:=by
  obtain ⟨p,h1,e1⟩:=tt.at'
  have:=aEm g hp h0 tt h1 e1
  cases e:pS ps pt with
  | nil=>rw [e] at this;cases this
  | cons q r=>exact ⟨q,r,rfl⟩
 obtain ⟨hq,tq⟩:=aAl g hp h0 (q:=q) (by rw [eq];exact .head _)
 have eh:=tt.uniq hp g tq
 have lv:=aGw K c (hg q hq)
 have sz:=aCy (hg q hq)
 have la:=j6 g (hp q hq)
 have lo:=kM K c (t:=(lev q pt).1) (b:=(lev q pt).2) (by have:=la.b;omega) (sz.2.mono (by decide))
 have em:FR.mk (lev q pt).1 (lev q pt).2=lI ps pt:=by
  rw [eh]
  exact aJz (aAp la.b) (o8 (hp q hq) g) (uH la.b la.b rfl) la rfl
 rw [em] at lo
 rw [eq] at htl
 refine cF ?_
 rw [show bQ 3 (eHA (ps,pt))=[some (.p (.list (ps.map plD))),some (.p (.tuple [frD pt.1,frD pt.2])),none] from rfl]
 unfold kS
 have i0:ixE (.p (.list (plD q :: r.map plD))) (.p (.int 0))=.ok (.p (plD q)):=by simp [ixE,gC,at0]
 have e1:(aJ 2 (cB K c) (aA (aE ixE (aJ 2 (dD K c) (aA (aD 0) (aA (aD 1) aL))) (mC (.int 0))) (aA (aD 1) aL))) [some (.p (.list (ps.map plD))),some (.p (.tuple [frD pt.1,frD pt.2])),none]=.ok (.p (frD (lev q pt))):=by
  ktr_call 3 ⟨aJ,aA,aL,aE,aD,mC,Res.bind,Ev.c,eN,dG,kF,htl,lF,i0,lv⟩
 refine (aR (dA e1)).trans (hV ?_)
 ktr_call 2 ⟨lo⟩
theorem aFu (K:PySem.W.Frag) (c:Cls) {ps:List Pl} {pt:Pt} (h0:ps≠[]) (hl:ps.length<=1000) (hg:∀ q∈ps,lT q pt):aU K c [.p (.list (ps.map plD)),.p (.tuple [frD pt.1,frD pt.2])]=.ok (.p (frD (lI ps pt))):=dI (a:=(ps,pt)) aDe ⟨h0,hl,hg⟩
def xx (G:Int) (pt:Pt):Int:=G*pt.1.1*pt.2.2
def yy (G:Int) (pt:Pt):Int:=G*pt.2.1*pt.1.2
def dd (pt:Pt):Int:=pt.1.2*pt.2.2
theorem aDk {G:Int} {p:Pl} {pt:Pt} (hG:1<=G) (hd:p.2.2.2∣G) (h0:1<=p.2.2.2) (g:Pp pt):AF (lev p pt) (vv G p (xx G pt) (yy G pt) (dd pt),dd pt*G):=by
 have hx:=g.x
 have hy:=g.y
 have ew:=w_mul h0 hd
 unfold lev vv xx yy dd wt
 generalize p.2.2.1*G.fdiv p.2.2.2=w at *
 refine ⟨bN (bN hx hy) h0,bN (bN hx hy) hG,?_⟩
 show ((p.1*pt.1.1*pt.2.2+p.2.1*pt.2.1*pt.1.2)*p.2.2.2+p.2.2.1*(pt.1.2*pt.2.2))*(pt.1.2*pt.2.2*G)=(p.1*(G*pt.1.1*pt.2.2)+p.2.1*(G*pt.2.1*pt.1.2)+w*(pt.1.2*pt.2.2))*(pt.1.2*pt.2.2*p.2.2.2)
 have a1:p.1*pt.1.1*pt.2.2*p.2.2.2*(pt.1.2*pt.2.2*G)=p.1*(G*pt.1.1*pt.2.2)*(pt.1.2*pt.2.2*p.2.2.2):=by ac_rfl
 have a2:p.2.1*pt.2.1*pt.1.2*p.2.2.2*(pt.1.2*pt.2.2*G)=p.2.1*(G*pt.2.1*pt.1.2)*(pt.1.2*pt.2.2*p.2.2.2):=by ac_rfl
 have a3:p.2.2.1*(pt.1.2*pt.2.2)*(pt.1.2*pt.2.2*G)=w*(pt.1.2*pt.2.2)*(pt.1.2*pt.2.2*p.2.2.2):=by
  have:p.2.2.1*(pt.1.2*pt.2.2)*(pt.1.2*pt.2.2*G)=(pt.1.2*pt.2.2)*(pt.1.2*pt.2.2)*(p.2.2.1*G):=by ac_rfl
  rw [this,<- ew]
  ac_rfl
 rw [Int.add_mul,Int.add_mul,Int.add_mul,Int.add_mul,Int.add_mul,a1,a2,a3]
theorem aHf {G:Int} {p:Pl} {pt:Pt} (hG:1<=G) (hd:p.2.2.2∣G) (h0:1<=p.2.2.2) (g:Pp pt):AF (hgt p pt) (vv G p (xx G pt) (yy G pt) (dd pt),dd pt*G):=by
 have a:=j6 g h0
 have b:=aDk hG hd h0 g
 refine ⟨a.a,b.b,?_⟩
 have ae:=a.e
 have be:=b.e
 have p1:=a.b
 generalize hgt p pt=x at *
 generalize lev p pt=y at *
 generalize vv G p (xx G pt) (yy G pt) (dd pt)=v at *
 generalize dd pt*G=u at *
 dsimp only at *
 refine Int.eq_of_mul_eq_mul_right (a:=y.2) (by omega) ?_
 calc x.1*u*y.2=x.1*y.2*u:=by ac_rfl
  _=y.1*x.2*u:=by rw [ae]
  _=y.1*u*x.2:=by ac_rfl
  _=v*y.2*x.2:=by rw [be]
  _=v*x.2*y.2:=by ac_rfl
theorem pH {pt:Pt} (g:Pp pt):1<=dd pt:=bN g.x g.y
theorem Cd.pos {G:Int} {ps:List Pl} (c:Cd G ps):Pos ps:=fun p hp=>(c p hp).f.pos
theorem y7 {G:Int} {ps:List Pl} {pt:Pt} (hG:1<=G) (n:ps≠[]) (c:Cd G ps) (g:Pp pt):∃ p∈ps,(∀ q∈ps,vv G q (xx G pt) (yy G pt) (dd pt)<=vv G p (xx G pt) (yy G pt) (dd pt))/\FR.Fr (lI ps pt)/\AF (lI ps pt) (vv G p (xx G pt) (yy G pt) (dd pt),dd pt*G):=by
 have t:IsTop ps pt (lI ps pt):=sA n c.pos g
 obtain ⟨p,hp,e⟩:=t.at'
 have a:=aHf hG (c p hp).d (c p hp).f.pos g
 refine ⟨p,hp,fun q hq=>?_,t.fr c.pos g,by rw [<- e];exact a⟩
 have l:=t.le q hq
 rw [<- e] at l
 have b:=aHf hG (c q hq).d (c q hq).f.pos g
 have z:ltF (hgt p pt) (hgt q pt)=false:=by
  unfold leF at l
  exact decide_eq_false (by omega)
 rw [oF a b] at z
 unfold ltF at z
 have z:=of_decide_eq_false z
 have u:=bN (pH g) hG
 refine Int.not_lt.mp fun w=>z ?_
 exact Int.mul_lt_mul_of_pos_right w (by omega)
theorem aCn {G:Int} {ps qs:List Pl} {pt:Pt} (hG:1<=G) (n:ps≠[]) (m:qs≠[]) (c:Cd G ps) (d:Cd G qs) (g:Pp pt) (h:Dom G ps qs) (k:Dom G qs ps):lI ps pt=lI qs pt:=by
 obtain ⟨p,hp,h1,f1,a1⟩:=y7 hG n c g
 obtain ⟨q,hq,h2,f2,a2⟩:=y7 hG m d g
 obtain ⟨q',hq',w1⟩:=h (xx G pt) (yy G pt) _ (pH g) p hp
 obtain ⟨p',hp',w2⟩:=k (xx G pt) (yy G pt) _ (pH g) q hq
 have l1:=h2 q' hq'
 have l2:=h1 p' hp'
 have e:vv G p (xx G pt) (yy G pt) (dd pt)=vv G q (xx G pt) (yy G pt) (dd pt):=by omega
 refine aJz f1 f2 a1 a2 ?_
 dsimp only
 rw [e]
theorem top_lt {G:Int} {ps qs:List Pl} {pt:Pt} (hG:1<=G) (n:ps≠[]) (c:Cd G ps) (d:Cd G qs) (g:Pp pt) {q:Pl} (hq:q∈qs) (h:∀ p∈ps,vv G p (xx G pt) (yy G pt) (dd pt) < vv G q (xx G pt) (yy G pt) (dd pt)):ltF (lI ps pt) (lI qs pt)=true:=by
 obtain ⟨p,hp,h1,f1,a1⟩:=y7 hG n c g
 obtain ⟨q',hq',h2,f2,a2⟩:=y7 hG (List.ne_nil_of_mem hq) d g
 rw [oF a1 a2]
 have l1:=h p hp
 have l2:=h2 q hq
 have u:=bN (pH g) hG
 exact decide_eq_true (Int.mul_lt_mul_of_pos_right (by omega) (by omega))
def aIi (F:Int) (p:Pl) (pt:Pt):Int:=p.1*pt.1.1*pt.2.2+p.2.1*pt.2.1*pt.1.2+p.2.2.1*F.fdiv p.2.2.2*(pt.1.2*pt.2.2)
theorem aBv {F:Int} {p:Pl} {pt:Pt} (hF:1<=F) (hd:p.2.2.2∣F) (h0:1<=p.2.2.2) (hx:1<=pt.1.2) (hy:1<=pt.2.2):AF (lev p (shr F pt)) (aIi F p pt,pt.1.2*pt.2.2*F):=by
 have x1:=bN hx hF
 have y1:=bN hy hF
 obtain ⟨fx,ex⟩:=FR.mP (t:=pt.1.1) (b:=pt.1.2*F) (by omega)
 obtain ⟨fy,ey⟩:=FR.mP (t:=pt.2.1) (b:=pt.2.2*F) (by omega)
 have ew:=w_mul h0 hd
 have px:=fx.pos
 have py:=fy.pos
 unfold lev shr aIi
 dsimp only
 generalize FR.mk pt.1.1 (pt.1.2*F)=x at *
 generalize FR.mk pt.2.1 (pt.2.2*F)=y at *
 generalize p.2.2.1*F.fdiv p.2.2.2=w at *
 refine ⟨bN (bN px py) h0,bN (bN hx hy) hF,?_⟩
 show ((p.1*x.1*y.2+p.2.1*y.1*x.2)*p.2.2.2+p.2.2.1*(x.2*y.2))*(pt.1.2*pt.2.2*F)=(p.1*pt.1.1*pt.2.2+p.2.1*pt.2.1*pt.1.2+w*(pt.1.2*pt.2.2))*(x.2*y.2*p.2.2.2)
 have a1:p.1*x.1*y.2*p.2.2.2*(pt.1.2*pt.2.2*F)=p.1*pt.1.1*pt.2.2*(x.2*y.2*p.2.2.2):=by
  have:p.1*x.1*y.2*p.2.2.2*(pt.1.2*pt.2.2*F)=p.1*y.2*p.2.2.2*pt.2.2*(x.1*(pt.1.2*F)):=by ac_rfl
  rw [this,ex]
  ac_rfl
 have a2:p.2.1*y.1*x.2*p.2.2.2*(pt.1.2*pt.2.2*F)=p.2.1*pt.2.1*pt.1.2*(x.2*y.2*p.2.2.2):=by
  have:p.2.1*y.1*x.2*p.2.2.2*(pt.1.2*pt.2.2*F)=p.2.1*x.2*p.2.2.2*pt.1.2*(y.1*(pt.2.2*F)):=by ac_rfl
  rw [this,ey]
  ac_rfl
 have a3:p.2.2.1*(x.2*y.2)*(pt.1.2*pt.2.2*F)=w*(pt.1.2*pt.2.2)*(x.2*y.2*p.2.2.2):=by
  have:p.2.2.1*(x.2*y.2)*(pt.1.2*pt.2.2*F)=x.2*y.2*pt.1.2*pt.2.2*(p.2.2.1*F):=by ac_rfl
  rw [this,<- ew]
  ac_rfl
 rw [Int.add_mul,Int.add_mul,Int.add_mul,Int.add_mul,Int.add_mul,a1,a2,a3]
theorem aEr (F:Int) (p q:Pl) (pt:Pt):(uL (blow F p) (blow F q)).1*pt.1.1*pt.2.2+(uL (blow F p) (blow F q)).2.1*pt.2.1*pt.1.2+(uL (blow F p) (blow F q)).2.2*pt.1.2*pt.2.2=aIi F p pt - aIi F q pt:=by
 unfold uL blow aIi
 dsimp only
 generalize p.2.2.1*F.fdiv p.2.2.2=a
 generalize q.2.2.1*F.fdiv q.2.2.2=b
 rw [Int.sub_mul,Int.sub_mul,Int.sub_mul,Int.sub_mul,Int.sub_mul,Int.sub_mul]
 have e1:a*pt.1.2*pt.2.2=a*(pt.1.2*pt.2.2):=Int.mul_assoc _ _ _
 have e2:b*pt.1.2*pt.2.2=b*(pt.1.2*pt.2.2):=Int.mul_assoc _ _ _
 rw [e1,e2]
 omega
theorem aFx {ps:List Pl} {G:Int} (h:Rf G ps) {p:Pl} (hp:p∈ps) {pt:Pt} (e:eY (wf ps) ps p=some pt):GPt (shr (wf ps) pt)/\FR.Fr (shr (wf ps) pt).1/\FR.Fr (shr (wf ps) pt).2:=by
 obtain ⟨f0,f1,f2⟩:=qQ h.l h.g
 obtain ⟨gx,gy⟩:=t8 h.l h.g hp e
 have x1:=bN gx.p f0
 have y1:=bN gy.p f0
 refine ⟨⟨lN (gx.t.mono (by decide)) ((Sz.mul gx.b f2).mono (by decide)) (by omega),lN (gy.t.mono (by decide)) ((Sz.mul gy.b f2).mono (by decide)) (by omega)⟩,(FR.mP (by omega)).1,(FR.mP (by omega)).1⟩
theorem aFz {ps:List Pl} {G:Int} (h:Rf G ps) {p:Pl} (hp:p∈ps) {pt:Pt} (e:eY (wf ps) ps p=some pt):∀ q∈ps,q≠p->ltF (lev q (shr (wf ps) pt)) (lev p (shr (wf ps) pt))=true:=fun q hq hne=>by
 obtain ⟨f0,f1,f2⟩:=qQ h.l h.g
 obtain ⟨s1,s2,s3⟩:=rM e
 have hb:blow (wf ps) q≠blow (wf ps) p:=fun z=>hne (xH h.u q hq p hp (by
  have z1:(blow (wf ps) q).1=(blow (wf ps) p).1:=by rw [z]
  have z2:(blow (wf ps) q).2.1=(blow (wf ps) p).2.1:=by rw [z]
  exact Prod.ext z1 z2))
 have k:=s3 (uL (blow (wf ps) p) (blow (wf ps) q)) (List.mem_map.mpr ⟨blow (wf ps) q,List.mem_filter.mpr ⟨List.mem_map.mpr ⟨q,hq,rfl⟩,decide_eq_true hb⟩,rfl⟩)
 rw [aEr] at k
 have aq:=aBv (pt:=pt) f0 (f1 q hq) (h.c q hq).f.pos s1 s2
 have ap:=aBv (pt:=pt) f0 (f1 p hp) (h.c p hp).f.pos s1 s2
 rw [oF aq ap]
 have bpos:=bN (bN s1 s2) f0
 exact decide_eq_true (Int.mul_lt_mul_of_pos_right (show aIi (wf ps) q pt < aIi (wf ps) p pt by omega) (by omega))
theorem tR {G:Int} (hG:1<=G) {ps:List Pl} (h:Rf G ps) {p:Pl} (hp:p∈ps) (s:stays ps p=true):GPt (iY ps p)/\Pp (iY ps p)/\∀ q∈ps,q≠p->vv G q (xx G (iY ps p)) (yy G (iY ps p)) (dd (iY ps p)) < vv G p (xx G (iY ps p)) (yy G (iY ps p)) (dd (iY ps p)):=by
 unfold stays at s
 obtain ⟨pt,e⟩:=Option.isSome_iff_exists.mp s
 have es:iY ps p=shr (wf ps) pt:=by unfold iY;rw [e];rfl
 rw [es]
 obtain ⟨g1,g2,g3⟩:=aFx h hp e
 have gp:Pp (shr (wf ps) pt):=⟨g2.pos,g3.pos⟩
 refine ⟨g1,gp,fun q hq hne=>?_⟩
 have k:=aFz h hp e q hq hne
 rw [oF (aDk hG (h.c q hq).d (h.c q hq).f.pos gp) (aDk hG (h.c p hp).d (h.c p hp).f.pos gp)] at k
 have k:=of_decide_eq_true k
 have u:=bN (pH gp) hG
 exact Int.lt_of_mul_lt_mul_right k (by omega)
structure Low (G:Int) (q p:Pl):Prop where
 i:q.1=p.1
 j:q.2.1=p.2.1
 w:wt G q.2.2<=wt G p.2.2
theorem Low.vv {G:Int} {q p:Pl} (l:Low G q p) (X Y:Int) {D:Int} (hD:1<=D):vv G q X Y D<=vv G p X Y D:=by
 have:=Int.mul_le_mul_of_nonneg_right l.w (show 0<=D by omega)
 unfold My.vv
 rw [l.i,l.j]
 omega
theorem aEg {G:Int} (hG:1<=G) {ps qs:List Pl} (h:Rf G ps) (s:∀ p∈thn ps,p∈qs) (l:∀ q∈qs,∃ p∈ps,Low G q p):Dom G ps qs/\Dom G qs ps:=⟨(aBg hG h).trans (Dom.sub s),fun X Y D hD q hq=>by
 obtain ⟨p,hp,z⟩:=l q hq
 exact ⟨p,hp,z.vv X Y hD⟩⟩
theorem aBw {G:Int} (hG:1<=G) {ps:List Pl} (h:Rf G ps) {pt:Pt} (g:Pp pt):lI (thn ps) pt=lI ps pt:=aCn hG (aAq hG h) h.n (fun p hp=>h.c p (sC hp)) h.c g (Dom.sub fun _ hp=>sC hp) (aBg hG h)
theorem aEb {G:Int} (hG:1<=G) {ps qs:List Pl} (h:Rf G ps) (k:Rf G qs) {pt:Pt} (g:Pp pt) (l:ltF (lI ps pt) (lI qs pt)=true):thn ps≠thn qs:=fun e=>by
 rw [<- aBw hG h g,<- aBw hG k g,e] at l
 unfold ltF at l
 have:=of_decide_eq_true l
 omega
theorem aI2 {G:Int} {x y:Int×Int} (hG:1<=G) (fx:FR.Fr x) (fy:FR.Fr y) (xd:x.2∣G) (yd:y.2∣G) (h:ltF x y=true):wt G x < wt G y:=by
 have h:=of_decide_eq_true h
 have l:=aOs hG fx.pos fy.pos xd yd (by unfold leF;omega)
 rcases Int.lt_or_eq_of_le l with z | z
 ·exact z
 ·rw [aG1 hG fx fy xd yd z] at h
  omega
def swp (p o q:Pl):Pl:=if q=p then o else q
theorem aO5 {G:Int} (hG:1<=G) {ps:List Pl} (h:Rf G ps) {p o:Pl} (hp:p∈ps) (s:stays ps p=true) (k:Rf G (ps.map (swp p o))) (i:o.1=p.1) (j:o.2.1=p.2.1) (w:wt G p.2.2 < wt G o.2.2):ltF (lI ps (iY ps p)) (lI (ps.map (swp p o)) (iY ps p))=true:=by
 obtain ⟨_,g,a⟩:=tR hG h hp s
 refine top_lt hG h.n h.c k.c g (q:=o) (List.mem_map.mpr ⟨p,hp,by unfold swp;rw [if_pos rfl]⟩) fun q hq=>?_
 have d:=pH g
 have m:=Int.mul_lt_mul_of_pos_right w (show 0 < dd (iY ps p) by omega)
 have b:vv G q (xx G (iY ps p)) (yy G (iY ps p)) (dd (iY ps p))<=vv G p (xx G (iY ps p)) (yy G (iY ps p)) (dd (iY ps p)):=by
  by_cases z:q=p
  ·rw [z];exact Int.le_refl _
  ·exact Int.le_of_lt (a q hq z)
 refine Int.lt_of_le_of_lt b ?_
 unfold My.vv
 rw [i,j]
 omega
theorem aI5 {G:Int} (hG:1<=G) {ps:List Pl} (h:Rf G ps) {p o:Pl} (hp:p∈ps) (s:stays ps p=true) (k:Rf G (ps.map (swp p o))) (i:o.1=p.1) (j:o.2.1=p.2.1) (w:wt G o.2.2 < wt G p.2.2):ltF (lI (ps.map (swp p o)) (iY ps p)) (lI ps (iY ps p))=true:=by
 obtain ⟨_,g,a⟩:=tR hG h hp s
 refine top_lt hG k.n k.c h.c g hp fun r hr=>?_
 obtain ⟨q,hq,rfl⟩:=List.mem_map.mp hr
 have d:=pH g
 have m:=Int.mul_lt_mul_of_pos_right w (show 0 < dd (iY ps p) by omega)
 unfold swp
 split
 ·unfold My.vv
  rw [i,j]
  omega
 ·rename_i z
  exact a q hq z
theorem aK9 (p q:Pl):SeqAt.noMix (plD p) (plD q)=true:=by simp [plD,frD,SeqAt.noMix,SeqAt.noMixAll]
theorem aLi (p:Pl) (ps:List Pl):decide (countIn (plD p) (ps.map plD)≠0)=decide (p∈ps):=by
 rw [decide_eq_decide,countIn_ne_zero,List.mem_map]
 constructor
 ·rintro ⟨q,hq,e⟩
  rw [<- plI e]
  exact hq
 ·intro h
  exact ⟨p,h,rfl⟩
theorem aOq (p:Pl) (ps:List Pl):aE2 false (.p (plD p)) (.p (.list (ps.map plD)))=.ok (.p (.bool (decide (p∈ps)))):=by
 unfold aE2
 simp only [dat]
 rw [if_pos ⟨aFg p,aB1 ps,fun z hz=>by obtain ⟨q,_,rfl⟩:=List.mem_map.mp hz;exact aK9 q p⟩]
 rw [if_neg (by decide),aLi]
theorem aGt {i:Nat} {fe:En->Res Ev} {en:En} {ds:List D} {d:D} (h1:en[i]? = some (some (.o (.list ds)))) (h2:fe en=.ok (.f d)\/fe en=.ok (.p d)) (h3:ds.length<=100000):gG i fe en=some (.nx (en.set i (some (.o (.list (ds++[d])))))):=by
 unfold gG
 rw [h1]
 dsimp only
 rcases h2 with h2 | h2<;>rw [h2]<;>dsimp only [Ev.c]<;>rw [if_pos h3]
theorem aP6 {f g h:En->Res Ev} {en:En} {a b d:D} (h1:f en=.ok (.p a)) (h2:g en=.ok (.p b)) (h3:h en=.ok (.p d)):aH a7 (aA f (aA g (aA h aL))) en=.ok (.p (.tuple [a,b,d])):=by
 ktr_call 3 ⟨aH,aA,aL,h1,h2,h3,a7,jM,Res.bind,Ev.c⟩
theorem aP5 {a b d e:Nat} {x y:Int×Int} (x0:1<=x.2) (xt:Sz a x.1) (xs:Sz b x.2) (y0:1<=y.2) (yt:Sz d y.1) (ys:Sz e y.2):GN (max (a+e) (d+b)+1) (b+e) (hP x y):=zO (fun z=>by
 rcases Int.mul_eq_zero.mp z with z | z<;>omega) (Sz.addM (Sz.mul xt ys) (Sz.mul yt xs)) (Sz.mul xs ys)
theorem aJ8 {x y:Int×Int} (x0:1<=x.2) (y0:1<=y.2):AF (hP x y) (x.1*y.2+y.1*x.2,x.2*y.2):=uH (bN x0 y0) (bN x0 y0) rfl
theorem aKf {x y:Int×Int} (x0:1<=x.2) (y0:1<=y.2) (h:y.1 < 0):ltF (hP x y) x=true:=by
 rw [oF (aJ8 x0 y0) (AF.refl x0)]
 refine decide_eq_true ?_
 show (x.1*y.2+y.1*x.2)*x.2 < x.1*(x.2*y.2)
 have e:(x.1*y.2+y.1*x.2)*x.2=x.1*(x.2*y.2)+y.1*(x.2*x.2):=by rw [Int.add_mul];congr 1<;>ac_rfl
 have k:=Int.mul_neg_of_neg_of_pos h (show 0 < x.2*x.2 from bN x0 x0)
 omega
theorem aOm {x y:Int×Int} (x0:1<=x.2) (y0:1<=y.2) (h:0 < y.1):ltF x (hP x y)=true:=by
 rw [oF (AF.refl x0) (aJ8 x0 y0)]
 refine decide_eq_true ?_
 show x.1*(x.2*y.2) < (x.1*y.2+y.1*x.2)*x.2
 have e:(x.1*y.2+y.1*x.2)*x.2=x.1*(x.2*y.2)+y.1*(x.2*x.2):=by rw [Int.add_mul];congr 1<;>ac_rfl
 have k:=Int.mul_pos h (show 0 < x.2*x.2 from bN x0 x0)
 omega
inductive LK (ths:List Pl):List Pl->List Pl->Prop
 | nil:LK ths [] []
 | keep {p qs os}:LK ths qs os->LK ths (p :: qs) (p :: os)
 | drop {p qs os}:p∉ths->LK ths qs os->LK ths (p :: qs) os
 | low {p o qs os}:p∉ths->o.1=p.1->o.2.1=p.2.1->GN 120 20 o.2.2->ltF o.2.2 p.2.2=true->LK ths qs os->LK ths (p :: qs) (o :: os)
theorem LK.len {ths qs os:List Pl} (h:LK ths qs os):os.length<=qs.length:=by
 induction h with
 | nil=>exact Nat.le_refl _
 | keep _ ih=>exact Nat.succ_le_succ ih
 | drop _ _ ih=>exact Nat.le_succ_of_le ih
 | low _ _ _ _ _ _ ih=>exact Nat.succ_le_succ ih
theorem LK.has {ths qs os:List Pl} (h:LK ths qs os):∀ p∈qs,p∈ths->p∈os:=by
 induction h with
 | nil=>exact fun _ h _=>h
 | keep _ ih=>exact fun p hp t=>(List.mem_cons.mp hp).elim (fun e=>e▸.head _) fun z=>.tail _ (ih p z t)
 | drop n _ ih=>exact fun p hp t=>(List.mem_cons.mp hp).elim (fun e=>absurd (e▸t) n) fun z=>ih p z t
 | low n _ _ _ _ _ ih=>exact fun p hp t=>(List.mem_cons.mp hp).elim (fun e=>absurd (e▸t) n) fun z=>.tail _ (ih p z t)
theorem LK.of {ths qs os:List Pl} (h:LK ths qs os):∀ o∈os,∃ p∈qs,o=p\/(o.1=p.1/\o.2.1=p.2.1/\GN 120 20 o.2.2/\ltF o.2.2 p.2.2=true):=by
 induction h with
 | nil=>exact fun _ h=>nomatch h
 | @keep p qs os _ ih =>
  exact fun o ho=>(List.mem_cons.mp ho).elim (fun e=>⟨p,.head _,.inl e⟩) fun z=>by
   obtain ⟨r,hr,k⟩:=ih o z
   exact ⟨r,.tail _ hr,k⟩
 | drop _ _ ih =>
  exact fun o ho=>by
   obtain ⟨r,hr,k⟩:=ih o ho
   exact ⟨r,.tail _ hr,k⟩
 | @low p o' qs os _ i j g l _ ih =>
  exact fun o ho=>(List.mem_cons.mp ho).elim (fun e=>⟨p,.head _,.inr (e▸⟨i,j,g,l⟩)⟩) fun z=>by
   obtain ⟨r,hr,k⟩:=ih o z
   exact ⟨r,.tail _ hr,k⟩
theorem LK.aft {ths qs os:List Pl} (h:LK ths qs os) {a:Pl} (s:∀ q∈qs,slt a q):∀ o∈os,slt a o:=fun o ho=>by
 obtain ⟨p,hp,e | ⟨i,j,_⟩⟩:=h.of o ho
 ·rw [e];exact s p hp
 ·have:=s p hp
  unfold slt at this ⊢
  rw [i,j]
  exact this
theorem LK.srt {ths qs os:List Pl} (h:LK ths qs os):qs.Pairwise slt->os.Pairwise slt:=by
 induction h with
 | nil=>exact id
 | keep k ih=>exact fun s=>List.pairwise_cons.mpr ⟨k.aft (List.pairwise_cons.mp s).1,ih (List.pairwise_cons.mp s).2⟩
 | drop _ _ ih=>exact fun s=>ih (List.pairwise_cons.mp s).2
 | low _ i j _ _ k ih =>
  exact fun s=>List.pairwise_cons.mpr ⟨fun o ho=>by
   have:=k.aft (List.pairwise_cons.mp s).1 o ho
   unfold slt at this ⊢
   rw [i,j]
   exact this,ih (List.pairwise_cons.mp s).2⟩
noncomputable def fB (K:PySem.W.Frag) (c:Cls):MS:=(bB (dN (a9 (aE (aE2 false) (aD 4) (aD 1))) (gG 3 (aD 4)) (dN (a9 (aE (eqE false) (aE bY (aD 2) (mC (.int 3))) (mC (.int 0)))) (gG 3 (aH a7 (aA (aE ixE (aD 4) (mC (.int 0))) (aA (aE ixE (aD 4) (mC (.int 1))) (aA (aJ 2 (bK K c) (aA (aE ixE (aD 4) (mC (.int 2))) (aA (aH a7 (aA (aE jJ (mUn nA (mC (.int 1))) (aE bY (aD 2) (mC (.int 1009)))) (aA (aE dX (mC (.int 1)) (aE bY (aD 2) (mC (.int 7)))) aL))) aL))) aL))))) (dN (a9 (aE (eqE false) (aE bY (aD 2) (mC (.int 3))) (mC (.int 1)))) (gG 3 (aD 4)) bS))) (bU 2 (aE bO (aD 2) (mC (.int 3)))))
noncomputable def jS (K:PySem.W.Frag) (c:Cls):MS:=(bB (bU 3 (aH j9 aL)) (bB (vN (fF (aD 0)) (aM 4) (fB K c)) (dE (aD 3))))
noncomputable def dH (K:PySem.W.Frag) (c:Cls) (ls:List L):Res L:=fJ 5 (jS K c) ls
theorem uZ (K:PySem.W.Frag) (c:Cls):∀ ls,dH K c ls=.bad\/fJ 5 (jS K c) ls=dH K c ls:=fun _=>.inr rfl
theorem aMx (K:PySem.W.Frag) (c:Cls) (A:Option L) (ths:List Pl) (bits:Int) (acc:List D) (ha:acc.length<=1000) {p:Pl} (gp:GN 100 15 p.2.2):∃ (os:List Pl),(∀ qs us,LK ths qs us->LK ths (p :: qs) (os++us))/\os.length<=1/\fB K c [A,some (.p (.list (ths.map plD))),some (.p (.int bits)),some (.o (.list acc)),some (.p (plD p))]=some (.nx [A,some (.p (.list (ths.map plD))),some (.p (.int (bits.fdiv 3))),some (.o (.list (acc++os.map plD))),some (.p (plD p))]):=by
 have n3:(3:Int)≠0:=by decide
 have n7:(7:Int)≠0:=by decide
 have nm:(1009:Int)≠0:=by decide
 have d3:iG bits 3:=cdl (by decide) (by decide)
 have f1:=bX (a:=bits) (b:=1009) (by decide)
 have f2:=bX (a:=bits) (b:=7) (by decide)
 have e2:∀ L,(aE bO (aD 2) (mC (.int 3))) [A,some (.p (.list (ths.map plD))),some (.p (.int bits)),some (.o (.list L)),some (.p (plD p))]=.ok (.p (.int (bits.fdiv 3))):=fun L=>bA rfl rfl (fH d3)
 have fin:∀ L,(dN (a9 (aE (aE2 false) (aD 4) (aD 1))) (gG 3 (aD 4)) (dN (a9 (aE (eqE false) (aE bY (aD 2) (mC (.int 3))) (mC (.int 0)))) (gG 3 (aH a7 (aA (aE ixE (aD 4) (mC (.int 0))) (aA (aE ixE (aD 4) (mC (.int 1))) (aA (aJ 2 (bK K c) (aA (aE ixE (aD 4) (mC (.int 2))) (aA (aH a7 (aA (aE jJ (mUn nA (mC (.int 1))) (aE bY (aD 2) (mC (.int 1009)))) (aA (aE dX (mC (.int 1)) (aE bY (aD 2) (mC (.int 7)))) aL))) aL))) aL))))) (dN (a9 (aE (eqE false) (aE bY (aD 2) (mC (.int 3))) (mC (.int 1)))) (gG 3 (aD 4)) bS))) [A,some (.p (.list (ths.map plD))),some (.p (.int bits)),some (.o (.list acc)),some (.p (plD p))]=some (.nx [A,some (.p (.list (ths.map plD))),some (.p (.int bits)),some (.o (.list L)),some (.p (plD p))])->fB K c [A,some (.p (.list (ths.map plD))),some (.p (.int bits)),some (.o (.list acc)),some (.p (plD p))]=some (.nx [A,some (.p (.list (ths.map plD))),some (.p (.int (bits.fdiv 3))),some (.o (.list L)),some (.p (plD p))]):=fun L h=>by
  unfold fB
  exact (aR h).trans (dA (e2 L))
 have t1:a9 (aE (aE2 false) (aD 4) (aD 1)) [A,some (.p (.list (ths.map plD))),some (.p (.int bits)),some (.o (.list acc)),some (.p (plD p))]=.ok (decide (p∈ths)):=jR (bA rfl rfl (aOq p ths))
 have keep:gG 3 (aD 4) [A,some (.p (.list (ths.map plD))),some (.p (.int bits)),some (.o (.list acc)),some (.p (plD p))]=some (.nx [A,some (.p (.list (ths.map plD))),some (.p (.int bits)),some (.o (.list (acc++[p].map plD))),some (.p (plD p))]):=aGt (i:=3) rfl (.inr rfl) (by omega)
 by_cases c1:p∈ths
 ·rw [decide_eq_true c1] at t1
  exact ⟨[p],fun qs us k=>.keep k,Nat.le_refl _,fin _ ((k8 t1).trans keep)⟩
 rw [decide_eq_false c1] at t1
 have t2:a9 (aE (eqE false) (aE bY (aD 2) (mC (.int 3))) (mC (.int 0))) [A,some (.p (.list (ths.map plD))),some (.p (.int bits)),some (.o (.list acc)),some (.p (plD p))]=.ok (bits.fmod 3 == 0):=jR (bA (bA rfl rfl (dM n3)) rfl wJ)
 have t3:a9 (aE (eqE false) (aE bY (aD 2) (mC (.int 3))) (mC (.int 1))) [A,some (.p (.list (ths.map plD))),some (.p (.int bits)),some (.o (.list acc)),some (.p (plD p))]=.ok (bits.fmod 3 == 1):=jR (bA (bA rfl rfl (dM n3)) rfl wJ)
 cases c2:(bits.fmod 3 == 0) with
 | true =>
  rw [c2] at t2
  have y0:(1:Int)<=1+bits.fmod 7:=by omega
  have yt:Sz 11 (-1 - bits.fmod 1009):=by unfold Sz;omega
  have ys:Sz 3 (1+bits.fmod 7):=by unfold Sz;omega
  have ls:=sP K c (x:=p.2.2) (y:=(-1 - bits.fmod 1009,1+bits.fmod 7)) (gp.good (by decide) (by decide)) ⟨y0,yt.mono (by decide),ys.mono (by decide)⟩ (Nat.le_refl _) (Nat.le_refl _)
  have go:=(aP5 (y:=(-1 - bits.fmod 1009,1+bits.fmod 7)) gp.p gp.t gp.s y0 yt ys).mono (a':=120) (b':=20) (by decide) (by decide)
  have hl:=aKf (y:=(-1 - bits.fmod 1009,1+bits.fmod 7)) gp.p y0 (by show -1 - bits.fmod 1009 < 0;omega)
  have ng:(mUn nA (mC (.int 1))) [A,some (.p (.list (ths.map plD))),some (.p (.int bits)),some (.o (.list acc)),some (.p (plD p))]=.ok (.p (.int (-1))):=rfl
  have ev:(aH a7 (aA (aE ixE (aD 4) (mC (.int 0))) (aA (aE ixE (aD 4) (mC (.int 1))) (aA (aJ 2 (bK K c) (aA (aE ixE (aD 4) (mC (.int 2))) (aA (aH a7 (aA (aE jJ (mUn nA (mC (.int 1))) (aE bY (aD 2) (mC (.int 1009)))) (aA (aE dX (mC (.int 1)) (aE bY (aD 2) (mC (.int 7)))) aL))) aL))) aL)))) [A,some (.p (.list (ths.map plD))),some (.p (.int bits)),some (.o (.list acc)),some (.p (plD p))]=.ok (.p (plD (p.1,p.2.1,hP p.2.2 (-1 - bits.fmod 1009,1+bits.fmod 7)))):=aP6 (bA rfl rfl (jO p)) (bA rfl rfl (j7 p)) (dW (bA rfl rfl (jL p)) (aLg (bA ng (bA rfl rfl (dM nm)) (aDi _ _)) (bA rfl (bA rfl rfl (dM n7)) (kW _ _))) ls)
  exact ⟨[(p.1,p.2.1,hP p.2.2 (-1 - bits.fmod 1009,1+bits.fmod 7))],fun qs us k=>.low c1 rfl rfl go hl k,Nat.le_refl _,fin _ ((jB t1).trans ((k8 t2).trans (aGt (i:=3) rfl (.inr ev) (by omega))))⟩
 | false =>
  rw [c2] at t2
  cases c3:(bits.fmod 3 == 1) with
  | true =>
   rw [c3] at t3
   exact ⟨[p],fun qs us k=>.keep k,Nat.le_refl _,fin _ ((jB t1).trans ((jB t2).trans ((k8 t3).trans keep)))⟩
  | false =>
   rw [c3] at t3
   refine ⟨[],fun qs us k=>.drop c1 k,Nat.zero_le _,fin _ ?_⟩
   rw [List.map_nil,List.append_nil]
   exact (jB t1).trans ((jB t2).trans ((jB t3).trans rfl))
theorem aCg (K:PySem.W.Frag) (c:Cls) (A:Option L) (ths:List Pl):∀ (qs:List Pl) (bits:Int) (acc:List D) (r4:Option L),acc.length+qs.length<=1000->(∀ p∈qs,GN 100 15 p.2.2)->∃ os b' q4,LK ths qs os/\fM (aM 4) (fB K c) (qs.map plD) [A,some (.p (.list (ths.map plD))),some (.p (.int bits)),some (.o (.list acc)),r4]=some (.nx [A,some (.p (.list (ths.map plD))),some (.p (.int b')),some (.o (.list (acc++os.map plD))),q4])
 | [],bits,acc,r4,_,_=>⟨[],bits,r4,.nil,by rw [List.map_nil,List.append_nil];rfl⟩
 | p :: qs,bits,acc,r4,hl,hg=>by
  rw [List.length_cons] at hl
  obtain ⟨o1,k1,l1,hb⟩:=aMx K c A ths bits acc (by omega) (hg p (.head _))
  obtain ⟨o2,b',q4,k2,ih⟩:=aCg K c A ths qs (bits.fdiv 3) (acc++o1.map plD) (some (.p (plD p))) (by rw [List.length_append,List.length_map];omega) (fun q hq=>hg q (.tail _ hq))
  refine ⟨o1++o2,b',q4,k1 _ _ k2,?_⟩
  rw [List.map_append,<- List.append_assoc]
  exact (aCw rfl hb).trans ih
theorem aH1 (K:PySem.W.Frag) (c:Cls) {ps ths:List Pl} (hl:ps.length<=1000) (hg:∀ p∈ps,GN 100 15 p.2.2) (bits:Int):∃ os,LK ths ps os/\dH K c [.p (.list (ps.map plD)),.p (.list (ths.map plD)),.p (.int bits)]=.ok (.o (.list (os.map plD))):=by
 obtain ⟨os,b',q4,k,h⟩:=aCg K c (some (.p (.list (ps.map plD)))) ths ps bits [] none (by rw [List.length_nil];omega) hg
 refine ⟨os,k,?_⟩
 unfold dH
 refine cF ?_
 rw [show bQ 5 [.p (.list (ps.map plD)),.p (.list (ths.map plD)),.p (.int bits)]=[some (.p (.list (ps.map plD))),some (.p (.list (ths.map plD))),some (.p (.int bits)),none,none] from rfl]
 unfold jS
 refine (aR (iH (d:=.list []) rfl)).trans ((aR ((nN (ds:=ps.map plD) rfl).trans h)).trans ?_)
 rfl
theorem aPa (x:Int×Int):eqE true (.p (frD x)) (.p (frD x))=.ok (.p (.bool false)):=by
 simp [eqE,dat,frD,SeqAt.shaped,PyData.canLay0,PyData.canLayAll0,PyData.depth,PyData.depthAll,PyData.eqv,PyData.eqvAll]
theorem aG5 (ds es:List D) (h:ds.length+es.length<=100000):dX (.p (.list ds)) (.p (.list es))=.ok (.f (.list (ds++es))):=by
 unfold dX
 dsimp only [jX]
 rw [if_pos h]
theorem aKp {n:Nat} {i:Int} (h0:0<=i) (h1:i < n):ixN n i=some i.toNat:=by
 unfold ixN
 rw [if_pos h0,if_pos h1]
theorem aLm {f g:En->Res Ev} {en:En} {a b:D} (h1:f en=.ok (.p a)) (h2:g en=.ok (.f b)):aH a7 (aA f (aA g aL)) en=.ok (.p (.tuple [a,b])):=by
 ktr_call 3 ⟨aH,aA,aL,h1,h2,a7,jM,Res.bind,Ev.c⟩
theorem aN7 {v:Int} (h:0<=v/\v < PR):0<=v/\Sz 200 v:=⟨h.1,by
 have:Sz 100 v:=by
  unfold PR at h
  unfold Sz
  omega
 exact this.mono (by decide)⟩
theorem rep0 {j:Int} (h:-1000<=j) (h2:j<=1000):aG9 (.p (.list [.int 0])) (.p (.int j))=.ok (.f (.list ((List.replicate j.toNat (0:Int)).map .int))):=by
 unfold aG9
 dsimp only [jX]
 rw [if_pos ⟨by decide,h,h2⟩,List.flatten_replicate_singleton,List.map_replicate]
theorem p60:aHg 10 60:=⟨by decide,by decide,by decide⟩
theorem w60:(10:Int) ^ Int.toNat 60=1000000000000000000000000000000000000000000000000000000000000:=by decide
theorem aQb (en:En):aE k9 (mC (.int 10)) (mC (.int 60)) en=.ok (.p (.int 1000000000000000000000000000000000000000000000000000000000000)):=bA (x:=.p (.int 10)) (y:=.p (.int 60)) rfl rfl (by show k9 (.p (.int 10)) (.p (.int 60))=_;rw [mT p60,w60])
noncomputable def gA (K:PySem.W.Frag) (c:Cls):En->Res Ev:=(aE bY (aD 0) (aE k9 (mC (.int 10)) (mC (.int 60))))
noncomputable def g6 (K:PySem.W.Frag) (c:Cls):MS:=(bB (dN (mOr (a9 (aE (eqE false) (aH gB (aA (aD 0) aL)) (mC (.int 0)))) (a9 (aE (eqE false) (aE bY (aE ixE (aD 0) (mC (.int 0))) (mC (.int 2))) (mC (.int 0))))) (dE (aH a7 (aA (mC (.bool false)) (aA (aJ 1 (cY K c) (aA (aD 0) aL)) aL)))) bS) (bB (bU 1 (dC 1 [] (fF (aD 0)) (aM 0) fL (gA K c))) (bB (aD1 1 (mC (.int 0)) (aE bO (aE ixE (aD 1) (mC (.int 0))) (mC (.int 2)))) (fun en=>(dE (aH a7 (aA (mC (.bool true)) (aA (aE dX (aD 1) (aE aG9 (aH j9 (aA (mC (.int 0)) aL)) (aE jJ (mC (.int 7)) (aH gB (aA (aD 1) aL))))) aL)))) (frz 1 en)))))
noncomputable def cO (K:PySem.W.Frag) (c:Cls) (ls:List L):Res L:=fJ 2 (g6 K c) ls
theorem sD (K:PySem.W.Frag) (c:Cls):∀ ls,cO K c ls=.bad\/fJ 2 (g6 K c) ls=cO K c ls:=fun _=>.inr rfl
theorem aFy (K:PySem.W.Frag) (c:Cls) (ns:List Int) (hn:ns.length<=63):∃ (own:Bool) (vs:List Int),vs.length<=100/\(∀ v∈vs,0<=v/\Sz 200 v)/\cO K c [.p (.list (ns.map .int))]=.ok (.p (.tuple [.bool own,.list (vs.map .int)])):=by
 have n2:(2:Int)≠0:=by decide
 have n60:(1000000000000000000000000000000000000000000000000000000000000:Int)≠0:=by decide
 have ln:∀ xs:List Int,gB [.p (.list (xs.map .int))]=.ok (.p (.int (xs.length:Nat))):=fun xs=>by simp [gB,gC]
 obtain ⟨sv,s1,s2,s3⟩:=aIb K c ns hn
 have stir:∀ {t:En->Res Bool},t [some (.p (.list (ns.map .int))),none]=.ok true->(∀ en,(mOr (a9 (aE (eqE false) (aH gB (aA (aD 0) aL)) (mC (.int 0)))) (a9 (aE (eqE false) (aE bY (aE ixE (aD 0) (mC (.int 0))) (mC (.int 2))) (mC (.int 0))))) en=t en)->∃ (own:Bool) (vs:List Int),vs.length<=100/\(∀ v∈vs,0<=v/\Sz 200 v)/\cO K c [.p (.list (ns.map .int))]=.ok (.p (.tuple [.bool own,.list (vs.map .int)])):=fun h he=>by
  refine ⟨false,sv,s1,fun v hv=>aN7 (s2 v hv),?_⟩
  unfold cO
  refine cF ?_
  rw [show bQ 2 [.p (.list (ns.map .int))]=[some (.p (.list (ns.map .int))),none] from rfl]
  unfold g6
  have hr:=(k8 (f:=dE (aH a7 (aA (mC (.bool false)) (aA (aJ 1 (cY K c) (aA (aD 0) aL)) aL)))) (g:=bS) ((he _).trans h)).trans (hV (aLm rfl (aHe rfl s3)))
  unfold bB
  rw [hr]
 have t1:a9 (aE (eqE false) (aH gB (aA (aD 0) aL)) (mC (.int 0))) [some (.p (.list (ns.map .int))),none]=.ok ((ns.length:Int) == 0):=jR (bA (nP rfl (ln ns)) rfl wJ)
 cases ns with
 | nil=>exact stir (aPp t1) fun _=>rfl
 | cons n r =>
  have b1:(((n :: r).length:Int) == 0)=false:=by
   rw [List.length_cons]
   exact beq_false_of_ne (by omega)
  rw [b1] at t1
  have i0:ixE (.p (.list ((n :: r).map .int))) (.p (.int 0))=.ok (.p (.int n)):=by simp [ixE,gC,at0]
  have t2:a9 (aE (eqE false) (aE bY (aE ixE (aD 0) (mC (.int 0))) (mC (.int 2))) (mC (.int 0))) [some (.p (.list ((n :: r).map .int))),none]=.ok (n.fmod 2 == 0):=jR (bA (bA (bA rfl rfl i0) rfl (dM n2)) rfl wJ)
  cases c2:(n.fmod 2 == 0) with
  | true =>
   rw [c2] at t2
   exact stir (aNh t1 t2) fun _=>rfl
  | false =>
  rw [c2] at t2
  have hz:∀ x:Int,0<=x.fmod 1000000000000000000000000000000000000000000000000000000000000/\Sz 200 (x.fmod 1000000000000000000000000000000000000000000000000000000000000):=fun x=>by
   have:=bX (a:=x) (b:=1000000000000000000000000000000000000000000000000000000000000) (by decide)
   exact ⟨this.1,by unfold Sz;omega⟩
  generalize hM:(1000000000000000000000000000000000000000000000000000000000000:Int)=M at *
  have hmap:∀ en,mQ (a5 1 [] (aM 0) fL (gA K c) en) ((n :: r).map .int)=some (((n :: r).map fun x=>x.fmod M).map .int):=fun en=>by
   rw [List.map_map]
   refine eC _ fun x _=>?_
   have:gA K c [some (.p (.int x))]=.ok (.p (.int (x.fmod M))):=bA (y:=.p (.int M)) rfl (by rw [<- hM];exact aQb _) (dM n60)
   unfold a5
   ktr_call 3 ⟨aM,fL,lP,List.replicate,List.append_nil,this,Ev.c⟩
   try rfl
  have cm:dC 1 [] (fF (aD 0)) (aM 0) fL (gA K c) [some (.p (.list ((n :: r).map .int))),none]=.ok (.f (.list (((n :: r).map fun x=>x.fmod M).map .int))):=gE (ds:=(n :: r).map .int) rfl (by rw [List.length_map];omega) (hmap _)
  have hn':(((n :: r).map fun x=>x.fmod M).map PyData.int).length<=63:=by rw [List.length_map,List.length_map];exact hn
  have gm:∀ v∈(n :: r).map (fun x=>x.fmod M),0<=v/\Sz 200 v:=fun v hv=>by
   obtain ⟨x,_,rfl⟩:=List.mem_map.mp hv
   exact hz x
  generalize hg:(n :: r).map (fun x=>x.fmod M)=full at cm gm hn'
  obtain ⟨m,ms,rfl⟩:∃ m ms,full=m :: ms:=⟨_,_,hg.symm⟩
  have lm:ms.length<=62:=by
   rw [List.length_map,List.length_cons] at hn'
   omega
  have d2:iG m 2:=cdl (by decide) (by decide)
  have j0:ixE (.b (.list ((m :: ms).map .int))) (.p (.int 0))=.ok (.p (.int m)):=by simp [ixE,gC,at0]
  have lp:aD1 1 (mC (.int 0)) (aE bO (aE ixE (aD 1) (mC (.int 0))) (mC (.int 2))) [some (.p (.list ((n :: r).map .int))),some (.o (.list ((m :: ms).map .int)))]=some (.nx [some (.p (.list ((n :: r).map .int))),some (.o (.list ((m.fdiv 2 :: ms).map .int)))]):=by
   have ev:aE bO (aE ixE (aD 1) (mC (.int 0))) (mC (.int 2)) [some (.p (.list ((n :: r).map .int))),some (.o (.list ((m :: ms).map .int)))]=.ok (.p (.int (m.fdiv 2))):=bA (bA rfl rfl j0) rfl (fH d2)
   unfold aD1
   rw [ev]
   have x0:ixN ((m :: ms).map PyData.int).length 0=some 0:=by
    rw [List.length_map,List.length_cons]
    exact aKp (i:=0) (by omega) (by omega)
   simp only [List.getElem?_cons_zero,List.getElem?_cons_succ,mC,Ev.c,x0,List.set_cons_succ,List.set_cons_zero]
   rfl
  have g0:=gm m (.head _)
  have gd:0<=m.fdiv 2/\Sz 200 (m.fdiv 2):=⟨by rw [Int.fdiv_eq_ediv_of_nonneg _ (by decide)];have:=g0.1;omega,Sz.le g0.2 (natAbs_fdiv_le _ _)⟩
  refine ⟨true,(m.fdiv 2 :: ms)++List.replicate (7 - ((m.fdiv 2 :: ms).length:Int)).toNat 0,?_,fun v hv=>?_,?_⟩
  ·rw [List.length_append,List.length_replicate,List.length_cons]
   omega
  ·rcases List.mem_append.mp hv with z | z
   ·rcases List.mem_cons.mp z with z | z
    ·rw [z];exact gd
    ·exact gm v (.tail _ z)
   ·rw [(List.mem_replicate.mp z).2]
    exact ⟨Int.le_refl _,by unfold Sz;decide⟩
  ·have hl:((m.fdiv 2 :: ms).length:Int)<=63:=by rw [List.length_cons];omega
   generalize m.fdiv 2 :: ms=ws at lp hl
   have fin:(aH a7 (aA (mC (.bool true)) (aA (aE dX (aD 1) (aE aG9 (aH j9 (aA (mC (.int 0)) aL)) (aE jJ (mC (.int 7)) (aH gB (aA (aD 1) aL))))) aL))) [some (.p (.list ((n :: r).map .int))),some (.p (.list (ws.map .int)))]=.ok (.p (.tuple [.bool true,.list ((ws++List.replicate (7 - (ws.length:Int)).toNat 0).map .int)])):=by
    rw [List.map_append]
    exact aLm rfl (bA rfl (bA (x:=.f (.list [.int 0])) rfl (bA rfl (nP rfl (ln ws)) (aDi _ _)) (rep0 (by omega) (by omega))) (aG5 _ _ (by rw [List.length_map,List.length_map,List.length_replicate];omega)))
   unfold cO
   refine cF ?_
   rw [show bQ 2 [.p (.list ((n :: r).map .int))]=[some (.p (.list ((n :: r).map .int))),none] from rfl]
   unfold g6
   refine (aR ((jB (aNh t1 t2)).trans rfl)).trans ((aR (iH cm)).trans ((aR lp).trans ?_))
   exact hV fin
noncomputable def i9 (K:PySem.W.Frag) (c:Cls):MS:=(dN (a9 (aE (eqE true) (aJ 2 (aU K c) (aA (aD 0) (aA (aD 3) aL))) (aJ 2 (aU K c) (aA (aD 1) (aA (aD 3) aL))))) (dE (mC (.bool false))) bS)
noncomputable def fZ (K:PySem.W.Frag) (c:Cls):MS:=(bB (vN (fF (aD 2)) (aM 3) (i9 K c)) (dE (mC (.bool true))))
noncomputable def bJ (K:PySem.W.Frag) (c:Cls) (ls:List L):Res L:=fJ 4 (fZ K c) ls
theorem n5 (K:PySem.W.Frag) (c:Cls):∀ ls,bJ K c ls=.bad\/fJ 4 (fZ K c) ls=bJ K c ls:=fun _=>.inr rfl
theorem x9 (K:PySem.W.Frag) (c:Cls) {ps qs:List Pl} (h0:ps≠[]) (k0:qs≠[]) (hl:ps.length<=1000) (kl:qs.length<=1000) (C:Option L):∀ (ts:List Pt) (r:Option L),(∀ t∈ts,(∀ q∈ps,lT q t)/\(∀ q∈qs,lT q t)/\lI ps t=lI qs t)->∃ q,fM (aM 3) (i9 K c) (ts.map fun t=>.tuple [frD t.1,frD t.2]) [some (.p (.list (ps.map plD))),some (.p (.list (qs.map plD))),C,r]=some (.nx [some (.p (.list (ps.map plD))),some (.p (.list (qs.map plD))),C,q])
 | [],r,_=>⟨r,rfl⟩
 | t :: ts,r,h=>by
  obtain ⟨g1,g2,e⟩:=h t (.head _)
  have l1:=aFu K c h0 hl g1
  have l2:=aFu K c k0 kl g2
  rw [<- e] at l2
  obtain ⟨q,ih⟩:=x9 K c h0 k0 hl kl C ts (some (.p (.tuple [frD t.1,frD t.2]))) fun u hu=>h u (.tail _ hu)
  refine ⟨q,(aCw rfl (jB (jR (bA (dW rfl rfl l1) (dW rfl rfl l2) (aPa _))))).trans ?_⟩
  exact ih
theorem aGg (K:PySem.W.Frag) (c:Cls) {ps qs:List Pl} (h0:ps≠[]) (k0:qs≠[]) (hl:ps.length<=1000) (kl:qs.length<=1000) (ts:List Pt) (h:∀ t∈ts,(∀ q∈ps,lT q t)/\(∀ q∈qs,lT q t)/\lI ps t=lI qs t):bJ K c [.p (.list (ps.map plD)),.p (.list (qs.map plD)),.p (.list (ts.map fun t=>.tuple [frD t.1,frD t.2]))]=.ok (.p (.bool true)):=by
 obtain ⟨q,hb⟩:=x9 K c h0 k0 hl kl (some (.p (.list (ts.map fun t=>.tuple [frD t.1,frD t.2])))) ts none h
 unfold bJ
 refine cF ?_
 rw [show bQ 4 [.p (.list (ps.map plD)),.p (.list (qs.map plD)),.p (.list (ts.map fun t=>.tuple [frD t.1,frD t.2]))]=[some (.p (.list (ps.map plD))),some (.p (.list (qs.map plD))),some (.p (.list (ts.map fun t=>.tuple [frD t.1,frD t.2]))),none] from rfl]
 unfold fZ
 exact (aR ((nN (ds:=ts.map fun t=>.tuple [frD t.1,frD t.2]) rfl).trans hb)).trans rfl
theorem RO.pg {ps:List Pl} (h:RO 120 20 ps):∀ p∈ps,PG p:=fun p hp=>by
 obtain ⟨⟨a1,a2,a3,a4⟩,g⟩:=h.g p hp
 unfold slp at a1 a2 a3 a4
 dsimp only at a1 a2 a3 a4
 exact ⟨by unfold Sz;omega,by unfold Sz;omega,g.p,g.t.mono (by decide),g.s⟩
theorem RO.gpb {ps:List Pl} (h:RO 120 20 ps):∀ p∈ps,GPB p:=fun p hp=>by
 obtain ⟨⟨a1,a2,a3,a4⟩,g⟩:=h.g p hp
 exact ⟨a1,a2,a3,a4,g.p,g.t,g.s,g.f⟩
theorem RO.mono {a b a' b':Nat} {ps:List Pl} (h:RO a b ps) (ha:a<=a') (hb:b<=b'):RO a' b' ps:=⟨h.n,h.s,fun p hp=>⟨(h.g p hp).1,(h.g p hp).2.mono ha hb⟩⟩
theorem RO.rf {ps:List Pl} (h:RO 120 20 ps) (hl:ps.length<=22) {G:Int} (d:∀ p∈ps,p.2.2.2∣G):Rf G ps:=⟨h.n,hl,h.pg,fun p hp=>⟨(h.gpb p hp).i0,(h.gpb p hp).i1,(h.gpb p hp).j0,(h.gpb p hp).j1,(h.gpb p hp).f,d p hp⟩,aM0 h.s⟩
theorem aHj {ps qs:List Pl} (h:RO 120 20 ps) (k:RO 120 20 qs) (hl:ps.length<=11) (kl:qs.length<=11):∃ G,1<=G/\Rf G ps/\Rf G qs:=by
 obtain ⟨w1,w2,_⟩:=qQ (ps:=ps++qs) (by rw [List.length_append];omega) fun p hp=>(List.mem_append.mp hp).elim (h.pg p) (k.pg p)
 exact ⟨wf (ps++qs),w1,h.rf (by omega) fun p hp=>w2 p (List.mem_append_left _ hp),k.rf (by omega) fun p hp=>w2 p (List.mem_append_right _ hp)⟩
theorem aD6 {ps os:List Pl} (h:RO 100 15 ps) (hl:ps.length<=11) (k:LK (thn ps) ps os):RO 120 20 os/\thn os=thn ps/\∀ pt,Pp pt->lI ps pt=lI os pt:=by
 have h':=h.mono (a':=120) (b':=20) (by decide) (by decide)
 have hos:RO 120 20 os:=by
  refine ⟨fun z=>?_,k.srt h.s,fun o ho=>?_⟩
  ·obtain ⟨w1,w2,_⟩:=qQ (ps:=ps) (by omega) h'.pg
   have r:=h'.rf (by omega) w2
   obtain ⟨p,hp⟩:=List.exists_mem_of_ne_nil _ (aAq w1 r)
   have:=k.has p (sC hp) hp
   rw [z] at this
   cases this
  ·obtain ⟨p,hp,e | ⟨i,j,g,_⟩⟩:=k.of o ho
   ·rw [e];exact h'.g p hp
   ·refine ⟨?_,g⟩
    have:=(h'.g p hp).1
    unfold aHn slp at this ⊢
    rw [i,j]
    exact this
 have kl:=k.len
 obtain ⟨G,g1,r1,r2⟩:=aHj h' hos hl (by omega)
 obtain ⟨d1,d2⟩:=aEg g1 r1 (fun p hp=>k.has p (sC hp) hp) fun o ho=>by
  obtain ⟨p,hp,e | ⟨i,j,g,l⟩⟩:=k.of o ho
  ·exact ⟨p,hp,by rw [e],by rw [e],by rw [e];exact Int.le_refl _⟩
  ·exact ⟨p,hp,i,j,Int.le_of_lt (aI2 g1 (r2.c o ho).f (r1.c p hp).f (r2.c o ho).d (r1.c p hp).d l)⟩
 exact ⟨hos,(aMi g1 r1 r2 h.s hos.s d1 d2).symm,fun pt g=>aCn g1 r1.n r2.n r1.c r2.c g d1 d2⟩
theorem aGr {p o:Pl} (i:o.1=p.1) (j:o.2.1=p.2.1) (q:Pl):(swp p o q).1=q.1/\(swp p o q).2.1=q.2.1:=by
 unfold swp
 split
 ·rename_i z;rw [z];exact ⟨i,j⟩
 ·exact ⟨rfl,rfl⟩
theorem wM {ps:List Pl} (h:RO 100 15 ps) (hl:ps.length<=11) {p:Pl} (hp:p∈ps) (s:stays ps p=true) {u:Int×Int} (u0:1<=u.2) (ut:Sz 31 u.1) (us:Sz 4 u.2):RO 120 20 (ps.map (swp p (p.1,p.2.1,hP p.2.2 u)))/\GPt (iY ps p)/\Pp (iY ps p)/\(0 < u.1->thn (ps.map (swp p (p.1,p.2.1,hP p.2.2 u)))≠thn ps/\ltF (lI ps (iY ps p)) (lI (ps.map (swp p (p.1,p.2.1,hP p.2.2 u))) (iY ps p))=true)/\(u.1 < 0->thn (ps.map (swp p (p.1,p.2.1,hP p.2.2 u)))≠thn ps/\ltF (lI (ps.map (swp p (p.1,p.2.1,hP p.2.2 u))) (iY ps p)) (lI ps (iY ps p))=true):=by
 have h':=h.mono (a':=120) (b':=20) (by decide) (by decide)
 obtain ⟨gb,gp⟩:=h.g p hp
 have go:=(aP5 gp.p gp.t gp.s u0 ut us).mono (a':=120) (b':=20) (by decide) (by decide)
 have hr:RO 120 20 (ps.map (swp p (p.1,p.2.1,hP p.2.2 u))):=by
  refine ⟨fun z=>h.n (List.map_eq_nil_iff.mp z),List.pairwise_map.mpr (h.s.imp fun {a b} w=>?_),fun r hr=>?_⟩
  ·obtain ⟨a1,a2⟩:=aGr (p:=p) (o:=(p.1,p.2.1,hP p.2.2 u)) rfl rfl a
   obtain ⟨b1,b2⟩:=aGr (p:=p) (o:=(p.1,p.2.1,hP p.2.2 u)) rfl rfl b
   unfold slt at w ⊢
   rw [a1,a2,b1,b2]
   exact w
  ·obtain ⟨q,hq,rfl⟩:=List.mem_map.mp hr
   unfold swp
   split
   ·exact ⟨gb,go⟩
   ·exact h'.g q hq
 obtain ⟨G,g1,r1,r2⟩:=aHj h' hr hl (by rw [List.length_map];exact hl)
 obtain ⟨gt,pp,_⟩:=tR g1 r1 hp s
 have oc:=r2.c (p.1,p.2.1,hP p.2.2 u) (List.mem_map.mpr ⟨p,hp,by unfold swp;rw [if_pos rfl]⟩)
 have pc:=r1.c p hp
 refine ⟨hr,gt,pp,fun z=>?_,fun z=>?_⟩
 ·have l:=aO5 g1 r1 hp s r2 rfl rfl (aI2 g1 pc.f oc.f pc.d oc.d (aOm gp.p u0 z))
  exact ⟨(aEb g1 r1 r2 pp l).symm,l⟩
 ·have l:=aI5 g1 r1 hp s r2 rfl rfl (aI2 g1 oc.f pc.f oc.d pc.d (aKf gp.p u0 z))
  exact ⟨aEb g1 r2 r1 pp l,l⟩
theorem aD7:∀ ps qs:List Pl,PyData.eqvAll (ps.map plD) (qs.map plD)=decide (ps=qs)
 | [],[]=>by simp [PyData.eqvAll]
 | [],_ :: _=>by simp [PyData.eqvAll]
 | _ :: _,[]=>by simp [PyData.eqvAll]
 | p :: ps,q :: qs=>by
  simp only [List.map_cons,PyData.eqvAll,aAu,aD7 ps qs,List.cons.injEq]
  by_cases h1:p=q<;>by_cases h2:ps=qs<;>simp [h1,h2]
theorem aHl (ng:Bool) (ps qs:List Pl):eqE ng (.p (.list (ps.map plD))) (.p (.list (qs.map plD)))=.ok (.p (.bool (if ng then !decide (ps=qs) else decide (ps=qs)))):=by
 unfold eqE
 dsimp only [dat]
 rw [if_pos ⟨aB1 ps,aB1 qs⟩]
 simp only [PyData.eqv,aD7]
theorem aLz (xs:List Pl):vI (.o (.list (xs.map plD)))=true:=by unfold vI;exact aDs plD aNm _
theorem uU {i:Nat} {f:MS} {en e1:En} {o:Option Out} (h:frz i en=e1) (k:f e1=o):f (frz i en)=o:=by rw [h];exact k
theorem aKi (vs:List Int) (a b:Nat):∃ cs:List Int,M.cutD (vs.map .int) (some (a:Int)) (some (b:Int))=cs.map .int/\(∀ x∈cs,x∈vs)/\cs.length<=b - a:=by
 refine ⟨(vs.drop (HT.sIx vs.length 0 (some (a:Int)))).take (HT.sIx vs.length vs.length (some (b:Int)) - HT.sIx vs.length 0 (some (a:Int))),?_,fun x hx=>List.mem_of_mem_drop (List.mem_of_mem_take hx),?_⟩
 ·unfold M.cutD
  rw [List.length_map,List.map_take,List.map_drop]
 ·rw [List.length_take,List.length_drop,HT.aBm,HT.aBm]
  omega
theorem sI {vs:List Int} (h:∀ v∈vs,0<=v/\Sz 200 v) (k:Nat):0<=vs.getD k 0/\Sz 200 (vs.getD k 0):=by
 by_cases hk:k < vs.length
 ·exact h _ (getD_mem vs 0 hk)
 ·have:vs.getD k 0=0:=by simp [List.getD,Nat.le_of_not_lt hk]
  rw [this]
  exact ⟨by decide,by unfold Sz;decide⟩
theorem aPj {m:Mp} (g:Gm m) (n:fK m≠[]):RO 80 5 (fK m):=⟨n,yV g.1,fun p hp=>by
 have k:=wQ g p hp
 exact ⟨⟨k.i0,k.i1,k.j0,k.j1⟩,k.h.p,k.h.t,k.h.b,k.h.f⟩⟩
noncomputable def i8 (K:PySem.W.Frag) (c:Cls):En->Res Ev:=(mIf (a9 (aE (eqE false) (aD 0) (aD 2))) (aD 1) (aD 0))
noncomputable def mO (K:PySem.W.Frag) (c:Cls):En->Res Ev:=(aE ixE (aD 0) (mC (.int 1)))
noncomputable def oO (K:PySem.W.Frag) (c:Cls):En->Res Ev:=(aE ixE (aD 0) (mC (.int 0)))
noncomputable def aDq (K:PySem.W.Frag) (c:Cls):MS:=(bB (xZ (iR 2 (cQ (aM 1) (cQ (aM 0) iS))) (aJ 1 (cO K c) (aA (aD 0) aL))) (bB (bU 2 (aJ 2 (aG K c) (aA (aD 0) (aA (mC (.int 0)) aL)))) (bB (dN (a9 (aD 1)) (bU 3 (aJ 2 (cK K c) (aA (mSl (aD 0) (mPt (mC (.int 5))) (mPt (aE dX (mC (.int 5)) (aE bY (aD 2) (mC (.int 11)))))) (aA (mC (.int 9)) aL)))) (bB (bU 3 (aJ 4 (cX K c) (aA (aD 2) (aA (mSl (aD 0) (mPt (mC (.int 3))) (mPt (mC (.int 17)))) (aA (mC (.int 5)) (aA (aE ixE (aH a7 (aA (mC (.int 9)) (aA (mC (.int 5)) (aA (mC (.int 3)) aL)))) (aE bY (aE bO (aD 2) (mC (.int 12))) (mC (.int 3)))) aL)))))) (bU 3 (aJ 2 (b5 K c) (aA (aD 3) (aA (aJ 2 (aG K c) (aA (aD 0) (aA (mC (.int 1)) aL))) aL)))))) (fun en=>(bB (bU 4 (aJ 1 (fO K c) (aA (aH listE (aA (aD 3) aL)) aL))) (fun en=>(bB (bU 5 (dC 1 [] (fF (aD 4)) (aM 0) fL (oO K c))) (fun en=>(bB (bU 6 (aJ 3 (dH K c) (aA (aD 3) (aA (aD 5) (aA (aE bY (aJ 2 (aG K c) (aA (aD 0) (aA (mC (.int 2)) aL))) (aE k9 (mC (.int 10)) (mC (.int 12)))) aL))))) (bB (bU 7 (aE dX (dC 1 [] (fF (aD 4)) (aM 0) fL (mO K c)) (aH j9 (aA (aJ 3 (bP K c) (aA (aD 3) (aA (aJ 2 (aG K c) (aA (aD 0) (aA (mC (.int 3)) aL))) (aA (aJ 2 (aG K c) (aA (aD 0) (aA (mC (.int 4)) aL))) aL)))) aL)))) (fun en=>(fun en=>(bB (dN (mOr (a9 (aE (eqE true) (aJ 1 (a8 K c) (aA (aH listE (aA (aD 6) aL)) aL)) (aJ 1 (a8 K c) (aA (aH listE (aA (aD 3) aL)) aL)))) (rA (a9 (aJ 3 (bJ K c) (aA (aD 3) (aA (aD 6) (aA (aD 7) aL))))))) (dE (mC (.bool false))) bS) (bB (bU 8 (aE bY (aE bO (aJ 2 (aG K c) (aA (aD 0) (aA (mC (.int 1)) aL))) (mC (.int 7))) (aH gB (aA (aD 4) aL)))) (bB (xZ (iR 2 (cQ (aM 9) (cQ (aM 10) iS))) (aE ixE (aD 4) (aD 8))) (bB (bU 11 (aJ 2 (aV K c) (aA (aE dX (mC (.int 1)) (aE bY (aJ 2 (aG K c) (aA (aD 0) (aA (mC (.int 2)) aL))) (aE k9 (mC (.int 10)) (mC (.int 9))))) (aA (aE dX (mC (.int 1)) (aE bY (aE bO (aJ 2 (aG K c) (aA (aD 0) (aA (mC (.int 2)) aL))) (mC (.int 11))) (mC (.int 9)))) aL)))) (bB (dN (a9 (aE (eqE false) (aE bY (aJ 2 (aG K c) (aA (aD 0) (aA (mC (.int 2)) aL))) (mC (.int 2))) (mC (.int 1)))) (bU 11 (aH a7 (aA (mUn nA (aE ixE (aD 11) (mC (.int 0)))) (aA (aE ixE (aD 11) (mC (.int 1))) aL)))) bS) (bB (bU 12 (aH a7 (aA (aE ixE (aD 9) (mC (.int 0))) (aA (aE ixE (aD 9) (mC (.int 1))) (aA (aJ 2 (bK K c) (aA (aE ixE (aD 9) (mC (.int 2))) (aA (aD 11) aL))) aL))))) (bB (bU 13 (dC 1 [12,9] (fF (aD 3)) (aM 0) fL (i8 K c))) (fun en=>(bB (dN (a9 (aE (eqE false) (aJ 1 (a8 K c) (aA (aH listE (aA (aD 13) aL)) aL)) (aJ 1 (a8 K c) (aA (aH listE (aA (aD 3) aL)) aL)))) (dE (mC (.bool false))) bS) (bB (dN (a9 (aE gtE (aE ixE (aD 11) (mC (.int 0))) (mC (.int 0)))) (dE (aJ 2 (aX K c) (aA (aJ 2 (aU K c) (aA (aD 3) (aA (aD 10) aL))) (aA (aJ 2 (aU K c) (aA (aD 13) (aA (aD 10) aL))) aL)))) bS) (dE (aJ 2 (aX K c) (aA (aJ 2 (aU K c) (aA (aD 13) (aA (aD 10) aL))) (aA (aJ 2 (aU K c) (aA (aD 3) (aA (aD 10) aL))) aL)))))) (frz 13 en))))))))) (frz 6 en)) (frz 7 en)))) (frz 5 en))) (frz 4 en))) (frz 3 en)))))
noncomputable def zP (K:PySem.W.Frag) (c:Cls) (ls:List L):Res L:=fJ 14 (aDq K c) ls
theorem aL0 (K:PySem.W.Frag) (c:Cls):∀ ls,zP K c ls=.bad\/fJ 14 (aDq K c) ls=zP K c ls:=fun _=>.inr rfl
theorem aO7 (K:PySem.W.Frag) (c:Cls) (ns:List Int) (hn:ns.length<=63):∃ (own:Bool) (vs:List Int) (ps:List Pl),(∀ v∈vs,0<=v/\Sz 200 v)/\RO 100 15 ps/\ps.length<=11/\aDq K c [some (.p (.list (ns.map .int))),none,none,none,none,none,none,none,none,none,none,none,none,none]=(fun en=>(bB (bU 4 (aJ 1 (fO K c) (aA (aH listE (aA (aD 3) aL)) aL))) (fun en=>(bB (bU 5 (dC 1 [] (fF (aD 4)) (aM 0) fL (oO K c))) (fun en=>(bB (bU 6 (aJ 3 (dH K c) (aA (aD 3) (aA (aD 5) (aA (aE bY (aJ 2 (aG K c) (aA (aD 0) (aA (mC (.int 2)) aL))) (aE k9 (mC (.int 10)) (mC (.int 12)))) aL))))) (bB (bU 7 (aE dX (dC 1 [] (fF (aD 4)) (aM 0) fL (mO K c)) (aH j9 (aA (aJ 3 (bP K c) (aA (aD 3) (aA (aJ 2 (aG K c) (aA (aD 0) (aA (mC (.int 3)) aL))) (aA (aJ 2 (aG K c) (aA (aD 0) (aA (mC (.int 4)) aL))) aL)))) aL)))) (fun en=>(fun en=>(bB (dN (mOr (a9 (aE (eqE true) (aJ 1 (a8 K c) (aA (aH listE (aA (aD 6) aL)) aL)) (aJ 1 (a8 K c) (aA (aH listE (aA (aD 3) aL)) aL)))) (rA (a9 (aJ 3 (bJ K c) (aA (aD 3) (aA (aD 6) (aA (aD 7) aL))))))) (dE (mC (.bool false))) bS) (bB (bU 8 (aE bY (aE bO (aJ 2 (aG K c) (aA (aD 0) (aA (mC (.int 1)) aL))) (mC (.int 7))) (aH gB (aA (aD 4) aL)))) (bB (xZ (iR 2 (cQ (aM 9) (cQ (aM 10) iS))) (aE ixE (aD 4) (aD 8))) (bB (bU 11 (aJ 2 (aV K c) (aA (aE dX (mC (.int 1)) (aE bY (aJ 2 (aG K c) (aA (aD 0) (aA (mC (.int 2)) aL))) (aE k9 (mC (.int 10)) (mC (.int 9))))) (aA (aE dX (mC (.int 1)) (aE bY (aE bO (aJ 2 (aG K c) (aA (aD 0) (aA (mC (.int 2)) aL))) (mC (.int 11))) (mC (.int 9)))) aL)))) (bB (dN (a9 (aE (eqE false) (aE bY (aJ 2 (aG K c) (aA (aD 0) (aA (mC (.int 2)) aL))) (mC (.int 2))) (mC (.int 1)))) (bU 11 (aH a7 (aA (mUn nA (aE ixE (aD 11) (mC (.int 0)))) (aA (aE ixE (aD 11) (mC (.int 1))) aL)))) bS) (bB (bU 12 (aH a7 (aA (aE ixE (aD 9) (mC (.int 0))) (aA (aE ixE (aD 9) (mC (.int 1))) (aA (aJ 2 (bK K c) (aA (aE ixE (aD 9) (mC (.int 2))) (aA (aD 11) aL))) aL))))) (bB (bU 13 (dC 1 [12,9] (fF (aD 3)) (aM 0) fL (i8 K c))) (fun en=>(bB (dN (a9 (aE (eqE false) (aJ 1 (a8 K c) (aA (aH listE (aA (aD 13) aL)) aL)) (aJ 1 (a8 K c) (aA (aH listE (aA (aD 3) aL)) aL)))) (dE (mC (.bool false))) bS) (bB (dN (a9 (aE gtE (aE ixE (aD 11) (mC (.int 0))) (mC (.int 0)))) (dE (aJ 2 (aX K c) (aA (aJ 2 (aU K c) (aA (aD 3) (aA (aD 10) aL))) (aA (aJ 2 (aU K c) (aA (aD 13) (aA (aD 10) aL))) aL)))) bS) (dE (aJ 2 (aX K c) (aA (aJ 2 (aU K c) (aA (aD 13) (aA (aD 10) aL))) (aA (aJ 2 (aU K c) (aA (aD 3) (aA (aD 10) aL))) aL)))))) (frz 13 en))))))))) (frz 6 en)) (frz 7 en)))) (frz 5 en))) (frz 4 en))) (frz 3 en)) [some (.p (.list (vs.map .int))),some (.p (.bool own)),some (.p (.int (vs.getD 0 0))),some (.o (.list (ps.map plD))),none,none,none,none,none,none,none,none,none,none]:=by
 obtain ⟨own,vs,_,hv,hc⟩:=aFy K c ns hn
 have c0:aG K c [.p (.list (vs.map .int)),.p (.int 0)]=.ok (.p (.int (vs.getD 0 0))):=sU K c vs 0
 have c1:aG K c [.p (.list (vs.map .int)),.p (.int 1)]=.ok (.p (.int (vs.getD 1 0))):=sU K c vs 1
 have k0:=sI hv 0
 have n11:(11:Int)≠0:=by decide
 have n3:(3:Int)≠0:=by decide
 have s1:(xZ (iR 2 (cQ (aM 1) (cQ (aM 0) iS))) (aJ 1 (cO K c) (aA (aD 0) aL))) [some (.p (.list (ns.map .int))),none,none,none,none,none,none,none,none,none,none,none,none,none]=some (.nx [some (.p (.list (vs.map .int))),some (.p (.bool own)),none,none,none,none,none,none,none,none,none,none,none,none]):=by
  have:(aJ 1 (cO K c) (aA (aD 0) aL)) [some (.p (.list (ns.map .int))),none,none,none,none,none,none,none,none,none,none,none,none,none]=.ok (.p (.tuple [.bool own,.list (vs.map .int)])):=aHe rfl hc
  unfold xZ
  rw [this]
  rfl
 have s2:(bU 2 (aJ 2 (aG K c) (aA (aD 0) (aA (mC (.int 0)) aL)))) [some (.p (.list (vs.map .int))),some (.p (.bool own)),none,none,none,none,none,none,none,none,none,none,none,none]=some (.nx [some (.p (.list (vs.map .int))),some (.p (.bool own)),some (.p (.int (vs.getD 0 0))),none,none,none,none,none,none,none,none,none,none,none]):=dA (dW rfl rfl c0)
 suffices h:∃ ps,RO 100 15 ps/\ps.length<=11/\(dN (a9 (aD 1)) (bU 3 (aJ 2 (cK K c) (aA (mSl (aD 0) (mPt (mC (.int 5))) (mPt (aE dX (mC (.int 5)) (aE bY (aD 2) (mC (.int 11)))))) (aA (mC (.int 9)) aL)))) (bB (bU 3 (aJ 4 (cX K c) (aA (aD 2) (aA (mSl (aD 0) (mPt (mC (.int 3))) (mPt (mC (.int 17)))) (aA (mC (.int 5)) (aA (aE ixE (aH a7 (aA (mC (.int 9)) (aA (mC (.int 5)) (aA (mC (.int 3)) aL)))) (aE bY (aE bO (aD 2) (mC (.int 12))) (mC (.int 3)))) aL)))))) (bU 3 (aJ 2 (b5 K c) (aA (aD 3) (aA (aJ 2 (aG K c) (aA (aD 0) (aA (mC (.int 1)) aL))) aL)))))) [some (.p (.list (vs.map .int))),some (.p (.bool own)),some (.p (.int (vs.getD 0 0))),none,none,none,none,none,none,none,none,none,none,none]=some (.nx [some (.p (.list (vs.map .int))),some (.p (.bool own)),some (.p (.int (vs.getD 0 0))),some (.o (.list (ps.map plD))),none,none,none,none,none,none,none,none,none,none]) by
  obtain ⟨ps,h1,h2,h3⟩:=h
  refine ⟨own,vs,ps,hv,h1,h2,?_⟩
  unfold aDq
  exact (aR s1).trans ((aR s2).trans (aR h3))
 generalize vs.getD 0 0=kd at *
 generalize vs.getD 1 0=w1 at *
 cases own with
 | true =>
  have f1:=bX (a:=kd) (b:=11) (by decide)
  obtain ⟨j,hj⟩:∃ j:Nat,kd.fmod 11=(j:Int):=⟨(kd.fmod 11).toNat,by omega⟩
  obtain ⟨cs,hcs,_,hcl⟩:=aKi vs 5 (5+j)
  obtain ⟨ps,ro,hl,hr⟩:=aM5 K c (w:=9) (by decide) (by decide) cs (by omega)
  have e2:(mSl (aD 0) (mPt (mC (.int 5))) (mPt (aE dX (mC (.int 5)) (aE bY (aD 2) (mC (.int 11)))))) [some (.p (.list (vs.map .int))),some (.p (.bool true)),some (.p (.int kd)),none,none,none,none,none,none,none,none,none,none,none]=.ok (.f (.list (cs.map .int))):=by
   have eb:(aE dX (mC (.int 5)) (aE bY (aD 2) (mC (.int 11)))) [some (.p (.list (vs.map .int))),some (.p (.bool true)),some (.p (.int kd)),none,none,none,none,none,none,none,none,none,none,none]=.ok (.p (.int ((5+j:Nat):Int))):=by
    rw [show ((5+j:Nat):Int)=5+kd.fmod 11 by omega]
    exact bA rfl (bA rfl rfl (dM n11)) (kW _ _)
   have h5:M.cutD (vs.map .int) (some 5) (some ((5+j:Nat):Int))=cs.map .int:=hcs
   ktr_call 3 ⟨mSl,mPt,eb,aD,mC,Res.bind,Ev.c,jX,h5⟩
  refine ⟨ps,ro.mono (by decide) (by decide),by omega,(k8 (jR rfl)).trans (iH (aIv (kK e2 (kK rfl rfl)) rfl rfl hr))⟩
 | false =>
  obtain ⟨cs,hcs,hm,hcl⟩:=aKi vs 3 17
  have f3:=bX (a:=kd.fdiv 12) (b:=3) (by decide)
  have d12:iG kd 12:=cdl (by decide) (by decide)
  obtain ⟨w,w0,w9,hw⟩:∃ w:Int,1<=w/\w<=9/\ixE (.p (.tuple [.int 9,.int 5,.int 3])) (.p (.int ((kd.fdiv 12).fmod 3)))=.ok (.p (.int w)):=by
   rcases (show (kd.fdiv 12).fmod 3=0\/(kd.fdiv 12).fmod 3=1\/(kd.fdiv 12).fmod 3=2 by omega) with z | z | z<;>rw [z]
   ·exact ⟨9,by decide,by decide,rfl⟩
   ·exact ⟨5,by decide,by decide,rfl⟩
   ·exact ⟨3,by decide,by decide,rfl⟩
  obtain ⟨m,gm,mn,ml,hr⟩:=aEj K c (kind:=kd) (w:=w) (mo:=5) k0.2 w0 w9 cs (by omega) fun x hx=>hv x (hm x hx)
  have ro:=aPj gm mn
  have rl:(fK m).length<=10:=by rw [jN];have:=ml.2.1;omega
  obtain ⟨ps,ro2,hl,hx⟩:=aF3 K c ro rl w1
  have e2:(mSl (aD 0) (mPt (mC (.int 3))) (mPt (mC (.int 17)))) [some (.p (.list (vs.map .int))),some (.p (.bool false)),some (.p (.int kd)),none,none,none,none,none,none,none,none,none,none,none]=.ok (.f (.list (cs.map .int))):=by
   have h5:M.cutD (vs.map .int) (some 3) (some 17)=cs.map .int:=hcs
   ktr_call 3 ⟨mSl,mPt,aD,mC,Res.bind,Ev.c,jX,h5⟩
  refine ⟨ps,ro2,by omega,(jB (jR rfl)).trans ?_⟩
  refine (aR (iH (aIv (kK rfl (kK e2 (kK rfl (kK (bA (x:=.p (.tuple [.int 9,.int 5,.int 3])) rfl (bA (bA rfl rfl (fH d12)) rfl (dM n3)) hw) rfl)))) rfl rfl hr))).trans ?_
  exact iH (aOv (kK rfl (kK (dW rfl rfl c1) rfl)) rfl rfl rfl hx (aLz _))
theorem aQp (en:En):aE k9 (mC (.int 10)) (mC (.int 12)) en=.ok (.p (.int 1000000000000)):=bA (x:=.p (.int 10)) (y:=.p (.int 12)) rfl rfl (by show k9 (.p (.int 10)) (.p (.int 12))=_;rw [mT ⟨by decide,by decide,by decide⟩];rfl)
theorem pw9 (en:En):aE k9 (mC (.int 10)) (mC (.int 9)) en=.ok (.p (.int 1000000000)):=bA (x:=.p (.int 10)) (y:=.p (.int 9)) rfl rfl (by show k9 (.p (.int 10)) (.p (.int 9))=_;rw [mT ⟨by decide,by decide,by decide⟩];rfl)
theorem aN5 {i j:Int}:gtE (.p (.int i)) (.p (.int j))=.ok (.p (.bool (decide (i > j)))):=by simp [gtE,gL]
theorem aBq {ps:List Pl} {pt:Pt} (n:ps≠[]) (hg:∀ q∈ps,lT q pt) (g:Pp pt):FSz 2000 (lI ps pt):=by
 have hp:Pos ps:=fun p h=>(hg p h).h.1
 have t:IsTop ps pt (lI ps pt):=sA n hp g
 obtain ⟨q,hq,e⟩:=t.at'
 have la:=j6 g (hp q hq)
 have sz:=aCy (hg q hq)
 have em:FR.mk (lev q pt).1 (lev q pt).2=lI ps pt:=by
  rw [<- e]
  exact aJz (aAp la.b) (o8 (hp q hq) g) (uH la.b la.b rfl) la rfl
 rw [<- em]
 exact ⟨Sz.le sz.1 (natAbs_fdiv_le _ _),Sz.le sz.2 (natAbs_fdiv_le _ _)⟩
theorem aOr {t b:Int} (ht:1<=t) (hb:1<=b):0 < (FR.mk t b).1:=by
 obtain ⟨f,e⟩:=FR.mP (t:=t) (b:=b) (by omega)
 have k:=bN ht f.pos
 rw [<- e] at k
 refine Int.not_le.mp fun z=>?_
 have:=Int.mul_nonneg (show 0<=-(FR.mk t b).1 by omega) (show 0<=b by omega)
 rw [Int.neg_mul] at this
 omega
theorem aNa (K:PySem.W.Frag) (c:Cls) (p o q:Pl):i8 K c [some (.p (plD q)),some (.p (plD o)),some (.p (plD p))]=.ok (.p (plD (swp p o q))):=by
 have t:a9 (aE (eqE false) (aD 0) (aD 2)) [some (.p (plD q)),some (.p (plD o)),some (.p (plD p))]=.ok (decide (q=p)):=by
  refine jR (bA rfl rfl ?_)
  unfold eqE
  dsimp only [dat,Ev.c]
  rw [if_pos ⟨aFg q,aFg p⟩,aAu]
  rfl
 unfold i8 mIf swp
 rw [t]
 by_cases z:q=p
 ·rw [if_pos z,decide_eq_true z];rfl
 ·rw [if_neg z,decide_eq_false z];rfl
def ptD (pt:Pt):D:=.tuple [frD pt.1,frD pt.2]
theorem yL (ps:List Pl):(cC ps).map (fun a=>plD a.1)=(thn ps).map plD:=by
 unfold cC thn
 rw [List.map_map]
 rfl
theorem aO0 (K:PySem.W.Frag) (c:Cls) (own:Bool) {vs:List Int} (hv:∀ v∈vs,0<=v/\Sz 200 v) (kd:Int) {ps:List Pl} (ro:RO 100 15 ps) (hl:ps.length<=11):(fun en=>(bB (bU 4 (aJ 1 (fO K c) (aA (aH listE (aA (aD 3) aL)) aL))) (fun en=>(bB (bU 5 (dC 1 [] (fF (aD 4)) (aM 0) fL (oO K c))) (fun en=>(bB (bU 6 (aJ 3 (dH K c) (aA (aD 3) (aA (aD 5) (aA (aE bY (aJ 2 (aG K c) (aA (aD 0) (aA (mC (.int 2)) aL))) (aE k9 (mC (.int 10)) (mC (.int 12)))) aL))))) (bB (bU 7 (aE dX (dC 1 [] (fF (aD 4)) (aM 0) fL (mO K c)) (aH j9 (aA (aJ 3 (bP K c) (aA (aD 3) (aA (aJ 2 (aG K c) (aA (aD 0) (aA (mC (.int 3)) aL))) (aA (aJ 2 (aG K c) (aA (aD 0) (aA (mC (.int 4)) aL))) aL)))) aL)))) (fun en=>(fun en=>(bB (dN (mOr (a9 (aE (eqE true) (aJ 1 (a8 K c) (aA (aH listE (aA (aD 6) aL)) aL)) (aJ 1 (a8 K c) (aA (aH listE (aA (aD 3) aL)) aL)))) (rA (a9 (aJ 3 (bJ K c) (aA (aD 3) (aA (aD 6) (aA (aD 7) aL))))))) (dE (mC (.bool false))) bS) (bB (bU 8 (aE bY (aE bO (aJ 2 (aG K c) (aA (aD 0) (aA (mC (.int 1)) aL))) (mC (.int 7))) (aH gB (aA (aD 4) aL)))) (bB (xZ (iR 2 (cQ (aM 9) (cQ (aM 10) iS))) (aE ixE (aD 4) (aD 8))) (bB (bU 11 (aJ 2 (aV K c) (aA (aE dX (mC (.int 1)) (aE bY (aJ 2 (aG K c) (aA (aD 0) (aA (mC (.int 2)) aL))) (aE k9 (mC (.int 10)) (mC (.int 9))))) (aA (aE dX (mC (.int 1)) (aE bY (aE bO (aJ 2 (aG K c) (aA (aD 0) (aA (mC (.int 2)) aL))) (mC (.int 11))) (mC (.int 9)))) aL)))) (bB (dN (a9 (aE (eqE false) (aE bY (aJ 2 (aG K c) (aA (aD 0) (aA (mC (.int 2)) aL))) (mC (.int 2))) (mC (.int 1)))) (bU 11 (aH a7 (aA (mUn nA (aE ixE (aD 11) (mC (.int 0)))) (aA (aE ixE (aD 11) (mC (.int 1))) aL)))) bS) (bB (bU 12 (aH a7 (aA (aE ixE (aD 9) (mC (.int 0))) (aA (aE ixE (aD 9) (mC (.int 1))) (aA (aJ 2 (bK K c) (aA (aE ixE (aD 9) (mC (.int 2))) (aA (aD 11) aL))) aL))))) (bB (bU 13 (dC 1 [12,9] (fF (aD 3)) (aM 0) fL (i8 K c))) (fun en=>(bB (dN (a9 (aE (eqE false) (aJ 1 (a8 K c) (aA (aH listE (aA (aD 13) aL)) aL)) (aJ 1 (a8 K c) (aA (aH listE (aA (aD 3) aL)) aL)))) (dE (mC (.bool false))) bS) (bB (dN (a9 (aE gtE (aE ixE (aD 11) (mC (.int 0))) (mC (.int 0)))) (dE (aJ 2 (aX K c) (aA (aJ 2 (aU K c) (aA (aD 3) (aA (aD 10) aL))) (aA (aJ 2 (aU K c) (aA (aD 13) (aA (aD 10) aL))) aL)))) bS) (dE (aJ 2 (aX K c) (aA (aJ 2 (aU K c) (aA (aD 13) (aA (aD 10) aL))) (aA (aJ 2 (aU K c) (aA (aD 3) (aA (aD 10) aL))) aL)))))) (frz 13 en))))))))) (frz 6 en)) (frz 7 en)))) (frz 5 en))) (frz 4 en))) (frz 3 en)) [some (.p (.list (vs.map .int))),some (.p (.bool own)),some (.p (.int kd)),some (.o (.list (ps.map plD))),none,none,none,none,none,none,none,none,none,none]=some (.rt (.p (.bool true))):=by
 have ro2:=ro.mono (a':=120) (b':=20) (by decide) (by decide)
 have cc:=sU K c vs
 have c1:aG K c [.p (.list (vs.map .int)),.p (.int 1)]=.ok (.p (.int (vs.getD 1 0))):=cc 1
 have c2:aG K c [.p (.list (vs.map .int)),.p (.int 2)]=.ok (.p (.int (vs.getD 2 0))):=cc 2
 have c3:aG K c [.p (.list (vs.map .int)),.p (.int 3)]=.ok (.p (.int (vs.getD 3 0))):=cc 3
 have c4:aG K c [.p (.list (vs.map .int)),.p (.int 4)]=.ok (.p (.int (vs.getD 4 0))):=cc 4
 have z3:=(sI hv 3).2
 have z4:=(sI hv 4).2
 have z2:=sI hv 2
 generalize vs.getD 1 0=v1 at *
 generalize vs.getD 2 0=v2 at *
 generalize vs.getD 3 0=v3 at *
 generalize vs.getD 4 0=v4 at *
 have sg:=u7 K c (ps:=ps) (by omega) ro2.pg
 obtain ⟨w1,w2,_⟩:=qQ (ps:=ps) (by omega) ro2.pg
 have rf:=ro2.rf (by omega) w2
 have tn:=aAq w1 rf
 have sl:(cC ps).length<=11:=by
  unfold cC
  rw [List.length_map]
  exact Nat.le_trans (List.length_filter_le _ _) hl
 have smem:∀ a∈cC ps,a.1∈ps/\stays ps a.1=true/\a.2=iY ps a.1:=fun a ha=>by
  unfold cC at ha
  obtain ⟨q,hq,rfl⟩:=List.mem_map.mp ha
  exact ⟨(List.mem_filter.mp hq).1,(List.mem_filter.mp hq).2,rfl⟩
 refine uU (i:=3) (e1:=[some (.p (.list (vs.map .int))),some (.p (.bool own)),some (.p (.int kd)),some (.p (.list (ps.map plD))),none,none,none,none,none,none,none,none,none,none]) rfl ?_
 refine (aR (iH (uK (a:=.list (ps.map plD)) rfl sg))).trans ?_
 refine uU (i:=4) (e1:=[some (.p (.list (vs.map .int))),some (.p (.bool own)),some (.p (.int kd)),some (.p (.list (ps.map plD))),some (.p (.list ((cC ps).map stD))),none,none,none,none,none,none,none,none,none]) rfl ?_
 have e5:(dC 1 [] (fF (aD 4)) (aM 0) fL (oO K c)) [some (.p (.list (vs.map .int))),some (.p (.bool own)),some (.p (.int kd)),some (.p (.list (ps.map plD))),some (.p (.list ((cC ps).map stD))),none,none,none,none,none,none,none,none,none]=.ok (.f (.list ((thn ps).map plD))):=by
  rw [<- yL]
  refine gE (ds:=(cC ps).map stD) rfl (by rw [List.length_map];omega) (eC _ fun a _=>?_)
  rfl
 refine (aR (iH e5)).trans ?_
 refine uU (i:=5) (e1:=[some (.p (.list (vs.map .int))),some (.p (.bool own)),some (.p (.int kd)),some (.p (.list (ps.map plD))),some (.p (.list ((cC ps).map stD))),some (.p (.list ((thn ps).map plD))),none,none,none,none,none,none,none,none]) rfl ?_
 have p12:=aQp [some (.p (.list (vs.map .int))),some (.p (.bool own)),some (.p (.int kd)),some (.p (.list (ps.map plD))),some (.p (.list ((cC ps).map stD))),some (.p (.list ((thn ps).map plD))),none,none,none,none,none,none,none,none]
 have n12:(1000000000000:Int)≠0:=by decide
 obtain ⟨os,lk,hlk⟩:=aH1 K c (ps:=ps) (ths:=thn ps) (by omega) (fun p hp=>(ro.g p hp).2) (v2.fmod 1000000000000)
 obtain ⟨oro,oth,otop⟩:=aD6 ro hl lk
 have ol:=lk.len
 refine (aR (iH (aIv (kK rfl (kK rfl (kK (bA (dW rfl rfl c2) p12 (dM n12)) rfl))) rfl rfl hlk))).trans ?_
 obtain ⟨pt,gpt,hpt⟩:=aEn K c ps ro.n (by omega) ro2.gpb z3 z4
 have e7:(aE dX (dC 1 [] (fF (aD 4)) (aM 0) fL (mO K c)) (aH j9 (aA (aJ 3 (bP K c) (aA (aD 3) (aA (aJ 2 (aG K c) (aA (aD 0) (aA (mC (.int 3)) aL))) (aA (aJ 2 (aG K c) (aA (aD 0) (aA (mC (.int 4)) aL))) aL)))) aL))) [some (.p (.list (vs.map .int))),some (.p (.bool own)),some (.p (.int kd)),some (.p (.list (ps.map plD))),some (.p (.list ((cC ps).map stD))),some (.p (.list ((thn ps).map plD))),some (.o (.list (os.map plD))),none,none,none,none,none,none,none]=.ok (.f (.list (((cC ps).map (·.2)++[pt]).map ptD))):=by
  rw [List.map_append,List.map_map]
  have cm:(dC 1 [] (fF (aD 4)) (aM 0) fL (mO K c)) [some (.p (.list (vs.map .int))),some (.p (.bool own)),some (.p (.int kd)),some (.p (.list (ps.map plD))),some (.p (.list ((cC ps).map stD))),some (.p (.list ((thn ps).map plD))),some (.o (.list (os.map plD))),none,none,none,none,none,none,none]=.ok (.f (.list ((cC ps).map (ptD ∘ (·.2))))):=gE (ds:=(cC ps).map stD) rfl (by rw [List.length_map];omega) (eC _ fun a _=>rfl)
  have cp:(aH j9 (aA (aJ 3 (bP K c) (aA (aD 3) (aA (aJ 2 (aG K c) (aA (aD 0) (aA (mC (.int 3)) aL))) (aA (aJ 2 (aG K c) (aA (aD 0) (aA (mC (.int 4)) aL))) aL)))) aL)) [some (.p (.list (vs.map .int))),some (.p (.bool own)),some (.p (.int kd)),some (.p (.list (ps.map plD))),some (.p (.list ((cC ps).map stD))),some (.p (.list ((thn ps).map plD))),some (.o (.list (os.map plD))),none,none,none,none,none,none,none]=.ok (.f (.list [ptD pt])):=nP (aGs rfl (dW rfl rfl c3) (dW rfl rfl c4) hpt) rfl
  exact bA cm cp (aG5 _ _ (by rw [List.length_map];show (cC ps).length+1<=100000;omega))
 refine (aR (iH e7)).trans ?_
 refine uU (i:=6) (e1:=[some (.p (.list (vs.map .int))),some (.p (.bool own)),some (.p (.int kd)),some (.p (.list (ps.map plD))),some (.p (.list ((cC ps).map stD))),some (.p (.list ((thn ps).map plD))),some (.p (.list (os.map plD))),some (.p (.list (((cC ps).map (·.2)++[pt]).map ptD))),none,none,none,none,none,none]) rfl ?_
 have th3:=kR K c (ps:=ps) (by omega) ro2.pg
 have th6:=kR K c (ps:=os) (by omega) oro.pg
 have th6:a8 K c [.p (.list (os.map plD))]=.ok (.o (.list ((thn ps).map plD))):=by rw [<- oth];exact th6
 have ak:=aGg K c (ps:=ps) (qs:=os) ro.n oro.n (by omega) (by omega) ((cC ps).map (·.2)++[pt]) fun t ht=>by
  have gt:GPt t/\Pp t:=by
   rcases List.mem_append.mp ht with z | z
   ·obtain ⟨a,ha,rfl⟩:=List.mem_map.mp z
    obtain ⟨a1,a2,a3⟩:=smem a ha
    obtain ⟨g1,g2,_⟩:=tR w1 rf a1 a2
    show GPt a.2/\Pp a.2
    rw [a3]
    exact ⟨g1,g2⟩
   ·rw [List.mem_singleton.mp z]
    exact ⟨gpt,gpt.x.1,gpt.y.1⟩
  exact ⟨fun q hq=>(ro2.gpb q hq).at gt.1,fun q hq=>(oro.gpb q hq).at gt.1,otop t gt.2⟩
 have e8:(mOr (a9 (aE (eqE true) (aJ 1 (a8 K c) (aA (aH listE (aA (aD 6) aL)) aL)) (aJ 1 (a8 K c) (aA (aH listE (aA (aD 3) aL)) aL)))) (rA (a9 (aJ 3 (bJ K c) (aA (aD 3) (aA (aD 6) (aA (aD 7) aL))))))) [some (.p (.list (vs.map .int))),some (.p (.bool own)),some (.p (.int kd)),some (.p (.list (ps.map plD))),some (.p (.list ((cC ps).map stD))),some (.p (.list ((thn ps).map plD))),some (.p (.list (os.map plD))),some (.p (.list (((cC ps).map (·.2)++[pt]).map ptD))),none,none,none,none,none,none]=.ok false:=by
  refine aQd (jR ?_) (aOl (b:=true) (jR (aGs rfl rfl rfl ak)))
  have:=aHl true (thn ps) (thn ps)
  rw [decide_eq_true rfl] at this
  exact bA (uK (a:=.list (os.map plD)) rfl th6) (uK (a:=.list (ps.map plD)) rfl th3) this
 refine (aR ((jB e8).trans rfl)).trans ?_
 have sl0:1<=((cC ps).length:Int):=by
  have:(cC ps).length≠0:=fun z=>tn (by
   have e:=yL ps
   rw [List.length_eq_zero_iff.mp z] at e
   exact List.map_eq_nil_iff.mp e.symm)
  omega
 have ln4:gB [.p (.list ((cC ps).map stD))]=.ok (.p (.int ((cC ps).length:Nat))):=by simp [gB,gC]
 have fj:=bX (a:=v1.fdiv 7) (b:=((cC ps).length:Int)) sl0
 obtain ⟨j,hj⟩:∃ j:Nat,(v1.fdiv 7).fmod ((cC ps).length:Int)=(j:Int):=⟨((v1.fdiv 7).fmod ((cC ps).length:Int)).toNat,by omega⟩
 have jl:j < (cC ps).length:=by omega
 have d7:iG v1 7:=cdl (by decide) (by decide)
 have e9:(aE bY (aE bO (aJ 2 (aG K c) (aA (aD 0) (aA (mC (.int 1)) aL))) (mC (.int 7))) (aH gB (aA (aD 4) aL))) [some (.p (.list (vs.map .int))),some (.p (.bool own)),some (.p (.int kd)),some (.p (.list (ps.map plD))),some (.p (.list ((cC ps).map stD))),some (.p (.list ((thn ps).map plD))),some (.p (.list (os.map plD))),some (.p (.list (((cC ps).map (·.2)++[pt]).map ptD))),none,none,none,none,none,none]=.ok (.p (.int (j:Int))):=by
  rw [<- hj]
  exact bA (bA (dW rfl rfl c1) rfl (fH d7)) (nP rfl ln4) (dM (by omega))
 refine (aR (dA e9)).trans ?_
 obtain ⟨p,hp,hs,e10⟩:∃ p,p∈ps/\stays ps p=true/\(xZ (iR 2 (cQ (aM 9) (cQ (aM 10) iS))) (aE ixE (aD 4) (aD 8))) [some (.p (.list (vs.map .int))),some (.p (.bool own)),some (.p (.int kd)),some (.p (.list (ps.map plD))),some (.p (.list ((cC ps).map stD))),some (.p (.list ((thn ps).map plD))),some (.p (.list (os.map plD))),some (.p (.list (((cC ps).map (·.2)++[pt]).map ptD))),some (.p (.int (j:Int))),none,none,none,none,none]=some (.nx [some (.p (.list (vs.map .int))),some (.p (.bool own)),some (.p (.int kd)),some (.p (.list (ps.map plD))),some (.p (.list ((cC ps).map stD))),some (.p (.list ((thn ps).map plD))),some (.p (.list (os.map plD))),some (.p (.list (((cC ps).map (·.2)++[pt]).map ptD))),some (.p (.int (j:Int))),some (.p (plD p)),some (.p (ptD (iY ps p))),none,none,none]):=by
  obtain ⟨a1,a2,a3⟩:=smem _ (List.getElem_mem jl)
  have ix:ixE (.p (.list ((cC ps).map stD))) (.p (.int (j:Int)))=.ok (.p (stD (cC ps)[j])):=by
   simp only [ixE,gC,kU (j:=j) (v:=stD (cC ps)[j]) (by rw [List.getElem?_map,List.getElem?_eq_getElem jl];rfl)]
  refine ⟨(cC ps)[j].1,a1,a2,?_⟩
  rw [<- a3]
  have:(aE ixE (aD 4) (aD 8)) [some (.p (.list (vs.map .int))),some (.p (.bool own)),some (.p (.int kd)),some (.p (.list (ps.map plD))),some (.p (.list ((cC ps).map stD))),some (.p (.list ((thn ps).map plD))),some (.p (.list (os.map plD))),some (.p (.list (((cC ps).map (·.2)++[pt]).map ptD))),some (.p (.int (j:Int))),none,none,none,none,none]=.ok (.p (stD (cC ps)[j])):=bA rfl rfl ix
  unfold xZ
  rw [this]
  rfl
 refine (aR e10).trans ?_
 have n9:(1000000000:Int)≠0:=by decide
 have m9:(9:Int)≠0:=by decide
 have n2:(2:Int)≠0:=by decide
 have d11:iG v2 11:=cdl (by decide) (by decide)
 have f9:=bX (a:=v2) (b:=1000000000) (by decide)
 have g9:=bX (a:=v2.fdiv 11) (b:=9) (by decide)
 have lo:=kM K c (t:=1+v2.fmod 1000000000) (b:=1+(v2.fdiv 11).fmod 9) (by omega) ((show Sz 4 _ by unfold Sz;omega).mono (by decide))
 have gu:GN 31 4 (FR.mk (1+v2.fmod 1000000000) (1+(v2.fdiv 11).fmod 9)):=zO (by omega) (by unfold Sz;omega) (by unfold Sz;omega)
 have u1:0 < (FR.mk (1+v2.fmod 1000000000) (1+(v2.fdiv 11).fmod 9)).1:=aOr (by omega) (by omega)
 have e11:(aJ 2 (aV K c) (aA (aE dX (mC (.int 1)) (aE bY (aJ 2 (aG K c) (aA (aD 0) (aA (mC (.int 2)) aL))) (aE k9 (mC (.int 10)) (mC (.int 9))))) (aA (aE dX (mC (.int 1)) (aE bY (aE bO (aJ 2 (aG K c) (aA (aD 0) (aA (mC (.int 2)) aL))) (mC (.int 11))) (mC (.int 9)))) aL))) [some (.p (.list (vs.map .int))),some (.p (.bool own)),some (.p (.int kd)),some (.p (.list (ps.map plD))),some (.p (.list ((cC ps).map stD))),some (.p (.list ((thn ps).map plD))),some (.p (.list (os.map plD))),some (.p (.list (((cC ps).map (·.2)++[pt]).map ptD))),some (.p (.int (j:Int))),some (.p (plD p)),some (.p (ptD (iY ps p))),none,none,none]=.ok (.p (frD (FR.mk (1+v2.fmod 1000000000) (1+(v2.fdiv 11).fmod 9)))):=dW (bA rfl (bA (dW rfl rfl c2) (pw9 _) (dM n9)) (kW _ _)) (bA rfl (bA (bA (dW rfl rfl c2) rfl (fH d11)) rfl (dM m9)) (kW _ _)) lo
 refine (aR (dA e11)).trans ?_
 generalize FR.mk (1+v2.fmod 1000000000) (1+(v2.fdiv 11).fmod 9)=u0 at gu u1
 obtain ⟨u,⟨u2,ut,us,un⟩,e12⟩:∃ u:Int×Int,(1<=u.2/\Sz 31 u.1/\Sz 4 u.2/\u.1≠0)/\(dN (a9 (aE (eqE false) (aE bY (aJ 2 (aG K c) (aA (aD 0) (aA (mC (.int 2)) aL))) (mC (.int 2))) (mC (.int 1)))) (bU 11 (aH a7 (aA (mUn nA (aE ixE (aD 11) (mC (.int 0)))) (aA (aE ixE (aD 11) (mC (.int 1))) aL)))) bS) [some (.p (.list (vs.map .int))),some (.p (.bool own)),some (.p (.int kd)),some (.p (.list (ps.map plD))),some (.p (.list ((cC ps).map stD))),some (.p (.list ((thn ps).map plD))),some (.p (.list (os.map plD))),some (.p (.list (((cC ps).map (·.2)++[pt]).map ptD))),some (.p (.int (j:Int))),some (.p (plD p)),some (.p (ptD (iY ps p))),some (.p (frD u0)),none,none]=some (.nx [some (.p (.list (vs.map .int))),some (.p (.bool own)),some (.p (.int kd)),some (.p (.list (ps.map plD))),some (.p (.list ((cC ps).map stD))),some (.p (.list ((thn ps).map plD))),some (.p (.list (os.map plD))),some (.p (.list (((cC ps).map (·.2)++[pt]).map ptD))),some (.p (.int (j:Int))),some (.p (plD p)),some (.p (ptD (iY ps p))),some (.p (frD u)),none,none]):=by
  have t:(a9 (aE (eqE false) (aE bY (aJ 2 (aG K c) (aA (aD 0) (aA (mC (.int 2)) aL))) (mC (.int 2))) (mC (.int 1)))) [some (.p (.list (vs.map .int))),some (.p (.bool own)),some (.p (.int kd)),some (.p (.list (ps.map plD))),some (.p (.list ((cC ps).map stD))),some (.p (.list ((thn ps).map plD))),some (.p (.list (os.map plD))),some (.p (.list (((cC ps).map (·.2)++[pt]).map ptD))),some (.p (.int (j:Int))),some (.p (plD p)),some (.p (ptD (iY ps p))),some (.p (frD u0)),none,none]=.ok (v2.fmod 2 == 1):=jR (bA (bA (dW rfl rfl c2) rfl (dM n2)) rfl wJ)
  cases z:(v2.fmod 2 == 1) with
  | true =>
   rw [z] at t
   exact ⟨(-u0.1,u0.2),⟨gu.p,L2.Sz.neg gu.t,gu.s,by show -u0.1≠0;omega⟩,(k8 t).trans (dA (aLg rfl rfl))⟩
  | false =>
   rw [z] at t
   exact ⟨u0,⟨gu.p,gu.t,gu.s,by omega⟩,(jB t).trans rfl⟩
 refine (aR e12).trans ?_
 obtain ⟨rr,gt,pp,up,dn⟩:=wM ro hl hp hs u2 ut us
 have gp:=(ro.g p hp).2
 have ls:=sP K c (x:=p.2.2) (y:=u) (gp.good (by decide) (by decide)) ⟨u2,ut.mono (by decide),us.mono (by decide)⟩ (Nat.le_refl _) (Nat.le_refl _)
 have e13:(aH a7 (aA (aE ixE (aD 9) (mC (.int 0))) (aA (aE ixE (aD 9) (mC (.int 1))) (aA (aJ 2 (bK K c) (aA (aE ixE (aD 9) (mC (.int 2))) (aA (aD 11) aL))) aL)))) [some (.p (.list (vs.map .int))),some (.p (.bool own)),some (.p (.int kd)),some (.p (.list (ps.map plD))),some (.p (.list ((cC ps).map stD))),some (.p (.list ((thn ps).map plD))),some (.p (.list (os.map plD))),some (.p (.list (((cC ps).map (·.2)++[pt]).map ptD))),some (.p (.int (j:Int))),some (.p (plD p)),some (.p (ptD (iY ps p))),some (.p (frD u)),none,none]=.ok (.p (plD (p.1,p.2.1,hP p.2.2 u))):=aP6 (bA rfl rfl (jO p)) (bA rfl rfl (j7 p)) (dW (bA rfl rfl (jL p)) rfl ls)
 refine (aR (dA e13)).trans ?_
 generalize (p.1,p.2.1,hP p.2.2 u)=o at *
 have e14:(dC 1 [12,9] (fF (aD 3)) (aM 0) fL (i8 K c)) [some (.p (.list (vs.map .int))),some (.p (.bool own)),some (.p (.int kd)),some (.p (.list (ps.map plD))),some (.p (.list ((cC ps).map stD))),some (.p (.list ((thn ps).map plD))),some (.p (.list (os.map plD))),some (.p (.list (((cC ps).map (·.2)++[pt]).map ptD))),some (.p (.int (j:Int))),some (.p (plD p)),some (.p (ptD (iY ps p))),some (.p (frD u)),some (.p (plD o)),none]=.ok (.f (.list ((ps.map (swp p o)).map plD))):=by
  rw [List.map_map]
  refine gE (ds:=ps.map plD) rfl (by rw [List.length_map];omega) (eC _ fun q _=>?_)
  have:=aNa K c p o q
  unfold a5
  ktr_call 3 ⟨aM,fL,lP,vP,List.replicate,List.cons_append,List.nil_append,this,Ev.c⟩
  try rfl
 refine (aR (iH e14)).trans ?_
 refine uU (i:=13) (e1:=[some (.p (.list (vs.map .int))),some (.p (.bool own)),some (.p (.int kd)),some (.p (.list (ps.map plD))),some (.p (.list ((cC ps).map stD))),some (.p (.list ((thn ps).map plD))),some (.p (.list (os.map plD))),some (.p (.list (((cC ps).map (·.2)++[pt]).map ptD))),some (.p (.int (j:Int))),some (.p (plD p)),some (.p (ptD (iY ps p))),some (.p (frD u)),some (.p (plD o)),some (.p (.list ((ps.map (swp p o)).map plD)))]) rfl ?_
 have rl:(ps.map (swp p o)).length<=11:=by rw [List.length_map];exact hl
 generalize ps.map (swp p o)=rs at *
 have th13:a8 K c [.p (.list (rs.map plD))]=.ok (.o (.list ((thn rs).map plD))):=kR K c (ps:=rs) (by omega) rr.pg
 have th3:a8 K c [.p (.list (ps.map plD))]=.ok (.o (.list ((thn ps).map plD))):=th3
 have ne:thn rs≠thn ps:=by
  rcases Int.lt_or_gt_of_ne un with z | z
  ·exact (dn z).1
  ·exact (up z).1
 have t15:(a9 (aE (eqE false) (aJ 1 (a8 K c) (aA (aH listE (aA (aD 13) aL)) aL)) (aJ 1 (a8 K c) (aA (aH listE (aA (aD 3) aL)) aL)))) [some (.p (.list (vs.map .int))),some (.p (.bool own)),some (.p (.int kd)),some (.p (.list (ps.map plD))),some (.p (.list ((cC ps).map stD))),some (.p (.list ((thn ps).map plD))),some (.p (.list (os.map plD))),some (.p (.list (((cC ps).map (·.2)++[pt]).map ptD))),some (.p (.int (j:Int))),some (.p (plD p)),some (.p (ptD (iY ps p))),some (.p (frD u)),some (.p (plD o)),some (.p (.list (rs.map plD)))]=.ok false:=by
  have:=aHl false (thn rs) (thn ps)
  rw [decide_eq_false ne] at this
  exact jR (bA (uK (a:=.list (rs.map plD)) rfl th13) (uK (a:=.list (ps.map plD)) rfl th3) this)
 refine (aR ((jB t15).trans rfl)).trans ?_
 have g3:∀ q∈ps,lT q (iY ps p):=fun q hq=>(ro2.gpb q hq).at gt
 have g13:∀ q∈rs,lT q (iY ps p):=fun q hq=>(rr.gpb q hq).at gt
 have l3:=aFu K c ro.n (by omega) g3
 have l13:=aFu K c rr.n (by omega) g13
 have f3:=aBq ro.n g3 pp
 have f13:=aBq rr.n g13 pp
 have t16:(a9 (aE gtE (aE ixE (aD 11) (mC (.int 0))) (mC (.int 0)))) [some (.p (.list (vs.map .int))),some (.p (.bool own)),some (.p (.int kd)),some (.p (.list (ps.map plD))),some (.p (.list ((cC ps).map stD))),some (.p (.list ((thn ps).map plD))),some (.p (.list (os.map plD))),some (.p (.list (((cC ps).map (·.2)++[pt]).map ptD))),some (.p (.int (j:Int))),some (.p (plD p)),some (.p (ptD (iY ps p))),some (.p (frD u)),some (.p (plD o)),some (.p (.list (rs.map plD)))]=.ok (decide (u.1 > 0)):=jR (bA (bA rfl rfl (mR u)) rfl aN5)
 by_cases z:u.1 > 0
 ·rw [decide_eq_true z] at t16
  have un':=mH K c f3 f13
  rw [(up z).2] at un'
  have r16:=(k8 (f:=(dE (aJ 2 (aX K c) (aA (aJ 2 (aU K c) (aA (aD 3) (aA (aD 10) aL))) (aA (aJ 2 (aU K c) (aA (aD 13) (aA (aD 10) aL))) aL))))) (g:=bS) t16).trans (hV (dW (dW rfl rfl l3) (dW rfl rfl l13) un'))
  unfold bB
  rw [r16]
 ·rw [decide_eq_false z] at t16
  have un':=mH K c f13 f3
  rw [(dn (by omega)).2] at un'
  exact (aR ((jB t16).trans rfl)).trans (hV (dW (dW rfl rfl l13) (dW rfl rfl l3) un'))
theorem aKb (K:PySem.W.Frag) (c:Cls) (hk:jH K c) (ns:List Int) (hn:ns.length<=63):zP K c [.p (.list (ns.map .int))]=.ok (.p (.bool true)):=by
 obtain ⟨own,vs,ps,hv,ro,hl,h⟩:=aO7 K c ns hn
 unfold zP
 exact cF (h.trans (aO0 K c own hv _ ro hl))
section
variable {P:Program} {w:World} {K:PySem.W.Frag} {mg:Str->Option Value} {base:Heap}
theorem sc_law:bC ["_law_script","_law_own","_law_kind","_law_roof","_law_told","_law_planes","_law_like_here","_law_points","_law_at","_law_plane","_law_point","_law_number","_law_other","_law_unlike"] ["_law_script"] (aT uI):=⟨rfl,rfl,rfl,by decide +kernel,rfl,by decide +kernel,by decide +kernel⟩
theorem aKu {c:Cls} {f:Addr} {fd:FuncData} (F:Fun K "law" "law" uI f fd) (B:Blt mg) (C:jP mg c) (O:jQ mg base c) (hk:jH K c) (c__law_under:Cal P w K mg base 1 "_law_under" 2 (aX K c)) (c__law_level:Cal P w K mg base 3 "_law_level" 2 (aU K c)) (c_thinned:Cal P w K mg base 8 "thinned" 1 (a8 K c)) (c__law_sum:Cal P w K mg base 2 "_law_sum" 2 (bK K c)) (c__law_cell_at:Cal P w K mg base 1 "_law_cell_at" 2 (aG K c)) (c__law_low:Cal P w K mg base 1 "_law_low" 2 (aV K c)) (c__law_alike_at:Cal P w K mg base 4 "_law_alike_at" 3 (bJ K c)) (c__law_point_by:Cal P w K mg base 3 "_law_point_by" 3 (bP K c)) (c__law_like:Cal P w K mg base 3 "_law_like" 3 (dH K c)) (c_staying:Cal P w K mg base 8 "staying" 1 (fO K c)) (c__law_any_roof:Cal P w K mg base 2 "_law_any_roof" 2 (cK K c)) (c__law_with_mixed:Cal P w K mg base 3 "_law_with_mixed" 2 (b5 K c)) (c__law_roof_by:Cal P w K mg base 3 "_law_roof_by" 4 (cX K c)) (c__law_cells:Cal P w K mg base 3 "_law_cells" 1 (cO K c)):FnOk P w K mg base (CXr P w) 9 f fd ["_law_script"] (spM K 1 (zP K c)):=by
 refine fnM (k:=8) F sc_law rfl (fun cdv A outer s H E hr=>⟨aDq K c,?_,aL0 K c⟩)
 exact (aI (aA9 (aO c__law_cells hr bI (aB (dv 0) aK)) (uG (n:=2) rfl (gR (bE (i:=1) sc_law.nd rfl (Or.inl rfl)) (gR (bE (i:=0) sc_law.nd rfl (Or.inl rfl)) pD)))) (aI (a6 (i:=2) sc_law.nd rfl (Or.inl rfl) (aO c__law_cell_at hr bI (aB (dv 0) (aB aC aK)))) (aI (d6 (l6 (dv 1)) (aQ (a6 (i:=3) sc_law.nd rfl (Or.inl rfl) (aO c__law_any_roof hr bI (aB (aLn (dv 0) (sY aC) (sY (aN b7 dB b6 aC (aN aZ bG aF (dv 2) aC)))) (aB aC aK))))) (aI (a6 (i:=3) sc_law.nd rfl (Or.inl rfl) (aO c__law_roof_by hr bI (aB (dv 2) (aB (aLn (dv 0) (sY aC) (sY aC)) (aB aC (aB (aP (bW (aB aC (aB aC (aB aC aK)))) (aN aZ bG aF (aN bH b8 aF (dv 2) aC) aC) (fun _ _=>rfl)) aK)))))) (aQ (a6 (i:=3) sc_law.nd rfl (Or.inl rfl) (aO c__law_with_mixed hr bI (aB (dv 3) (aB (aO c__law_cell_at hr bI (aB (dv 0) (aB aC aK))) aK))))))) (eZ 3 (aI (a6 (i:=4) sc_law.nd rfl (Or.inl rfl) (aO c_staying hr bI (aB (kJ gX pX l9 rfl B.list_ pW (aB (dv 3) aK)) aK))) (eZ 4 (aI (kI (i:=5) sc_law.nd rfl (Or.inl rfl) (xs:=["_law_row"]) (ys:=[]) (js:=[]) (cl:=[]) rfl (cL (dv 4)) (iT (ys:=[]) (js:=[]) rfl (fun _ h=>nomatch h) bD (by decide +kernel) (by decide +kernel)) bD (by decide +kernel) rfl (by decide +kernel) rfl (by decide) (fun C s₀ H₀ ex pn=>(bE (i:=0) (show (["_law_row"]:List Str).Nodup by decide +kernel) rfl (Or.inl rfl))) (fun C s₀ H₀ ex pn=>fT) (fun C s₀ H₀ ex pn=>(aP (dv 0) aC (fun _ _=>rfl)))) (eZ 5 (aI (a6 (i:=6) sc_law.nd rfl (Or.inl rfl) (aO c__law_like hr bI (aB (dv 3) (aB (dv 5) (aB (aN aZ bG aF (aO c__law_cell_at hr bI (aB (dv 0) (aB aC aK))) (aN kL kP aF aC aC)) aK))))) (aI (a6 (i:=7) sc_law.nd rfl (Or.inl rfl) (aN b7 dB b6 (fS (xs:=["_law_row"]) (ys:=[]) (js:=[]) (cl:=[]) rfl (cL (dv 4)) (iT (ys:=[]) (js:=[]) rfl (fun _ h=>nomatch h) bD (by decide +kernel) (by decide +kernel)) bD (by decide +kernel) rfl (by decide +kernel) rfl (by decide) (fun C s₀ H₀ ex pn=>(bE (i:=0) (show (["_law_row"]:List Str).Nodup by decide +kernel) rfl (Or.inl rfl))) (fun C s₀ H₀ ex pn=>fT) (fun C s₀ H₀ ex pn=>(aP (dv 0) aC (fun _ _=>rfl)))) (xG (aB (aO c__law_point_by hr bI (aB (dv 3) (aB (aO c__law_cell_at hr bI (aB (dv 0) (aB aC aK))) (aB (aO c__law_cell_at hr bI (aB (dv 0) (aB aC aK))) aK)))) aK)))) (eZ (f:=(fun en=>(bB (dN (mOr (a9 (aE (eqE true) (aJ 1 (a8 K c) (aA (aH listE (aA (aD 6) aL)) aL)) (aJ 1 (a8 K c) (aA (aH listE (aA (aD 3) aL)) aL)))) (rA (a9 (aJ 3 (bJ K c) (aA (aD 3) (aA (aD 6) (aA (aD 7) aL))))))) (dE (mC (.bool false))) bS) (bB (bU 8 (aE bY (aE bO (aJ 2 (aG K c) (aA (aD 0) (aA (mC (.int 1)) aL))) (mC (.int 7))) (aH gB (aA (aD 4) aL)))) (bB (xZ (iR 2 (cQ (aM 9) (cQ (aM 10) iS))) (aE ixE (aD 4) (aD 8))) (bB (bU 11 (aJ 2 (aV K c) (aA (aE dX (mC (.int 1)) (aE bY (aJ 2 (aG K c) (aA (aD 0) (aA (mC (.int 2)) aL))) (aE k9 (mC (.int 10)) (mC (.int 9))))) (aA (aE dX (mC (.int 1)) (aE bY (aE bO (aJ 2 (aG K c) (aA (aD 0) (aA (mC (.int 2)) aL))) (mC (.int 11))) (mC (.int 9)))) aL)))) (bB (dN (a9 (aE (eqE false) (aE bY (aJ 2 (aG K c) (aA (aD 0) (aA (mC (.int 2)) aL))) (mC (.int 2))) (mC (.int 1)))) (bU 11 (aH a7 (aA (mUn nA (aE ixE (aD 11) (mC (.int 0)))) (aA (aE ixE (aD 11) (mC (.int 1))) aL)))) bS) (bB (bU 12 (aH a7 (aA (aE ixE (aD 9) (mC (.int 0))) (aA (aE ixE (aD 9) (mC (.int 1))) (aA (aJ 2 (bK K c) (aA (aE ixE (aD 9) (mC (.int 2))) (aA (aD 11) aL))) aL))))) (bB (bU 13 (dC 1 [12,9] (fF (aD 3)) (aM 0) fL (i8 K c))) (fun en=>(bB (dN (a9 (aE (eqE false) (aJ 1 (a8 K c) (aA (aH listE (aA (aD 13) aL)) aL)) (aJ 1 (a8 K c) (aA (aH listE (aA (aD 3) aL)) aL)))) (dE (mC (.bool false))) bS) (bB (dN (a9 (aE gtE (aE ixE (aD 11) (mC (.int 0))) (mC (.int 0)))) (dE (aJ 2 (aX K c) (aA (aJ 2 (aU K c) (aA (aD 3) (aA (aD 10) aL))) (aA (aJ 2 (aU K c) (aA (aD 13) (aA (aD 10) aL))) aL)))) bS) (dE (aJ 2 (aX K c) (aA (aJ 2 (aU K c) (aA (aD 13) (aA (aD 10) aL))) (aA (aJ 2 (aU K c) (aA (aD 3) (aA (aD 10) aL))) aL)))))) (frz 13 en))))))))) (frz 6 en))) 7 (eZ (f:=(bB (dN (mOr (a9 (aE (eqE true) (aJ 1 (a8 K c) (aA (aH listE (aA (aD 6) aL)) aL)) (aJ 1 (a8 K c) (aA (aH listE (aA (aD 3) aL)) aL)))) (rA (a9 (aJ 3 (bJ K c) (aA (aD 3) (aA (aD 6) (aA (aD 7) aL))))))) (dE (mC (.bool false))) bS) (bB (bU 8 (aE bY (aE bO (aJ 2 (aG K c) (aA (aD 0) (aA (mC (.int 1)) aL))) (mC (.int 7))) (aH gB (aA (aD 4) aL)))) (bB (xZ (iR 2 (cQ (aM 9) (cQ (aM 10) iS))) (aE ixE (aD 4) (aD 8))) (bB (bU 11 (aJ 2 (aV K c) (aA (aE dX (mC (.int 1)) (aE bY (aJ 2 (aG K c) (aA (aD 0) (aA (mC (.int 2)) aL))) (aE k9 (mC (.int 10)) (mC (.int 9))))) (aA (aE dX (mC (.int 1)) (aE bY (aE bO (aJ 2 (aG K c) (aA (aD 0) (aA (mC (.int 2)) aL))) (mC (.int 11))) (mC (.int 9)))) aL)))) (bB (dN (a9 (aE (eqE false) (aE bY (aJ 2 (aG K c) (aA (aD 0) (aA (mC (.int 2)) aL))) (mC (.int 2))) (mC (.int 1)))) (bU 11 (aH a7 (aA (mUn nA (aE ixE (aD 11) (mC (.int 0)))) (aA (aE ixE (aD 11) (mC (.int 1))) aL)))) bS) (bB (bU 12 (aH a7 (aA (aE ixE (aD 9) (mC (.int 0))) (aA (aE ixE (aD 9) (mC (.int 1))) (aA (aJ 2 (bK K c) (aA (aE ixE (aD 9) (mC (.int 2))) (aA (aD 11) aL))) aL))))) (bB (bU 13 (dC 1 [12,9] (fF (aD 3)) (aM 0) fL (i8 K c))) (fun en=>(bB (dN (a9 (aE (eqE false) (aJ 1 (a8 K c) (aA (aH listE (aA (aD 13) aL)) aL)) (aJ 1 (a8 K c) (aA (aH listE (aA (aD 3) aL)) aL)))) (dE (mC (.bool false))) bS) (bB (dN (a9 (aE gtE (aE ixE (aD 11) (mC (.int 0))) (mC (.int 0)))) (dE (aJ 2 (aX K c) (aA (aJ 2 (aU K c) (aA (aD 3) (aA (aD 10) aL))) (aA (aJ 2 (aU K c) (aA (aD 13) (aA (aD 10) aL))) aL)))) bS) (dE (aJ 2 (aX K c) (aA (aJ 2 (aU K c) (aA (aD 13) (aA (aD 10) aL))) (aA (aJ 2 (aU K c) (aA (aD 3) (aA (aD 10) aL))) aL)))))) (frz 13 en)))))))))) 6 (aI (d6 (DW.t (aIs (cH (xI (u64 hr)) gK dR (aO c_thinned hr bI (aB (kJ gX pX l9 rfl B.list_ pW (aB (dv 6) aK)) aK)) (aO c_thinned hr bI (aB (kJ gX pX l9 rfl B.list_ pW (aB (dv 3) aK)) aK)) (b9 _)) (aBo (aGj (l6 (aO c__law_alike_at hr bI (aB (dv 3) (aB (dv 6) (aB (dv 7) aK))))))))) (aQ (bF zK)) bZ) (aI (a6 (i:=8) sc_law.nd rfl (Or.inl rfl) (aN aZ bG aF (aN bH b8 aF (aO c__law_cell_at hr bI (aB (dv 0) (aB aC aK))) aC) (cM cR j5 hU rfl B.len_ PySem.boot_len (aB (dv 4) aK)))) (aI (aA9 (aP (dv 4) (dv 8) (fun _ _=>rfl)) (uG (n:=2) rfl (gR (bE (i:=9) sc_law.nd rfl (Or.inr rfl)) (gR (bE (i:=10) sc_law.nd rfl (Or.inl rfl)) pD)))) (aI (a6 (i:=11) sc_law.nd rfl (Or.inl rfl) (aO c__law_low hr bI (aB (aN b7 dB b6 aC (aN aZ bG aF (aO c__law_cell_at hr bI (aB (dv 0) (aB aC aK))) (aN kL kP aF aC aC))) (aB (aN b7 dB b6 aC (aN aZ bG aF (aN bH b8 aF (aO c__law_cell_at hr bI (aB (dv 0) (aB aC aK))) aC) aC)) aK)))) (aI (d6 (cH (eM (u64 hr)) gK dR (aN aZ bG aF (aO c__law_cell_at hr bI (aB (dv 0) (aB aC aK))) aC) aC (b9 _)) (aQ (a6 (i:=11) sc_law.nd rfl (Or.inl rfl) (bW (aB (pK (aP (dv 11) aC (fun _ _=>rfl))) (aB (aP (dv 11) aC (fun _ _=>rfl)) aK))))) bZ) (aI (a6 (i:=12) sc_law.nd rfl (Or.inr rfl) (bW (aB (aP (dv 9) aC (fun _ _=>rfl)) (aB (aP (dv 9) aC (fun _ _=>rfl)) (aB (aO c__law_sum hr bI (aB (aP (dv 9) aC (fun _ _=>rfl)) (aB (dv 11) aK))) aK))))) (aI (kI (i:=13) sc_law.nd rfl (Or.inl rfl) (xs:=["_law_one"]) (ys:=["_law_other","_law_plane"]) (js:=[12,9]) (cl:=[("_law_plane",s.heap.objs.size+1),("_law_other",s.heap.objs.size+1+1)]) rfl (cL (dv 3)) (iT (ys:=["_law_other","_law_plane"]) (js:=[12,9]) rfl (List.forall_mem_cons.mpr ⟨rfl,(List.forall_mem_cons.mpr ⟨rfl,(fun _ h=>nomatch h)⟩)⟩) (bR ⟨rfl,.inl rfl,.inl rfl,rfl,rfl⟩ (bR ⟨rfl,.inl rfl,.inl rfl,rfl,rfl⟩ bD)) (by decide +kernel) (by decide +kernel)) (bR ⟨rfl,.inl rfl,.inl rfl,rfl,rfl⟩ (bR ⟨rfl,.inl rfl,.inl rfl,rfl,rfl⟩ bD)) (by decide +kernel) rfl (by decide +kernel) rfl (by decide) (fun C s₀ H₀ ex pn=>(bE (i:=0) (show (["_law_one","_law_other","_law_plane"]:List Str).Nodup by decide +kernel) rfl (Or.inl rfl))) (fun C s₀ H₀ ex pn=>fT) (fun C s₀ H₀ ex pn=>(aM2 (cH (eM (u64 hr)) gK dR (dv 0) (dv 2) (b9 _)) (dv 1) (dv 0)))) (eZ 13 (aI (d6 (cH (eM (u64 hr)) gK dR (aO c_thinned hr bI (aB (kJ gX pX l9 rfl B.list_ pW (aB (dv 13) aK)) aK)) (aO c_thinned hr bI (aB (kJ gX pX l9 rfl B.list_ pW (aB (dv 3) aK)) aK)) (b9 _)) (aQ (bF zK)) bZ) (aI (d6 (cH aBi iF aW (aP (dv 11) aC (fun _ _=>rfl)) aC (b9 _)) (aQ (bF (aO c__law_under hr bI (aB (aO c__law_level hr bI (aB (dv 3) (aB (dv 10) aK))) (aB (aO c__law_level hr bI (aB (dv 13) (aB (dv 10) aK))) aK))))) bZ) (aQ (bF (aO c__law_under hr bI (aB (aO c__law_level hr bI (aB (dv 13) (aB (dv 10) aK))) (aB (aO c__law_level hr bI (aB (dv 3) (aB (dv 10) aK))) aK)))))))))))))))))))))))))))
end
section
variable {P:Program} {w:World} {K:PySem.W.Frag} {mg:Str->Option Value} {base:Heap}
theorem aFr:bC ["a","b"] ["a","b"] (aT tL):=⟨rfl,rfl,rfl,by decide +kernel,rfl,by decide +kernel,by decide +kernel⟩
theorem aF0 {c:Cls} (Df:Def K mg "minus" ["a","b"] tL) (B:Blt mg) (C:jP mg c) (O:jQ mg base c) (hk:jH K c) (c_fraction:Cal P w K mg base 2 "fraction" 2 (cA K c)):Cal P w K mg base 3 "minus" 2 (jZ K c):=by
 refine jU (k:=2) Df aFr rfl (fun f cdv A outer s H E hr=>⟨w8 K c,?_,aEw K c⟩)
 exact (aQ (bF (aO c_fraction hr bI (aB (aN d9 d8 aW (aN aS aY aF (aP (dv 0) aC (fun _ _=>rfl)) (aP (dv 1) aC (fun _ _=>rfl))) (aN aS aY aF (aP (dv 1) aC (fun _ _=>rfl)) (aP (dv 0) aC (fun _ _=>rfl)))) (aB (aN aS aY aF (aP (dv 0) aC (fun _ _=>rfl)) (aP (dv 1) aC (fun _ _=>rfl))) aK)))))
theorem sc_common_bottom:bC ["numbers","common","number"] ["numbers"] (aT fP):=⟨rfl,rfl,rfl,by decide +kernel,rfl,by decide +kernel,by decide +kernel⟩
theorem oC {c:Cls} (Df:Def K mg "common_bottom" ["numbers"] fP) (B:Blt mg) (C:jP mg c) (O:jQ mg base c) (hk:jH K c) (c_greatest_divisor:Cal P w K mg base 1 "greatest_divisor" 2 (bM K c)):Cal P w K mg base 2 "common_bottom" 1 (dF K c):=by
 refine jU (k:=1) Df sc_common_bottom rfl (fun f cdv A outer s H E hr=>⟨kO K c,?_,nZ K c⟩)
 exact (aI (a6 (i:=1) sc_common_bottom.nd rfl (Or.inl rfl) aC) (aI (jK PassesOwn.leaving rfl (cL (dv 0)) (bE (i:=2) sc_common_bottom.nd rfl (Or.inl rfl)) (aQ (a6 (i:=1) sc_common_bottom.nd rfl (Or.inl rfl) (aN bH b8 aF (aN aS aY aF (dv 1) (aP (dv 2) aC (fun _ _=>rfl))) (aO c_greatest_divisor hr bI (aB (dv 1) (aB (aP (dv 2) aC (fun _ _=>rfl)) aK))))))) (aQ (bF (dv 1)))))
theorem aEx:bC ["number","factor"] ["number","factor"] (aT sJ):=⟨rfl,rfl,rfl,by decide +kernel,rfl,by decide +kernel,by decide +kernel⟩
theorem aFb {c:Cls} (Df:Def K mg "whole" ["number","factor"] sJ) (B:Blt mg) (C:jP mg c) (O:jQ mg base c) (hk:jH K c):Cal P w K mg base 1 "whole" 2 (lQ K c):=by
 refine jU (k:=0) Df aEx rfl (fun f cdv A outer s H E hr=>⟨v8 K c,?_,aGb K c⟩)
 exact (aQ (bF (aN aS aY aF (aP (dv 0) aC (fun _ _=>rfl)) (aN bH b8 aF (dv 1) (aP (dv 0) aC (fun _ _=>rfl))))))
theorem sc_thinned:bC ["roof","points"] ["roof"] (aT mL):=⟨rfl,rfl,rfl,by decide +kernel,rfl,by decide +kernel,by decide +kernel⟩
theorem zX {c:Cls} (Df:Def K mg "thinned" ["roof"] mL) (B:Blt mg) (C:jP mg c) (O:jQ mg base c) (hk:jH K c) (c_lone_points:Cal P w K mg base 7 "lone_points" 2 (cJ K c)) (c_whole_factor:Cal P w K mg base 3 "whole_factor" 1 (cD K c)):Cal P w K mg base 8 "thinned" 1 (a8 K c):=by
 refine jU (k:=7) Df sc_thinned rfl (fun f cdv A outer s H E hr=>⟨pV K c,?_,aAf K c⟩)
 exact (aI (a6 (i:=1) sc_thinned.nd rfl (Or.inl rfl) (aO c_lone_points hr bI (aB (dv 0) (aB (aO c_whole_factor hr bI (aB (dv 0) aK)) aK)))) (eZ 1 (aQ (bF (fS (xs:=["plane","point"]) (ys:=[]) (js:=[]) (cl:=[]) rfl (aGp rfl B.zip_ (aB (dv 0) (aB (dv 1) aK))) (iT (ys:=[]) (js:=[]) rfl (fun _ h=>nomatch h) bD (by decide +kernel) (by decide +kernel)) bD (by decide +kernel) rfl (by decide +kernel) rfl (by decide) (fun C s₀ H₀ ex pn=>(uG (n:=2) rfl (gR (bE (i:=0) (show (["plane","point"]:List Str).Nodup by decide +kernel) rfl (Or.inl rfl)) (gR (bE (i:=1) (show (["plane","point"]:List Str).Nodup by decide +kernel) rfl (Or.inl rfl)) pD)))) (fun C s₀ H₀ ex pn=>(kE (w4 (dv 1)))) (fun C s₀ H₀ ex pn=>(dv 0)))))))
theorem oY:bC ["_law_one","_law_other"] ["_law_one","_law_other"] (aT gO):=⟨rfl,rfl,rfl,by decide +kernel,rfl,by decide +kernel,by decide +kernel⟩
theorem qH {c:Cls} (Df:Def K mg "_law_product" ["_law_one","_law_other"] gO) (B:Blt mg) (C:jP mg c) (O:jQ mg base c) (hk:jH K c) (c__law_low:Cal P w K mg base 1 "_law_low" 2 (aV K c)):Cal P w K mg base 2 "_law_product" 2 (cW K c):=by
 refine jU (k:=1) Df oY rfl (fun f cdv A outer s H E hr=>⟨jG K c,?_,qA K c⟩)
 exact (aQ (bF (aO c__law_low hr bI (aB (aN aS aY aF (aP (dv 0) aC (fun _ _=>rfl)) (aP (dv 1) aC (fun _ _=>rfl))) (aB (aN aS aY aF (aP (dv 0) aC (fun _ _=>rfl)) (aP (dv 1) aC (fun _ _=>rfl))) aK)))))
theorem sc__law_with_mixed:bC ["_law_roof","_law_cell","_law_high","_law_plane","_law_k","_law_l","_law_i","_law_j","_law_amid","_law_low_here"] ["_law_roof","_law_cell"] (aT eQ):=⟨rfl,rfl,rfl,by decide +kernel,rfl,by decide +kernel,by decide +kernel⟩
theorem mE {c:Cls} (Df:Def K mg "_law_with_mixed" ["_law_roof","_law_cell"] eQ) (B:Blt mg) (C:jP mg c) (O:jQ mg base c) (hk:jH K c) (c__law_sum:Cal P w K mg base 2 "_law_sum" 2 (bK K c)) (c__law_low:Cal P w K mg base 1 "_law_low" 2 (aV K c)) (c__law_product:Cal P w K mg base 2 "_law_product" 2 (cW K c)):Cal P w K mg base 3 "_law_with_mixed" 2 (b5 K c):=by
 refine jU (k:=2) Df sc__law_with_mixed rfl (fun f cdv A outer s H E hr=>⟨eT K c,?_,mF K c⟩)
 exact (aI (a6 (i:=2) sc__law_with_mixed.nd rfl (Or.inr rfl) l7) (aI (jK PassesOwn.leaving rfl (cL (dv 0)) (bE (i:=3) sc__law_with_mixed.nd rfl (Or.inl rfl)) (aQ (lU (i:=2) (u1 hr) (pv 2) (bW (aB (aP (dv 3) aC (fun _ _=>rfl)) (aB (aP (dv 3) aC (fun _ _=>rfl)) aK))) (aP (dv 3) aC (fun _ _=>rfl)) rfl))) (aI (jK PassesOwn.leaving rfl (mY rfl B.range_ (aB (cM cR j5 hU rfl B.len_ PySem.boot_len (aB (dv 0) aK)) aK)) (bE (i:=4) sc__law_with_mixed.nd rfl (Or.inl rfl)) (aQ (jK PassesOwn.leaving rfl (mY rfl B.range_ (aB (dv 4) aK)) (bE (i:=5) sc__law_with_mixed.nd rfl (Or.inl rfl)) (aI (a6 (i:=6) sc__law_with_mixed.nd rfl (Or.inl rfl) (aN b7 dB b6 (aP (aP (dv 0) (dv 4) (fun _ _=>rfl)) aC (fun _ _=>rfl)) (aP (aP (dv 0) (dv 5) (fun _ _=>rfl)) aC (fun _ _=>rfl)))) (aI (a6 (i:=7) sc__law_with_mixed.nd rfl (Or.inl rfl) (aN b7 dB b6 (aP (aP (dv 0) (dv 4) (fun _ _=>rfl)) aC (fun _ _=>rfl)) (aP (aP (dv 0) (dv 5) (fun _ _=>rfl)) aC (fun _ _=>rfl)))) (aQ (d6 (DW.t (yJ (cH (eM (u64 hr)) gK dR (aN aZ bG aF (dv 6) aC) aC (b9 _)) (yJ (cH (eM (u64 hr)) gK dR (aN aZ bG aF (dv 7) aC) aC (b9 _)) (yJ (vD (u1 hr) (bW (aB (aN bH b8 aF (dv 6) aC) (aB (aN bH b8 aF (dv 7) aC) aK))) (dv 2)) (aB3 (cH sV iF aW (cM rN aD4 y9 rfl B.len_ PySem.boot_len (aB (dv 2) aK)) aC (b9 _))))))) (aI (a6 (i:=8) sc__law_with_mixed.nd rfl (Or.inl rfl) (aO c__law_product hr bI (aB (bW (aB aC (aB aC aK))) (aB (aO c__law_sum hr bI (aB (aP (aP (dv 0) (dv 4) (fun _ _=>rfl)) aC (fun _ _=>rfl)) (aB (aP (aP (dv 0) (dv 5) (fun _ _=>rfl)) aC (fun _ _=>rfl)) aK))) aK)))) (aI (a6 (i:=9) sc__law_with_mixed.nd rfl (Or.inl rfl) (aN aS aY aF (aN aZ bG aF (aN b7 dB b6 (aN b7 dB b6 (dv 1) (aN aS aY aF (dv 4) (dv 4))) (dv 5)) aC) (aN aZ bG aF (dv 1) aC))) (aQ (lU (i:=2) (u1 hr) (pv 2) (bW (aB (aN bH b8 aF (dv 6) aC) (aB (aN bH b8 aF (dv 7) aC) aK))) (aO c__law_sum hr bI (aB (dv 8) (aB (aO c__law_low hr bI (aB (pK (dv 9)) (aB (aN b7 dB b6 aC (aN aZ bG aF (dv 1) aC)) aK))) aK))) rfl)))) bZ))))))) (eZ 2 (aQ (bF (fS (xs:=["_law_slope"]) (ys:=["_law_high"]) (js:=[2]) (cl:=[("_law_high",s.heap.objs.size+1)]) rfl (cL (cM (SRT.nR rfl) nS lS rfl B.sorted_ oX (aB (dv 2) aK))) (iT (ys:=["_law_high"]) (js:=[2]) rfl (List.forall_mem_cons.mpr ⟨rfl,(fun _ h=>nomatch h)⟩) (bR ⟨rfl,.inl rfl,.inl rfl,rfl,rfl⟩ bD) (by decide +kernel) (by decide +kernel)) (bR ⟨rfl,.inl rfl,.inl rfl,rfl,rfl⟩ bD) (by decide +kernel) rfl (by decide +kernel) rfl (by decide) (fun C s₀ H₀ ex pn=>(bE (i:=0) (show (["_law_slope","_law_high"]:List Str).Nodup by decide +kernel) rfl (Or.inl rfl))) (fun C s₀ H₀ ex pn=>fT) (fun C s₀ H₀ ex pn=>(bW (aB (aP (dv 0) aC (fun _ _=>rfl)) (aB (aP (dv 0) aC (fun _ _=>rfl)) (aB (pY (u1 hr) (dv 1) (dv 0) (fun _ _=>rfl)) aK))))))))))))
theorem sc__law_like:bC ["_law_roof","_law_planes","_law_bits","_law_made","_law_plane"] ["_law_roof","_law_planes","_law_bits"] (aT jV):=⟨rfl,rfl,rfl,by decide +kernel,rfl,by decide +kernel,by decide +kernel⟩
theorem uE {c:Cls} (Df:Def K mg "_law_like" ["_law_roof","_law_planes","_law_bits"] jV) (B:Blt mg) (C:jP mg c) (O:jQ mg base c) (hk:jH K c) (c__law_sum:Cal P w K mg base 2 "_law_sum" 2 (bK K c)):Cal P w K mg base 3 "_law_like" 3 (dH K c):=by
 refine jU (k:=2) Df sc__law_like rfl (fun f cdv A outer s H E hr=>⟨jS K c,?_,uZ K c⟩)
 exact (aI (a6 (i:=3) sc__law_like.nd rfl (Or.inl rfl) (xG aK)) (aI (jK PassesOwn.leaving rfl (cL (dv 0)) (bE (i:=4) sc__law_like.nd rfl (Or.inl rfl)) (aI (d6 (cH (aLq (u65 hr)) aLa aIh (dv 4) (dv 1) (by with_unfolding_all rfl)) (aQ (l5 (i:=3) (dv 4) (fun t q=>o9 (aB7 PySem.F.plainAttrs_list PySem.F.slot_list_append PySem.F.type_list_append mG (pv 3) (nG q qX))))) (aQ (d6 (cH (eM (u64 hr)) gK dR (aN aZ bG aF (dv 2) aC) aC (b9 _)) (aQ (l5 (i:=3) (bW (aB (aP (dv 4) aC (fun _ _=>rfl)) (aB (aP (dv 4) aC (fun _ _=>rfl)) (aB (aO c__law_sum hr bI (aB (aP (dv 4) aC (fun _ _=>rfl)) (aB (bW (aB (aN d9 d8 aW (pK aC) (aN aZ bG aF (dv 2) aC)) (aB (aN b7 dB b6 aC (aN aZ bG aF (dv 2) aC)) aK))) aK))) aK)))) (fun t q=>o9 (aB7 PySem.F.plainAttrs_list PySem.F.slot_list_append PySem.F.type_list_append mG (pv 3) (nG q qX))))) (aQ (d6 (cH (eM (u64 hr)) gK dR (aN aZ bG aF (dv 2) aC) aC (b9 _)) (aQ (l5 (i:=3) (dv 4) (fun t q=>o9 (aB7 PySem.F.plainAttrs_list PySem.F.slot_list_append PySem.F.type_list_append mG (pv 3) (nG q qX))))) bZ))))) (aQ (a6 (i:=2) sc__law_like.nd rfl (Or.inl rfl) (aN bH b8 aF (dv 2) aC))))) (aQ (bF (dv 3)))))
end
section
variable {P:Program} {w:World} {K:PySem.W.Frag} {mg:Str->Option Value} {base:Heap}
theorem aH9:bC ["a","b"] ["a","b"] (aT xU):=⟨rfl,rfl,rfl,by decide +kernel,rfl,by decide +kernel,by decide +kernel⟩
theorem aHs {c:Cls} (Df:Def K mg "plus" ["a","b"] xU) (B:Blt mg) (C:jP mg c) (O:jQ mg base c) (hk:jH K c) (c_fraction:Cal P w K mg base 2 "fraction" 2 (cA K c)):Cal P w K mg base 3 "plus" 2 (lK K c):=by
 refine jU (k:=2) Df aH9 rfl (fun f cdv A outer s H E hr=>⟨aBu K c,?_,aJk K c⟩)
 exact (aQ (bF (aO c_fraction hr bI (aB (aN b7 dB b6 (aN aS aY aF (aP (dv 0) aC (fun _ _=>rfl)) (aP (dv 1) aC (fun _ _=>rfl))) (aN aS aY aF (aP (dv 1) aC (fun _ _=>rfl)) (aP (dv 0) aC (fun _ _=>rfl)))) (aB (aN aS aY aF (aP (dv 0) aC (fun _ _=>rfl)) (aP (dv 1) aC (fun _ _=>rfl))) aK)))))
theorem sc_greatest:bC ["numbers","best","number"] ["numbers"] (aT lG):=⟨rfl,rfl,rfl,by decide +kernel,rfl,by decide +kernel,by decide +kernel⟩
theorem wN {c:Cls} (Df:Def K mg "greatest" ["numbers"] lG) (B:Blt mg) (C:jP mg c) (O:jQ mg base c) (hk:jH K c) (c_less:Cal P w K mg base 1 "less" 2 (kC K c)):Cal P w K mg base 2 "greatest" 1 (eS K c):=by
 refine jU (k:=1) Df sc_greatest rfl (fun f cdv A outer s H E hr=>⟨rL K c,?_,wH K c⟩)
 exact (aI (a6 (i:=1) sc_greatest.nd rfl (Or.inl rfl) (aP (dv 0) aC (fun _ _=>rfl))) (aI (jK PassesOwn.leaving rfl (cL (dv 0)) (bE (i:=2) sc_greatest.nd rfl (Or.inl rfl)) (aQ (d6 (l6 (aO c_less hr bI (aB (dv 1) (aB (dv 2) aK)))) (aQ (a6 (i:=1) sc_greatest.nd rfl (Or.inl rfl) (dv 2))) bZ))) (aQ (bF (dv 1)))))
theorem wR:bC ["roof","factor"] ["roof","factor"] (aT lD):=⟨rfl,rfl,rfl,by decide +kernel,rfl,by decide +kernel,by decide +kernel⟩
theorem v9 {c:Cls} (Df:Def K mg "blown_up" ["roof","factor"] lD) (B:Blt mg) (C:jP mg c) (O:jQ mg base c) (hk:jH K c) (c_whole:Cal P w K mg base 1 "whole" 2 (lQ K c)):Cal P w K mg base 2 "blown_up" 2 (fI K c):=by
 refine jU (k:=1) Df wR rfl (fun f cdv A outer s H E hr=>⟨nQ K c,?_,vX K c⟩)
 exact (aQ (bF (fS (xs:=["plane"]) (ys:=["factor"]) (js:=[1]) (cl:=[("factor",s.heap.objs.size+1)]) rfl (cL (dv 0)) (iT (ys:=["factor"]) (js:=[1]) rfl (List.forall_mem_cons.mpr ⟨rfl,(fun _ h=>nomatch h)⟩) (bR ⟨rfl,.inl rfl,.inl rfl,rfl,rfl⟩ bD) (by decide +kernel) (by decide +kernel)) (bR ⟨rfl,.inl rfl,.inl rfl,rfl,rfl⟩ bD) (by decide +kernel) rfl (by decide +kernel) rfl (by decide) (fun C s₀ H₀ ex pn=>(bE (i:=0) (show (["plane","factor"]:List Str).Nodup by decide +kernel) rfl (Or.inl rfl))) (fun C s₀ H₀ ex pn=>fT) (fun C s₀ H₀ ex pn=>(bW (aB (aP (dv 0) aC (fun _ _=>rfl)) (aB (aP (dv 0) aC (fun _ _=>rfl)) (aB (bW (aB (aO c_whole hr vC (aB (aP (dv 0) aC (fun _ _=>rfl)) (aB (dv 1) aK))) (aB aC aK))) aK))))))))
theorem sc_between:bC ["lows","highs","low","high"] ["lows","highs"] (aT mK):=⟨rfl,rfl,rfl,by decide +kernel,rfl,by decide +kernel,by decide +kernel⟩
theorem zQ {c:Cls} (Df:Def K mg "between" ["lows","highs"] mK) (B:Blt mg) (C:jP mg c) (O:jQ mg base c) (hk:jH K c) (c_less:Cal P w K mg base 1 "less" 2 (kC K c)) (c_over:Cal P w K mg base 3 "over" 2 (nU K c)) (c_plus:Cal P w K mg base 3 "plus" 2 (lK K c)) (c_least:Cal P w K mg base 2 "least" 1 (j4 K c)) (c_greatest:Cal P w K mg base 2 "greatest" 1 (eS K c)) (c_minus:Cal P w K mg base 3 "minus" 2 (jZ K c)):Cal P w K mg base 4 "between" 2 (iQ K c):=by
 refine jU (k:=3) Df sc_between rfl (fun f cdv A outer s H E hr=>⟨pG K c,?_,aAd K c⟩)
 exact (aI (d6 (DW.t (yJ (cH (eM (u64 hr)) gK dR (cM cR j5 hU rfl B.len_ PySem.boot_len (aB (dv 0) aK)) aC (b9 _)) (aB3 (cH (eM (u64 hr)) gK dR (cM cR j5 hU rfl B.len_ PySem.boot_len (aB (dv 1) aK)) aC (b9 _))))) (aQ (bF (bW (aB aC (aB aC aK))))) bZ) (aI (d6 (cH (eM (u64 hr)) gK dR (cM cR j5 hU rfl B.len_ PySem.boot_len (aB (dv 1) aK)) aC (b9 _)) (aQ (bF (aO c_plus hr bI (aB (aO c_greatest hr bI (aB (dv 0) aK)) (aB (bW (aB aC (aB aC aK))) aK))))) bZ) (aI (d6 (cH (eM (u64 hr)) gK dR (cM cR j5 hU rfl B.len_ PySem.boot_len (aB (dv 0) aK)) aC (b9 _)) (aQ (bF (aO c_minus hr bI (aB (aO c_least hr bI (aB (dv 1) aK)) (aB (bW (aB aC (aB aC aK))) aK))))) bZ) (aI (a6 (i:=2) sc_between.nd rfl (Or.inl rfl) (aO c_greatest hr bI (aB (dv 0) aK))) (aI (a6 (i:=3) sc_between.nd rfl (Or.inl rfl) (aO c_least hr bI (aB (dv 1) aK))) (aQ (bF (aM2 (l6 (aO c_less hr bI (aB (dv 2) (aB (dv 3) aK)))) (aO c_over hr bI (aB (aO c_plus hr bI (aB (dv 2) (aB (dv 3) aK))) (aB (bW (aB aC (aB aC aK))) aK))) xY))))))))
theorem sc_lone_points:bC ["roof","factor","planes"] ["roof","factor"] (aT hZ):=⟨rfl,rfl,rfl,by decide +kernel,rfl,by decide +kernel,by decide +kernel⟩
theorem qO {c:Cls} (Df:Def K mg "lone_points" ["roof","factor"] hZ) (B:Blt mg) (C:jP mg c) (O:jQ mg base c) (hk:jH K c) (c_lone_point:Cal P w K mg base 6 "lone_point" 2 (eI K c)) (c_blown_up:Cal P w K mg base 2 "blown_up" 2 (fI K c)):Cal P w K mg base 7 "lone_points" 2 (cJ K c):=by
 refine jU (k:=6) Df sc_lone_points rfl (fun f cdv A outer s H E hr=>⟨jW K c,?_,qM K c⟩)
 exact (aI (a6 (i:=2) sc_lone_points.nd rfl (Or.inr rfl) (aO c_blown_up hr bI (aB (dv 0) (aB (dv 1) aK)))) (eZ 2 (aQ (bF (fS (xs:=["plane"]) (ys:=["planes"]) (js:=[2]) (cl:=[("planes",s.heap.objs.size+1)]) rfl (cL (dv 2)) (iT (ys:=["planes"]) (js:=[2]) rfl (List.forall_mem_cons.mpr ⟨rfl,(fun _ h=>nomatch h)⟩) (bR ⟨rfl,.inl rfl,.inl rfl,rfl,rfl⟩ bD) (by decide +kernel) (by decide +kernel)) (bR ⟨rfl,.inl rfl,.inl rfl,rfl,rfl⟩ bD) (by decide +kernel) rfl (by decide +kernel) rfl (by decide) (fun C s₀ H₀ ex pn=>(bE (i:=0) (show (["plane","planes"]:List Str).Nodup by decide +kernel) rfl (Or.inl rfl))) (fun C s₀ H₀ ex pn=>fT) (fun C s₀ H₀ ex pn=>(aO c_lone_point hr vC (aB (dv 0) (aB (dv 1) aK)))))))))
theorem sc__law_crossing:bC ["_law_one","_law_other","_law_third","_law_a","_law_b","_law_w","_law_first","_law_second","_law_x","_law_y"] ["_law_one","_law_other","_law_third"] (aT fW):=⟨rfl,rfl,rfl,by decide +kernel,rfl,by decide +kernel,by decide +kernel⟩
theorem oE {c:Cls} (Df:Def K mg "_law_crossing" ["_law_one","_law_other","_law_third"] fW) (B:Blt mg) (C:jP mg c) (O:jQ mg base c) (hk:jH K c) (c__law_low:Cal P w K mg base 1 "_law_low" 2 (aV K c)):Cal P w K mg base 2 "_law_crossing" 3 (bL K c):=by
 refine jU (k:=1) Df sc__law_crossing rfl (fun f cdv A outer s H E hr=>⟨iK K c,?_,oA K c⟩)
 exact (aI (a6 (i:=3) sc__law_crossing.nd rfl (Or.inl rfl) (bW (aB (aN d9 d8 aW (aP (dv 0) aC (fun _ _=>rfl)) (aP (dv 1) aC (fun _ _=>rfl))) (aB (aN d9 d8 aW (aP (dv 0) aC (fun _ _=>rfl)) (aP (dv 1) aC (fun _ _=>rfl))) (aB (aN d9 d8 aW (aN aS aY aF (aP (aP (dv 1) aC (fun _ _=>rfl)) aC (fun _ _=>rfl)) (aP (aP (dv 0) aC (fun _ _=>rfl)) aC (fun _ _=>rfl))) (aN aS aY aF (aP (aP (dv 0) aC (fun _ _=>rfl)) aC (fun _ _=>rfl)) (aP (aP (dv 1) aC (fun _ _=>rfl)) aC (fun _ _=>rfl)))) aK))))) (aI (a6 (i:=4) sc__law_crossing.nd rfl (Or.inl rfl) (bW (aB (aN d9 d8 aW (aP (dv 0) aC (fun _ _=>rfl)) (aP (dv 2) aC (fun _ _=>rfl))) (aB (aN d9 d8 aW (aP (dv 0) aC (fun _ _=>rfl)) (aP (dv 2) aC (fun _ _=>rfl))) (aB (aN d9 d8 aW (aN aS aY aF (aP (aP (dv 2) aC (fun _ _=>rfl)) aC (fun _ _=>rfl)) (aP (aP (dv 0) aC (fun _ _=>rfl)) aC (fun _ _=>rfl))) (aN aS aY aF (aP (aP (dv 0) aC (fun _ _=>rfl)) aC (fun _ _=>rfl)) (aP (aP (dv 2) aC (fun _ _=>rfl)) aC (fun _ _=>rfl)))) aK))))) (aI (a6 (i:=5) sc__law_crossing.nd rfl (Or.inl rfl) (aN d9 d8 aW (aN aS aY aF (aP (dv 3) aC (fun _ _=>rfl)) (aP (dv 4) aC (fun _ _=>rfl))) (aN aS aY aF (aP (dv 3) aC (fun _ _=>rfl)) (aP (dv 4) aC (fun _ _=>rfl))))) (aI (d6 (cH (eM (u64 hr)) gK dR (dv 5) aC (b9 _)) (aQ (bF xY)) bZ) (aI (a6 (i:=6) sc__law_crossing.nd rfl (Or.inl rfl) (aN aS aY aF (aP (aP (dv 1) aC (fun _ _=>rfl)) aC (fun _ _=>rfl)) (aP (aP (dv 0) aC (fun _ _=>rfl)) aC (fun _ _=>rfl)))) (aI (a6 (i:=7) sc__law_crossing.nd rfl (Or.inl rfl) (aN aS aY aF (aP (aP (dv 2) aC (fun _ _=>rfl)) aC (fun _ _=>rfl)) (aP (aP (dv 0) aC (fun _ _=>rfl)) aC (fun _ _=>rfl)))) (aI (a6 (i:=8) sc__law_crossing.nd rfl (Or.inl rfl) (aN d9 d8 aW (aN aS aY aF (aN aS aY aF (aP (dv 3) aC (fun _ _=>rfl)) (aP (dv 4) aC (fun _ _=>rfl))) (dv 7)) (aN aS aY aF (aN aS aY aF (aP (dv 4) aC (fun _ _=>rfl)) (aP (dv 3) aC (fun _ _=>rfl))) (dv 6)))) (aI (a6 (i:=9) sc__law_crossing.nd rfl (Or.inl rfl) (aN d9 d8 aW (aN aS aY aF (aN aS aY aF (aP (dv 4) aC (fun _ _=>rfl)) (aP (dv 3) aC (fun _ _=>rfl))) (dv 6)) (aN aS aY aF (aN aS aY aF (aP (dv 3) aC (fun _ _=>rfl)) (aP (dv 4) aC (fun _ _=>rfl))) (dv 7)))) (aQ (bF (bW (aB (aO c__law_low hr bI (aB (dv 8) (aB (aN aS aY aF (aN aS aY aF (dv 5) (dv 6)) (dv 7)) aK))) (aB (aO c__law_low hr bI (aB (dv 9) (aB (aN aS aY aF (aN aS aY aF (dv 5) (dv 6)) (dv 7)) aK))) aK)))))))))))))
end
section
variable {P:Program} {w:World} {K:PySem.W.Frag} {mg:Str->Option Value} {base:Heap}
theorem sc_fraction:bC ["top","bottom","divisor"] ["top","bottom"] (aT lE):=⟨rfl,rfl,rfl,by decide +kernel,rfl,by decide +kernel,by decide +kernel⟩
theorem xB {c:Cls} (Df:Def K mg "fraction" ["top","bottom"] lE) (B:Blt mg) (C:jP mg c) (O:jQ mg base c) (hk:jH K c) (c_greatest_divisor:Cal P w K mg base 1 "greatest_divisor" 2 (bM K c)):Cal P w K mg base 2 "fraction" 2 (cA K c):=by
 refine jU (k:=1) Df sc_fraction rfl (fun f cdv A outer s H E hr=>⟨iE K c,?_,v7 K c⟩)
 exact (aI (d6 (cH (eM (u64 hr)) gK dR (dv 1) aC (b9 _)) (aQ (aFo aIl rfl rfl O.NoFraction PySem.F.excBase_ValueError (aB aM4 aK))) bZ) (aI (a6 (i:=2) sc_fraction.nd rfl (Or.inl rfl) (aO c_greatest_divisor hr bI (aB (dv 0) (aB (dv 1) aK)))) (aI (d6 (cH sV iF aW (dv 1) aC (b9 _)) (aQ (a6 (i:=2) sc_fraction.nd rfl (Or.inl rfl) (pK (dv 2)))) bZ) (aQ (bF (bW (aB (aN bH b8 aF (dv 0) (dv 2)) (aB (aN bH b8 aF (dv 1) (dv 2)) aK))))))))
theorem aH7:bC ["a","b"] ["a","b"] (aT yK):=⟨rfl,rfl,rfl,by decide +kernel,rfl,by decide +kernel,by decide +kernel⟩
theorem aI9 {c:Cls} (Df:Def K mg "less" ["a","b"] yK) (B:Blt mg) (C:jP mg c) (O:jQ mg base c) (hk:jH K c):Cal P w K mg base 1 "less" 2 (kC K c):=by
 refine jU (k:=0) Df aH7 rfl (fun f cdv A outer s H E hr=>⟨aB6 K c,?_,aI0 K c⟩)
 exact (aQ (bF (zF sV iF aW (aN aS aY aF (aP (dv 0) aC (fun _ _=>rfl)) (aP (dv 1) aC (fun _ _=>rfl))) (aN aS aY aF (aP (dv 1) aC (fun _ _=>rfl)) (aP (dv 0) aC (fun _ _=>rfl))) (b9 _))))
theorem sc_staying:bC ["roof","factor","points"] ["roof"] (aT l8):=⟨rfl,rfl,rfl,by decide +kernel,rfl,by decide +kernel,by decide +kernel⟩
theorem aAe {c:Cls} (Df:Def K mg "staying" ["roof"] l8) (B:Blt mg) (C:jP mg c) (O:jQ mg base c) (hk:jH K c) (c_shrunk:Cal P w K mg base 3 "shrunk" 2 (j3 K c)) (c_lone_points:Cal P w K mg base 7 "lone_points" 2 (cJ K c)) (c_whole_factor:Cal P w K mg base 3 "whole_factor" 1 (cD K c)):Cal P w K mg base 8 "staying" 1 (fO K c):=by
 refine jU (k:=7) Df sc_staying rfl (fun f cdv A outer s H E hr=>⟨pL K c,?_,zV K c⟩)
 exact (aI (a6 (i:=1) sc_staying.nd rfl (Or.inr rfl) (aO c_whole_factor hr bI (aB (dv 0) aK))) (aI (a6 (i:=2) sc_staying.nd rfl (Or.inl rfl) (aO c_lone_points hr bI (aB (dv 0) (aB (dv 1) aK)))) (eZ 2 (aQ (bF (fS (xs:=["plane","point"]) (ys:=["factor"]) (js:=[1]) (cl:=[("factor",s.heap.objs.size+1)]) rfl (aGp rfl B.zip_ (aB (dv 0) (aB (dv 2) aK))) (iT (ys:=["factor"]) (js:=[1]) rfl (List.forall_mem_cons.mpr ⟨rfl,(fun _ h=>nomatch h)⟩) (bR ⟨rfl,.inl rfl,.inl rfl,rfl,rfl⟩ bD) (by decide +kernel) (by decide +kernel)) (bR ⟨rfl,.inl rfl,.inl rfl,rfl,rfl⟩ bD) (by decide +kernel) rfl (by decide +kernel) rfl (by decide) (fun C s₀ H₀ ex pn=>(uG (n:=2) rfl (gR (bE (i:=0) (show (["plane","point","factor"]:List Str).Nodup by decide +kernel) rfl (Or.inl rfl)) (gR (bE (i:=1) (show (["plane","point","factor"]:List Str).Nodup by decide +kernel) rfl (Or.inl rfl)) pD)))) (fun C s₀ H₀ ex pn=>(kE (w4 (dv 1)))) (fun C s₀ H₀ ex pn=>(bW (aB (dv 0) (aB (aO c_shrunk hr vC (aB (dv 1) (aB (dv 2) aK))) aK))))))))))
theorem nB:bC ["_law_kind","_law_i","_law_j","_law_rest"] ["_law_kind","_law_i","_law_j","_law_rest"] (aT fG):=⟨rfl,rfl,rfl,by decide +kernel,rfl,by decide +kernel,by decide +kernel⟩
theorem nF {c:Cls} (Df:Def K mg "_law_height_by" ["_law_kind","_law_i","_law_j","_law_rest"] fG) (B:Blt mg) (C:jP mg c) (O:jQ mg base c) (hk:jH K c) (c__law_low:Cal P w K mg base 1 "_law_low" 2 (aV K c)):Cal P w K mg base 2 "_law_height_by" 4 (bV K c):=by
 refine jU (k:=1) Df nB rfl (fun f cdv A outer s H E hr=>⟨dZ K c,?_,nJ K c⟩)
 exact (aI (d6 (cH (eM (u64 hr)) gK dR (aN aZ bG aF (dv 0) aC) aC (b9 _)) (aQ (bF (bW (aB (aN d9 d8 aW (aN aZ bG aF (dv 3) aC) (aN aS aY aF (aN b7 dB b6 (aN b7 dB b6 (aN aS aY aF (dv 1) (dv 1)) (aN aS aY aF (dv 1) (dv 2))) (aN aS aY aF (dv 2) (dv 2))) (aN b7 dB b6 aC (aN aZ bG aF (aN bH b8 aF (dv 0) aC) aC)))) (aB aC aK))))) bZ) (aI (d6 (cH (eM (u64 hr)) gK dR (aN aZ bG aF (dv 0) aC) aC (b9 _)) (aQ (bF (bW (aB (aN aZ bG aF (dv 3) aC) (aB aC aK))))) bZ) (aI (d6 (cH (eM (u64 hr)) gK dR (aN aZ bG aF (aN bH b8 aF (dv 0) aC) aC) aC (b9 _)) (aQ (bF (aO c__law_low hr bI (aB (aN d9 d8 aW (aN aZ bG aF (dv 3) (aN b7 dB b6 (aN aS aY aF aC (aN kL kP aF aC aC)) aC)) (aN kL kP aF aC aC)) (aB (aN b7 dB b6 aC (aN aZ bG aF (aN bH b8 aF (dv 3) aC) aC)) aK))))) bZ) (aQ (bF (aO c__law_low hr bI (aB (aN d9 d8 aW (aN aZ bG aF (dv 3) aC) aC) (aB (aN b7 dB b6 aC (aN aZ bG aF (aN bH b8 aF (dv 3) aC) aC)) aK))))))))
theorem sc__law_roof_by:bC ["_law_kind","_law_cells_here","_law_most","_law_wide","_law_high","_law_cell","_law_i","_law_j","_law_height","_law_far"] ["_law_kind","_law_cells_here","_law_most","_law_wide"] (aT gU):=⟨rfl,rfl,rfl,by decide +kernel,rfl,by decide +kernel,by decide +kernel⟩
theorem pI {c:Cls} (Df:Def K mg "_law_roof_by" ["_law_kind","_law_cells_here","_law_most","_law_wide"] gU) (B:Blt mg) (C:jP mg c) (O:jQ mg base c) (hk:jH K c) (c__law_height_by:Cal P w K mg base 2 "_law_height_by" 4 (bV K c)):Cal P w K mg base 3 "_law_roof_by" 4 (cX K c):=by
 refine jU (k:=2) Df sc__law_roof_by rfl (fun f cdv A outer s H E hr=>⟨jF K c,?_,pQ K c⟩)
 exact (aI (a6 (i:=4) sc__law_roof_by.nd rfl (Or.inr rfl) l7) (aI (jK PassesOwn.leaving rfl (cL (dv 1)) (bE (i:=5) sc__law_roof_by.nd rfl (Or.inl rfl)) (aI (a6 (i:=6) sc__law_roof_by.nd rfl (Or.inl rfl) (aN aZ bG aF (dv 5) (dv 3))) (aI (a6 (i:=7) sc__law_roof_by.nd rfl (Or.inl rfl) (aN aZ bG aF (aN bH b8 aF (dv 5) (dv 3)) (dv 3))) (aI (d6 (cH (eM (u64 hr)) gK dR (aN aZ bG aF (dv 0) aC) aC (b9 _)) (aQ (a6 (i:=7) sc__law_roof_by.nd rfl (Or.inl rfl) (aN aS aY aF (dv 6) (aN aZ bG aF (aN bH b8 aF (dv 0) aC) aC)))) bZ) (aI (a6 (i:=8) sc__law_roof_by.nd rfl (Or.inl rfl) (aO c__law_height_by hr bI (aB (dv 0) (aB (dv 6) (aB (dv 7) (aB (aN bH b8 aF (dv 5) (aN aS aY aF (dv 3) (dv 3))) aK)))))) (aQ (d6 (aMn (u1 hr) (bW (aB (dv 6) (aB (dv 7) aK))) (dv 4)) (aI (a6 (i:=9) sc__law_roof_by.nd rfl (Or.inl rfl) (pY (u1 hr) (dv 4) (bW (aB (dv 6) (aB (dv 7) aK))) (fun _ _=>rfl))) (aQ (d6 (cH aBi iF aW (aN aS aY aF (aP (dv 8) aC (fun _ _=>rfl)) (aP (dv 9) aC (fun _ _=>rfl))) (aN aS aY aF (aP (dv 9) aC (fun _ _=>rfl)) (aP (dv 8) aC (fun _ _=>rfl))) (b9 _)) (aQ (lU (i:=4) (u1 hr) (pv 4) (bW (aB (dv 6) (aB (dv 7) aK))) (dv 8) rfl)) bZ))) (aQ (d6 (cH sV iF aW (cM rN aD4 y9 rfl B.len_ PySem.boot_len (aB (dv 4) aK)) (dv 2) (b9 _)) (aQ (lU (i:=4) (u1 hr) (pv 4) (bW (aB (dv 6) (aB (dv 7) aK))) (dv 8) rfl)) bZ))))))))) (aI (d6 (cH (aGz (Nat.lt_of_succ_lt (u1 hr))) aG8 aDn (dv 4) l7 (b9 _)) (aQ (lU (i:=4) (u1 hr) (pv 4) (bW (aB (aN aZ bG aF (dv 0) (dv 3)) (aB aC aK))) (bW (aB aC (aB aC aK))) rfl)) bZ) (eZ 4 (aQ (bF (fS (xs:=["_law_slope"]) (ys:=["_law_high"]) (js:=[4]) (cl:=[("_law_high",s.heap.objs.size+1)]) rfl (cL (cM (SRT.nR rfl) nS lS rfl B.sorted_ oX (aB (dv 4) aK))) (iT (ys:=["_law_high"]) (js:=[4]) rfl (List.forall_mem_cons.mpr ⟨rfl,(fun _ h=>nomatch h)⟩) (bR ⟨rfl,.inl rfl,.inl rfl,rfl,rfl⟩ bD) (by decide +kernel) (by decide +kernel)) (bR ⟨rfl,.inl rfl,.inl rfl,rfl,rfl⟩ bD) (by decide +kernel) rfl (by decide +kernel) rfl (by decide) (fun C s₀ H₀ ex pn=>(bE (i:=0) (show (["_law_slope","_law_high"]:List Str).Nodup by decide +kernel) rfl (Or.inl rfl))) (fun C s₀ H₀ ex pn=>fT) (fun C s₀ H₀ ex pn=>(bW (aB (aP (dv 0) aC (fun _ _=>rfl)) (aB (aP (dv 0) aC (fun _ _=>rfl)) (aB (pY (u1 hr) (dv 1) (dv 0) (fun _ _=>rfl)) aK))))))))))))
theorem rR:bC ["_law_one","_law_other"] ["_law_one","_law_other"] (aT iW):=⟨rfl,rfl,rfl,by decide +kernel,rfl,by decide +kernel,by decide +kernel⟩
theorem sX {c:Cls} (Df:Def K mg "_law_under" ["_law_one","_law_other"] iW) (B:Blt mg) (C:jP mg c) (O:jQ mg base c) (hk:jH K c):Cal P w K mg base 1 "_law_under" 2 (aX K c):=by
 refine jU (k:=0) Df rR rfl (fun f cdv A outer s H E hr=>⟨kG K c,?_,s8 K c⟩)
 exact (aQ (bF (zF sV iF aW (aN aS aY aF (aP (dv 0) aC (fun _ _=>rfl)) (aP (dv 1) aC (fun _ _=>rfl))) (aN aS aY aF (aP (dv 1) aC (fun _ _=>rfl)) (aP (dv 0) aC (fun _ _=>rfl))) (b9 _))))
theorem sc__law_alike_at:bC ["_law_one","_law_other","_law_points","_law_point"] ["_law_one","_law_other","_law_points"] (aT fQ):=⟨rfl,rfl,rfl,by decide +kernel,rfl,by decide +kernel,by decide +kernel⟩
theorem n8 {c:Cls} (Df:Def K mg "_law_alike_at" ["_law_one","_law_other","_law_points"] fQ) (B:Blt mg) (C:jP mg c) (O:jQ mg base c) (hk:jH K c) (c__law_level:Cal P w K mg base 3 "_law_level" 2 (aU K c)):Cal P w K mg base 4 "_law_alike_at" 3 (bJ K c):=by
 refine jU (k:=3) Df sc__law_alike_at rfl (fun f cdv A outer s H E hr=>⟨fZ K c,?_,n5 K c⟩)
 exact (aI (jK PassesOwn.leaving rfl (cL (dv 2)) (bE (i:=3) sc__law_alike_at.nd rfl (Or.inl rfl)) (aQ (d6 (cH (xI (u64 hr)) gK dR (aO c__law_level hr bI (aB (dv 0) (aB (dv 3) aK))) (aO c__law_level hr bI (aB (dv 1) (aB (dv 3) aK))) (b9 _)) (aQ (bF zK)) bZ))) (aQ (bF zK)))
end
section
variable {P:Program} {w:World} {K:PySem.W.Frag} {mg:Str->Option Value} {base:Heap}
theorem sc_greatest_divisor:bC ["a","b","larger","smaller","rest"] ["a","b"] (aT eA):=⟨rfl,rfl,rfl,by decide +kernel,rfl,by decide +kernel,by decide +kernel⟩
theorem lO {c:Cls} (Df:Def K mg "greatest_divisor" ["a","b"] eA) (B:Blt mg) (C:jP mg c) (O:jQ mg base c) (hk:jH K c):Cal P w K mg base 1 "greatest_divisor" 2 (bM K c):=by
 refine jU (k:=0) Df sc_greatest_divisor rfl (fun f cdv A outer s H E hr=>⟨iX K c,?_,lV K c⟩)
 exact (aI (a6 (i:=2) sc_greatest_divisor.nd rfl (Or.inl rfl) (cM oN yP tM rfl B.abs_ zB (aB (dv 0) aK))) (aI (a6 (i:=3) sc_greatest_divisor.nd rfl (Or.inl rfl) (cM oN yP tM rfl B.abs_ zB (aB (dv 1) aK))) (aI (xO PassesOwn.leaving (cH (xI (u64 hr)) gK dR (dv 3) aC (b9 _)) (aI (a6 (i:=4) sc_greatest_divisor.nd rfl (Or.inl rfl) (aN aZ bG aF (dv 2) (dv 3))) (aI (a6 (i:=2) sc_greatest_divisor.nd rfl (Or.inl rfl) (dv 3)) (aQ (a6 (i:=3) sc_greatest_divisor.nd rfl (Or.inl rfl) (dv 4)))))) (aQ (bF (dv 2))))))
theorem qB:bC ["roof"] ["roof"] (aT gQ):=⟨rfl,rfl,rfl,by decide +kernel,rfl,by decide +kernel,by decide +kernel⟩
theorem pC {c:Cls} (Df:Def K mg "whole_factor" ["roof"] gQ) (B:Blt mg) (C:jP mg c) (O:jQ mg base c) (hk:jH K c) (c_common_bottom:Cal P w K mg base 2 "common_bottom" 1 (dF K c)):Cal P w K mg base 3 "whole_factor" 1 (cD K c):=by
 refine jU (k:=2) Df qB rfl (fun f cdv A outer s H E hr=>⟨jD K c,?_,pU K c⟩)
 exact (aQ (bF (aO c_common_bottom hr bI (aB (fS (xs:=["plane"]) (ys:=[]) (js:=[]) (cl:=[]) rfl (cL (dv 0)) (iT (ys:=[]) (js:=[]) rfl (fun _ h=>nomatch h) bD (by decide +kernel) (by decide +kernel)) bD (by decide +kernel) rfl (by decide +kernel) rfl (by decide) (fun C s₀ H₀ ex pn=>(bE (i:=0) (show (["plane"]:List Str).Nodup by decide +kernel) rfl (Or.inl rfl))) (fun C s₀ H₀ ex pn=>fT) (fun C s₀ H₀ ex pn=>(aP (dv 0) aC (fun _ _=>rfl)))) aK))))
theorem sc_solved:bC ["rows","lows","highs"] ["rows"] (aT oH):=⟨rfl,rfl,rfl,by decide +kernel,rfl,by decide +kernel,by decide +kernel⟩
theorem aDg {c:Cls} (Df:Def K mg "solved" ["rows"] oH) (B:Blt mg) (C:jP mg c) (O:jQ mg base c) (hk:jH K c) (c_between:Cal P w K mg base 4 "between" 2 (iQ K c)) (c_fraction:Cal P w K mg base 2 "fraction" 2 (cA K c)):Cal P w K mg base 5 "solved" 1 (gN K c):=by
 refine jU (k:=4) Df sc_solved rfl (fun f cdv A outer s H E hr=>⟨rS K c,?_,aCt K c⟩)
 exact (aI (d6 (l6 (cM (aF1 rfl rfl) aMr aH2 rfl B.any_ aKg (aB (fS (xs:=["row"]) (ys:=[]) (js:=[]) (cl:=[]) rfl (cL (dv 0)) (iT (ys:=[]) (js:=[]) rfl (fun _ h=>nomatch h) bD (by decide +kernel) (by decide +kernel)) bD (by decide +kernel) rfl (by decide +kernel) rfl (by decide) (fun C s₀ H₀ ex pn=>(bE (i:=0) (show (["row"]:List Str).Nodup by decide +kernel) rfl (Or.inl rfl))) (fun C s₀ H₀ ex pn=>fT) (fun C s₀ H₀ ex pn=>(aKo (zF (eM (u64 hr)) gK dR (aP (dv 0) aC (fun _ _=>rfl)) aC (b9 _)) (aM6 (zF aOi iF aW (aP (dv 0) aC (fun _ _=>rfl)) aC (b9 _)))))) aK))) (aQ (bF xY)) bZ) (aI (kI (i:=1) sc_solved.nd rfl (Or.inl rfl) (xs:=["row"]) (ys:=[]) (js:=[]) (cl:=[]) rfl (cL (dv 0)) (iT (ys:=[]) (js:=[]) rfl (fun _ h=>nomatch h) bD (by decide +kernel) (by decide +kernel)) bD (by decide +kernel) rfl (by decide +kernel) rfl (by decide) (fun C s₀ H₀ ex pn=>(bE (i:=0) (show (["row"]:List Str).Nodup by decide +kernel) rfl (Or.inl rfl))) (fun C s₀ H₀ ex pn=>(kE (cH aBi iF aW (aP (dv 0) aC (fun _ _=>rfl)) aC (b9 _)))) (fun C s₀ H₀ ex pn=>(aO c_fraction hr vC (aB (pK (aP (dv 0) aC (fun _ _=>rfl))) (aB (aP (dv 0) aC (fun _ _=>rfl)) aK))))) (aI (kI (i:=2) sc_solved.nd rfl (Or.inl rfl) (xs:=["row"]) (ys:=[]) (js:=[]) (cl:=[]) rfl (cL (dv 0)) (iT (ys:=[]) (js:=[]) rfl (fun _ h=>nomatch h) bD (by decide +kernel) (by decide +kernel)) bD (by decide +kernel) rfl (by decide +kernel) rfl (by decide) (fun C s₀ H₀ ex pn=>(bE (i:=0) (show (["row"]:List Str).Nodup by decide +kernel) rfl (Or.inl rfl))) (fun C s₀ H₀ ex pn=>(kE (cH sV iF aW (aP (dv 0) aC (fun _ _=>rfl)) aC (b9 _)))) (fun C s₀ H₀ ex pn=>(aO c_fraction hr vC (aB (pK (aP (dv 0) aC (fun _ _=>rfl))) (aB (aP (dv 0) aC (fun _ _=>rfl)) aK))))) (aQ (bF (aO c_between hr bI (aB (dv 1) (aB (dv 2) aK))))))))
theorem aMo:bC ["plane","other"] ["plane","other"] (aT aE5):=⟨rfl,rfl,rfl,by decide +kernel,rfl,by decide +kernel,by decide +kernel⟩
theorem aMz {c:Cls} (Df:Def K mg "gap" ["plane","other"] aE5) (B:Blt mg) (C:jP mg c) (O:jQ mg base c) (hk:jH K c):Cal P w K mg base 1 "gap" 2 (wK K c):=by
 refine jU (k:=0) Df aMo rfl (fun f cdv A outer s H E hr=>⟨aHy K c,?_,aL7 K c⟩)
 exact (aQ (bF (bW (aB (aN d9 d8 aW (aP (dv 0) aC (fun _ _=>rfl)) (aP (dv 1) aC (fun _ _=>rfl))) (aB (aN d9 d8 aW (aP (dv 0) aC (fun _ _=>rfl)) (aP (dv 1) aC (fun _ _=>rfl))) (aB (aN d9 d8 aW (aP (aP (dv 0) aC (fun _ _=>rfl)) aC (fun _ _=>rfl)) (aP (aP (dv 1) aC (fun _ _=>rfl)) aC (fun _ _=>rfl))) aK))))))
theorem sc__law_point_by:bC ["_law_roof","_law_cell","_law_other","_law_many","_law_found","_law_x"] ["_law_roof","_law_cell","_law_other"] (aT fX):=⟨rfl,rfl,rfl,by decide +kernel,rfl,by decide +kernel,by decide +kernel⟩
theorem oG {c:Cls} (Df:Def K mg "_law_point_by" ["_law_roof","_law_cell","_law_other"] fX) (B:Blt mg) (C:jP mg c) (O:jQ mg base c) (hk:jH K c) (c__law_low:Cal P w K mg base 1 "_law_low" 2 (aV K c)) (c__law_crossing:Cal P w K mg base 2 "_law_crossing" 3 (bL K c)):Cal P w K mg base 3 "_law_point_by" 3 (bP K c):=by
 refine jU (k:=2) Df sc__law_point_by rfl (fun f cdv A outer s H E hr=>⟨eG K c,?_,nY K c⟩)
 exact (aI (d6 (cH (eM (u64 hr)) gK dR (aN aZ bG aF (dv 1) aC) aC (b9 _)) (aI (a6 (i:=3) sc__law_point_by.nd rfl (Or.inl rfl) (cM cR j5 hU rfl B.len_ PySem.boot_len (aB (dv 0) aK))) (aI (a6 (i:=4) sc__law_point_by.nd rfl (Or.inl rfl) (aO c__law_crossing hr bI (aB (aP (dv 0) (aN aZ bG aF (dv 2) (dv 3)) (fun _ _=>rfl)) (aB (aP (dv 0) (aN aZ bG aF (aN bH b8 aF (dv 2) (dv 3)) (dv 3)) (fun _ _=>rfl)) (aB (aP (dv 0) (aN aZ bG aF (aN bH b8 aF (dv 1) aC) (dv 3)) (fun _ _=>rfl)) aK))))) (aQ (d6 (w4 (dv 4)) (aQ (bF (dv 4))) bZ)))) bZ) (aI (d6 (cH (eM (u64 hr)) gK dR (aN aZ bG aF (dv 1) aC) aC (b9 _)) (aQ (bF (bW (aB (aO c__law_low hr bI (aB (aN d9 d8 aW (aN aZ bG aF (aN bH b8 aF (dv 1) aC) aC) aC) (aB (aN b7 dB b6 aC (aN aZ bG aF (aN bH b8 aF (dv 1) aC) aC)) aK))) (aB (aO c__law_low hr bI (aB (aN d9 d8 aW (aN aZ bG aF (dv 2) aC) aC) (aB (aN b7 dB b6 aC (aN aZ bG aF (aN bH b8 aF (dv 2) aC) aC)) aK))) aK))))) bZ) (aI (a6 (i:=5) sc__law_point_by.nd rfl (Or.inl rfl) (aO c__law_low hr bI (aB (aN d9 d8 aW (aN aZ bG aF (aN bH b8 aF (dv 1) aC) (aN b7 dB b6 (aN aS aY aF aC (aN kL kP aF aC aC)) aC)) (aN kL kP aF aC aC)) (aB (aN b7 dB b6 aC (aN aZ bG aF (aN bH b8 aF (dv 1) aC) aC)) aK)))) (aQ (bF (bW (aB (dv 5) (aB (aO c__law_low hr bI (aB (aN d9 d8 aW (aN aZ bG aF (dv 2) (aN b7 dB b6 (aN aS aY aF aC (aN kL kP aF aC aC)) aC)) (aN kL kP aF aC aC)) (aB (aN b7 dB b6 aC (aN aZ bG aF (aN bH b8 aF (dv 2) aC) aC)) aK))) aK))))))))
theorem sc__law_cells:bC ["_law_script","_law_made"] ["_law_script"] (aT i5):=⟨rfl,rfl,rfl,by decide +kernel,rfl,by decide +kernel,by decide +kernel⟩
theorem sG {c:Cls} (Df:Def K mg "_law_cells" ["_law_script"] i5) (B:Blt mg) (C:jP mg c) (O:jQ mg base c) (hk:jH K c) (c__law_stirred:Cal P w K mg base 2 "_law_stirred" 1 (cY K c)):Cal P w K mg base 3 "_law_cells" 1 (cO K c):=by
 refine jU (k:=2) Df sc__law_cells rfl (fun f cdv A outer s H E hr=>⟨g6 K c,?_,sD K c⟩)
 exact (aI (d6 (DW.t (aIs (cH (eM (u64 hr)) gK dR (cM cR j5 hU rfl B.len_ PySem.boot_len (aB (dv 0) aK)) aC (b9 _)) (aBo (cH (eM (u64 hr)) gK dR (aN aZ bG aF (aP (dv 0) aC (fun _ _=>rfl)) aC) aC (b9 _))))) (aQ (bF (bW (aB zK (aB (aO c__law_stirred hr bI (aB (dv 0) aK)) aK))))) bZ) (aI (kI (i:=1) sc__law_cells.nd rfl (Or.inl rfl) (xs:=["_law_cell"]) (ys:=[]) (js:=[]) (cl:=[]) rfl (cL (dv 0)) (iT (ys:=[]) (js:=[]) rfl (fun _ h=>nomatch h) bD (by decide +kernel) (by decide +kernel)) bD (by decide +kernel) rfl (by decide +kernel) rfl (by decide) (fun C s₀ H₀ ex pn=>(bE (i:=0) (show (["_law_cell"]:List Str).Nodup by decide +kernel) rfl (Or.inl rfl))) (fun C s₀ H₀ ex pn=>fT) (fun C s₀ H₀ ex pn=>(aN aZ bG aF (dv 0) (aN kL kP aF aC aC)))) (aI (aJl (i:=1) aC (aN bH b8 aF (aP (dv 1) aC (fun _ _=>rfl)) aC) (fun _ _ p q=>aHb q (aLj (pv 1) p set_list))) (eZ 1 (aQ (bF (bW (aB zK (aB (aN b7 dB b6 (dv 1) (aN aIg aJf aEi (xG (aB aC aK)) (aN d9 d8 aW aC (cM cR j5 hU rfl B.len_ PySem.boot_len (aB (dv 1) aK))))) aK)))))))))
end
section
variable {P:Program} {w:World} {K:PySem.W.Frag} {mg:Str->Option Value} {base:Heap}
theorem sc_least:bC ["numbers","best","number"] ["numbers"] (aT tF):=⟨rfl,rfl,rfl,by decide +kernel,rfl,by decide +kernel,by decide +kernel⟩
theorem aFe {c:Cls} (Df:Def K mg "least" ["numbers"] tF) (B:Blt mg) (C:jP mg c) (O:jQ mg base c) (hk:jH K c) (c_less:Cal P w K mg base 1 "less" 2 (kC K c)):Cal P w K mg base 2 "least" 1 (j4 K c):=by
 refine jU (k:=1) Df sc_least rfl (fun f cdv A outer s H E hr=>⟨aC0 K c,?_,aFa K c⟩)
 exact (aI (a6 (i:=1) sc_least.nd rfl (Or.inl rfl) (aP (dv 0) aC (fun _ _=>rfl))) (aI (jK PassesOwn.leaving rfl (cL (dv 0)) (bE (i:=2) sc_least.nd rfl (Or.inl rfl)) (aQ (d6 (l6 (aO c_less hr bI (aB (dv 2) (aB (dv 1) aK)))) (aQ (a6 (i:=1) sc_least.nd rfl (Or.inl rfl) (dv 2))) bZ))) (aQ (bF (dv 1)))))
theorem sc_without_y:bC ["rows","kept","highs","low"] ["rows"] (aT jT):=⟨rfl,rfl,rfl,by decide +kernel,rfl,by decide +kernel,by decide +kernel⟩
theorem vM {c:Cls} (Df:Def K mg "without_y" ["rows"] jT) (B:Blt mg) (C:jP mg c) (O:jQ mg base c) (hk:jH K c):Cal P w K mg base 1 "without_y" 1 (eF K c):=by
 refine jU (k:=0) Df sc_without_y rfl (fun f cdv A outer s H E hr=>⟨lR K c,?_,uT K c⟩)
 exact (aI (kI (i:=1) sc_without_y.nd rfl (Or.inl rfl) (xs:=["row"]) (ys:=[]) (js:=[]) (cl:=[]) rfl (cL (dv 0)) (iT (ys:=[]) (js:=[]) rfl (fun _ h=>nomatch h) bD (by decide +kernel) (by decide +kernel)) bD (by decide +kernel) rfl (by decide +kernel) rfl (by decide) (fun C s₀ H₀ ex pn=>(bE (i:=0) (show (["row"]:List Str).Nodup by decide +kernel) rfl (Or.inl rfl))) (fun C s₀ H₀ ex pn=>(kE (cH (eM (u64 hr)) gK dR (aP (dv 0) aC (fun _ _=>rfl)) aC (b9 _)))) (fun C s₀ H₀ ex pn=>(bW (aB (aP (dv 0) aC (fun _ _=>rfl)) (aB (aP (dv 0) aC (fun _ _=>rfl)) aK))))) (aI (kI (i:=2) sc_without_y.nd rfl (Or.inl rfl) (xs:=["row"]) (ys:=[]) (js:=[]) (cl:=[]) rfl (cL (dv 0)) (iT (ys:=[]) (js:=[]) rfl (fun _ h=>nomatch h) bD (by decide +kernel) (by decide +kernel)) bD (by decide +kernel) rfl (by decide +kernel) rfl (by decide) (fun C s₀ H₀ ex pn=>(bE (i:=0) (show (["row"]:List Str).Nodup by decide +kernel) rfl (Or.inl rfl))) (fun C s₀ H₀ ex pn=>(kE (cH sV iF aW (aP (dv 0) aC (fun _ _=>rfl)) aC (b9 _)))) (fun C s₀ H₀ ex pn=>(dv 0))) (eZ 2 (aI (jK PassesOwn.leaving rfl (cL (dv 0)) (bE (i:=3) sc_without_y.nd rfl (Or.inr rfl)) (aQ (d6 (cH aBi iF aW (aP (dv 3) aC (fun _ _=>rfl)) aC (b9 _)) (aQ (aBl (i:=1) (fS (xs:=["high"]) (ys:=["low"]) (js:=[3]) (cl:=[("low",s.heap.objs.size+1)]) rfl (cL (dv 2)) (iT (ys:=["low"]) (js:=[3]) rfl (List.forall_mem_cons.mpr ⟨rfl,(fun _ h=>nomatch h)⟩) (bR ⟨rfl,.inl rfl,.inl rfl,rfl,rfl⟩ bD) (by decide +kernel) (by decide +kernel)) (bR ⟨rfl,.inl rfl,.inl rfl,rfl,rfl⟩ bD) (by decide +kernel) rfl (by decide +kernel) rfl (by decide) (fun C s₀ H₀ ex pn=>(bE (i:=0) (show (["high","low"]:List Str).Nodup by decide +kernel) rfl (Or.inl rfl))) (fun C s₀ H₀ ex pn=>fT) (fun C s₀ H₀ ex pn=>(bW (aB (aN d9 d8 aW (aN aS aY aF (aP (dv 1) aC (fun _ _=>rfl)) (aP (dv 0) aC (fun _ _=>rfl))) (aN aS aY aF (aP (dv 0) aC (fun _ _=>rfl)) (aP (dv 1) aC (fun _ _=>rfl)))) (aB (aN d9 d8 aW (aN aS aY aF (aP (dv 1) aC (fun _ _=>rfl)) (aP (dv 0) aC (fun _ _=>rfl))) (aN aS aY aF (aP (dv 0) aC (fun _ _=>rfl)) (aP (dv 1) aC (fun _ _=>rfl)))) aK))))) (fun t q=>o9 (aB7 PySem.F.plainAttrs_list PySem.F.slot_list_extend PySem.F.type_list_extend aDc (pv 1) (nG q qX))))) bZ))) (aQ (bF (dv 1)))))))
theorem sc__law_level_at:bC ["_law_plane","_law_point","_law_x","_law_y","_law_far","_law_scale"] ["_law_plane","_law_point"] (aT fR):=⟨rfl,rfl,rfl,by decide +kernel,rfl,by decide +kernel,by decide +kernel⟩
theorem oB {c:Cls} (Df:Def K mg "_law_level_at" ["_law_plane","_law_point"] fR) (B:Blt mg) (C:jP mg c) (O:jQ mg base c) (hk:jH K c):Cal P w K mg base 1 "_law_level_at" 2 (cB K c):=by
 refine jU (k:=0) Df sc__law_level_at rfl (fun f cdv A outer s H E hr=>⟨kT K c,?_,n6 K c⟩)
 exact (aI (aA9 (dv 1) (uG (n:=2) rfl (gR (bE (i:=2) sc__law_level_at.nd rfl (Or.inl rfl)) (gR (bE (i:=3) sc__law_level_at.nd rfl (Or.inl rfl)) pD)))) (aI (a6 (i:=4) sc__law_level_at.nd rfl (Or.inl rfl) (aN b7 dB b6 (aN aS aY aF (aN aS aY aF (aP (dv 0) aC (fun _ _=>rfl)) (aP (dv 2) aC (fun _ _=>rfl))) (aP (dv 3) aC (fun _ _=>rfl))) (aN aS aY aF (aN aS aY aF (aP (dv 0) aC (fun _ _=>rfl)) (aP (dv 3) aC (fun _ _=>rfl))) (aP (dv 2) aC (fun _ _=>rfl))))) (aI (a6 (i:=5) sc__law_level_at.nd rfl (Or.inl rfl) (aN aS aY aF (aP (dv 2) aC (fun _ _=>rfl)) (aP (dv 3) aC (fun _ _=>rfl)))) (aQ (bF (bW (aB (aN b7 dB b6 (aN aS aY aF (dv 4) (aP (aP (dv 0) aC (fun _ _=>rfl)) aC (fun _ _=>rfl))) (aN aS aY aF (aP (aP (dv 0) aC (fun _ _=>rfl)) aC (fun _ _=>rfl)) (dv 5))) (aB (aN aS aY aF (dv 5) (aP (aP (dv 0) aC (fun _ _=>rfl)) aC (fun _ _=>rfl))) aK))))))))
theorem sc__law_tops_by:bC ["_law_roof","_law_point","_law_rows","_law_most","_law_row"] ["_law_roof","_law_point"] (aT gM):=⟨rfl,rfl,rfl,by decide +kernel,rfl,by decide +kernel,by decide +kernel⟩
theorem pR {c:Cls} (Df:Def K mg "_law_tops_by" ["_law_roof","_law_point"] gM) (B:Blt mg) (C:jP mg c) (O:jQ mg base c) (hk:jH K c) (c__law_under:Cal P w K mg base 1 "_law_under" 2 (aX K c)) (c__law_level_at:Cal P w K mg base 1 "_law_level_at" 2 (cB K c)):Cal P w K mg base 2 "_law_tops_by" 2 (dD K c):=by
 refine jU (k:=1) Df sc__law_tops_by rfl (fun f cdv A outer s H E hr=>⟨lL K c,?_,pP K c⟩)
 exact (aI (a6 (i:=2) sc__law_tops_by.nd rfl (Or.inr rfl) (fS (xs:=["_law_plane"]) (ys:=["_law_point"]) (js:=[1]) (cl:=[("_law_point",s.heap.objs.size+1+1)]) rfl (cL (dv 0)) (iT (ys:=["_law_point"]) (js:=[1]) rfl (List.forall_mem_cons.mpr ⟨rfl,(fun _ h=>nomatch h)⟩) (bR ⟨rfl,.inl rfl,.inl rfl,rfl,rfl⟩ bD) (by decide +kernel) (by decide +kernel)) (bR ⟨rfl,.inl rfl,.inl rfl,rfl,rfl⟩ bD) (by decide +kernel) rfl (by decide +kernel) rfl (by decide) (fun C s₀ H₀ ex pn=>(bE (i:=0) (show (["_law_plane","_law_point"]:List Str).Nodup by decide +kernel) rfl (Or.inl rfl))) (fun C s₀ H₀ ex pn=>fT) (fun C s₀ H₀ ex pn=>(aO c__law_level_at hr vC (aB (dv 0) (aB (dv 1) aK)))))) (eZ 2 (aI (a6 (i:=3) sc__law_tops_by.nd rfl (Or.inr rfl) (aP (dv 2) aC (fun _ _=>rfl))) (aI (jK PassesOwn.leaving rfl (cL (dv 2)) (bE (i:=4) sc__law_tops_by.nd rfl (Or.inl rfl)) (aQ (d6 (l6 (aO c__law_under hr bI (aB (dv 3) (aB (dv 4) aK)))) (aQ (a6 (i:=3) sc__law_tops_by.nd rfl (Or.inr rfl) (dv 4))) bZ))) (aQ (bF (fS (xs:=["_law_k"]) (ys:=["_law_most","_law_roof","_law_rows"]) (js:=[3,0,2]) (cl:=[("_law_rows",s.heap.objs.size+1+1+1),("_law_roof",s.heap.objs.size+1),("_law_most",s.heap.objs.size+1+1+1+1)]) rfl (mY rfl B.range_ (aB (cM cR j5 hU rfl B.len_ PySem.boot_len (aB (dv 0) aK)) aK)) (iT (ys:=["_law_most","_law_roof","_law_rows"]) (js:=[3,0,2]) rfl (List.forall_mem_cons.mpr ⟨rfl,(List.forall_mem_cons.mpr ⟨rfl,(List.forall_mem_cons.mpr ⟨rfl,(fun _ h=>nomatch h)⟩)⟩)⟩) (bR ⟨rfl,.inl rfl,.inl rfl,rfl,rfl⟩ (bR ⟨rfl,.inl rfl,.inl rfl,rfl,rfl⟩ (bR ⟨rfl,.inl rfl,.inl rfl,rfl,rfl⟩ bD))) (by decide +kernel) (by decide +kernel)) (bR ⟨rfl,.inl rfl,.inl rfl,rfl,rfl⟩ (bR ⟨rfl,.inl rfl,.inl rfl,rfl,rfl⟩ (bR ⟨rfl,.inl rfl,.inl rfl,rfl,rfl⟩ bD))) (by decide +kernel) rfl (by decide +kernel) rfl (by decide) (fun C s₀ H₀ ex pn=>(bE (i:=0) (show (["_law_k","_law_most","_law_roof","_law_rows"]:List Str).Nodup by decide +kernel) rfl (Or.inl rfl))) (fun C s₀ H₀ ex pn=>(kE (aGj (l6 (aO c__law_under hr vC (aB (aP (dv 3) (dv 0) (fun _ _=>rfl)) (aB (dv 1) aK))))))) (fun C s₀ H₀ ex pn=>(aP (dv 2) (dv 0) (fun _ _=>rfl))))))))))
theorem vZ:bC ["_law_one","_law_other"] ["_law_one","_law_other"] (aT lC):=⟨rfl,rfl,rfl,by decide +kernel,rfl,by decide +kernel,by decide +kernel⟩
theorem xC {c:Cls} (Df:Def K mg "_law_sum" ["_law_one","_law_other"] lC) (B:Blt mg) (C:jP mg c) (O:jQ mg base c) (hk:jH K c) (c__law_low:Cal P w K mg base 1 "_law_low" 2 (aV K c)):Cal P w K mg base 2 "_law_sum" 2 (bK K c):=by
 refine jU (k:=1) Df vZ rfl (fun f cdv A outer s H E hr=>⟨nE K c,?_,vU K c⟩)
 exact (aQ (bF (aO c__law_low hr bI (aB (aN b7 dB b6 (aN aS aY aF (aP (dv 0) aC (fun _ _=>rfl)) (aP (dv 1) aC (fun _ _=>rfl))) (aN aS aY aF (aP (dv 1) aC (fun _ _=>rfl)) (aP (dv 0) aC (fun _ _=>rfl)))) (aB (aN aS aY aF (aP (dv 0) aC (fun _ _=>rfl)) (aP (dv 1) aC (fun _ _=>rfl))) aK)))))
theorem sc__law_level:bC ["_law_roof","_law_point","_law_level_here"] ["_law_roof","_law_point"] (aT iZ):=⟨rfl,rfl,rfl,by decide +kernel,rfl,by decide +kernel,by decide +kernel⟩
theorem sE {c:Cls} (Df:Def K mg "_law_level" ["_law_roof","_law_point"] iZ) (B:Blt mg) (C:jP mg c) (O:jQ mg base c) (hk:jH K c) (c__law_low:Cal P w K mg base 1 "_law_low" 2 (aV K c)) (c__law_level_at:Cal P w K mg base 1 "_law_level_at" 2 (cB K c)) (c__law_tops_by:Cal P w K mg base 2 "_law_tops_by" 2 (dD K c)):Cal P w K mg base 3 "_law_level" 2 (aU K c):=by
 refine jU (k:=2) Df sc__law_level rfl (fun f cdv A outer s H E hr=>⟨kS K c,?_,sS K c⟩)
 exact (aI (a6 (i:=2) sc__law_level.nd rfl (Or.inl rfl) (aO c__law_level_at hr bI (aB (aP (aO c__law_tops_by hr bI (aB (dv 0) (aB (dv 1) aK))) aC (fun _ _=>rfl)) (aB (dv 1) aK)))) (aQ (bF (aO c__law_low hr bI (aB (aP (dv 2) aC (fun _ _=>rfl)) (aB (aP (dv 2) aC (fun _ _=>rfl)) aK))))))
end
section
variable {P:Program} {w:World} {K:PySem.W.Frag} {mg:Str->Option Value} {base:Heap}
theorem aIz:bC ["a","b"] ["a","b"] (aT xQ):=⟨rfl,rfl,rfl,by decide +kernel,rfl,by decide +kernel,by decide +kernel⟩
theorem aI3 {c:Cls} (Df:Def K mg "over" ["a","b"] xQ) (B:Blt mg) (C:jP mg c) (O:jQ mg base c) (hk:jH K c) (c_fraction:Cal P w K mg base 2 "fraction" 2 (cA K c)):Cal P w K mg base 3 "over" 2 (nU K c):=by
 refine jU (k:=2) Df aIz rfl (fun f cdv A outer s H E hr=>⟨aA3 K c,?_,aJ0 K c⟩)
 exact (aQ (bF (aO c_fraction hr bI (aB (aN aS aY aF (aP (dv 0) aC (fun _ _=>rfl)) (aP (dv 1) aC (fun _ _=>rfl))) (aB (aN aS aY aF (aP (dv 0) aC (fun _ _=>rfl)) (aP (dv 1) aC (fun _ _=>rfl))) aK)))))
theorem aCk:bC ["point","factor"] ["point","factor"] (aT oJ):=⟨rfl,rfl,rfl,by decide +kernel,rfl,by decide +kernel,by decide +kernel⟩
theorem aCv {c:Cls} (Df:Def K mg "shrunk" ["point","factor"] oJ) (B:Blt mg) (C:jP mg c) (O:jQ mg base c) (hk:jH K c) (c_fraction:Cal P w K mg base 2 "fraction" 2 (cA K c)):Cal P w K mg base 3 "shrunk" 2 (j3 K c):=by
 refine jU (k:=2) Df aCk rfl (fun f cdv A outer s H E hr=>⟨rQ K c,?_,aCs K c⟩)
 exact (aQ (bF (bW (aB (aO c_fraction hr bI (aB (aP (aP (dv 0) aC (fun _ _=>rfl)) aC (fun _ _=>rfl)) (aB (aN aS aY aF (aP (aP (dv 0) aC (fun _ _=>rfl)) aC (fun _ _=>rfl)) (dv 1)) aK))) (aB (aO c_fraction hr bI (aB (aP (aP (dv 0) aC (fun _ _=>rfl)) aC (fun _ _=>rfl)) (aB (aN aS aY aF (aP (aP (dv 0) aC (fun _ _=>rfl)) aC (fun _ _=>rfl)) (dv 1)) aK))) aK)))))
theorem sc_lone_point:bC ["plane","planes","rows","x","y"] ["plane","planes"] (aT i4):=⟨rfl,rfl,rfl,by decide +kernel,rfl,by decide +kernel,by decide +kernel⟩
theorem rW {c:Cls} (Df:Def K mg "lone_point" ["plane","planes"] i4) (B:Blt mg) (C:jP mg c) (O:jQ mg base c) (hk:jH K c) (c_solved:Cal P w K mg base 5 "solved" 1 (gN K c)) (c_without_y:Cal P w K mg base 1 "without_y" 1 (eF K c)) (c_gap:Cal P w K mg base 1 "gap" 2 (wK K c)):Cal P w K mg base 6 "lone_point" 2 (eI K c):=by
 refine jU (k:=5) Df sc_lone_point rfl (fun f cdv A outer s H E hr=>⟨kB K c,?_,sW K c⟩)
 exact (aI (kI (i:=2) sc_lone_point.nd rfl (Or.inl rfl) (xs:=["other"]) (ys:=["plane"]) (js:=[0]) (cl:=[("plane",s.heap.objs.size+1)]) rfl (cL (dv 1)) (iT (ys:=["plane"]) (js:=[0]) rfl (List.forall_mem_cons.mpr ⟨rfl,(fun _ h=>nomatch h)⟩) (bR ⟨rfl,.inl rfl,.inl rfl,rfl,rfl⟩ bD) (by decide +kernel) (by decide +kernel)) (bR ⟨rfl,.inl rfl,.inl rfl,rfl,rfl⟩ bD) (by decide +kernel) rfl (by decide +kernel) rfl (by decide) (fun C s₀ H₀ ex pn=>(bE (i:=0) (show (["other","plane"]:List Str).Nodup by decide +kernel) rfl (Or.inl rfl))) (fun C s₀ H₀ ex pn=>(kE (cH (xI (u64 hr)) gK dR (dv 0) (dv 1) (b9 _)))) (fun C s₀ H₀ ex pn=>(aO c_gap hr vC (aB (dv 1) (aB (dv 0) aK))))) (eZ 2 (aI (a6 (i:=3) sc_lone_point.nd rfl (Or.inr rfl) (aO c_solved hr bI (aB (aO c_without_y hr bI (aB (dv 2) aK)) aK))) (aI (d6 (aLv (dv 3)) (aQ (bF xY)) bZ) (aI (a6 (i:=4) sc_lone_point.nd rfl (Or.inl rfl) (aO c_solved hr bI (aB (fS (xs:=["row"]) (ys:=["x"]) (js:=[3]) (cl:=[("x",s.heap.objs.size+1+1)]) rfl (cL (dv 2)) (iT (ys:=["x"]) (js:=[3]) rfl (List.forall_mem_cons.mpr ⟨rfl,(fun _ h=>nomatch h)⟩) (bR ⟨rfl,.inl rfl,.inl rfl,rfl,rfl⟩ bD) (by decide +kernel) (by decide +kernel)) (bR ⟨rfl,.inl rfl,.inl rfl,rfl,rfl⟩ bD) (by decide +kernel) rfl (by decide +kernel) rfl (by decide) (fun C s₀ H₀ ex pn=>(bE (i:=0) (show (["row","x"]:List Str).Nodup by decide +kernel) rfl (Or.inl rfl))) (fun C s₀ H₀ ex pn=>fT) (fun C s₀ H₀ ex pn=>(bW (aB (aN aS aY aF (aP (dv 0) aC (fun _ _=>rfl)) (aP (dv 1) aC (fun _ _=>rfl))) (aB (aN b7 dB b6 (aN aS aY aF (aP (dv 0) aC (fun _ _=>rfl)) (aP (dv 1) aC (fun _ _=>rfl))) (aN aS aY aF (aP (dv 0) aC (fun _ _=>rfl)) (aP (dv 1) aC (fun _ _=>rfl)))) aK))))) aK))) (aQ (bF (bW (aB (dv 3) (aB (dv 4) aK))))))))))
theorem oT:bC ["_law_script","_law_k"] ["_law_script","_law_k"] (aT gP):=⟨rfl,rfl,rfl,by decide +kernel,rfl,by decide +kernel,by decide +kernel⟩
theorem pJ {c:Cls} (Df:Def K mg "_law_cell_at" ["_law_script","_law_k"] gP) (B:Blt mg) (C:jP mg c) (O:jQ mg base c) (hk:jH K c):Cal P w K mg base 1 "_law_cell_at" 2 (aG K c):=by
 refine jU (k:=0) Df oT rfl (fun f cdv A outer s H E hr=>⟨jE K c,?_,qE K c⟩)
 exact (aI (d6 (cH sV iF aW (dv 1) (cM cR j5 hU rfl B.len_ PySem.boot_len (aB (dv 0) aK)) (b9 _)) (aQ (bF (aP (dv 0) (dv 1) (fun _ _=>rfl)))) bZ) (aQ (bF aC)))
theorem sc__law_stirred:bC ["_law_script","_law_prime","_law_made","_law_k","_law_cell"] ["_law_script"] (aT gW):=⟨rfl,rfl,rfl,by decide +kernel,rfl,by decide +kernel,by decide +kernel⟩
theorem pT {c:Cls} (Df:Def K mg "_law_stirred" ["_law_script"] gW) (B:Blt mg) (C:jP mg c) (O:jQ mg base c) (hk:jH K c) (c__law_cell_at:Cal P w K mg base 1 "_law_cell_at" 2 (aG K c)):Cal P w K mg base 2 "_law_stirred" 1 (cY K c):=by
 refine jU (k:=1) Df sc__law_stirred rfl (fun f cdv A outer s H E hr=>⟨jC K c,?_,oS K c⟩)
 exact (aI (a6 (i:=1) sc__law_stirred.nd rfl (Or.inl rfl) aC) (aI (a6 (i:=2) sc__law_stirred.nd rfl (Or.inl rfl) (xG aK)) (aI (jK PassesOwn.leaving rfl (mY rfl B.range_ (aB (cM (aC3 rfl) aMl aJr rfl B.max_ aLw (aB (cM cR j5 hU rfl B.len_ PySem.boot_len (aB (dv 0) aK)) (aB aC aK))) aK)) (bE (i:=3) sc__law_stirred.nd rfl (Or.inl rfl)) (aI (a6 (i:=4) sc__law_stirred.nd rfl (Or.inl rfl) (aN aZ bG aF (aO c__law_cell_at hr bI (aB (dv 0) (aB (dv 3) aK))) (dv 1))) (aI (a6 (i:=4) sc__law_stirred.nd rfl (Or.inl rfl) (aN aZ bG aF (aN b7 dB b6 (aN b7 dB b6 (aN b7 dB b6 (aN aS aY aF (dv 4) aC) (aN aS aY aF (aN aS aY aF (dv 3) (dv 3)) aC)) (dv 3)) aC) (dv 1))) (aQ (l5 (i:=2) (aN aZ bG aF (aN aS aY aF (aN aZ bG aF (aN aS aY aF (dv 4) aC) (dv 1)) aC) (dv 1)) (fun t q=>o9 (aB7 PySem.F.plainAttrs_list PySem.F.slot_list_append PySem.F.type_list_append mG (pv 2) (nG q qX)))))))) (aQ (bF (dv 2))))))
theorem sc__law_low:bC ["_law_top","_law_bottom","_law_one","_law_other"] ["_law_top","_law_bottom"] (aT lA):=⟨rfl,rfl,rfl,by decide +kernel,rfl,by decide +kernel,by decide +kernel⟩
theorem vY {c:Cls} (Df:Def K mg "_law_low" ["_law_top","_law_bottom"] lA) (B:Blt mg) (C:jP mg c) (O:jQ mg base c) (hk:jH K c):Cal P w K mg base 1 "_law_low" 2 (aV K c):=by
 refine jU (k:=0) Df sc__law_low rfl (fun f cdv A outer s H E hr=>⟨rC K c,?_,wC K c⟩)
 exact (aI (a6 (i:=2) sc__law_low.nd rfl (Or.inl rfl) (cM oN yP tM rfl B.abs_ zB (aB (dv 0) aK))) (aI (a6 (i:=3) sc__law_low.nd rfl (Or.inl rfl) (cM oN yP tM rfl B.abs_ zB (aB (dv 1) aK))) (aI (xO PassesOwn.leaving (cH aBi iF aW (dv 3) aC (b9 _)) (aQ (aL8 (i:=2) (j:=3) rfl sc__law_low.nd rfl rfl (by decide) rfl rfl (aB (dv 3) (aB (aN aZ bG aF (dv 2) (dv 3)) aK))))) (aI (d6 (cH sV iF aW (dv 1) aC (b9 _)) (aQ (a6 (i:=2) sc__law_low.nd rfl (Or.inl rfl) (pK (dv 2)))) bZ) (aQ (bF (bW (aB (aN bH b8 aF (dv 0) (dv 2)) (aB (aN bH b8 aF (dv 1) (dv 2)) aK)))))))))
theorem sc__law_any_roof:bC ["_law_cells_here","_law_wide","_law_high","_law_cell","_law_slope","_law_rest","_law_height"] ["_law_cells_here","_law_wide"] (aT fU):=⟨rfl,rfl,rfl,by decide +kernel,rfl,by decide +kernel,by decide +kernel⟩
theorem nX {c:Cls} (Df:Def K mg "_law_any_roof" ["_law_cells_here","_law_wide"] fU) (B:Blt mg) (C:jP mg c) (O:jQ mg base c) (hk:jH K c) (c__law_under:Cal P w K mg base 1 "_law_under" 2 (aX K c)) (c__law_low:Cal P w K mg base 1 "_law_low" 2 (aV K c)):Cal P w K mg base 2 "_law_any_roof" 2 (cK K c):=by
 refine jU (k:=1) Df sc__law_any_roof rfl (fun f cdv A outer s H E hr=>⟨fV K c,?_,nW K c⟩)
 exact (aI (a6 (i:=2) sc__law_any_roof.nd rfl (Or.inr rfl) l7) (aI (jK PassesOwn.leaving rfl (cL (dv 0)) (bE (i:=3) sc__law_any_roof.nd rfl (Or.inl rfl)) (aI (a6 (i:=4) sc__law_any_roof.nd rfl (Or.inl rfl) (bW (aB (aN aZ bG aF (dv 3) (dv 1)) (aB (aN aZ bG aF (aN bH b8 aF (dv 3) (dv 1)) (dv 1)) aK)))) (aI (a6 (i:=5) sc__law_any_roof.nd rfl (Or.inl rfl) (aN bH b8 aF (dv 3) (aN aS aY aF (dv 1) (dv 1)))) (aI (a6 (i:=6) sc__law_any_roof.nd rfl (Or.inl rfl) (aO c__law_low hr bI (aB (aN d9 d8 aW (aN aZ bG aF (aN bH b8 aF (dv 5) aC) (aN b7 dB b6 (aN aS aY aF aC (aN kL kP aF aC aC)) aC)) (aN kL kP aF aC aC)) (aB (aN b7 dB b6 aC (aN aZ bG aF (dv 5) aC)) aK)))) (aQ (d6 (DW.t (aIs (vD (u1 hr) (dv 4) (dv 2)) (aBo (l6 (aO c__law_under hr bI (aB (pY (u1 hr) (dv 2) (dv 4) (fun _ _=>rfl)) (aB (dv 6) aK))))))) (aQ (lU (i:=2) (u1 hr) (pv 2) (dv 4) (dv 6) rfl)) bZ)))))) (aI (d6 (cH (aGz (Nat.lt_of_succ_lt (u1 hr))) aG8 aDn (dv 2) l7 (b9 _)) (aQ (lU (i:=2) (u1 hr) (pv 2) (bW (aB aC (aB aC aK))) (bW (aB aC (aB aC aK))) rfl)) bZ) (eZ 2 (aQ (bF (fS (xs:=["_law_slope"]) (ys:=["_law_high"]) (js:=[2]) (cl:=[("_law_high",s.heap.objs.size+1)]) rfl (cL (cM (SRT.nR rfl) nS lS rfl B.sorted_ oX (aB (dv 2) aK))) (iT (ys:=["_law_high"]) (js:=[2]) rfl (List.forall_mem_cons.mpr ⟨rfl,(fun _ h=>nomatch h)⟩) (bR ⟨rfl,.inl rfl,.inl rfl,rfl,rfl⟩ bD) (by decide +kernel) (by decide +kernel)) (bR ⟨rfl,.inl rfl,.inl rfl,rfl,rfl⟩ bD) (by decide +kernel) rfl (by decide +kernel) rfl (by decide) (fun C s₀ H₀ ex pn=>(bE (i:=0) (show (["_law_slope","_law_high"]:List Str).Nodup by decide +kernel) rfl (Or.inl rfl))) (fun C s₀ H₀ ex pn=>fT) (fun C s₀ H₀ ex pn=>(bW (aB (aP (dv 0) aC (fun _ _=>rfl)) (aB (aP (dv 0) aC (fun _ _=>rfl)) (aB (pY (u1 hr) (dv 1) (dv 0) (fun _ _=>rfl)) aK))))))))))))
end
theorem aMe {K:PySem.W.Frag} {h₀:Heap} {mg:Str->Option Value} {x:Str} {C:Addr} {bmB:List Value} {newId:String} (X:K.In h₀) (G:h₀.Ns mainGlobals mg) (e:PySem.W.nsIn K mainGlobals x=some (some (.ref C))) (q:PySem.W.excIn K C bmB newId=true):PyProof.Rows.OwnCls x C bmB newId mg h₀:=by
 refine ⟨PySem.W.mg_of X G e,?_⟩
 unfold PySem.W.excIn at q
 split at q
 ·rename_i d1 cd1 sl1 ho1
  split at q
  ·rename_i C1 bm1 s0 s1 s2 s3 n1 s5 hm1 hs1
   simp only [Bool.and_eq_true,beq_iff_eq,Bool.not_eq_true'] at q
   obtain ⟨⟨⟨⟨⟨rfl,rfl⟩,hdl⟩,htl⟩,hnok⟩,hini⟩:=q
   obtain ⟨c1,c2,c3,c4,c5,c6,c7,c8,c9,c10,c11⟩:=cd1
   dsimp only at hm1 hdl hnok hini
   subst hm1 hdl
   obtain ⟨sll⟩:=sl1
   simp only at hs1
   subst hs1
   exact ⟨bm1,c4,c1,c5,c2,c6,c7,c8,c9,c10,d1,s0,s1,s2,s3,s5,_,X _ _ ho1,.of_isNs (PySem.W.isNs_of_in X hnok),PySem.W.nsMap_none_of_in X hnok hini,PySem.W.tail_of_in X htl⟩
  ·cases q
 ·cases q
theorem o3 {α:Type} {us:List α} (h:us.length=1):∃ a,us=[a]:=List.length_eq_one_iff.mp h
theorem iA {α:Type} {us:List α} (h:us.length=2):∃ a b,us=[a,b]:=by
 cases us with
 | nil=>cases h
 | cons a r=>obtain ⟨b,rfl⟩:=o3 (Nat.succ.inj h);exact ⟨a,b,rfl⟩
theorem aBe {α:Type} {us:List α} (h:us.length=3):∃ a b c,us=[a,b,c]:=by
 cases us with
 | nil=>cases h
 | cons a r=>obtain ⟨b,c,rfl⟩:=iA (Nat.succ.inj h);exact ⟨a,b,c,rfl⟩
def aBn (K:PySem.W.Frag):Bool:=K.all fun p=>match p.2.cls with
 | .type n=>!(n == "list")
 | _=>true
theorem lookup_mem {a:Addr} {o:Obj}:∀ {l:List (Addr×Obj)},l.lookup a=some o->(a,o)∈l
 | (k,v) :: r,h=>by
  unfold List.lookup at h
  split at h
  ·rename_i z
   have e:a=k:=by simpa using z
   cases h
   rw [e]
   exact .head _
  ·exact .tail _ (lookup_mem h)
theorem zR {K:PySem.W.Frag} (h:aBn K=true) {a:Addr} {o:Obj} (e:K.lookup a=some o) (hc:o.cls=.type "list"):False:=by
 have:=List.all_eq_true.mp h (a,o) (lookup_mem e)
 dsimp only at this
 rw [hc] at this
 cases this
def aF5:Sp:=fun vs H Q _=>∃ (a:Addr) (ns:List Int),vs=[.ref a]/\Rd H a (.lst (ns.map V.int))/\ns.length<=63/\∀ H',Q (.bl true) H'
theorem lY {K:PySem.W.Frag} {G:Hp}:∀ ns:List Int,Reps K G (ns.map V.int) (ns.map PyData.int)
 | []=>.nil
 | i :: r=>.cons (.int i) (lY r)
theorem aM9 {P:Program} {w:World} {K:PySem.W.Frag} {mg:Str->Option Value} {base:Heap} {f:Addr} {fd:FuncData} {c:Cls} (hk:jH K c) (F:FnOk P w K mg base (CXr P w) 9 f fd ["_law_script"] (spM K 1 (zP K c))):FnOk P w K mg base (CXr P w) 9 f fd ["_law_script"] aF5 :=
 F.imp fun vs H Q E h=>by
  obtain ⟨a,ns,rfl,rd,hl,hq⟩:=h
  refine ⟨rfl,H,[.p (.list (ns.map .int))],Same.refl _,⟨.lst rd (lY ns),trivial⟩,?_⟩
  rw [aKb K c hk ns hl]
  intro G' H' v st r
  cases r
  exact hq H'
theorem aMs {α:Type} {us:List α} (h:us.length=4):∃ a0 a1 a2 a3,us=[a0,a1,a2,a3]:=by
 cases us with
 | nil=>cases h
 | cons a0 r=>obtain ⟨a1,a2,a3,rfl⟩:=aBe (Nat.succ.inj h);exact ⟨a0,a1,a2,a3,rfl⟩
structure FnAt (K:PySem.W.Frag) (x:Str) (st:Stmt) (f:Addr) (m:Value) (c:Addr):Prop where
 a:PySem.W.nsIn K mainGlobals x=some (some (.ref f))
 l:K.lookup f=some ⟨.type "function",none,.func (PySem.W.fnOf x x (kH st) (iJ st) (aT st) .none .none .none m none (.ref c) .none),#[]⟩
 c:PySem.W.codeIn K (.ref c) x=true
 k:PySem.W.keepIn K (.ref f)=true
theorem FnAt.df {K:PySem.W.Frag} {h:Heap} {mg:Str->Option Value} {x:Str} {st:Stmt} {f c:Addr} {m:Value} {ps:List Str} (A:FnAt K x st f m c) (X:K.In h) (G:h.Ns mainGlobals mg)
  (hb:∀ (kV doc pm:Value) (an:Option Addr) (cdv ct:Value) (us:List Value),us.length=ps.length->bindArgs (PySem.W.fnOf x x (kH st) (iJ st) (aT st) .none kV doc pm an cdv ct) ⟨us,[]⟩=pure (ps.zip us)):Def K mg x ps st :=
 have F:=aG6 (st:=st) A.l A.c A.k
 ⟨_,_,F,F.binds hb,A.k,PySem.W.mg_of X G A.a⟩
theorem all_mk {l:PySem.W.OpenLaw} {w:World} {K:PySem.W.Frag} {h:Heap} {mg:Str->Option Value} {fa:Addr} {f1 c1 f2 c2 f3 c3 f4 c4 f5 c5 f6 c6 f7 c7 f8 c8 f9 c9 f10 c10 f11 c11 f12 c12 f13 c13 f14 c14 f15 c15 f16 c16 f17 c17 f18 c18 f19 c19 f20 c20 f21 c21 f22 c22 f23 c23 f24 c24 f25 c25 f26 c26 f27 c27 f28 c28 f29 c29 f30 c30 f31 c31 f32 c32 f33 c33 f34 c34 f35 c35 f36 c36 f37 c37 f38 c38 f39 c39 f40 c40 CRoofError CNoFraction:Addr} (X:K.In h) (G:h.Ns mainGlobals mg) (hfa:mg "law" = some (.ref fa))
  {m1 m2 m3 m4 m5 m6 m7 m8 m9 m10 m11 m12 m13 m14 m15 m16 m17 m18 m19 m20 m21 m22 m23 m24 m25 m26 m27 m28 m29 m30 m31 m32 m33 m34 m35 m36 m37 m38 m39 m40:Value}
  (h1:FnAt K "greatest_divisor" eA f1 m1 c1)
  (h2:FnAt K "fraction" lE f2 m2 c2)
  (h3:FnAt K "plus" xU f3 m3 c3)
  (h4:FnAt K "minus" tL f4 m4 c4)
  (h5:FnAt K "over" xQ f5 m5 c5)
  (h6:FnAt K "less" yK f6 m6 c6)
  (h7:FnAt K "greatest" lG f7 m7 c7)
  (h8:FnAt K "least" tF f8 m8 c8)
  (h9:FnAt K "common_bottom" fP f9 m9 c9)
  (h10:FnAt K "whole" sJ f10 m10 c10)
  (h11:FnAt K "whole_factor" gQ f11 m11 c11)
  (h12:FnAt K "blown_up" lD f12 m12 c12)
  (h13:FnAt K "shrunk" oJ f13 m13 c13)
  (h14:FnAt K "between" mK f14 m14 c14)
  (h15:FnAt K "solved" oH f15 m15 c15)
  (h16:FnAt K "without_y" jT f16 m16 c16)
  (h17:FnAt K "gap" aE5 f17 m17 c17)
  (h18:FnAt K "lone_point" i4 f18 m18 c18)
  (h19:FnAt K "lone_points" hZ f19 m19 c19)
  (h20:FnAt K "staying" l8 f20 m20 c20)
  (h21:FnAt K "thinned" mL f21 m21 c21)
  (h22:FnAt K "_law_cell_at" gP f22 m22 c22)
  (h23:FnAt K "_law_stirred" gW f23 m23 c23)
  (h24:FnAt K "_law_low" lA f24 m24 c24)
  (h25:FnAt K "_law_height_by" fG f25 m25 c25)
  (h26:FnAt K "_law_roof_by" gU f26 m26 c26)
  (h27:FnAt K "_law_level_at" fR f27 m27 c27)
  (h28:FnAt K "_law_under" iW f28 m28 c28)
  (h29:FnAt K "_law_tops_by" gM f29 m29 c29)
  (h30:FnAt K "_law_crossing" fW f30 m30 c30)
  (h31:FnAt K "_law_point_by" fX f31 m31 c31)
  (h32:FnAt K "_law_sum" lC f32 m32 c32)
  (h33:FnAt K "_law_product" gO f33 m33 c33)
  (h34:FnAt K "_law_with_mixed" eQ f34 m34 c34)
  (h35:FnAt K "_law_level" iZ f35 m35 c35)
  (h36:FnAt K "_law_like" jV f36 m36 c36)
  (h37:FnAt K "_law_alike_at" fQ f37 m37 c37)
  (h38:FnAt K "_law_cells" i5 f38 m38 c38)
  (h39:FnAt K "_law_any_roof" fU f39 m39 c39)
  (h40:FnAt K "law" uI f40 m40 c40)
  (z0:PySem.W.nsIn K mainGlobals "abs" = some none)
  (z1:PySem.W.nsIn K mainGlobals "any" = some none)
  (z2:PySem.W.nsIn K mainGlobals "bool" = some none)
  (z3:PySem.W.nsIn K mainGlobals "int" = some none)
  (z4:PySem.W.nsIn K mainGlobals "isinstance" = some none)
  (z5:PySem.W.nsIn K mainGlobals "len" = some none)
  (z6:PySem.W.nsIn K mainGlobals "list" = some none)
  (z7:PySem.W.nsIn K mainGlobals "max" = some none)
  (z8:PySem.W.nsIn K mainGlobals "range" = some none)
  (z9:PySem.W.nsIn K mainGlobals "sorted" = some none)
  (z10:PySem.W.nsIn K mainGlobals "zip" = some none)
  (nRoofError:PySem.W.nsIn K mainGlobals "RoofError" = some (some (.ref CRoofError)))
  (nNoFraction:PySem.W.nsIn K mainGlobals "NoFraction" = some (some (.ref CNoFraction)))
  (eNoFraction:PySem.W.excIn K CNoFraction [.type "ValueError",.type "Exception",.type "BaseException",.type "object"] "ValueError.__new__" = true)
  (xii:PySem.W.kitOne K (.type "int") (.type "int")=some true)
  (xib:PySem.W.kitOne K (.type "int") (.type "bool")=some false)
  (xtt:PySem.W.kitOne K (.type "tuple") (.type "tuple")=some true)
  (xll:PySem.W.kitOne K (.type "list") (.type "list")=some true)
  : ∃ fd:FuncData,(∀ (s:Shared) (v:Value),BindsTo s fd ⟨[v],[]⟩ [("_law_script",v)])/\∀ base:Heap,K.In base->base.Ns mainGlobals mg->FnOk l.prog w K mg base (CXr l.prog w) 9 fa fd ["_law_script"] aF5:=by
 have e:=hfa.symm.trans (PySem.W.mg_of X G h40.a)
 cases e
 have D1:=h1.df (ps:=["a","b"]) X G (fun _ _ _ _ _ _ us hl=>by obtain ⟨_,_,rfl⟩:=iA hl;rfl)
 have D2:=h2.df (ps:=["top","bottom"]) X G (fun _ _ _ _ _ _ us hl=>by obtain ⟨_,_,rfl⟩:=iA hl;rfl)
 have D3:=h3.df (ps:=["a","b"]) X G (fun _ _ _ _ _ _ us hl=>by obtain ⟨_,_,rfl⟩:=iA hl;rfl)
 have D4:=h4.df (ps:=["a","b"]) X G (fun _ _ _ _ _ _ us hl=>by obtain ⟨_,_,rfl⟩:=iA hl;rfl)
 have D5:=h5.df (ps:=["a","b"]) X G (fun _ _ _ _ _ _ us hl=>by obtain ⟨_,_,rfl⟩:=iA hl;rfl)
 have D6:=h6.df (ps:=["a","b"]) X G (fun _ _ _ _ _ _ us hl=>by obtain ⟨_,_,rfl⟩:=iA hl;rfl)
 have D7:=h7.df (ps:=["numbers"]) X G (fun _ _ _ _ _ _ us hl=>by obtain ⟨_,rfl⟩:=o3 hl;rfl)
 have D8:=h8.df (ps:=["numbers"]) X G (fun _ _ _ _ _ _ us hl=>by obtain ⟨_,rfl⟩:=o3 hl;rfl)
 have D9:=h9.df (ps:=["numbers"]) X G (fun _ _ _ _ _ _ us hl=>by obtain ⟨_,rfl⟩:=o3 hl;rfl)
 have D10:=h10.df (ps:=["number","factor"]) X G (fun _ _ _ _ _ _ us hl=>by obtain ⟨_,_,rfl⟩:=iA hl;rfl)
 have D11:=h11.df (ps:=["roof"]) X G (fun _ _ _ _ _ _ us hl=>by obtain ⟨_,rfl⟩:=o3 hl;rfl)
 have D12:=h12.df (ps:=["roof","factor"]) X G (fun _ _ _ _ _ _ us hl=>by obtain ⟨_,_,rfl⟩:=iA hl;rfl)
 have D13:=h13.df (ps:=["point","factor"]) X G (fun _ _ _ _ _ _ us hl=>by obtain ⟨_,_,rfl⟩:=iA hl;rfl)
 have D14:=h14.df (ps:=["lows","highs"]) X G (fun _ _ _ _ _ _ us hl=>by obtain ⟨_,_,rfl⟩:=iA hl;rfl)
 have D15:=h15.df (ps:=["rows"]) X G (fun _ _ _ _ _ _ us hl=>by obtain ⟨_,rfl⟩:=o3 hl;rfl)
 have D16:=h16.df (ps:=["rows"]) X G (fun _ _ _ _ _ _ us hl=>by obtain ⟨_,rfl⟩:=o3 hl;rfl)
 have D17:=h17.df (ps:=["plane","other"]) X G (fun _ _ _ _ _ _ us hl=>by obtain ⟨_,_,rfl⟩:=iA hl;rfl)
 have D18:=h18.df (ps:=["plane","planes"]) X G (fun _ _ _ _ _ _ us hl=>by obtain ⟨_,_,rfl⟩:=iA hl;rfl)
 have D19:=h19.df (ps:=["roof","factor"]) X G (fun _ _ _ _ _ _ us hl=>by obtain ⟨_,_,rfl⟩:=iA hl;rfl)
 have D20:=h20.df (ps:=["roof"]) X G (fun _ _ _ _ _ _ us hl=>by obtain ⟨_,rfl⟩:=o3 hl;rfl)
 have D21:=h21.df (ps:=["roof"]) X G (fun _ _ _ _ _ _ us hl=>by obtain ⟨_,rfl⟩:=o3 hl;rfl)
 have D22:=h22.df (ps:=["_law_script","_law_k"]) X G (fun _ _ _ _ _ _ us hl=>by obtain ⟨_,_,rfl⟩:=iA hl;rfl)
 have D23:=h23.df (ps:=["_law_script"]) X G (fun _ _ _ _ _ _ us hl=>by obtain ⟨_,rfl⟩:=o3 hl;rfl)
 have D24:=h24.df (ps:=["_law_top","_law_bottom"]) X G (fun _ _ _ _ _ _ us hl=>by obtain ⟨_,_,rfl⟩:=iA hl;rfl)
 have D25:=h25.df (ps:=["_law_kind","_law_i","_law_j","_law_rest"]) X G (fun _ _ _ _ _ _ us hl=>by obtain ⟨_,_,_,_,rfl⟩:=aMs hl;rfl)
 have D26:=h26.df (ps:=["_law_kind","_law_cells_here","_law_most","_law_wide"]) X G (fun _ _ _ _ _ _ us hl=>by obtain ⟨_,_,_,_,rfl⟩:=aMs hl;rfl)
 have D27:=h27.df (ps:=["_law_plane","_law_point"]) X G (fun _ _ _ _ _ _ us hl=>by obtain ⟨_,_,rfl⟩:=iA hl;rfl)
 have D28:=h28.df (ps:=["_law_one","_law_other"]) X G (fun _ _ _ _ _ _ us hl=>by obtain ⟨_,_,rfl⟩:=iA hl;rfl)
 have D29:=h29.df (ps:=["_law_roof","_law_point"]) X G (fun _ _ _ _ _ _ us hl=>by obtain ⟨_,_,rfl⟩:=iA hl;rfl)
 have D30:=h30.df (ps:=["_law_one","_law_other","_law_third"]) X G (fun _ _ _ _ _ _ us hl=>by obtain ⟨_,_,_,rfl⟩:=aBe hl;rfl)
 have D31:=h31.df (ps:=["_law_roof","_law_cell","_law_other"]) X G (fun _ _ _ _ _ _ us hl=>by obtain ⟨_,_,_,rfl⟩:=aBe hl;rfl)
 have D32:=h32.df (ps:=["_law_one","_law_other"]) X G (fun _ _ _ _ _ _ us hl=>by obtain ⟨_,_,rfl⟩:=iA hl;rfl)
 have D33:=h33.df (ps:=["_law_one","_law_other"]) X G (fun _ _ _ _ _ _ us hl=>by obtain ⟨_,_,rfl⟩:=iA hl;rfl)
 have D34:=h34.df (ps:=["_law_roof","_law_cell"]) X G (fun _ _ _ _ _ _ us hl=>by obtain ⟨_,_,rfl⟩:=iA hl;rfl)
 have D35:=h35.df (ps:=["_law_roof","_law_point"]) X G (fun _ _ _ _ _ _ us hl=>by obtain ⟨_,_,rfl⟩:=iA hl;rfl)
 have D36:=h36.df (ps:=["_law_roof","_law_planes","_law_bits"]) X G (fun _ _ _ _ _ _ us hl=>by obtain ⟨_,_,_,rfl⟩:=aBe hl;rfl)
 have D37:=h37.df (ps:=["_law_one","_law_other","_law_points"]) X G (fun _ _ _ _ _ _ us hl=>by obtain ⟨_,_,_,rfl⟩:=aBe hl;rfl)
 have D38:=h38.df (ps:=["_law_script"]) X G (fun _ _ _ _ _ _ us hl=>by obtain ⟨_,rfl⟩:=o3 hl;rfl)
 have D39:=h39.df (ps:=["_law_cells_here","_law_wide"]) X G (fun _ _ _ _ _ _ us hl=>by obtain ⟨_,_,rfl⟩:=iA hl;rfl)
 have B:Blt mg:=⟨PySem.W.mg_none_of X G z0,PySem.W.mg_none_of X G z1,PySem.W.mg_none_of X G z2,PySem.W.mg_none_of X G z3,PySem.W.mg_none_of X G z4,PySem.W.mg_none_of X G z5,PySem.W.mg_none_of X G z6,PySem.W.mg_none_of X G z7,PySem.W.mg_none_of X G z8,PySem.W.mg_none_of X G z9,PySem.W.mg_none_of X G z10⟩
 let c:Cls:=⟨CRoofError,CNoFraction⟩
 have C:jP mg c:=⟨PySem.W.mg_of X G nRoofError,PySem.W.mg_of X G nNoFraction⟩
 have hk:jH K c:=⟨xii,xib,xtt,xll⟩
 refine ⟨PySem.W.fnOf "law" "law" (kH uI) (iJ uI) (aT uI) .none .none .none m40 none (.ref c40) .none,fun s v=>.of_eq rfl,fun base kb nb=>?_⟩
 have O:jQ mg base c:=⟨aMe kb nb nNoFraction eNoFraction⟩
 have G1:Cal l.prog w K mg base 1 "greatest_divisor" 2 (bM K c):=lO D1 B C O hk
 have G6:Cal l.prog w K mg base 1 "less" 2 (kC K c):=aI9 D6 B C O hk
 have G10:Cal l.prog w K mg base 1 "whole" 2 (lQ K c):=aFb D10 B C O hk
 have G16:Cal l.prog w K mg base 1 "without_y" 1 (eF K c):=vM D16 B C O hk
 have G17:Cal l.prog w K mg base 1 "gap" 2 (wK K c):=aMz D17 B C O hk
 have G22:Cal l.prog w K mg base 1 "_law_cell_at" 2 (aG K c):=pJ D22 B C O hk
 have G24:Cal l.prog w K mg base 1 "_law_low" 2 (aV K c):=vY D24 B C O hk
 have G27:Cal l.prog w K mg base 1 "_law_level_at" 2 (cB K c):=oB D27 B C O hk
 have G28:Cal l.prog w K mg base 1 "_law_under" 2 (aX K c):=sX D28 B C O hk
 have G2:Cal l.prog w K mg base 2 "fraction" 2 (cA K c):=xB D2 B C O hk G1
 have G7:Cal l.prog w K mg base 2 "greatest" 1 (eS K c):=wN D7 B C O hk G6
 have G8:Cal l.prog w K mg base 2 "least" 1 (j4 K c):=aFe D8 B C O hk G6
 have G9:Cal l.prog w K mg base 2 "common_bottom" 1 (dF K c):=oC D9 B C O hk G1
 have G12:Cal l.prog w K mg base 2 "blown_up" 2 (fI K c):=v9 D12 B C O hk G10
 have G23:Cal l.prog w K mg base 2 "_law_stirred" 1 (cY K c):=pT D23 B C O hk G22
 have G25:Cal l.prog w K mg base 2 "_law_height_by" 4 (bV K c):=nF D25 B C O hk G24
 have G29:Cal l.prog w K mg base 2 "_law_tops_by" 2 (dD K c):=pR D29 B C O hk G28 G27
 have G30:Cal l.prog w K mg base 2 "_law_crossing" 3 (bL K c):=oE D30 B C O hk G24
 have G32:Cal l.prog w K mg base 2 "_law_sum" 2 (bK K c):=xC D32 B C O hk G24
 have G33:Cal l.prog w K mg base 2 "_law_product" 2 (cW K c):=qH D33 B C O hk G24
 have G39:Cal l.prog w K mg base 2 "_law_any_roof" 2 (cK K c):=nX D39 B C O hk G28 G24
 have G3:Cal l.prog w K mg base 3 "plus" 2 (lK K c):=aHs D3 B C O hk G2
 have G4:Cal l.prog w K mg base 3 "minus" 2 (jZ K c):=aF0 D4 B C O hk G2
 have G5:Cal l.prog w K mg base 3 "over" 2 (nU K c):=aI3 D5 B C O hk G2
 have G11:Cal l.prog w K mg base 3 "whole_factor" 1 (cD K c):=pC D11 B C O hk G9
 have G13:Cal l.prog w K mg base 3 "shrunk" 2 (j3 K c):=aCv D13 B C O hk G2
 have G26:Cal l.prog w K mg base 3 "_law_roof_by" 4 (cX K c):=pI D26 B C O hk G25
 have G31:Cal l.prog w K mg base 3 "_law_point_by" 3 (bP K c):=oG D31 B C O hk G24 G30
 have G34:Cal l.prog w K mg base 3 "_law_with_mixed" 2 (b5 K c):=mE D34 B C O hk G32 G24 G33
 have G35:Cal l.prog w K mg base 3 "_law_level" 2 (aU K c):=sE D35 B C O hk G24 G27 G29
 have G36:Cal l.prog w K mg base 3 "_law_like" 3 (dH K c):=uE D36 B C O hk G32
 have G38:Cal l.prog w K mg base 3 "_law_cells" 1 (cO K c):=sG D38 B C O hk G23
 have G14:Cal l.prog w K mg base 4 "between" 2 (iQ K c):=zQ D14 B C O hk G6 G5 G3 G8 G7 G4
 have G37:Cal l.prog w K mg base 4 "_law_alike_at" 3 (bJ K c):=n8 D37 B C O hk G35
 have G15:Cal l.prog w K mg base 5 "solved" 1 (gN K c):=aDg D15 B C O hk G14 G2
 have G18:Cal l.prog w K mg base 6 "lone_point" 2 (eI K c):=rW D18 B C O hk G15 G16 G17
 have G19:Cal l.prog w K mg base 7 "lone_points" 2 (cJ K c):=qO D19 B C O hk G18 G12
 have G20:Cal l.prog w K mg base 8 "staying" 1 (fO K c):=aAe D20 B C O hk G13 G19 G11
 have G21:Cal l.prog w K mg base 8 "thinned" 1 (a8 K c):=zX D21 B C O hk G19 G11
 exact aM9 hk (aKu (aG6 (st:=uI) h40.l h40.c h40.k) B C O hk G28 G35 G21 G32 G22 G24 G37 G31 G36 G20 G39 G34 G26 G38)
theorem walk {l:PySem.W.OpenLaw} {q:Program} {loose:List Str} {XP:(Str->Option Value)->Heap->Prop} {YP:World->Heap->Prop} {d:DefRec} {K:Params->PySem.W.Frag} (hn:l.most=some 63) (hdf:d.params.defaults=[])
  (hY:∀ (w:World) (h:Heap),YP w h->(K w.params).In h) (hK:∀ w:World,aBn (K w.params)=true)
  (F:∀ (w:World) (mg:Str->Option Value) (fa:Addr) (h:Heap),(K w.params).In h->h.Ns mainGlobals mg->mg d.name=some (.ref fa) ->
   ∃ fd:FuncData,(∀ (s:Shared) (u:Value),BindsTo s fd ⟨[u],[]⟩ [("_law_script",u)])/\∀ base:Heap,(K w.params).In base->base.Ns mainGlobals mg->FnOk l.prog w (K w.params) mg base (CXr l.prog w) 9 fa fd ["_law_script"] aF5) :
  PySem.W.WalkO q loose XP YP l.row.toRowW d [] (fun f vs=>PySem.call f vs) :=
 L2.aH5 (n:=63) (k:=9) (x:="_law_script") (CX:=fun w=>CXr l.prog w) (sp:=fun _=>aF5) hn (by decide) hdf ⟨rfl,by decide,by decide⟩ hY F (fun w _ a ns hl _ hS=>⟨a,ns,rfl,hS.elim id (fun ⟨_,_,_,e,hc,_⟩=>(zR (hK w) e hc).elim),hl,fun _=>rfl⟩) fun _ _ _ _ _ ⟨_,_,_,_,_,_,_,z⟩=>z
end My
namespace Hd
open PySem PySem.W PyProof.Rows L2 My
abbrev pr:Program:=PySem.Challenge.pw_creasecurve_k61_whole_thinned_tells_the
noncomputable def vs (s:String) (t:Nat):Value:=.str (Str.ofString s) t
noncomputable def en (P:Params) (s:String) (t:Nat) (v:Value):DictEntry:=⟨PyData.keyHash P (Str.ofString s),.str (Str.ofString s) t,v⟩
noncomputable def fd (n q:String) (a:Arguments) (b:FuncBody) (s:Scope) (g:Nat) (c:List (Str×Nat)) (d k dc m:Value) (an:Option Nat) (co ct:Value) (bl:Nat):FuncData:=⟨Str.ofString n,Str.ofString q,a,b,s,g,c,d,k,dc,m,an,co,ct,bl⟩
noncomputable def pE (e:DictEntry):Obj->Obj
 | ⟨c,d,.dict es n,s⟩=>⟨c,d,.dict (es.push e) (n+1),s⟩
 | o=>o
noncomputable def rE (i:Nat) (v:Value):Obj->Obj
 | ⟨c,d,.dict es n,s⟩=>⟨c,d,.dict (es.modify i fun e=>⟨e.hash,e.key,v⟩) n,s⟩
 | o=>o
noncomputable def pF (vs:List Value):Obj->Obj
 | ⟨c,d,.fields xs,s⟩=>⟨c,d,.fields (xs++vs.toArray),s⟩
 | o=>o
noncomputable def tu (xs:List Value):Obj:=⟨.type "tuple",none,.seq xs.toArray 0,#[]⟩
noncomputable def fl (xs:List Value):Obj:=⟨.none,none,.fields xs.toArray,#[]⟩
noncomputable def fo (i:Nat) (nm:String) (g:Nat) (m co c:Value):Obj:=⟨c,none,.func (fd nm nm (kH (top i)) (.stmts (iJ (top i))) (aT (top i)) g [] .none .none .none m none co .none 0),#[]⟩
noncomputable def co (nm:String) (t u l k a c:Nat) (v x:Value) (f:Nat):Obj:=⟨.type "code",none,.fields #[vs nm t,vs nm (t+1),vs "/claim/cut.py" (t+2),.int l 0,.int k 0,.int 0 0,.int 0 0,.int 3 0,.ref a,.bool true,.int 181 0,.ref c,.none,v,x,.ref f,.int u 0,.int l 0,vs "/claim/cut.py" (u+1)],#[]⟩
noncomputable def vL (t:Nat):List String->List Value
 | []=>[]
 | s :: r=>vs s t :: vL (t+1) r
noncomputable def d7 (P:Params) (i:Nat) (nm:String) (m:Value) (l k:Nat) (vn:List String) (n t u:Nat) (T:BT):BT:=((((((((T.set 3 (pE (en P nm (u+2) (.ref (n+6))))).set 12 (pF [.int l 0,.int 0 0,.ref (n+5)])).ins n (tu [])).ins (n+1) (fl [])).ins (n+2) (tu (vL (t+3) vn))).ins (n+3) (tu [])).ins (n+4) (fo i nm 0 .none .none .none)).ins (n+5) (co nm t u l k n (n+1) (.ref (n+2)) (.ref (n+3)) (n+4))).ins (n+6) (fo i nm 3 m (.ref (n+5)) (.type "function"))
noncomputable def d5 (P:Params) (i:Nat) (nm:String) (m:Value) (l k n t u:Nat) (T:BT):BT:=((((((T.set 3 (pE (en P nm (u+2) (.ref (n+4))))).set 12 (pF [.int l 0,.int 0 0,.ref (n+3)])).ins n (tu [])).ins (n+1) (fl [])).ins (n+2) (fo i nm 0 .none .none .none)).ins (n+3) (co nm t u l k n (n+1) .none .none (n+2))).ins (n+4) (fo i nm 3 m (.ref (n+3)) (.type "function"))
noncomputable def aH0:Env:={ scope:=pr.main.scope,locals:=mainNs,globals:=mainNs,cells:=[],code:=(.ref 13),frame:=some 14 }
noncomputable def cE:Code:=.body (behindTheImports pr) aH0
noncomputable def ol (P:Params):List Obj:=[boot_o_0 P,boot_o_1 P,boot_o_2 P,boot_o_3 P,boot_o_4 P,boot_o_5 P,boot_o_6 P,boot_o_7 P,boot_o_8 P,boot_o_9 P,boot_o_10 P,(⟨(.type "tuple"),none,(.seq #[] 0),#[]⟩:Obj),(⟨.none,none,(.fields #[]),#[]⟩:Obj),(⟨(.type "code"),none,(.fields #[(vs "<module>" 182),(vs "<module>" 183),(vs "/claim/cut.py" 184),(.int 1 0),(.int 0 0),(.int 0 0),(.int 0 0),(.int 0 0),(.ref 11),(.bool false),(.int 181 0),(.ref 12),.none,.none,.none,.none,(.int 185 0),(.int 1 0),(vs "/claim/cut.py" 186)]),#[]⟩:Obj),(⟨(.type "frame"),none,.plain,#[(some (.ref 13)),(some (.ref 3)),(some (.ref 3)),none,(some (vs "__main__" 164)),none,(some (.ref 0))]⟩:Obj)]
noncomputable def bt:Nat->List Obj->BT->BT
 | _,[],T=>T
 | i,o :: r,T=>bt (i+1) r (T.ins i o)
noncomputable def t0 (P:Params):BT:=bt 0 (ol P) .nil
noncomputable abbrev sT (t:Params->BT) (n k:Nat) (w:World) (os:OsState):SharedT:=⟨t w.params,n,{},⟨[]⟩,boot_drawn,k,os⟩
abbrev B:List Frame:=[topFrame ⟨0,0,0,0⟩]
theorem aJ4 (w:World):(fun os=>topGo treeTable pr w 11 (some (.ref 6)) 12 ⟨boot_heap w.params,⟨[]⟩,boot_drawn,boot_toks,os⟩ (topStub pr))=(fun os=>some ((⟨⟨⟨ol w.params⟩,{}⟩,⟨[]⟩,boot_drawn,187,os⟩:Shared),⟨denote treeTable cE,cE,⟨0,0,0,0⟩,B⟩)):=by
 rw [PySem.W.Fast.te15667345088766844465,PySem.W.Fast.te14364793385576792824,PySem.W.Fast.te11892475500146522536]
 kernel_rfl
theorem aKz (w:World):(fun os=>segRun treeTable pr w 11 (some (.ref 6)) 1 1 ⟨⟨⟨ol w.params⟩,{}⟩,⟨[]⟩,boot_drawn,187,os⟩ (blockOf (behindTheImports pr) aH0 cE ⟨0,0,0,0⟩ B))=(fun os=>some (.next,(sT t0 15 187 w os).abs,cE,⟨0,0,0,0⟩)):=by
 rw [PySem.W.Fast.te14374325043358763698,PySem.W.Fast.te14364793385576792824]
 kernel_rfl
noncomputable def t1 (P:Params):BT :=
 (t0 P) |>
 (fun T=>T.set 3 (rE 0 (vs "creasecurve.errors" 187))) |>
 (fun T=>T.set 3 (pE (en P "RoofError" 206 (.ref 24)))) |>
 (fun T=>T.set 12 (pF [(.int 2 0),(.int 0 0),(.ref 20)])) |>
 (fun T=>T.ins 15 (tu [(.type "ValueError")])) |>
 (fun T=>T.ins 16 ⟨(.type "builtin_function_or_method"),none,(.fields #[(.builtin "type.__prepare__"),(.type "type")]),#[]⟩) |>
 (fun T=>T.ins 17 ⟨(.type "dict"),none,(.dict #[en P "__module__" 196 (vs "creasecurve.errors" 187),en P "__qualname__" 198 (vs "RoofError" 197),en P "__firstlineno__" 200 (.int 2 199),en P "__static_attributes__" 201 (.ref 22)] 4),#[]⟩) |>
 (fun T=>T.ins 18 (tu [])) |>
 (fun T=>T.ins 19 (fl [])) |>
 (fun T=>T.ins 20 ⟨(.type "code"),none,(.fields #[(vs "RoofError" 191),(vs "RoofError" 192),(vs "/claim/cut.py" 193),(.int 2 0),(.int 0 0),(.int 0 0),(.int 0 0),(.int 0 0),(.ref 18),(.bool false),(.int 181 0),(.ref 19),.none,.none,.none,.none,(.int 194 0),(.int 2 0),(vs "/claim/cut.py" 195)]),#[]⟩) |>
 (fun T=>T.ins 21 ⟨(.type "frame"),none,.plain,#[(some (.ref 20)),(some (.ref 3)),(some (.ref 17)),none,(some (vs "creasecurve.errors" 187)),none,(some (.ref 0))]⟩) |>
 (fun T=>T.ins 22 (tu [])) |>
 (fun T=>T.ins 23 ⟨(.type "dict"),none,(.dict #[en P "__module__" 196 (vs "creasecurve.errors" 187),en P "__firstlineno__" 200 (.int 2 199),en P "__static_attributes__" 201 (.ref 22),en P "__weakref__" 203 (.ref 25),en P "__doc__" 204 .none] 3),#[]⟩) |>
 (fun T=>T.ins 24 ⟨(.type "type"),none,(.cls ⟨"RoofError",[(.type "ValueError")],[(.ref 24),(.type "ValueError"),(.type "Exception"),(.type "BaseException"),(.type "object")],23,"RoofError",true,[],[],false,none,false⟩),#[(some (.ref 15)),none,(some (vs "RoofError" 189)),(some (vs "RoofError" 197)),(some (.builtin "ValueError.__new__")),(some (.bool true))]⟩) |>
 (fun T=>T.ins 25 ⟨(.type "getset_descriptor"),none,(.fields #[(vs "__weakref__" 202),(.ref 24),(.builtin "ExceptionGroup.__weakref__"),.none]),#[]⟩) |>
 (fun T=>T.ins 26 ⟨(.type "super"),none,(.fields #[(.ref 24),(.ref 24),(.ref 24)]),#[]⟩) |>
 (fun T=>T.ins 27 ⟨(.type "builtin_function_or_method"),none,(.fields #[(.builtin "object.__init_subclass__"),(.ref 24)]),#[]⟩)
noncomputable def g0:List Stmt:=[top 0,top 1]
theorem hg0 (w:World):(fun os=>segRunT treeTable pr w 11 (some (.ref 6)) 1 196 (sT t0 15 187 w os) (piecesOf g0 aH0 cE ⟨0,0,0,0⟩ B))=(fun os=>some (.next,sT t1 28 207 w os,cE,⟨2,0,3,8⟩)):=by
 rw [PySem.W.Fast.te10110043849684766642,PySem.W.Fast.te14364793385576792824]
 kernel_rfl
noncomputable def t2 (P:Params):BT :=
 (t1 P) |>
 (fun T=>T.set 3 (pE (en P "NoFraction" 222 (.ref 37)))) |>
 (fun T=>T.set 12 (pF [(.int 4 0),(.int 0 0),(.ref 33)])) |>
 (fun T=>T.set 24 (fun _=>⟨(.type "type"),none,(.cls ⟨"RoofError",[(.type "ValueError")],[(.ref 24),(.type "ValueError"),(.type "Exception"),(.type "BaseException"),(.type "object")],23,"RoofError",true,[],[(.ref 37)],false,none,false⟩),#[(some (.ref 15)),none,(some (vs "RoofError" 189)),(some (vs "RoofError" 197)),(some (.builtin "ValueError.__new__")),(some (.bool true))]⟩)) |>
 (fun T=>T.ins 28 (tu [(.ref 24)])) |>
 (fun T=>T.ins 29 ⟨(.type "builtin_function_or_method"),none,(.fields #[(.builtin "type.__prepare__"),(.type "type")]),#[]⟩) |>
 (fun T=>T.ins 30 ⟨(.type "dict"),none,(.dict #[en P "__module__" 214 (vs "creasecurve.errors" 187),en P "__qualname__" 216 (vs "NoFraction" 215),en P "__firstlineno__" 218 (.int 4 217),en P "__static_attributes__" 219 (.ref 35)] 4),#[]⟩) |>
 (fun T=>T.ins 31 (tu [])) |>
 (fun T=>T.ins 32 (fl [])) |>
 (fun T=>T.ins 33 ⟨(.type "code"),none,(.fields #[(vs "NoFraction" 209),(vs "NoFraction" 210),(vs "/claim/cut.py" 211),(.int 4 0),(.int 0 0),(.int 0 0),(.int 0 0),(.int 0 0),(.ref 31),(.bool false),(.int 181 0),(.ref 32),.none,.none,.none,.none,(.int 212 0),(.int 4 0),(vs "/claim/cut.py" 213)]),#[]⟩) |>
 (fun T=>T.ins 34 ⟨(.type "frame"),none,.plain,#[(some (.ref 33)),(some (.ref 3)),(some (.ref 30)),none,(some (vs "creasecurve.errors" 187)),none,(some (.ref 0))]⟩) |>
 (fun T=>T.ins 35 (tu [])) |>
 (fun T=>T.ins 36 ⟨(.type "dict"),none,(.dict #[en P "__module__" 214 (vs "creasecurve.errors" 187),en P "__firstlineno__" 218 (.int 4 217),en P "__static_attributes__" 219 (.ref 35),en P "__doc__" 220 .none] 2),#[]⟩) |>
 (fun T=>T.ins 37 ⟨(.type "type"),none,(.cls ⟨"NoFraction",[(.ref 24)],[(.ref 37),(.ref 24),(.type "ValueError"),(.type "Exception"),(.type "BaseException"),(.type "object")],36,"NoFraction",true,[],[],false,none,false⟩),#[(some (.ref 28)),none,(some (vs "NoFraction" 207)),(some (vs "NoFraction" 215)),(some (.builtin "ValueError.__new__")),(some (.bool true))]⟩) |>
 (fun T=>T.ins 38 ⟨(.type "super"),none,(.fields #[(.ref 37),(.ref 37),(.ref 37)]),#[]⟩) |>
 (fun T=>T.ins 39 ⟨(.type "builtin_function_or_method"),none,(.fields #[(.builtin "object.__init_subclass__"),(.ref 37)]),#[]⟩) |>
 (fun T=>T.set 3 (rE 0 (vs "creasecurve.fractions" 223))) |>
 (d7 P 4 "greatest_divisor" (vs "creasecurve.fractions" 223) 7 2 ["a","b","larger","smaller","rest"] 40 225 233) |>
 (d7 P 5 "fraction" (vs "creasecurve.fractions" 223) 15 2 ["top","bottom","divisor"] 47 236 242) |>
 (d7 P 6 "plus" (vs "creasecurve.fractions" 223) 22 2 ["a","b"] 54 245 250) |>
 (d7 P 7 "minus" (vs "creasecurve.fractions" 223) 24 2 ["a","b"] 61 253 258) |>
 (d7 P 8 "over" (vs "creasecurve.fractions" 223) 26 2 ["a","b"] 68 261 266)
noncomputable def g1:List Stmt:=[top 2,top 3,top 4,top 5,top 6,top 7,top 8]
theorem hg1 (w:World):(fun os=>segRunT treeTable pr w 11 (some (.ref 6)) 1 377 (sT t1 28 207 w os) (piecesOf g1 aH0 cE ⟨2,0,3,8⟩ B))=(fun os=>some (.next,sT t2 75 269 w os,cE,⟨26,0,27,45⟩)):=by
 rw [PySem.W.Fast.te10110043849684766642,PySem.W.Fast.te14364793385576792824]
 kernel_rfl
noncomputable def t3 (P:Params):BT :=
 (t2 P) |>
 (d7 P 9 "less" (vs "creasecurve.fractions" 223) 28 2 ["a","b"] 75 269 274) |>
 (d7 P 10 "greatest" (vs "creasecurve.fractions" 223) 30 1 ["numbers","best","number"] 82 277 283) |>
 (d7 P 11 "least" (vs "creasecurve.fractions" 223) 36 1 ["numbers","best","number"] 89 286 292) |>
 (d7 P 12 "common_bottom" (vs "creasecurve.fractions" 223) 42 1 ["numbers","common","number"] 96 295 301) |>
 (d7 P 13 "whole" (vs "creasecurve.fractions" 223) 47 2 ["number","factor"] 103 304 309) |>
 (fun T=>T.set 3 (rE 0 (vs "creasecurve.roofs" 312))) |>
 (d5 P 15 "whole_factor" (vs "creasecurve.roofs" 312) 50 1 110 314 317) |>
 (d5 P 16 "blown_up" (vs "creasecurve.roofs" 312) 52 2 115 320 323) |>
 (d7 P 17 "shrunk" (vs "creasecurve.roofs" 312) 54 2 ["point","factor"] 120 326 331) |>
 (fun T=>T.set 3 (rE 0 (vs "creasecurve.thinning" 334))) |>
 (d7 P 19 "between" (vs "creasecurve.thinning" 334) 57 2 ["lows","highs","low","high"] 127 336 343) |>
 (d5 P 20 "solved" (vs "creasecurve.thinning" 334) 67 1 134 346 349) |>
 (d5 P 21 "without_y" (vs "creasecurve.thinning" 334) 73 1 139 352 355) |>
 (d7 P 22 "gap" (vs "creasecurve.thinning" 334) 80 2 ["plane","other"] 144 358 363) |>
 (d5 P 23 "lone_point" (vs "creasecurve.thinning" 334) 82 2 151 366 369)
noncomputable def g2:List Stmt:=[top 9,top 10,top 11,top 12,top 13,top 14,top 15,top 16,top 17,top 18,top 19,top 20,top 21,top 22,top 23]
theorem hg2 (w:World):(fun os=>segRunT treeTable pr w 11 (some (.ref 6)) 1 394 (sT t2 75 269 w os) (piecesOf g2 aH0 cE ⟨26,0,27,45⟩ B))=(fun os=>some (.next,sT t3 156 372 w os,cE,⟨82,0,88,17⟩)):=by
 rw [PySem.W.Fast.te10110043849684766642,PySem.W.Fast.te14364793385576792824]
 kernel_rfl
noncomputable def t4 (P:Params):BT :=
 (t3 P) |>
 (d5 P 24 "lone_points" (vs "creasecurve.thinning" 334) 89 2 156 372 375) |>
 (d5 P 25 "staying" (vs "creasecurve.thinning" 334) 92 1 161 378 381) |>
 (d5 P 26 "thinned" (vs "creasecurve.thinning" 334) 96 1 166 384 387) |>
 (fun T=>T.set 3 (rE 0 (vs "law_creasecurve_k61_whole_thinned_tells_the" 390))) |>
 (d7 P 28 "_law_cell_at" (vs "law_creasecurve_k61_whole_thinned_tells_the" 390) 100 2 ["_law_script","_law_k"] 171 392 397) |>
 (d7 P 29 "_law_stirred" (vs "law_creasecurve_k61_whole_thinned_tells_the" 390) 104 1 ["_law_script","_law_prime","_law_made","_law_k","_law_cell"] 178 400 408) |>
 (d7 P 30 "_law_whole" (vs "law_creasecurve_k61_whole_thinned_tells_the" 390) 112 1 ["_law_found"] 185 411 415) |>
 (d7 P 31 "_law_low" (vs "law_creasecurve_k61_whole_thinned_tells_the" 390) 114 2 ["_law_top","_law_bottom","_law_one","_law_other"] 192 418 425) |>
 (d7 P 32 "_law_height_by" (vs "law_creasecurve_k61_whole_thinned_tells_the" 390) 122 4 ["_law_kind","_law_i","_law_j","_law_rest"] 199 428 435) |>
 (d5 P 33 "_law_roof_by" (vs "law_creasecurve_k61_whole_thinned_tells_the" 390) 130 4 206 438 441) |>
 (d7 P 34 "_law_level_at" (vs "law_creasecurve_k61_whole_thinned_tells_the" 390) 147 2 ["_law_plane","_law_point","_law_x","_law_y","_law_far","_law_scale"] 211 444 453) |>
 (d7 P 35 "_law_under" (vs "law_creasecurve_k61_whole_thinned_tells_the" 390) 152 2 ["_law_one","_law_other"] 218 456 461) |>
 (d5 P 36 "_law_tops_by" (vs "law_creasecurve_k61_whole_thinned_tells_the" 390) 154 2 225 464 467) |>
 (d7 P 37 "_law_crossing" (vs "law_creasecurve_k61_whole_thinned_tells_the" 390) 161 3 ["_law_one","_law_other","_law_third","_law_a","_law_b","_law_w","_law_first","_law_second","_law_x","_law_y"] 230 470 483)
noncomputable def g3:List Stmt:=[top 24,top 25,top 26,top 27,top 28,top 29,top 30,top 31,top 32,top 33,top 34,top 35,top 36,top 37]
theorem hg3 (w:World):(fun os=>segRunT treeTable pr w 11 (some (.ref 6)) 1 398 (sT t3 156 372 w os) (piecesOf g3 aH0 cE ⟨82,0,88,17⟩ B))=(fun os=>some (.next,sT t4 237 486 w os,cE,⟨161,0,171,117⟩)):=by
 rw [PySem.W.Fast.te10110043849684766642,PySem.W.Fast.te14364793385576792824]
 kernel_rfl
noncomputable def t5 (P:Params):BT :=
 (t4 P) |>
 (d7 P 38 "_law_point_by" (vs "law_creasecurve_k61_whole_thinned_tells_the" 390) 172 3 ["_law_roof","_law_cell","_law_other","_law_many","_law_found","_law_x"] 237 486 495) |>
 (d7 P 39 "_law_sum" (vs "law_creasecurve_k61_whole_thinned_tells_the" 390) 182 2 ["_law_one","_law_other"] 244 498 503) |>
 (d7 P 40 "_law_product" (vs "law_creasecurve_k61_whole_thinned_tells_the" 390) 184 2 ["_law_one","_law_other"] 251 506 511) |>
 (d5 P 41 "_law_with_mixed" (vs "law_creasecurve_k61_whole_thinned_tells_the" 390) 186 2 258 514 517) |>
 (d7 P 42 "_law_level" (vs "law_creasecurve_k61_whole_thinned_tells_the" 390) 199 2 ["_law_roof","_law_point","_law_level_here"] 263 520 526) |>
 (d7 P 43 "_law_like" (vs "law_creasecurve_k61_whole_thinned_tells_the" 390) 202 3 ["_law_roof","_law_planes","_law_bits","_law_made","_law_plane"] 270 529 537) |>
 (d7 P 44 "_law_alike_at" (vs "law_creasecurve_k61_whole_thinned_tells_the" 390) 213 3 ["_law_one","_law_other","_law_points","_law_point"] 277 540 547) |>
 (d5 P 45 "_law_cells" (vs "law_creasecurve_k61_whole_thinned_tells_the" 390) 218 1 284 550 553) |>
 (d5 P 46 "_law_any_roof" (vs "law_creasecurve_k61_whole_thinned_tells_the" 390) 224 2 289 556 559) |>
 (d5 P 47 "law" (vs "law_creasecurve_k61_whole_thinned_tells_the" 390) 235 1 294 562 565)
noncomputable def g4:List Stmt:=[top 38,top 39,top 40,top 41,top 42,top 43,top 44,top 45,top 46,top 47]
theorem hg4 (w:World):(fun os=>segRunT treeTable pr w 11 (some (.ref 6)) 1 295 (sT t4 237 486 w os) (piecesOf g4 aH0 cE ⟨161,0,171,117⟩ B))=(fun os=>some (.next,sT t5 299 568 w os,cE,⟨235,0,260,93⟩)):=by
 rw [PySem.W.Fast.te10110043849684766642,PySem.W.Fast.te14364793385576792824]
 kernel_rfl
noncomputable def hF (P:Params):Heap:=absHeap (t5 P) 299 {}
theorem aNr (w:World):(fun os=>topRun treeTable pr w 11 (some (.ref 6)) 2 (sT t5 299 568 w os).abs ⟨doneF .next,cE,⟨235,0,260,93⟩,B⟩)=(fun os=>some ((⟨hF w.params,⟨[]⟩,boot_drawn,568,os⟩:Shared))):=by
 rw [PySem.W.Fast.te14082659384304107361,PySem.W.Fast.te14364793385576792824]
 kernel_rfl
theorem hb:behindTheImports pr=g0++(g1++(g2++(g3++(g4++[])))):=by kernel_rfl
theorem aQr (w:World) (os:OsState):topRun treeTable pr w 11 (some (.ref 6)) (12+(1+(196+(377+(394+(398+(295+(2)))))))) ⟨boot_heap w.params,⟨[]⟩,boot_drawn,boot_toks,os⟩ (topStub pr)=some ⟨hF w.params,⟨[]⟩,boot_drawn,568,os⟩:=go_top (congrFun (aJ4 w) os) (piece_block (congrFun (aKz w) os) (by
 rw [hb]
 exact piece_app (segRun_of (congrFun (hg0 w) os)) (piece_app (segRun_of (congrFun (hg1 w) os)) (piece_app (segRun_of (congrFun (hg2 w) os)) (piece_app (segRun_of (congrFun (hg3 w) os)) (piece_app (segRun_of (congrFun (hg4 w) os)) (piece_nil (congrFun (aNr w) os))))))))
noncomputable def qv:Program:={ pr with main:={ pr.main with body:=[top 1,top 2,top 4,top 5,top 6,top 7,top 8,top 9,top 10,top 11,top 12,top 13,top 15,top 16,top 17,top 19,top 20,top 21,top 22,top 23,top 24,top 25,top 26,top 28,top 29,top 30,top 31,top 32,top 33,top 34,top 35,top 36,top 37,top 38,top 39,top 40,top 41,top 42,top 43,top 44,top 45,top 46,top 47] } }
noncomputable def ks:List Nat:=[3,20,23,24,33,36,37,45,46,52,53,59,60,66,67,73,74,80,81,87,88,94,95,101,102,108,109,113,114,118,119,125,126,132,133,137,138,142,143,149,150,154,155,159,160,164,165,169,170,176,177,183,184,190,191,197,198,204,205,209,210,216,217,223,224,228,229,235,236,242,243,249,250,256,257,261,262,268,269,275,276,282,283,287,288,292,293,297,298]
noncomputable def K (P:Params):Frag:=ks.map fun a=>(a,((t5 P).get a).getD default)
theorem ksE (P:Params):ks=(K P).map (·.1):=by kernel_rfl
noncomputable abbrev hk:Hook:=kHook K ks ksE
noncomputable abbrev xt:Shared->Bool:=fun s=>xlAt qv [] s && recOk [] s
theorem aPc (w:World):((boot_heap w.params).isNs mainGlobals && (⟨[]⟩:Array GenState).size == 0,(boot_heap w.params).objs.size,(boot_heap w.params).nsMap mainGlobals "__annotations__")=(true,11,(some (.ref 6))):=by kernel_rfl
theorem aNq (w:World):(fun os:OsState=>(staticsOk (importedModules pr.main.body) (boot_heap w.params) (hF w.params) && namesBound pr (hF w.params) && gensDone ⟨hF w.params,⟨[]⟩,boot_drawn,568,os⟩ && laidKept (boot_heap w.params) (hF w.params)))=fun _=>true:=by
 rw [PySem.W.Fast.te5923862056798008813]
 kernel_rfl
theorem aO9 (w:World):(fun os:OsState=>openSeen qv [] (importedModules pr.main.body) xt true ⟨hF w.params,⟨[]⟩,boot_drawn,568,os⟩)=fun _=>openGood qv []:=by
 rw [PySem.W.Fast.te4187177175401517315,PySem.W.Fast.te5923862056798008813]
 kernel_rfl
theorem aOk (w:World):(fun os:OsState=>hk.obs ⟨hF w.params,⟨[]⟩,boot_drawn,568,os⟩)=fun _=>hk.val w:=by kernel_rfl
theorem left:LeftO pr qv [] xt hk.obs hk.val 3436:=LeftO.of_pieces (boot_open (by kernel_rfl) (by decide) (fun _=>by kernel_rfl)) aPc aQr (by decide) fun w=>funext fun os=>looks_pair (congrFun (aNq w) os) (looks_pair (congrFun (aO9 w) os) (congrFun (aOk w) os))
theorem h1 (w:World):FnAt (K w.params) "greatest_divisor" eA 46 (vs "creasecurve.fractions" 223) 45:=by constructor<;>kernel_rfl
theorem h2 (w:World):FnAt (K w.params) "fraction" lE 53 (vs "creasecurve.fractions" 223) 52:=by constructor<;>kernel_rfl
theorem h3 (w:World):FnAt (K w.params) "plus" xU 60 (vs "creasecurve.fractions" 223) 59:=by constructor<;>kernel_rfl
theorem h4 (w:World):FnAt (K w.params) "minus" tL 67 (vs "creasecurve.fractions" 223) 66:=by constructor<;>kernel_rfl
theorem h5 (w:World):FnAt (K w.params) "over" xQ 74 (vs "creasecurve.fractions" 223) 73:=by constructor<;>kernel_rfl
theorem h6 (w:World):FnAt (K w.params) "less" yK 81 (vs "creasecurve.fractions" 223) 80:=by constructor<;>kernel_rfl
theorem h7 (w:World):FnAt (K w.params) "greatest" lG 88 (vs "creasecurve.fractions" 223) 87:=by constructor<;>kernel_rfl
theorem h8 (w:World):FnAt (K w.params) "least" tF 95 (vs "creasecurve.fractions" 223) 94:=by constructor<;>kernel_rfl
theorem h9 (w:World):FnAt (K w.params) "common_bottom" fP 102 (vs "creasecurve.fractions" 223) 101:=by constructor<;>kernel_rfl
theorem h10 (w:World):FnAt (K w.params) "whole" sJ 109 (vs "creasecurve.fractions" 223) 108:=by constructor<;>kernel_rfl
theorem h11 (w:World):FnAt (K w.params) "whole_factor" gQ 114 (vs "creasecurve.roofs" 312) 113:=by constructor<;>kernel_rfl
theorem h12 (w:World):FnAt (K w.params) "blown_up" lD 119 (vs "creasecurve.roofs" 312) 118:=by constructor<;>kernel_rfl
theorem h13 (w:World):FnAt (K w.params) "shrunk" oJ 126 (vs "creasecurve.roofs" 312) 125:=by constructor<;>kernel_rfl
theorem h14 (w:World):FnAt (K w.params) "between" mK 133 (vs "creasecurve.thinning" 334) 132:=by constructor<;>kernel_rfl
theorem h15 (w:World):FnAt (K w.params) "solved" oH 138 (vs "creasecurve.thinning" 334) 137:=by constructor<;>kernel_rfl
theorem h16 (w:World):FnAt (K w.params) "without_y" jT 143 (vs "creasecurve.thinning" 334) 142:=by constructor<;>kernel_rfl
theorem h17 (w:World):FnAt (K w.params) "gap" aE5 150 (vs "creasecurve.thinning" 334) 149:=by constructor<;>kernel_rfl
theorem h18 (w:World):FnAt (K w.params) "lone_point" i4 155 (vs "creasecurve.thinning" 334) 154:=by constructor<;>kernel_rfl
theorem h19 (w:World):FnAt (K w.params) "lone_points" hZ 160 (vs "creasecurve.thinning" 334) 159:=by constructor<;>kernel_rfl
theorem h20 (w:World):FnAt (K w.params) "staying" l8 165 (vs "creasecurve.thinning" 334) 164:=by constructor<;>kernel_rfl
theorem h21 (w:World):FnAt (K w.params) "thinned" mL 170 (vs "creasecurve.thinning" 334) 169:=by constructor<;>kernel_rfl
theorem h22 (w:World):FnAt (K w.params) "_law_cell_at" gP 177 (vs "law_creasecurve_k61_whole_thinned_tells_the" 390) 176:=by constructor<;>kernel_rfl
theorem h23 (w:World):FnAt (K w.params) "_law_stirred" gW 184 (vs "law_creasecurve_k61_whole_thinned_tells_the" 390) 183:=by constructor<;>kernel_rfl
theorem h24 (w:World):FnAt (K w.params) "_law_low" lA 198 (vs "law_creasecurve_k61_whole_thinned_tells_the" 390) 197:=by constructor<;>kernel_rfl
theorem h25 (w:World):FnAt (K w.params) "_law_height_by" fG 205 (vs "law_creasecurve_k61_whole_thinned_tells_the" 390) 204:=by constructor<;>kernel_rfl
theorem h26 (w:World):FnAt (K w.params) "_law_roof_by" gU 210 (vs "law_creasecurve_k61_whole_thinned_tells_the" 390) 209:=by constructor<;>kernel_rfl
theorem h27 (w:World):FnAt (K w.params) "_law_level_at" fR 217 (vs "law_creasecurve_k61_whole_thinned_tells_the" 390) 216:=by constructor<;>kernel_rfl
theorem h28 (w:World):FnAt (K w.params) "_law_under" iW 224 (vs "law_creasecurve_k61_whole_thinned_tells_the" 390) 223:=by constructor<;>kernel_rfl
theorem h29 (w:World):FnAt (K w.params) "_law_tops_by" gM 229 (vs "law_creasecurve_k61_whole_thinned_tells_the" 390) 228:=by constructor<;>kernel_rfl
theorem h30 (w:World):FnAt (K w.params) "_law_crossing" fW 236 (vs "law_creasecurve_k61_whole_thinned_tells_the" 390) 235:=by constructor<;>kernel_rfl
theorem h31 (w:World):FnAt (K w.params) "_law_point_by" fX 243 (vs "law_creasecurve_k61_whole_thinned_tells_the" 390) 242:=by constructor<;>kernel_rfl
theorem h32 (w:World):FnAt (K w.params) "_law_sum" lC 250 (vs "law_creasecurve_k61_whole_thinned_tells_the" 390) 249:=by constructor<;>kernel_rfl
theorem h33 (w:World):FnAt (K w.params) "_law_product" gO 257 (vs "law_creasecurve_k61_whole_thinned_tells_the" 390) 256:=by constructor<;>kernel_rfl
theorem h34 (w:World):FnAt (K w.params) "_law_with_mixed" eQ 262 (vs "law_creasecurve_k61_whole_thinned_tells_the" 390) 261:=by constructor<;>kernel_rfl
theorem h35 (w:World):FnAt (K w.params) "_law_level" iZ 269 (vs "law_creasecurve_k61_whole_thinned_tells_the" 390) 268:=by constructor<;>kernel_rfl
theorem h36 (w:World):FnAt (K w.params) "_law_like" jV 276 (vs "law_creasecurve_k61_whole_thinned_tells_the" 390) 275:=by constructor<;>kernel_rfl
theorem h37 (w:World):FnAt (K w.params) "_law_alike_at" fQ 283 (vs "law_creasecurve_k61_whole_thinned_tells_the" 390) 282:=by constructor<;>kernel_rfl
theorem h38 (w:World):FnAt (K w.params) "_law_cells" i5 288 (vs "law_creasecurve_k61_whole_thinned_tells_the" 390) 287:=by constructor<;>kernel_rfl
theorem h39 (w:World):FnAt (K w.params) "_law_any_roof" fU 293 (vs "law_creasecurve_k61_whole_thinned_tells_the" 390) 292:=by constructor<;>kernel_rfl
theorem h40 (w:World):FnAt (K w.params) "law" uI 298 (vs "law_creasecurve_k61_whole_thinned_tells_the" 390) 297:=by constructor<;>kernel_rfl
end Hd
open PySem PySem.W PyProof.Rows
theorem Hd.said:PySem.Challenge.rw_creasecurve_k61_whole_thinned_tells_the.wellSaid=true:=by kernel_rfl
set_option maxRecDepth 100000 in
set_option maxHeartbeats 0 in
theorem PySem.Challenge.cw_creasecurve_k61_whole_thinned_tells_the_holds : PySem.Challenge.rw_creasecurve_k61_whole_thinned_tells_the.Holds := by
 refine holds_law Hd.said fun said=>?_
 refine holds_open (q:=Hd.qv) (Xt:=Hd.xt) (XP:=XL Hd.qv []) (YP:=Hd.hk.says) (N:=3436) Hd.left Hd.hk.of Hd.hk.keeps (fun s e=>xl_of s (Bool.and_eq_true_iff.mp e).1) XL.keeps (by rfl) (by rfl) (by rfl) (fun s e=>recFacts_of (Bool.and_eq_true_iff.mp e).2) (by rfl) said (by decide +kernel) ⟨rfl,rfl,rfl,rfl,rfl,by decide +kernel⟩ ?hw ?hc
 case hw=>w_witness2
 refine My.walk (l:=PySem.Challenge.rw_creasecurve_k61_whole_thinned_tells_the) rfl rfl (fun w h Y=>PySem.W.kIn_of Y) (fun w=>by kernel_rfl) ?F
 case F =>
  intro w mg fa h KX G hmg
  exact My.all_mk (CRoofError:=24) (CNoFraction:=37) KX G hmg (Hd.h1 w) (Hd.h2 w) (Hd.h3 w) (Hd.h4 w) (Hd.h5 w) (Hd.h6 w) (Hd.h7 w) (Hd.h8 w) (Hd.h9 w) (Hd.h10 w) (Hd.h11 w) (Hd.h12 w) (Hd.h13 w) (Hd.h14 w) (Hd.h15 w) (Hd.h16 w) (Hd.h17 w) (Hd.h18 w) (Hd.h19 w) (Hd.h20 w) (Hd.h21 w) (Hd.h22 w) (Hd.h23 w) (Hd.h24 w) (Hd.h25 w) (Hd.h26 w) (Hd.h27 w) (Hd.h28 w) (Hd.h29 w) (Hd.h30 w) (Hd.h31 w) (Hd.h32 w) (Hd.h33 w) (Hd.h34 w) (Hd.h35 w) (Hd.h36 w) (Hd.h37 w) (Hd.h38 w) (Hd.h39 w) (Hd.h40 w) (by kernel_rfl) (by kernel_rfl) (by kernel_rfl) (by kernel_rfl) (by kernel_rfl) (by kernel_rfl) (by kernel_rfl) (by kernel_rfl) (by kernel_rfl) (by kernel_rfl) (by kernel_rfl) (by kernel_rfl) (by kernel_rfl) (by kernel_rfl) (by kernel_rfl) (by kernel_rfl) (by kernel_rfl) (by kernel_rfl)

import PyProof.Rows.All
import Wide.All
import OpenK.AllK
import Wide.FinOn
import Lean
import PyProof.EqAt
import PyProof.EqKinds
import PyProof.TupleCall
import PySem.Challenge.RW_creasecurve_k09_planes_struck_out
set_option Elab.async false
set_option linter.all false
set_option maxRecDepth 100000
namespace L2
open PySem PySem.Spec PyProof.Rows
abbrev Key:=Sum Int Str
def aAo:Key->Value->Bool
 | .inl k,v=>Value.isInt k v
 | .inr x,v=>Value.isStrOf x v
def aQ8 (w:World):Key->Int
 | .inl k=>hashInt k
 | .inr x=>hashStr w x
theorem dD:∀ {k:Key} {v:Value},aAo k v=true->(∃ i t,k=Sum.inl i/\v=Value.int i t)\/(∃ x t,k=Sum.inr x/\v=Value.str x t)
 | .inl i,v,h=>by
  obtain ⟨t,e⟩:=Value.isInt_shape (k:=i) (v:=v) h
  exact .inl ⟨i,t,rfl,e⟩
 | .inr x,v,h=>by
  obtain ⟨t,e⟩:=Value.isStrOf_shape (x:=x) (v:=v) h
  exact .inr ⟨x,t,rfl,e⟩
theorem aEf (i:Int) (t:Tok):aAo (.inl i) (.int i t)=true:=by simp [aAo,Value.isInt]
theorem aA0 (x:Str) (t:Tok):aAo (.inr x) (.str x t)=true:=by simp [aAo,Value.isStrOf]
theorem aO3 (a b:Int):decide ((Sum.inl a:Key)=Sum.inl b)=(a == b):=by
 by_cases e:a=b
 ·subst e;simp
 ·have h:¬ (Sum.inl a:Key)=Sum.inl b:=fun q=>e (Sum.inl.inj q)
  rw [decide_eq_false h]
  exact (beq_eq_false_iff_ne.mpr e).symm
theorem aMg (a b:Str):decide ((Sum.inr a:Key)=Sum.inr b)=decide (a=b):=by
 by_cases e:a=b
 ·subst e;simp
 ·have h:¬ (Sum.inr a:Key)=Sum.inr b:=fun q=>e (Sum.inr.inj q)
  rw [decide_eq_false h,decide_eq_false e]
theorem aO4 (a:Int) (b:Str):decide ((Sum.inl a:Key)=Sum.inr b)=false:=decide_eq_false (fun q=>nomatch q)
theorem aMc (a:Str) (b:Int):decide ((Sum.inr a:Key)=Sum.inl b)=false:=decide_eq_false (fun q=>nomatch q)
def gC (prog:Program) (w:World):PySem.KeyKind prog w Key where
 is:=aAo
 hash:=aQ8 w
 inj:=fun v a b ha hb=>by
  rcases dD ha with ⟨i,t,rfl,rfl⟩ | ⟨x,t,rfl,rfl⟩
  ·rcases dD hb with ⟨j,u,rfl,e⟩ | ⟨y,u,rfl,e⟩
   ·injection e with e1 _;rw [e1]
   ·exact nomatch e
  ·rcases dD hb with ⟨j,u,rfl,e⟩ | ⟨y,u,rfl,e⟩
   ·exact nomatch e
   ·injection e with e1 _;rw [e1]
 byValue:=fun k v h=>by
  rcases dD h with ⟨i,t,rfl,rfl⟩ | ⟨x,t,rfl,rfl⟩<;>rfl
 pyHash:=fun hv h=>by
  rcases dD hv with ⟨i,t,rfl,rfl⟩ | ⟨x,t,rfl,rfl⟩
  ·exact wpAny_pyHash_int h
  ·exact wpAny_pyHash_str h
 eqBool:=fun hu hv h=>by
  rcases dD hu with ⟨i,t,rfl,rfl⟩ | ⟨x,t,rfl,rfl⟩
  ·rcases dD hv with ⟨j,u,rfl,rfl⟩ | ⟨y,u,rfl,rfl⟩
   ·rw [aO3] at h;exact wpAny_eqBool_int h
   ·rw [aO4] at h;exact SeqAt.EqAt.int_str i t y u _ _ _ _ h
  ·rcases dD hv with ⟨j,u,rfl,rfl⟩ | ⟨y,u,rfl,rfl⟩
   ·rw [aMc] at h;exact SeqAt.EqAt.str_int x t j u _ _ _ _ h
   ·rw [aMg] at h;exact wpAny_eqBool_str h
 «strs»:=fun k x t v h=>by
  rcases dD h with ⟨i,u,rfl,e⟩ | ⟨y,u,rfl,e⟩
  ·exact nomatch e
  ·injection e with e1 _
   subst e1
   cases v<;>rfl
theorem xC (prog:Program) (w:World) (i:Int) (t:Tok):(gC prog w).is (.inl i) (.int i t)=true:=aEf i t
theorem xB (prog:Program) (w:World) (x:Str) (t:Tok):(gC prog w).is (.inr x) (.str x t)=true:=aA0 x t
inductive V where
 | non | bl (b:Bool) | int (i:Int) | str (x:Str) | byt (b:Array UInt8) | flt (b:UInt64) | ref (a:Addr) | ty (n:String)
 deriving DecidableEq
def RelV:V->Value->Prop
 | .non,u=>u=Value.none
 | .bl b,u=>u=Value.bool b
 | .int i,u=>∃ t,u=Value.int i t
 | .str x,u=>∃ t,u=Value.str x t
 | .byt b,u=>∃ t,u=Value.bytes b t
 | .flt b,u=>∃ t,u=Value.float b t
 | .ref a,u=>u=Value.ref a
 | .ty n,u=>u=Value.type n
abbrev Vals:List V->List Value->Prop:=Paired RelV
theorem Vals.length {xs:List V} {us:List Value} (r:Vals xs us):xs.length=us.length:=Paired.length r
theorem Vals.get:∀ {xs:List V} {us:List Value} {i:Nat} {x:V},Vals xs us->xs[i]? = some x->∃ u,us[i]? = some u/\RelV x u
 | _,_,_,_,.nil,e=>by simp at e
 | _,_,0,_,.cons r _,e=>by simp at e;subst e;exact ⟨_,rfl,r⟩
 | _,_,i+1,x,.cons _ t,e=>by
  obtain ⟨u,h1,h2⟩:=Vals.get (i:=i) (x:=x) t (by simpa using e)
  exact ⟨u,by simpa using h1,h2⟩
theorem Vals.append:∀ {xs ys:List V} {us ws:List Value},Vals xs us->Vals ys ws->Vals (xs++ys) (us++ws)
 | _,_,_,_,.nil,s=>s
 | _,_,_,_,.cons r t,s=>.cons r (Vals.append t s)
theorem Vals.take:∀ {xs:List V} {us:List Value} (n:Nat),Vals xs us->Vals (xs.take n) (us.take n)
 | _,_,0,_=>.nil
 | _,_,_+1,.nil=>.nil
 | _,_,n+1,.cons r t=>.cons r (Vals.take n t)
theorem Vals.drop:∀ {xs:List V} {us:List Value} (n:Nat),Vals xs us->Vals (xs.drop n) (us.drop n)
 | _,_,0,r=>r
 | _,_,_+1,.nil=>.nil
 | _,_,n+1,.cons _ t=>Vals.drop n t
def RelO:Option V->Option Value->Prop
 | some v,some u=>RelV v u
 | none,none=>True
 | _,_=>False
def KV {κ:Type}:List (κ×V)->List (κ×Value)->Prop:=Paired fun (p:κ×V) (q:κ×Value)=>p.1=q.1/\RelV p.2 q.2
def kV:Key->V
 | .inl i=>.int i
 | .inr x=>.str x
inductive HO where
 /-- a list -/
 | lst (xs:List V)
 /-- a tuple (never changes) -/
 | tup (xs:List V)
 /-- a dict whose keys are ints and texts;one whose keys are tuples of ints and texts (the empty one is both) -/
 | dK (kvs:List (Key×V)) | dT (kvs:List (List Key×V))
 /-- a set of ints: its members,its size -/
 | set (S:Int->Bool) (n:Nat)
 /-- an instance of the class at C,its dict at dx,its attributes -/
 | ins (C dx:Addr) (fs:List (Str×V))
 /-- the dict of the instance at x -/
 | own (x:Addr)
 /-- the dict of an exception -/
 | xd (fs:List (Str×V))
 /-- a bound method,f of x -/
 | met (f x:Addr)
 /-- a range object lo,lo+1,.. below hi -/
 | rng (lo hi:Int)
 /-- a thing that is known to the object (the script;a dict while a loop walks it): read,never written while it is so -/
 | frz (o:Obj) (u:HO)
 /-- a code object's table -/
 | tbl (ps:Array Value)
 /-- any other thing,by what is true of its one object (a def of one's own: SetO a S n:=HO.ext fun h=>..) -/
 | ext (φ:Heap->Prop)
abbrev Hp:=Addr->Option HO
def upd (H:Hp) (a:Addr) (o:HO):Hp:=fun b=>if b=a then some o else H b
theorem bR {H:Hp} {a:Addr} {o:HO}:upd H a o a=some o:=by unfold upd;rw [if_pos rfl]
theorem a9 {H:Hp} {a b:Addr} {o:HO} (h:b≠a):upd H a o b=H b:=by unfold upd;rw [if_neg h]
theorem aKf {H:Hp} {a:Addr} {o u:HO}:upd (upd H a o) a u=upd H a u:=by
 funext b;unfold upd;split<;>rfl
theorem aRe {H:Hp} {a b:Addr} {o u:HO} (h:H a=some o) (h':H b=some u) (d:o≠u):a≠b:=by
 intro e;subst e;rw [h] at h';exact d (Option.some.inj h')
theorem cU {H:Hp} {a b:Addr} {o:HO} (h:H a=some o) (h':H b=none):a≠b:=by
 intro e;subst e;rw [h] at h';cases h'
section
variable (P:Program) (w:World)
def ObjOk (H:Hp) (h:Heap) (a:Addr):HO->Prop
 | .lst xs=>xs.length<=sizeLine/\∃ (its:List Value) (n:Nat),Vals xs its/\h.get? a=some { cls:=.type "list",data:=.seq its.toArray n }
 | .tup xs=>xs.length<=sizeLine/\∃ its:List Value,Vals xs its/\IsTup h a its.toArray
 | .dK kvs=>kvs.length<=sizeLine/\(a == sysModules)=false/\∃ vs,KV kvs vs/\h.DictOf (gC P w) a vs
 | .dT kvs=>kvs.length<=sizeLine/\(a == sysModules)=false/\∃ xs:List (List Key×Addr×Value),
   Paired (fun (p:List Key×V) (q:List Key×Addr×Value)=>p.1=q.1/\H q.2.1=some (.tup (p.1.map kV))/\RelV p.2 q.2.2) kvs xs /\
   ∃ o es ep,h.get? a=some o/\o.ExactDict/\o.data=.dict es ep/\es.toList=xs.map (entryOfKey (tupleKind (gC P w)))/\(xs.map (·.1)).Nodup
 | .set S n=>h.SetOf (intKind P w) a S n
 | .ins C dx fs=>H dx=some (.own a)/\fs.length<=1000/\dx≠a/\h.get? a=some (PySem.W.instObj C dx) /\
   ∃ mA,h.Ns1 dx mA/\(∀ f,RelO (fs.lookup f) (mA f))/\PySem.Within mA (fs.map (·.1))
 | .own _=>∃ o,h.get? a=some o
 | .xd fs=>∃ mA,h.Ns1 a mA/\∀ f,RelO (fs.lookup f) (mA f)
 | .rng lo hi=>∃ t u v,h.get? a=some { cls:=.type "range",data:=.fields #[.int lo t,.int hi u,.int 1 v] }
 | .frz o u=>h.get? a=some o/\ObjOk H h a u
 | .tbl ps=>h.get? a=some { cls:=.none,data:=.fields ps }
 | .met f x=>h.get? a=some (PySem.W.methodObj (.ref f) (.ref x))
 | .ext φ=>φ h/\(∃ o,h.get? a=some o)/\∀ h1 h2:Heap,φ h1->(∀ o,h1.get? a=some o->h2.get? a=some o)->φ h2
def HOk (H:Hp) (h:Heap):Prop:=∀ a o,H a=some o->ObjOk P w H h a o
end
section
variable {P:Program} {w:World} {H H':Hp} {h h':Heap} {a:Addr} {o:HO}
theorem ObjOk.lt (x:ObjOk P w H h a o):a < h.objs.size:=by
 cases o with
 | lst xs=>obtain ⟨_,_,_,_,e⟩:=x;exact Heap.lt_size e
 | tup xs=>obtain ⟨_,_,_,p⟩:=x;exact p.lt
 | dK kvs=>obtain ⟨_,_,_,_,o,_,_,e,_⟩:=x;exact Heap.lt_size e
 | dT kvs=>obtain ⟨_,_,_,_,o,_,_,e,_⟩:=x;exact Heap.lt_size e
 | set S n=>obtain ⟨o,_,_,_,e,_⟩:=x;exact Heap.lt_size e
 | ins C dx fs=>obtain ⟨_,_,_,e,_⟩:=x;exact Heap.lt_size e
 | own y=>obtain ⟨_,e⟩:=x;exact Heap.lt_size e
 | xd fs=>obtain ⟨_,⟨_,_,_,e,_⟩,_⟩:=x;exact Heap.lt_size e
 | rng lo hi=>obtain ⟨_,_,_,e⟩:=x;exact Heap.lt_size e
 | frz ob u=>obtain ⟨e,_⟩:=x;exact Heap.lt_size e
 | tbl ps=>exact Heap.lt_size (show h.get? a=some _ from x)
 | met f y=>exact Heap.lt_size (show h.get? a=some _ from x)
 | ext φ=>obtain ⟨_,⟨_,e⟩,_⟩:=x;exact Heap.lt_size e
theorem Paired.mapP {α β:Type} {F G:α->β->Prop}:∀ {l₁:List α} {l₂:List β},Paired F l₁ l₂->(∀ a b,F a b->G a b)->Paired G l₁ l₂
 | _,_,.nil,_=>.nil
 | _,_,.cons r t,f=>.cons (f _ _ r) (Paired.mapP t f)
theorem ObjOk.stay (x:ObjOk P w H h a o) (k:∀ b u,(b=a\/H b=some (.own a))->h.get? b=some u->h'.get? b=some u)
  (ho:∀ b,H b=some (.own a)->H' b=some (.own a)) (ht:∀ b xs,H b=some (.tup xs)->H' b=some (.tup xs)):ObjOk P w H' h' a o:=by
 induction o with
 | lst xs=>obtain ⟨z,its,n,r,e⟩:=x;exact ⟨z,its,n,r,k _ _ (.inl rfl) e⟩
 | tup xs=>obtain ⟨z,its,r,ob,e,c⟩:=x;exact ⟨z,its,r,ob,k _ _ (.inl rfl) e,c⟩
 | dK kvs=>obtain ⟨z,y,vs,r,ob,es,ep,e,c⟩:=x;exact ⟨z,y,vs,r,ob,es,ep,k _ _ (.inl rfl) e,c⟩
 | dT kvs =>
  obtain ⟨z,y,xs,r,ob,es,ep,e,c⟩:=x
  exact ⟨z,y,xs,Paired.mapP r fun p q z=>⟨z.1,ht _ _ z.2.1,z.2.2⟩,ob,es,ep,k _ _ (.inl rfl) e,c⟩
 | set S n=>obtain ⟨ob,es,ep,t,e,c⟩:=x;exact ⟨ob,es,ep,t,k _ _ (.inl rfl) e,c⟩
 | ins C dx fs =>
  obtain ⟨d,z,ne,e,mA,⟨od,es,ep,e2,c⟩,r⟩:=x
  exact ⟨ho _ d,z,ne,k _ _ (.inl rfl) e,mA,⟨od,es,ep,k _ _ (.inr d) e2,c⟩,r⟩
 | own y=>obtain ⟨ob,e⟩:=x;exact ⟨ob,k _ _ (.inl rfl) e⟩
 | xd fs=>obtain ⟨mA,⟨od,es,ep,e,c⟩,r⟩:=x;exact ⟨mA,⟨od,es,ep,k _ _ (.inl rfl) e,c⟩,r⟩
 | rng lo hi=>obtain ⟨t,u,v,e⟩:=x;exact ⟨t,u,v,k _ _ (.inl rfl) e⟩
 | frz ob u ih=>obtain ⟨e,q⟩:=x;exact ⟨k _ _ (.inl rfl) e,ih q⟩
 | tbl ps =>
  have e:h.get? a=some { cls:=.none,data:=.fields ps }:=x
  show h'.get? a=some { cls:=.none,data:=.fields ps }
  exact k a _ (.inl rfl) e
 | met f y =>
  have e:h.get? a=some (PySem.W.methodObj (.ref f) (.ref y)):=x
  show h'.get? a=some (PySem.W.methodObj (.ref f) (.ref y))
  exact k a _ (.inl rfl) e
 | ext φ=>obtain ⟨p,⟨o,e⟩,st⟩:=x;exact ⟨st _ _ p fun o q=>k _ _ (.inl rfl) q,⟨o,k _ _ (.inl rfl) e⟩,st⟩
theorem HOk.lt (x:HOk P w H h) (e:H a=some o):a < h.objs.size:=(x a o e).lt
theorem HOk.fresh (x:HOk P w H h) (e:h.objs.size<=a):H a=none:=by
 cases q:H a with
 | none=>rfl
 | some u=>exact absurd (Nat.lt_of_lt_of_le (x.lt q) e) (Nat.lt_irrefl _)
theorem HOk.kept (x:HOk P w H h) (k:∀ b u,h.get? b=some u->h'.get? b=some u):HOk P w H h':=fun a o e =>
 (x a o e).stay (fun b u _ q=>k b u q) (fun _ q=>q) fun _ _ q=>q
theorem HOk.laid (x:HOk P w H h) (k:∀ b u,h.get? b=some u->h'.get? b=some u) (hp:h.objs.size<=a) (new:ObjOk P w (upd H a o) h' a o):HOk P w (upd H a o) h':=fun b u e=>by
 have hn:=x.fresh hp
 by_cases hb:b=a
 ·subst hb;rw [bR] at e;cases e;exact new
 ·rw [a9 hb] at e
  exact (x b u e).stay (fun c v _ q=>k c v q) (fun c q=>by rw [a9 (cU q hn)];exact q) fun c xs q=>by rw [a9 (cU q hn)];exact q
end
def Rd (H:Hp) (a:Addr) (u:HO):Prop:=H a=some u\/∃ o,H a=some (.frz o u)
theorem Rd.ok {P:Program} {w:World} {H:Hp} {h:Heap} {a:Addr} {u:HO} (r:Rd H a u) (x:HOk P w H h):ObjOk P w H h a u:=by
 rcases r with r | ⟨o,r⟩
 ·exact x a u r
 ·obtain ⟨_,q⟩:=x a _ r
  exact q
def Mut:Option HO->Prop
 | some (.lst _)=>True
 | some (.dK _)=>True
 | some (.dT _)=>True
 | some (.set _ _)=>True
 | some (.ins _ _ _)=>True
 | some (.ext _)=>True
 | _=>False
section
variable {P:Program} {w:World} {H:Hp} {h h':Heap} {x e:Addr} {o':HO}
theorem HOk.write (ok:HOk P w H h) (mu:Mut (H x)) (he:e=x\/H e=some (.own x)) (k:∀ b u,b≠e->h.get? b=some u->h'.get? b=some u) (heo:∃ u,h'.get? e=some u)
  (new:ObjOk P w (upd H x o') h' x o'):HOk P w (upd H x o') h':=fun b u q=>by
 have nown:∀ c y,H c=some (.own y)->c≠x:=fun c y r z=>by subst z;rw [r] at mu;exact mu
 have ntup:∀ c xs,H c=some (.tup xs)->c≠x:=fun c xs r z=>by subst z;rw [r] at mu;exact mu
 by_cases hb:b=x
 ·subst hb;rw [bR] at q;cases q;exact new
 ·rw [a9 hb] at q
  by_cases hbe:b=e
  ·have q':H b=some (.own x):=by
    rcases he with z | z
    ·exact absurd (hbe.trans z) hb
    ·rw [hbe];exact z
   rw [q] at q';cases q'
   obtain ⟨v,hv⟩:=heo
   exact ⟨v,by rw [hbe];exact hv⟩
  ·refine (ok b u q).stay (fun c v hc r=>k c v ?_ r) (fun c r=>by rw [a9 (nown c b r)];exact r) fun c xs r=>by rw [a9 (ntup c xs r)];exact r
   rcases hc with rfl | hc
   ·exact hbe
   ·rintro rfl
    rcases he with z | z
    ·exact nown c b hc z
    ·rw [hc] at z;cases z;exact hb rfl
end
structure Un (fs ex:List Addr) (H H':Hp) (h h':Heap):Prop where
 keep:∀ b o,h.get? b=some o->H b=none->b∉fs->b∉ex->h'.get? b=some o
 slot:∀ b o,h.get? b=some o->H b=none->b∈fs->b∉ex->∃ sl,h'.get? b=some { o with slots:=sl }
 free:∀ b o,h.get? b=some o->H b=none->b∉ex->H' b=none
 there:∀ b o,h.get? b=some o->b∉ex->∃ o',h'.get? b=some o'
 tups:∀ b xs,H b=some (.tup xs)->H' b=some (.tup xs)
 frzs:∀ b o u,H b=some (.frz o u)->H' b=some (.frz o u)
 tbls:∀ b ps,H b=some (.tbl ps)->∃ more,H' b=some (.tbl (ps++more))
section
variable {fs fs' ex ex':List Addr} {H H1 H2:Hp} {h h1 h2 h':Heap} {a x e:Addr} {o:HO}
theorem Un.any (u:Un fs ex H H1 h h1) {b:Addr} {ob:Obj} (q:h.get? b=some ob) (n:H b=none) (hx:b∉ex):∃ sl,h1.get? b=some { ob with slots:=sl }:=by
 by_cases hb:b∈fs
 ·exact u.slot b ob q n hb hx
 ·exact ⟨ob.slots,u.keep b ob q n hb hx⟩
theorem Un.kept (k:∀ b u,h.get? b=some u->h'.get? b=some u):Un fs ex H H h h' :=
 ⟨fun b ob q _ _ _=>k b ob q,fun b ob q _ _ _=>⟨ob.slots,k b ob q⟩,fun _ _ _ n _=>n,fun b ob q _=>⟨ob,k b ob q⟩,fun _ _ q=>q,fun _ _ _ q=>q,fun _ ps q=>⟨#[],by rw [q];simp⟩⟩
theorem Un.refl:Un fs ex H H h h:=Un.kept fun _ _ q=>q
theorem Un.laid (k:∀ b u,h.get? b=some u->h'.get? b=some u) (hp:h.objs.size<=a) (hn:H a=none):Un fs ex H (upd H a o) h h' where
 keep:=fun b u q _ _ _=>k b u q
 slot:=fun b u q _ _ _=>⟨u.slots,k b u q⟩
 free:=fun b u q n _=>by rw [a9 (Nat.ne_of_lt (Nat.lt_of_lt_of_le (Heap.lt_size q) hp))];exact n
 there:=fun b u q _=>⟨u,k b u q⟩
 tups:=fun b xs q=>by rw [a9 (cU q hn)];exact q
 frzs:=fun b u xs q=>by rw [a9 (cU q hn)];exact q
 tbls:=fun b ps q=>⟨#[],by rw [a9 (cU q hn),q];simp⟩
theorem Un.write (mu:Mut (H x)) (he:e=x\/H e=some (.own x)) (k:∀ b u,b≠e->h.get? b=some u->h'.get? b=some u) (heo:∃ u,h'.get? e=some u):Un fs ex H (upd H x o) h h':=by
 have hx:∀ b,H b=none->b≠x:=fun b n z=>by subst z;rw [n] at mu;exact mu
 have hb:∀ b,H b=none->b≠e:=fun b n z=>by
  subst z
  rcases he with r | r
  ·exact hx b n r
  ·rw [n] at r;cases r
 have hm:∀ b u,H b=some u->¬ Mut (some u)->b≠x:=fun b u q nm z=>by subst z;rw [q] at mu;exact nm mu
 refine ⟨fun b u q n _ _=>k b u (hb b n) q,fun b u q n _ _=>⟨u.slots,k b u (hb b n) q⟩,fun b u q n _=>by rw [a9 (hx b n)];exact n,fun b u q _=>?_,
  fun b xs q=>by rw [a9 (hm b _ q fun z=>z)];exact q,fun b u xs q=>by rw [a9 (hm b _ q fun z=>z)];exact q,fun b ps q=>⟨#[],by rw [a9 (hm b _ q fun z=>z),q];simp⟩⟩
 by_cases hbe:b=e
 ·subst hbe;exact heo
 ·exact ⟨u,k b u hbe q⟩
end
def trk (h:Heap) (H:Hp):List Addr:=(List.range h.objs.size).filter fun a=>(H a).isSome
def aFm (h:Heap) (H:Hp):Heap:=PySem.W.hideAll h (trk h H)
theorem aEt (h:Heap) (H:Hp):(aFm h H).objs.size=h.objs.size:=PySem.W.hideAll_size _ _
theorem aFv {h:Heap} {H:Hp} {b:Addr} {o:Obj} (e:h.get? b=some o) (n:H b=none):(aFm h H).get? b=some o :=
 PySem.W.hideAll_get _ e fun hm=>by
  have q:(H b).isSome=true:=(List.mem_filter.mp hm).2
  rw [n] at q;simp at q
theorem aJs {h:Heap} {H:Hp} {b:Addr} {o:Obj} (e:(aFm h H).get? b=some o):h.get? b=some o/\H b=none:=by
 have e':h.get? b=some o:=PySem.W.of_hideAll (trk h H) e
 refine ⟨e',?_⟩
 cases q:H b with
 | none=>rfl
 | some x =>
  have hm:b∈trk h H:=List.mem_filter.mpr ⟨List.mem_range.mpr (Heap.lt_size e'),by simp [q]⟩
  have z:(aFm h H).get? b=none:=PySem.W.hideAll_none (trk h H) hm
  rw [z] at e;cases e
def aKi (g h:Heap) (L:Addr):List (Addr×Obj):=(List.range h.objs.size).filterMap fun a=>if a=L\/(g.get? a).isSome=true then none else (h.get? a).map fun o=>(a,o)
def rest (g h:Heap) (L d:Addr):List (Addr×Obj):=(aKi g h L).filter fun p=>decide (p.1≠d)
structure Mod (K:PySem.W.Frag) (mg:Str->Option Value) (base:Heap):Prop where
 kin:K.In base
 glob:base.Ns mainGlobals mg
 blt:∃ mb,base.Ns builtinsNs mb/\∀ x:Str,x≠"__name__"->mb x=bootBuiltins x
 nolimit:base.NoLimit
structure Cx where
 prog:Program
 w:World
 K:PySem.W.Frag
 mg:Str->Option Value
 base:Heap
 A:Around
 N:List Str
 s₀:Shared
 H₀:Hp
 env:Env
 outer:List Env
 stack:List Env
 ex:List Addr
 fn:Str->Bool
 calm:Bool
 pn:List (Addr×Obj)
 xe:Value->Shared->Prop
def frs (l:List Env):List Addr:=l.filterMap (·.frame)
abbrev Cx.fs (X:Cx):List Addr:=frs X.outer
def Vis (sc:Scope) (x:Str):Prop:=sc.names.lookup x=some .local\/sc.names.lookup x=some .cell\/sc.names.lookup x=some .free
def Loc (sc:Scope) (x:Str):Prop:=sc.names.lookup x=some .local\/sc.names.lookup x=some .cell
def Look (env:Env) (h:Heap) (m:Str->Option Value) (x:Str) (u:Value):Prop :=
 (env.kindOf x=some .local/\m x=some u)\/((env.kindOf x=some .cell\/env.kindOf x=some .free)/\∃ c,env.cells.lookup x=some c/\h.IsCell c (some u))
structure Cx.Ok (X:Cx):Prop where
 mod:Mod X.K X.mg X.base
 kind:X.env.scope.kind=.function
 glob:X.env.globals=mainGlobals
 blt:X.env.builtins=builtinsNs
 above:X.s₀.heap.objs.size<=X.env.locals
 inj:∀ x y c,X.env.cells.lookup x=some c->X.env.cells.lookup y=some c->x=y
 has:∀ x,(X.env.kindOf x=some .cell\/X.env.kindOf x=some .free)->∃ c,X.env.cells.lookup x=some c
 cab:∀ x c,X.fn x=true->X.env.cells.lookup x=some c->X.s₀.heap.objs.size<=c
 hd:X.calm=true->X.A.handled=none
 frames:X.A.frames=some X.stack
 stk:X.stack=X.outer\/(X.stack=X.env :: X.outer/\X.env.frame=some X.env.locals)
 exf:∀ b∈X.ex,b≠X.env.locals/\∀ x c,X.env.cells.lookup x=some c->c≠b
 bs:∀ b o,X.base.get? b=some o->X.s₀.heap.get? b=some o/\X.H₀ b=none
 bsz:X.base.objs.size<=X.s₀.heap.objs.size
 noex:∀ b o,X.base.get? b=some o->b∉X.ex
 exfs:∀ b∈X.ex,b∉X.fs
 funs:X.s₀.heap.FunFrames X.base X.outer
 frf:∀ b∈X.fs,X.H₀ b=none
structure Inv (X:Cx) (pins:List (Addr×Obj)) (σ:List (Option V)) (H:Hp) (s:Shared):Prop where
 ok:X.Ok
 os:s.os=X.s₀.os
 bare:AllBare s.gens
 base:Un X.fs X.ex X.H₀ H X.s₀.heap s.heap
 loc:∃ m,s.heap.Ns X.env.locals m/\∀ (i:Nat) (x:Str) (v:V),X.N[i]? = some x->σ[i]? = some (some v)->Vis X.env.scope x->∃ u,RelV v u/\Look X.env s.heap m x u
 cell:∀ x c,X.env.cells.lookup x=some c->∃ v,s.heap.IsCell c v
 free:H X.env.locals=none
 freeC:∀ x c,X.env.cells.lookup x=some c->H c=none
 pin:∀ p∈X.pn++pins,s.heap.get? p.1=some p.2/\H p.1=none/\p.1≠X.env.locals/\p.1∉X.fs/\∀ v,p.2.data≠.cell v
 hok:HOk X.prog X.w H s.heap
 len:σ.length=X.N.length
section
variable {X:Cx} {pins:List (Addr×Obj)} {σ:List (Option V)} {H H':Hp} {s:Shared} {h':Heap}
theorem Cx.Ok.nofr (ok:X.Ok) {b:Addr} {o:Obj} (e:X.base.get? b=some o):b∉X.fs:=fun hb=>by
 have:=(ok.funs.mem hb).1
 rw [e] at this;cases this
theorem Inv.bs (I:Inv X pins σ H s):∀ b o,X.base.get? b=some o->s.heap.get? b=some o/\H b=none:=fun b o e =>
 ⟨I.base.keep b o (I.ok.bs b o e).1 (I.ok.bs b o e).2 (I.ok.nofr e) (I.ok.noex b o e),I.base.free b o (I.ok.bs b o e).1 (I.ok.bs b o e).2 (I.ok.noex b o e)⟩
theorem Inv.bk (I:Inv X pins σ H s):∀ b o,X.base.get? b=some o->s.heap.get? b=some o:=fun b o e=>(I.bs b o e).1
theorem Inv.mod (I:Inv X pins σ H s):Mod X.K X.mg X.base:=I.ok.mod
theorem Inv.kIn (I:Inv X pins σ H s):X.K.In s.heap:=I.ok.mod.kin.keeps I.bk
theorem Inv.lt (I:Inv X pins σ H s):X.env.locals < s.heap.objs.size:=let ⟨_,hn,_⟩:=I.loc;hn.lt
theorem Inv.sz (I:Inv X pins σ H s):X.s₀.heap.objs.size<=s.heap.objs.size:=Nat.le_trans I.ok.above (Nat.le_of_lt I.lt)
theorem Inv.nofs (I:Inv X pins σ H s) {a:Addr} (h:s.heap.objs.size<=a):a∉X.fs:=fun hb=>by
 obtain ⟨_,o,ho,_⟩:=I.ok.funs.mem hb
 exact absurd (Nat.lt_of_lt_of_le (Heap.lt_size ho) (Nat.le_trans I.sz h)) (Nat.lt_irrefl _)
theorem Inv.cne (I:Inv X pins σ H s):∀ x c,X.env.cells.lookup x=some c->c≠X.env.locals:=fun x c e z=>by
 obtain ⟨v,o,ho,hd⟩:=I.cell x c e
 obtain ⟨m,⟨o',es,ep,ho',hd',_⟩,_⟩:=I.loc
 rw [z,ho'] at ho;cases ho;rw [hd'] at hd;cases hd
theorem Inv.funs (I:Inv X pins σ H s):s.heap.FunFrames X.base X.outer:=by
 have all:∀ (l:List Env),(∀ b∈frs l,b∈X.fs)->X.s₀.heap.FunFrames X.base l->s.heap.FunFrames X.base l:=by
  intro l
  induction l with
  | nil=>intro _ _;trivial
  | cons env r ih =>
   intro hs hl
   obtain ⟨hk,⟨L,o,hf,hn,ho,hd⟩,hr⟩:=hl
   have hL:L∈X.fs:=hs L (by unfold frs;rw [List.filterMap_cons,hf];exact List.mem_cons_self)
   obtain ⟨sl,e⟩:=I.base.slot L o ho (I.ok.frf L hL) hL fun z=>I.ok.exfs L z hL
   exact ⟨hk,⟨L,_,hf,hn,e,hd⟩,ih (fun b hb=>hs b (by unfold frs;rw [List.filterMap_cons,hf];exact List.mem_cons_of_mem _ hb)) hr⟩
 exact all X.outer (fun _ hb=>hb) I.ok.funs
theorem Inv.stack (I:Inv X pins σ H s):s.heap.FunFrames X.base X.stack:=by
 rcases I.ok.stk with e | ⟨e,hf⟩
 ·rw [e];exact I.funs
 ·rw [e]
  obtain ⟨m,hn,_⟩:=I.loc
  refine .cons (by rw [I.ok.kind];decide) hf hn ?_ I.funs
  exact Heap.get?_none_of_le (Nat.le_trans I.ok.bsz I.ok.above)
theorem Inv.stkSub (I:Inv X pins σ H s):∀ b∈frs X.stack,b∈X.env.locals :: X.fs:=fun b hb=>by
 rcases I.ok.stk with e | ⟨e,hf⟩
 ·rw [e] at hb;exact List.mem_cons_of_mem _ hb
 ·rw [e] at hb
  unfold frs at hb
  rw [List.filterMap_cons,hf] at hb
  exact hb
theorem Inv.stkFree (I:Inv X pins σ H s):∀ b∈frs X.stack,H b=none:=fun b hb=>by
 rcases List.mem_cons.mp (I.stkSub b hb) with e | hb
 ·rw [e];exact I.free
 ·obtain ⟨_,o,ho,_⟩:=I.ok.funs.mem hb
  exact I.base.free b o ho (I.ok.frf b hb) fun z=>I.ok.exfs b z hb
theorem Inv.step {g':Array GenState} {t':Nat} {d':Drawn} {ch:List Addr} (I:Inv X pins σ H s)
  (hch:∀ b∈ch,(b∈X.ex\/X.s₀.heap.objs.size<=b)/\b≠X.env.locals/\(∀ x c,X.env.cells.lookup x=some c->c≠b)/\∀ p∈X.pn++pins,p.1≠b)
  (keep:∀ b o,b≠X.env.locals->b∉X.fs->b∉ch->s.heap.get? b=some o->H b=none->h'.get? b=some o)
  (slot:∀ b o,b≠X.env.locals->b∈X.fs->b∉ch->s.heap.get? b=some o->H b=none->∃ sl,h'.get? b=some { o with slots:=sl }) (free:∀ b o,b∉ch->s.heap.get? b=some o->H b=none->H' b=none)
  (there:∀ b o,b∉ch->s.heap.get? b=some o->∃ o',h'.get? b=some o')
  (tups:∀ b xs,H b=some (.tup xs)->H' b=some (.tup xs)) (frzs:∀ b o u,H b=some (.frz o u)->H' b=some (.frz o u)) (tbls:∀ b ps,H b=some (.tbl ps)->∃ more,H' b=some (.tbl (ps++more)))
  (ns:∀ m,s.heap.Ns X.env.locals m->h'.Ns X.env.locals m) (hok:HOk X.prog X.w H' h') (hg:AllBare g') :
  Inv X pins σ H' { s with heap:=h',gens:=g',drawn:=d',toks:=t' }:=by
 have neL:∀ b o,X.s₀.heap.get? b=some o->b≠X.env.locals:=fun b o e=>Nat.ne_of_lt (Nat.lt_of_lt_of_le (Heap.lt_size e) I.ok.above)
 have neC:∀ b o,X.s₀.heap.get? b=some o->b∉X.ex->b∉ch:=fun b o e hx hb=>by
  rcases (hch b hb).1 with z | z
  ·exact hx z
  ·exact absurd (Nat.lt_of_lt_of_le (Heap.lt_size e) z) (Nat.lt_irrefl _)
 have cellK:∀ x c,X.env.cells.lookup x=some c->∀ v,s.heap.IsCell c v->h'.IsCell c v:=fun x c e v ⟨o,ho,hd⟩=>by
  have nch:c∉ch:=fun z=>(hch c z).2.2.1 x c e rfl
  by_cases hc:c∈X.fs
  ·obtain ⟨sl,q⟩:=slot c o (I.cne x c e) hc nch ho (I.freeC x c e)
   exact ⟨_,q,hd⟩
  ·exact ⟨o,keep c o (I.cne x c e) hc nch ho (I.freeC x c e),hd⟩
 refine ⟨I.ok,I.os,hg,⟨fun b o e n hb hx=>?_,fun b o e n hb hx=>?_,fun b o e n hx=>?_,fun b o e hx=>?_,fun b xs e=>tups b xs (I.base.tups b xs e),fun b o xs e=>frzs b o xs (I.base.frzs b o xs e),fun b ps e=>?_⟩,?_,fun x c e=>?_,?_,fun x c e=>?_,fun p hp=>?_,hok,I.len⟩
 ·exact keep b o (neL b o e) hb (neC b o e hx) (I.base.keep b o e n hb hx) (I.base.free b o e n hx)
 ·obtain ⟨sl,e1⟩:=I.base.slot b o e n hb hx
  obtain ⟨sl',e2⟩:=slot b _ (neL b o e) hb (neC b o e hx) e1 (I.base.free b o e n hx)
  exact ⟨sl',e2⟩
 ·obtain ⟨o',e1⟩:=I.base.there b o e hx
  exact free b o' (neC b o e hx) e1 (I.base.free b o e n hx)
 ·obtain ⟨o',e1⟩:=I.base.there b o e hx
  exact there b o' (neC b o e hx) e1
 ·obtain ⟨m1,e1⟩:=I.base.tbls b ps e
  obtain ⟨m2,e2⟩:=tbls b _ e1
  exact ⟨m1++m2,by rw [e2,Array.append_assoc]⟩
 ·obtain ⟨m,hn,hl⟩:=I.loc
  refine ⟨m,ns m hn,fun i x v e1 e2 e3=>?_⟩
  obtain ⟨u,r,l⟩:=hl i x v e1 e2 e3
  refine ⟨u,r,?_⟩
  rcases l with l | ⟨k,c,e,z⟩
  ·exact .inl l
  ·exact .inr ⟨k,c,e,cellK x c e _ z⟩
 ·obtain ⟨v,z⟩:=I.cell x c e
  exact ⟨v,cellK x c e v z⟩
 ·obtain ⟨m,⟨o,_,_,ho,_⟩,_⟩:=I.loc
  exact free _ o (fun z=>(hch _ z).2.1 rfl) ho I.free
 ·obtain ⟨v,o,ho,hd⟩:=I.cell x c e
  exact free c o (fun z=>(hch c z).2.2.1 x c e rfl) ho (I.freeC x c e)
 ·obtain ⟨e,n,ne,nf,d⟩:=I.pin p hp
  have nch:p.1∉ch:=fun z=>(hch p.1 z).2.2.2 p hp rfl
  exact ⟨keep p.1 p.2 ne nf nch e n,free p.1 p.2 nch e n,ne,nf,d⟩
theorem Inv.un {t':Nat} (I:Inv X pins σ H s) (u:Un X.fs [] H H' s.heap h') (hok:HOk X.prog X.w H' h'):Inv X pins σ H' { s with heap:=h',toks:=t' }:=by
 obtain ⟨m,⟨o,es,ep,ho,r⟩,_⟩:=id I.loc
 obtain ⟨sl,hL⟩:=u.any ho I.free (by simp)
 exact I.step (g':=s.gens) (d':=s.drawn) (ch:=[]) (fun _ z=>nomatch z) (fun b o _ hb _ e n=>u.keep b o e n hb (by simp)) (fun b o _ hb _ e n=>u.slot b o e n hb (by simp)) (fun b o _ e n=>u.free b o e n (by simp)) (fun b o _ e=>u.there b o e (by simp)) u.tups u.frzs u.tbls (fun m' hm=>by
  obtain ⟨o',es',ep',ho',r'⟩:=hm
  rw [ho] at ho';cases ho'
  exact ⟨_,es',ep',hL,r'⟩) hok I.bare
theorem Inv.call {g':Array GenState} {t':Nat} {d':Drawn} {ch:List Addr} (I:Inv X pins σ H s) (u:Un (frs X.stack) ch H H' s.heap h') (hok:HOk X.prog X.w H' h') (hg:AllBare g')
  (hch:∀ b∈ch,(b∈X.ex\/X.s₀.heap.objs.size<=b)/\b≠X.env.locals/\(∀ x c,X.env.cells.lookup x=some c->c≠b)/\∀ p∈X.pn++pins,p.1≠b) :
  Inv X pins σ H' { s with heap:=h',gens:=g',drawn:=d',toks:=t' }:=by
 obtain ⟨m,⟨o,es,ep,ho,r⟩,_⟩:=id I.loc
 obtain ⟨sl,hL⟩:=u.any ho I.free fun z=>(hch _ z).2.1 rfl
 exact I.step (ch:=ch) hch (fun b o hL hb hc e n=>u.keep b o e n (fun z=>(List.mem_cons.mp (I.stkSub b z)).elim hL hb) hc) (fun b o _ _ hc e n=>u.any e n hc) (fun b o hc e n=>u.free b o e n hc) (fun b o hc e=>u.there b o e hc) u.tups u.frzs u.tbls (fun m' hm=>by
  obtain ⟨o',es',ep',ho',r'⟩:=hm
  rw [ho] at ho';cases ho'
  exact ⟨_,es',ep',hL,r'⟩) hok hg
theorem Inv.turned {t':Nat} {it:Addr} (I:Inv X pins σ H s) (k:∀ b o,b≠it->s.heap.get? b=some o->h'.get? b=some o) (hn:H it=none) (hL:it≠X.env.locals)
  (h1:it∈X.ex\/X.s₀.heap.objs.size<=it) (h2:∀ x c,X.env.cells.lookup x=some c->c≠it) (h3:∀ p∈X.pn++pins,p.1≠it):Inv X pins σ H { s with heap:=h',toks:=t' }:=by
 have nit:∀ b u,H b=some u->b≠it:=fun b u e z=>by rw [z,hn] at e;cases e
 refine I.step (g':=s.gens) (d':=s.drawn) (ch:=[it]) (fun b hb=>?_) (fun b o _ _ hc e _=>k b o (fun z=>hc (by simp [z])) e) (fun b o _ _ hc e _=>⟨o.slots,k b o (fun z=>hc (by simp [z])) e⟩) (fun _ _ _ _ n=>n)
  (fun b o hc e=>⟨o,k b o (fun z=>hc (by simp [z])) e⟩) (fun _ _ e=>e) (fun _ _ _ e=>e) (fun b ps e=>⟨#[],by rw [e];simp⟩) (fun m hm=>?_) (fun b u e=>?_) I.bare
 ·have e:b=it:=by simpa using hb
  subst e
  exact ⟨h1,hL,h2,h3⟩
 ·obtain ⟨o,es,ep,ho,r⟩:=hm
  exact ⟨o,es,ep,k _ o (Ne.symm hL) ho,r⟩
 ·refine (I.hok b u e).stay (fun c v hc q=>k c v ?_ q) (fun _ q=>q) fun _ _ q=>q
  rcases hc with z | z
  ·rw [z];exact nit b u e
  ·exact nit c _ z
theorem Inv.tok (I:Inv X pins σ H s) (t:Nat):Inv X pins σ H { s with toks:=t }:=I.un (h':=s.heap) (t':=t) Un.refl I.hok
theorem Inv.kept {t':Nat} (I:Inv X pins σ H s) (k:∀ b u,s.heap.get? b=some u->h'.get? b=some u):Inv X pins σ H { s with heap:=h',toks:=t' }:=I.un (Un.kept k) (I.hok.kept k)
theorem Inv.laid {a:Addr} {o:HO} {t':Nat} (I:Inv X pins σ H s) (k:∀ b u,s.heap.get? b=some u->h'.get? b=some u) (hp:s.heap.objs.size<=a) (new:ObjOk X.prog X.w (upd H a o) h' a o) :
  Inv X pins σ (upd H a o) { s with heap:=h',toks:=t' }:=I.un (Un.laid k hp (I.hok.fresh hp)) (I.hok.laid k hp new)
theorem Inv.write {x e:Addr} {o:HO} {t':Nat} (I:Inv X pins σ H s) (mu:Mut (H x)) (he:e=x\/H e=some (.own x)) (k:∀ b u,b≠e->s.heap.get? b=some u->h'.get? b=some u) (heo:∃ u,h'.get? e=some u)
  (new:ObjOk X.prog X.w (upd H x o) h' x o):Inv X pins σ (upd H x o) { s with heap:=h',toks:=t' }:=I.un (Un.write mu he k heo) (I.hok.write mu he k heo new)
theorem Inv.weak {σ':List (Option V)} (I:Inv X pins σ H s) (hl:σ'.length=σ.length) (w:∀ (i:Nat) v,σ'[i]? = some (some v)->σ[i]? = some (some v)):Inv X pins σ' H s :=
 ⟨I.ok,I.os,I.bare,I.base,let ⟨m,hn,hl'⟩:=I.loc;⟨m,hn,fun i x v e1 e2 e3=>hl' i x v e1 (w i v e2) e3⟩,I.cell,I.free,I.freeC,I.pin,I.hok,hl.trans I.len⟩
theorem Inv.pins_of {pins':List (Addr×Obj)} (I:Inv X pins σ H s) (h:∀ p∈pins',s.heap.get? p.1=some p.2/\H p.1=none/\p.1≠X.env.locals/\p.1∉X.fs/\∀ v,p.2.data≠.cell v):Inv X pins' σ H s :=
 ⟨I.ok,I.os,I.bare,I.base,I.loc,I.cell,I.free,I.freeC,fun p hp=>(List.mem_append.mp hp).elim (fun z=>I.pin p (List.mem_append_left _ z)) (h p),I.hok,I.len⟩
theorem yX {N:List Str} (hN:N.Nodup) {i j:Nat} {x:Str} (a:N[i]? = some x) (b:N[j]? = some x):i=j:=by
 obtain ⟨h1,e1⟩:=List.getElem?_eq_some_iff.mp a
 obtain ⟨h2,e2⟩:=List.getElem?_eq_some_iff.mp b
 exact (List.getElem_inj hN).mp (e1.trans e2.symm)
theorem aDx {M:Model} {A:Around} {E:Value->Shared->Prop} {i:Nat} {x:Str} {v:V} {u:Value} {Q:Unit->Shared->Prop} (I:Inv X pins σ H s) (hN:X.N.Nodup) (hi:X.N[i]? = some x) (hx:Loc X.env.scope x) (r:RelV v u)
  (h:∀ s',Inv X pins (σ.set i (some v)) H s'->(∃ a,Heap.SameBut a s.heap s'.heap/\(a=X.env.locals\/X.env.cells.lookup x=some a))->Q () s') (hf:X.fn x=true\/X.env.scope.names.lookup x=some .local:=by first | exact .inl rfl | exact .inr rfl | assumption):wpAny M A (storeName X.env x u) Q E s:=by
 obtain ⟨m,hn,hl⟩:=id I.loc
 have hcls:(X.env.scope.kind == .class || (X.env.scope.kind == .module && X.env.locals != X.env.globals))=false:=by rw [I.ok.kind];rfl
 have hiσ:i < σ.length:=by rw [I.len];exact (List.getElem?_eq_some_iff.mp hi).1
 have cne:=I.cne
 have tracked:∀ {a:Addr} {h':Heap},(∃ o,s.heap.get? a=some o/\H a=none)->Heap.SameBut a s.heap h'->HOk X.prog X.w H h':=fun {a h'} ha hs b ob e=>by
  obtain ⟨_,_,hfree⟩:=ha
  refine (I.hok b ob e).stay (fun c w' hc q=>(hs.2 c ?_).trans q) (fun _ q=>q) fun _ _ q=>q
  rintro rfl
  rcases hc with rfl | hc
  ·rw [hfree] at e;cases e
  ·rw [hfree] at hc;cases hc
 rcases hx with hk | hk
 ·refine wpAny_storeName_local hk hn (fun h' hn' hs=>?_) hcls
  obtain ⟨oL,_,_,hoL,_⟩:=id hn
  refine h _ ⟨I.ok,I.os,I.bare,⟨fun b o e n hb hx=>?_,fun b o e n hb hx=>?_,I.base.free,fun b o e hx=>?_,I.base.tups,I.base.frzs,I.base.tbls⟩,⟨_,hn',fun j y v' e1 e2 e3=>?_⟩,fun y c e=>?_,I.free,I.freeC,fun p hp=>?_,tracked ⟨oL,hoL,I.free⟩ hs,by simpa using I.len⟩ ⟨_,hs,.inl rfl⟩
  ·exact (hs.2 b (Nat.ne_of_lt (Nat.lt_of_lt_of_le (Heap.lt_size e) I.ok.above))).trans (I.base.keep b o e n hb hx)
  ·obtain ⟨sl,e1⟩:=I.base.slot b o e n hb hx
   exact ⟨sl,(hs.2 b (Nat.ne_of_lt (Nat.lt_of_lt_of_le (Heap.lt_size e) I.ok.above))).trans e1⟩
  ·obtain ⟨o',e1⟩:=I.base.there b o e hx
   exact ⟨o',(hs.2 b (Nat.ne_of_lt (Nat.lt_of_lt_of_le (Heap.lt_size e) I.ok.above))).trans e1⟩
  ·by_cases hj:j=i
   ·subst hj
    rw [hi] at e1;cases e1
    rw [List.getElem?_set_self hiσ] at e2
    cases e2
    exact ⟨u,r,.inl ⟨hk,by simp⟩⟩
   ·rw [List.getElem?_set_ne (Ne.symm hj)] at e2
    obtain ⟨u',r',q⟩:=hl j y v' e1 e2 e3
    refine ⟨u',r',?_⟩
    rcases q with ⟨k,e⟩ | ⟨k,c,e,z⟩
    ·refine .inl ⟨k,?_⟩
     have:y≠x:=fun e=>hj (yX hN e1 (e▸hi))
     simp [this,e]
    ·exact .inr ⟨k,c,e,z.sameBut hs (cne y c e)⟩
  ·obtain ⟨w',z⟩:=I.cell y c e
   exact ⟨w',z.sameBut hs (cne y c e)⟩
  ·obtain ⟨e,n,ne,nf,d⟩:=I.pin p hp
   exact ⟨(hs.2 p.1 ne).trans e,n,ne,nf,d⟩
 ·have hfn:X.fn x=true:=by
   rcases hf with z | z
   ·exact z
   ·rw [z] at hk;cases hk
  obtain ⟨c,hc⟩:=I.ok.has x (.inl hk)
  obtain ⟨w',z⟩:=I.cell x c hc
  refine wpAny_storeName_cell I.ok.kind hk hc z (fun h' hc' hs=>?_)
  obtain ⟨oc,hoc,hocd⟩:=id z
  refine h { s with heap:=h' } ⟨I.ok,I.os,I.bare,⟨fun b o e n hb hx=>?_,fun b o e n hb hx=>?_,I.base.free,fun b o e hx=>?_,I.base.tups,I.base.frzs,I.base.tbls⟩,⟨m,hn.sameBut hs (Ne.symm (cne x c hc)),fun j y v' e1 e2 e3=>?_⟩,fun y c' e=>?_,I.free,I.freeC,fun p hp=>?_,tracked ⟨oc,hoc,I.freeC x c hc⟩ hs,by simpa using I.len⟩ ⟨c,hs,.inr hc⟩
  ·exact (hs.2 b (Nat.ne_of_lt (Nat.lt_of_lt_of_le (Heap.lt_size e) (I.ok.cab x c hfn hc)))).trans (I.base.keep b o e n hb hx)
  ·obtain ⟨sl,e1⟩:=I.base.slot b o e n hb hx
   exact ⟨sl,(hs.2 b (Nat.ne_of_lt (Nat.lt_of_lt_of_le (Heap.lt_size e) (I.ok.cab x c hfn hc)))).trans e1⟩
  ·obtain ⟨o',e1⟩:=I.base.there b o e hx
   exact ⟨o',(hs.2 b (Nat.ne_of_lt (Nat.lt_of_lt_of_le (Heap.lt_size e) (I.ok.cab x c hfn hc)))).trans e1⟩
  ·by_cases hj:j=i
   ·subst hj
    rw [hi] at e1;cases e1
    rw [List.getElem?_set_self hiσ] at e2
    cases e2
    exact ⟨u,r,.inr ⟨.inl hk,c,hc,hc'⟩⟩
   ·rw [List.getElem?_set_ne (Ne.symm hj)] at e2
    obtain ⟨u',r',q⟩:=hl j y v' e1 e2 e3
    refine ⟨u',r',?_⟩
    rcases q with q | ⟨k,c',e,z'⟩
    ·exact .inl q
    ·refine .inr ⟨k,c',e,z'.sameBut hs ?_⟩
     rintro rfl
     exact hj (yX hN e1 (I.ok.inj _ _ _ e hc▸hi))
  ·by_cases hcc:c'=c
   ·subst hcc;exact ⟨_,hc'⟩
   ·obtain ⟨w2,z2⟩:=I.cell y c' e
    exact ⟨w2,z2.sameBut hs hcc⟩
  ·obtain ⟨e,n,ne,nf,d⟩:=I.pin p hp
   refine ⟨(hs.2 p.1 ?_).trans e,n,ne,nf,d⟩
   intro q
   rw [q,hoc] at e
   have q':oc=p.2:=Option.some.inj e
   exact d w' (by rw [<- q'];exact hocd)
theorem nU {M:Model} {A:Around} {E:Value->Shared->Prop} {i:Nat} {x:Str} {v:V} {u:Value} {Q:Unit->Shared->Prop} (I:Inv X pins σ H s) (hN:X.N.Nodup) (hi:X.N[i]? = some x) (hx:Loc X.env.scope x) (r:RelV v u)
  (h:∀ s',Inv X pins (σ.set i (some v)) H s'->Q () s') (hf:X.fn x=true\/X.env.scope.names.lookup x=some .local:=by first | exact .inl rfl | exact .inr rfl | assumption):wpAny M A (storeName X.env x u) Q E s :=
 aDx I hN hi hx r (fun s' I' _=>h s' I') hf
theorem Inv.call' {s':Shared} {ch:List Addr} (I:Inv X pins σ H s) (ho:s'.os=s.os) (u:Un (frs X.stack) ch H H' s.heap s'.heap) (hok:HOk X.prog X.w H' s'.heap) (hg:AllBare s'.gens)
  (hch:∀ b∈ch,(b∈X.ex\/X.s₀.heap.objs.size<=b)/\b≠X.env.locals/\(∀ x c,X.env.cells.lookup x=some c->c≠b)/\∀ p∈X.pn++pins,p.1≠b):Inv X pins σ H' s':=by
 obtain ⟨h',g',d',t',o'⟩:=s'
 have e:o'=s.os:=ho
 subst e
 exact I.call (g':=g') (t':=t') (d':=d') u hok hg hch
end
abbrev XK:=Value->Option Addr->Hp->Prop
abbrev St:=List (Option V)
abbrev VK:=V->Hp->Prop
abbrev TE:=St->Hp->VK->Prop
abbrev TT:=St->Hp->(Bool->Hp->Prop)->Prop
abbrev TA:=St->Hp->(List V->Hp->Prop)->Prop
structure Ends where
 nx:St->Hp->Prop
 rt:VK
 bk:St->Hp->Prop:=fun _ _=>False
 ct:St->Hp->Prop:=fun _ _=>False
abbrev TS:=Ends->St->Hp->Prop
def EP (X:Cx) (pins:List (Addr×Obj)) (σ:St) (Q:VK) (u:Value) (s':Shared):Prop:=∃ v H',Inv X pins σ H' s'/\RelV v u/\Q v H'
def TP (X:Cx) (pins:List (Addr×Obj)) (σ:St) (Q:Bool->Hp->Prop) (b:Bool) (s':Shared):Prop:=∃ H',Inv X pins σ H' s'/\Q b H'
def AP (X:Cx) (pins:List (Addr×Obj)) (σ:St) (Q:List V->Hp->Prop) (us:List Value) (s':Shared):Prop:=∃ vs H',Inv X pins σ H' s'/\Vals vs us/\Q vs H'
def SP (X:Cx) (pins:List (Addr×Obj)) (D:Ends) (f:Flow) (s':Shared):Prop :=
 match f with
 | .next=>∃ σ' H',Inv X pins σ' H' s'/\D.nx σ' H'
 | .brk=>∃ σ' H',Inv X pins σ' H' s'/\D.bk σ' H'
 | .cont=>∃ σ' H',Inv X pins σ' H' s'/\D.ct σ' H'
 | .ret u=>∃ v σ' H',Inv X pins σ' H' s'/\RelV v u/\D.rt v H'
def PE (X:Cx) (e:Expr) (t:TE):Prop :=
 ∀ (pins:List (Addr×Obj)) (s:Shared) (σ:St) (H:Hp) (Q:VK),Inv X pins σ H s->t σ H Q->wpAny (model X.prog X.w) X.A (eval e X.env) (EP X pins σ Q) X.xe s
def PT (X:Cx) (e:Expr) (t:TT):Prop :=
 ∀ (pins:List (Addr×Obj)) (s:Shared) (σ:St) (H:Hp) (Q:Bool->Hp->Prop),Inv X pins σ H s->t σ H Q->wpAny (model X.prog X.w) X.A (isTrue e X.env (eval e X.env)) (TP X pins σ Q) X.xe s
def PW (X:Cx) (e:Expr) (t:TT):Prop :=
 ∀ (whole:Sem Value) (pins:List (Addr×Obj)) (s:Shared) (σ:St) (H:Hp) (Q:Bool->Hp->Prop),Inv X pins σ H s->t σ H Q->wpAny (model X.prog X.w) X.A (isTrue e X.env whole) (TP X pins σ Q) X.xe s
def PA (X:Cx) (es:List Expr) (t:TA):Prop :=
 ∀ (pos:Pos) (pins:List (Addr×Obj)) (s:Shared) (σ:St) (H:Hp) (Q:List V->Hp->Prop),Inv X pins σ H s->t σ H Q->wpAny (model X.prog X.w) X.A (spliced (backTo pos (starEach es X.env))) (AP X pins σ Q) X.xe s
def PS (X:Cx) (st:Stmt) (t:TS):Prop :=
 ∀ (pins:List (Addr×Obj)) (s:Shared) (σ:St) (H:Hp) (D:Ends),Inv X pins σ H s->t D σ H->wpAny (model X.prog X.w) X.A (exec st X.env) (SP X pins D) X.xe s
def PSs (X:Cx) (st:List Stmt) (t:TS):Prop :=
 ∀ (pins:List (Addr×Obj)) (s:Shared) (σ:St) (H:Hp) (D:Ends),Inv X pins σ H s->t D σ H->wpAny (model X.prog X.w) X.A (execs st X.env) (SP X pins D) X.xe s
theorem thn {α:Type} {t:Sem α} {Q Q':α->Shared->Prop} {M:Model} {A:Around} {E:Value->Shared->Prop} {s:Shared} (h:wpAny M A t Q E s) (hQ:∀ a s,Q a s->Q' a s):wpAny M A t Q' E s:=wpAny_mono h hQ fun _ _ x=>x
section
variable {X:Cx}
def aIm (i:Nat):TE:=fun σ H Q=>∃ v,σ[i]? = some (some v)/\Q v H
def tC (v:V):TE:=fun _ H Q=>Q v H
theorem aHo {i:Nat} {x:Str} {pos:Pos} (hN:X.N[i]? = some x) (hv:Vis X.env.scope x) (hd:(x == ("__debug__" : Str))=false:=by decide) (hcd:(x == ("__classdict__" : Str))=false:=by decide):PE X (.Name x pos) (aIm i):=by
 intro pins s σ H Q I h
 obtain ⟨v,e,h⟩:=h
 obtain ⟨m,hn,hl⟩:=I.loc
 obtain ⟨u,r,l⟩:=hl i x v hN e hv
 have fin:EP X pins σ Q u s:=⟨v,H,I,r,h⟩
 rcases l with ⟨hk,hm⟩ | ⟨hk,c,hc,hcell⟩
 ·exact wpAny_Name (wpAny_loadName_local I.ok.kind hk hn hm fin) hd
 ·rcases hk with hk | hk
  ·exact wpAny_Name (wpAny_loadName_cell I.ok.kind hk hc hcell fin) hd
  ·exact wpAny_Name (wpAny_loadName_free I.ok.kind hk hc hcell fin hcd) hd
theorem aH6 {i j pos}:PE X (.Constant (.int i) j pos) (tC (.int i)):=fun _ _ _ H _ I h=>wpAny_Constant_int ⟨.int i,H,I.tok _,⟨_,rfl⟩,h⟩
theorem aRb {b j pos}:PE X (.Constant (.bool b) j pos) (tC (.bl b)):=fun _ _ _ H _ I h=>Constant_bool ⟨.bl b,H,I,rfl,h⟩
theorem aHw {j pos}:PE X (.Constant .none j pos) (tC .non):=fun _ _ _ H _ I h=>Constant_none ⟨.non,H,I,rfl,h⟩
theorem aO2 {x j pos}:PE X (.Constant (.str x) j pos) (tC (.str x)):=fun _ _ _ H _ I h=>Calls.Constant_str ⟨.str x,H,I.tok _,⟨_,rfl⟩,h⟩
def Gl (X:Cx) (x:Str):Prop:=X.env.kindOf x=some .globalImplicit
theorem aCh {E:Value->Shared->Prop} {pins:List (Addr×Obj)} {s:Shared} {σ:St} {H:Hp} {x:Str} {u:Value} {pos:Pos} {Q:Value->Shared->Prop} (I:Inv X pins σ H s) (hg:Gl X x) (hm:X.mg x=some u) (h:Q u s)
  (hd:(x == ("__debug__" : Str))=false:=by decide):wpAny (model X.prog X.w) X.A (eval (.Name x pos) X.env) Q E s :=
 Calls.Name_function_global I.ok.kind hg (Calls.loadGlobal_global (by rw [I.ok.glob];exact I.mod.glob.keeps I.bk) hm h) hd
theorem oZ {E:Value->Shared->Prop} {pins:List (Addr×Obj)} {s:Shared} {σ:St} {H:Hp} {x:Str} {u:Value} {pos:Pos} {Q:Value->Shared->Prop} (I:Inv X pins σ H s) (hg:Gl X x) (hm:X.mg x=none) (hv:bootBuiltins x=some u) (h:Q u s)
  (hn:x≠"__name__":=by decide) (hd:(x == ("__debug__" : Str))=false:=by decide):wpAny (model X.prog X.w) X.A (eval (.Name x pos) X.env) Q E s:=by
 obtain ⟨mb,h1,h2⟩:=I.mod.blt
 exact Calls.Name_function_global I.ok.kind hg (Calls.loadGlobal_builtin (by rw [I.ok.glob];exact I.mod.glob.keeps I.bk) hm (by rw [I.ok.blt];exact h1.keeps I.bk) ((h2 x hn).trans hv) h) hd
theorem lP {x:Str} {v:V} {u:Value} {pos:Pos} (hg:Gl X x) (hm:X.mg x=none) (hv:bootBuiltins x=some u) (r:RelV v u) (hn:x≠"__name__":=by decide) (hd:(x == ("__debug__" : Str))=false:=by decide):PE X (.Name x pos) (tC v) :=
 fun _ _ _ H _ I h=>oZ I hg hm hv ⟨v,H,I,r,h⟩ hn hd
variable {a b:Expr} {ta tb:TE} {pos:Pos}
def PC (X:Cx) (op:CmpOp) (a b:Expr) (t:TE):Prop :=
 ∀ (pins:List (Addr×Obj)) (s:Shared) (σ:St) (H:Hp) (Q:VK),Inv X pins σ H s->t σ H Q ->
  wpAny (model X.prog X.w) X.A (eval a X.env) (fun v s₁=>wpAny (model X.prog X.w) X.A (eval b X.env) (fun u s₂=>wpAny (model X.prog X.w) X.A (compareOp op v u) (EP X pins σ Q) X.xe s₂) X.xe s₁) X.xe s
theorem x4 (b:Expr) {op:CmpOp} (h:op≠.In) (h2:op≠.NotIn):behindInMarks op b=false:=by
 have e1:(op == CmpOp.In)=false:=by cases op<;>first | rfl | exact absurd rfl h
 have e2:(op == CmpOp.NotIn)=false:=by cases op<;>first | rfl | exact absurd rfl h2
 cases b<;>simp [behindInMarks,e1,e2]
def aR1 (ta:TE):TE:=fun σ H Q=>ta σ H fun x H1=>Q (.bl (decide (x=.non))) H1
def aM4 (ta:TE):TE:=fun σ H Q=>ta σ H fun x H1=>Q (.bl (!decide (x=.non))) H1
theorem RelV.none_iff {x:V} {v:Value} (r:RelV x v):(v == Value.none)=decide (x=.non):=by
 cases x with
 | non=>cases r;rfl
 | bl _=>cases r;rfl
 | int _=>obtain ⟨t,rfl⟩:=r;rfl
 | str _=>obtain ⟨t,rfl⟩:=r;rfl
 | byt _=>obtain ⟨t,rfl⟩:=r;rfl
 | flt _=>obtain ⟨t,rfl⟩:=r;rfl
 | ref _=>cases r;rfl
 | ty _=>cases r;rfl
theorem aIk {j pos'} (ha:PE X a ta):PC X .Is a (.Constant .none j pos') (aR1 ta):=by
 intro pins s σ H Q I h
 refine thn (ha pins s σ H _ I h) fun v s1 ⟨x,H1,I1,r1,q1⟩=>?_
 exact Constant_none (is_none_gen ⟨.bl _,H1,I1,by rw [r1.none_iff];rfl,q1⟩)
theorem aJh {j pos'} (ha:PE X a ta):PC X .IsNot a (.Constant .none j pos') (aM4 ta):=by
 intro pins s σ H Q I h
 refine thn (ha pins s σ H _ I h) fun v s1 ⟨x,H1,I1,r1,q1⟩=>?_
 exact Constant_none (isnot_none_gen ⟨.bl _,H1,I1,by rw [r1.none_iff];rfl,q1⟩)
def tB (t:TE):TT:=fun σ H Q=>t σ H fun x H1=>∃ c,x=.bl c/\Q c H1
theorem aM9 {op:CmpOp} {t:TE} (h:PC X op a b t) (h1:behindInMarks op b=false:=by first | exact x4 _ (by decide) (by decide) | rfl):PE X (.Compare a [op] [b] pos) t:=fun pins s σ H Q I hw=>wpAny_Compare1 (h pins s σ H Q I hw) h1
theorem aEm {op:CmpOp} {t:TE} (h:PC X op a b t) (h1:behindInMarks op b=false:=by first | exact x4 _ (by decide) (by decide) | rfl):PT X (.Compare a [op] [b] pos) (tB t):=by
 intro pins s σ H Q I hw
 refine wpAny_isTrue_Compare1 (thn (h pins s σ H _ I hw) fun v s1 h1=>thn h1 fun u s2 h2=>thn h2 fun c s3 ⟨x,H1,I1,r1,q1⟩=>?_) h1
 obtain ⟨d,rfl,q⟩:=q1
 cases r1
 exact wpAny_truthy_bool ⟨H1,I1,q⟩
theorem aMn {e:Expr} {t:TE} (h:PE X e t) (he:∀ whole,isTrue e X.env whole=(do let v <- whole;standAt e.pos;holding [v] (truthy v)):=by intro _;rfl):PT X e (tB t):=by
 intro pins s σ H Q I hw
 refine isTrue_plain (thn (h pins s σ H _ I hw) fun v s1 ⟨x,H1,I1,r1,q1⟩=>?_) (he _)
 obtain ⟨d,rfl,q⟩:=q1
 cases r1
 exact wpAny_truthy_bool ⟨H1,I1,q⟩
variable {tA tB':TT} {rest:List Expr}
def aSi (t u:TT):TT:=fun σ H Q=>t σ H fun c H1=>if c=true then u σ H1 Q else Q false H1
def tOr (t u:TT):TT:=fun σ H Q=>t σ H fun c H1=>if c=true then Q true H1 else u σ H1 Q
def aR6 (t:TT):TT:=fun σ H Q=>t σ H fun c H1=>Q (!c) H1
theorem aJi (ha:PT X a tA):PW X (.BoolOp .And [a] pos) tA:=by
 intro wh pins s σ H Q I h
 refine isTrue_and (thn (ha pins s σ H Q I h) fun c s1 e=>?_)
 cases c with
 | true=>exact isTrue_and_nil e
 | false=>exact e
theorem aN9 (ha:PT X a tA):PW X (.BoolOp .Or [a] pos) tA:=by
 intro wh pins s σ H Q I h
 refine isTrue_or (thn (ha pins s σ H Q I h) fun c s1 e=>?_)
 cases c with
 | false=>exact isTrue_or_nil e
 | true=>exact e
theorem aLq (ha:PT X a tA) (hb:PW X (.BoolOp .And (b :: rest) pos) tB'):PW X (.BoolOp .And (a :: b :: rest) pos) (aSi tA tB'):=by
 intro wh pins s σ H Q I h
 refine isTrue_and (thn (ha pins s σ H _ I h) fun c s1 ⟨H1,I1,q1⟩=>?_)
 cases c with
 | true=>exact hb wh pins s1 σ H1 Q I1 q1
 | false=>exact ⟨H1,I1,q1⟩
theorem aPw (ha:PT X a tA) (hb:PW X (.BoolOp .Or (b :: rest) pos) tB'):PW X (.BoolOp .Or (a :: b :: rest) pos) (tOr tA tB'):=by
 intro wh pins s σ H Q I h
 refine isTrue_or (thn (ha pins s σ H _ I h) fun c s1 ⟨H1,I1,q1⟩=>?_)
 cases c with
 | true=>exact ⟨H1,I1,q1⟩
 | false=>exact hb wh pins s1 σ H1 Q I1 q1
theorem aMi (ha:PT X a tA):PT X (.UnaryOp .Not a pos) (aR6 tA):=by
 intro pins s σ H Q I h
 exact isTrue_not (ha pins s σ H (fun c H1=>Q (!c) H1) I h)
def aRd (ta tb:TE):TE:=fun σ H Q=>ta σ H fun x H1=>∃ c,x=.bl c/\if c=true then tb σ H1 Q else Q (.bl false) H1
def aP0 (ta:TE):TE:=fun σ H Q=>ta σ H fun x H1=>∃ c,x=.bl c/\Q (.bl (!c)) H1
theorem aNg {op} {t:TE} (h:PE X a t):PE X (.BoolOp op [a] pos) t:=fun pins s σ H Q I hw=>BoolOp_one (h pins s σ H Q I hw)
theorem aLw (ha:PE X a ta) (hb:PE X (.BoolOp .And (b :: rest) pos) tb):PE X (.BoolOp .And (a :: b :: rest) pos) (aRd ta tb):=by
 intro pins s σ H Q I h
 refine BoolOp_and (thn (ha pins s σ H _ I h) fun v s1 ⟨x,H1,I1,r1,q1⟩=>?_)
 obtain ⟨c,rfl,q1⟩:=q1
 cases r1
 refine wpAny_truthy_bool ?_
 cases c with
 | true=>exact hb pins s1 σ H1 Q I1 q1
 | false=>exact ⟨.bl false,H1,I1,rfl,q1⟩
theorem aPc (ha:PE X a ta):PE X (.UnaryOp .Not a pos) (aP0 ta):=by
 intro pins s σ H Q I h
 refine UnaryOp_ (thn (ha pins s σ H _ I h) fun v s1 ⟨x,H1,I1,r1,q1⟩=>?_)
 obtain ⟨c,rfl,q1⟩:=q1
 cases r1
 exact not_of (wpAny_truthy_bool ⟨.bl (!c),H1,I1,rfl,q1⟩)
def tIf (t:TT) (ta tb:TE):TE:=fun σ H Q=>t σ H fun c H1=>if c=true then ta σ H1 Q else tb σ H1 Q
theorem aGz {c:Expr} (hc:PT X c tA) (ha:PE X a ta) (hb:PE X b tb):PE X (.IfExp c a b pos) (tIf tA ta tb):=by
 intro pins s σ H Q I h
 refine wpAny_IfExp (thn (hc pins s σ H _ I h) fun d s1 ⟨H1,I1,q1⟩=>?_)
 cases d with
 | true=>exact ha pins s1 σ H1 Q I1 q1
 | false=>exact hb pins s1 σ H1 Q I1 q1
end
def SqL (K:PySem.W.Frag) (H:Hp) (a:Addr) (xs:List V):Prop :=
 Rd H a (.lst xs) \/
  ∃ (o:Obj) (its:Array Value) (n:Nat),K.lookup a=some o/\o.cls=.type "list"/\o.dict=none/\o.data=.seq its n/\its.size<=sizeLine/\Vals xs its.toList
def SqT (K:PySem.W.Frag) (H:Hp) (a:Addr) (xs:List V):Prop :=
 Rd H a (.tup xs) \/
  ∃ (o:Obj) (its:Array Value) (n:Nat),K.lookup a=some o/\o.cls=.type "tuple"/\o.data=.seq its n/\its.size<=sizeLine/\Vals xs its.toList
def aSv:Value->Option V
 | .none=>some .non
 | .bool b=>some (.bl b)
 | .int i _=>some (.int i)
 | .str x _=>some (.str x)
 | .bytes b _=>some (.byt b)
 | .float b _=>some (.flt b)
 | .ref a=>some (.ref a)
 | .type n=>some (.ty n)
 | _=>none
theorem RelV.abs {x:V} {u:Value} (r:RelV x u):aSv u=some x:=by
 cases x with
 | non=>cases r;rfl
 | bl _=>cases r;rfl
 | int _=>obtain ⟨t,rfl⟩:=r;rfl
 | str _=>obtain ⟨t,rfl⟩:=r;rfl
 | byt _=>obtain ⟨t,rfl⟩:=r;rfl
 | flt _=>obtain ⟨t,rfl⟩:=r;rfl
 | ref _=>cases r;rfl
 | ty _=>cases r;rfl
theorem RelV.inj {x y:V} {u:Value} (r:RelV x u) (q:RelV y u):x=y:=Option.some.inj (r.abs.symm.trans q.abs)
theorem Vals.inj:∀ {xs ys:List V} {us:List Value},Vals xs us->Vals ys us->xs=ys
 | _,_,_,.nil,.nil=>rfl
 | _,_,_,.cons r t,.cons r' t'=>by rw [r.inj r',Vals.inj t t']
section
variable {X:Cx} {pins:List (Addr×Obj)} {σ:St} {H:Hp} {s:Shared} {a:Addr} {xs ys:List V}
theorem SqL.of {K:PySem.W.Frag} (h:H a=some (.lst xs)):SqL K H a xs:=.inl (.inl h)
theorem SqT.of {K:PySem.W.Frag} (h:H a=some (.tup xs)):SqT K H a xs:=.inl (.inl h)
theorem Inv.list (I:Inv X pins σ H s) (h:SqL X.K H a xs):∃ its:List Value,Vals xs its/\PlainL s.heap a its.toArray/\xs.length<=sizeLine:=by
 rcases h with h | ⟨o,its,n,hk,hc,hd,hs,hz,r⟩
 ·obtain ⟨z,its,n,r,e⟩:=h.ok I.hok
  exact ⟨its,r,⟨_,n,e,rfl,rfl,rfl⟩,z⟩
 ·refine ⟨its.toList,r,⟨o,n,I.kIn a o hk,hc,hd,by simpa using hs⟩,?_⟩
  have e:=r.length
  simp only [Array.length_toList] at e
  omega
theorem Inv.tuple (I:Inv X pins σ H s) (h:SqT X.K H a xs):∃ its:List Value,Vals xs its/\IsTup s.heap a its.toArray/\xs.length<=sizeLine:=by
 rcases h with h | ⟨o,its,n,hk,hc,hs,hz,r⟩
 ·obtain ⟨z,its,r,p⟩:=h.ok I.hok
  exact ⟨its,r,p,z⟩
 ·refine ⟨its.toList,r,⟨o,I.kIn a o hk,hc,n,by simpa using hs⟩,?_⟩
  have e:=r.length
  simp only [Array.length_toList] at e
  omega
theorem Inv.list_inj (I:Inv X pins σ H s) (h:SqL X.K H a xs) (h':SqL X.K H a ys):xs=ys:=by
 obtain ⟨its,r,⟨o,n,e,_,_,d⟩,_⟩:=I.list h
 obtain ⟨its',r',⟨o',n',e',_,_,d'⟩,_⟩:=I.list h'
 rw [e] at e';cases e'
 rw [d] at d'
 injection d' with d1 _
 have:its=its':=by simpa using congrArg Array.toList d1
 subst this
 exact r.inj r'
end
section
variable {X:Cx} {pins:List (Addr×Obj)} {σ:St} {H:Hp} {s:Shared} {E:Value->Shared->Prop}
end
section
variable {X:Cx} {st:Stmt} {rest:List Stmt} {t u:TS} {e:Expr} {te:TE} {pos:Pos}
def aQ9:TS:=fun D σ H=>D.nx σ H
def aSb (t u:TS):TS:=fun D σ H=>t { D with nx:=u D } σ H
theorem aDt:PSs X [] aQ9:=fun _ _ σ H _ I h=>wpAny_execs_nil ⟨σ,H,I,h⟩
theorem l6 (h1:PS X st t) (h2:PSs X rest u):PSs X (st :: rest) (aSb t u):=by
 intro pins s σ H D I h
 refine wpAny_execs_cons (thn (h1 pins s σ H { D with nx:=u D } I h) fun f s1 q=>?_)
 cases f with
 | next =>
  obtain ⟨σ',H',I',q⟩:=q
  exact h2 pins s1 σ' H' D I' q
 | ret v=>exact q
 | brk=>exact q
 | cont=>exact q
theorem aC7 (h1:PS X st t):PSs X [st] t:=by
 intro pins s σ H D I h
 refine wpAny_execs_cons (thn (h1 pins s σ H D I h) fun f s1 q=>?_)
 cases f with
 | next=>exact wpAny_execs_nil q
 | ret v=>exact q
 | brk=>exact q
 | cont=>exact q
theorem Inv.quiet {pins:List (Addr×Obj)} {σ:St} {H:Hp} {s:Shared} (I:Inv X pins σ H s):interactive X.env=false:=by simp [interactive,I.ok.kind]
def aBw (te:TE):TS:=fun D σ H=>te σ H fun _ H1=>D.nx σ H1
theorem mK (he:PE X e te) (hs:swapsWith e none pos.line X.env=pure false:=by rfl):PS X (.Expr e pos) (aBw te):=by
 intro pins s σ H D I h
 exact wpAny_Expr_any (thn (he pins s σ H _ I h) fun v s1 ⟨x,H1,I1,r1,q1⟩=>⟨σ,H1,I1,q1⟩) I.quiet hs
def aSg (te:TE):TS:=fun D σ H=>te σ H D.rt
theorem aM1 (he:PE X e te):PS X (.Return (some e) pos) (aSg te):=by
 intro pins s σ H D I h
 exact wpAny_Return_some (thn (he pins s σ H _ I h) fun v s1 ⟨x,H1,I1,r1,q1⟩=>⟨x,σ,H1,I1,r1,q1⟩)
def aSr (c:TT) (t u:TS):TS:=fun D σ H=>c σ H fun b H1=>if b=true then t D σ H1 else u D σ H1
theorem aMw {c:Expr} {a b:List Stmt} {tc:TT} (hc:PT X c tc) (ha:PSs X a t) (hb:PSs X b u):PS X (.If c a b pos) (aSr tc t u):=by
 intro pins s σ H D I h
 refine wpAny_If (thn (hc pins s σ H _ I h) fun d s1 ⟨H1,I1,q1⟩=>?_)
 cases d with
 | true=>exact ha pins s1 σ H1 D I1 q1
 | false=>exact hb pins s1 σ H1 D I1 q1
end
abbrev TG:=V->St->Hp->(St->Hp->Prop)->Prop
abbrev TGs:=List V->St->Hp->(St->Hp->Prop)->Prop
def PG (X:Cx) (target:Expr) (t:TG):Prop :=
 ∀ (pins:List (Addr×Obj)) (s:Shared) (σ:St) (H:Hp) (v:V) (u:Value) (Q:St->Hp->Prop),Inv X pins σ H s->RelV v u->t v σ H Q ->
  wpAny (model X.prog X.w) X.A (assign target X.env u) (fun _ s'=>∃ σ' H',Inv X pins σ' H' s'/\Q σ' H') X.xe s
def PGs (X:Cx) (ts:List Expr) (t:TGs):Prop :=
 ∀ (pins:List (Addr×Obj)) (s:Shared) (σ:St) (H:Hp) (vs:List V) (us:List Value) (Q:St->Hp->Prop),Inv X pins σ H s->Vals vs us->t vs σ H Q ->
  wpAny (model X.prog X.w) X.A (assignInOrder ((assignEach ts X.env).map (·.2)) us) (fun _ s'=>∃ σ' H',Inv X pins σ' H' s'/\Q σ' H') X.xe s
section
variable {X:Cx} {pos:Pos}
def aJz (i:Nat):TG:=fun v σ H Q=>Q (σ.set i (some v)) H
theorem vP {i:Nat} {x:Str} (hN:X.N.Nodup) (hi:X.N[i]? = some x) (hx:Loc X.env.scope x) (hf:X.fn x=true\/X.env.scope.names.lookup x=some .local:=by first | exact .inl rfl | exact .inr rfl | assumption):PG X (.Name x pos) (aJz i):=by
 intro pins s σ H v u Q I r h
 exact wpAny_assign_Name (nU I hN hi hx r (fun s' I'=>⟨_,H,I',h⟩) hf)
def aSs:TGs:=fun vs σ H Q=>vs=[]/\Q σ H
def aQm (t:TG) (u:TGs):TGs:=fun vs σ H Q=>∃ v r,vs=v :: r/\t v σ H fun σ' H'=>u r σ' H' Q
theorem aIy:PGs X [] aSs:=by
 intro pins s σ H vs us Q I r h
 obtain ⟨e,h⟩:=h
 subst e
 cases r
 exact assignInOrder_nil ⟨σ,H,I,h⟩
theorem aFi {e:Expr} {es:List Expr} {t:TG} {u:TGs} (h1:PG X e t) (h2:PGs X es u)
  (hs:(assignEach (e :: es) X.env).map (·.2)=assign e X.env :: (assignEach es X.env).map (·.2):=by rfl):PGs X (e :: es) (aQm t u):=by
 intro pins s σ H vs us Q I r h
 obtain ⟨v,vr,e1,h⟩:=h
 subst e1
 cases r with
 | cons r rr =>
  rw [hs]
  refine assignInOrder_cons (thn (h1 pins s σ H _ _ _ I r h) fun _ s1 ⟨σ1,H1,I1,q1⟩=>?_)
  exact h2 pins s1 σ1 H1 _ _ Q I1 rr q1
def aSt (K:PySem.W.Frag) (n:Nat) (t:TGs):TG:=fun v σ H Q=>∃ a xs,v=.ref a/\SqT K H a xs/\xs.length=n/\t xs σ H Q
theorem aNs {es:List Expr} {k:Nat} {t:TGs} {n:Nat} (hc:X.calm=true) (h:PGs X es t)
  (hn:(assignEach es X.env).length=n:=by rfl) (hst:(assignEach es X.env).findIdx? (·.1)=none:=by rfl):PG X (.Tuple es k pos) (aSt X.K n t):=by
 intro pins s σ H v u Q I r hw
 obtain ⟨a,xs,e1,hq,hl,hw⟩:=hw
 subst e1
 cases r
 obtain ⟨its,rv,ht,hz⟩:=I.tuple hq
 refine assign_Tuple_tuple (I.ok.hd hc) ht (by simp [hn,<- hl,rv.length]) hst fun h' hx=>?_
 have I1:Inv X pins σ H { s with heap:=h' }:=I.kept (t':=s.toks) fun b o e=>hx b o (Nat.ne_of_lt (Heap.lt_size e)) e
 exact h pins _ σ H xs _ Q I1 (by simpa using rv) hw
def aRr (te:TE) (g:TG):TS:=fun D σ H=>te σ H fun x H1=>g x σ H1 D.nx
theorem aIq {i:Nat} {x:Str} {e:Expr} {te:TE} {pos':Pos} (hN:X.N.Nodup) (hi:X.N[i]? = some x) (hx:Loc X.env.scope x) (he:PE X e te) (hs:swapsWith e (some (.Name x pos')) pos.line X.env=pure false:=by rfl) (hf:X.fn x=true\/X.env.scope.names.lookup x=some .local:=by first | exact .inl rfl | exact .inr rfl | assumption) :
  PS X (.Assign [.Name x pos'] e pos) (aRr te (aJz i)):=by
 intro pins s σ H D I h
 refine wpAny_Assign_Name (thn (he pins s σ H _ I h) fun v s1 ⟨y,H1,I1,r1,q1⟩=>?_) hs
 exact nU I1 hN hi hx r1 (fun s2 I2=>⟨_,H1,I2,q1⟩) hf
def aSl (i j:Nat) (ta:TA):TS:=fun D σ H=>ta σ H fun vs H1=>∃ v w,vs=[v,w]/\D.nx ((σ.set i (some v)).set j (some w)) H1
theorem aMf {i j:Nat} {x y:Str} {a b:Expr} {ta:TA} {px py pt:Pos} {kt k2 pt2} (hc:X.calm=true) (hN:X.N.Nodup) (hi:X.N[i]? = some x) (hj:X.N[j]? = some y) (hij:i≠j)
  (hx:X.env.scope.names.lookup x=some .local) (hy:X.env.scope.names.lookup y=some .local) (ha:PA X [a,b] ta)
  (hw:swappedStores [.Tuple [.Name x px,.Name y py] kt pt] (.Tuple [a,b] k2 pt2) X.env=pure (some [x,y]))
  (hs:swapsWithSole [.Tuple [.Name x px,.Name y py] kt pt] (.Tuple [a,b] k2 pt2) pos.line X.env=pure false:=by rfl) :
  PS X (.Assign [.Tuple [.Name x px,.Name y py] kt pt] (.Tuple [a,b] k2 pt2) pos) (aSl i j ta):=by
 intro pins s σ H D I h
 rw [exec_Assign_arm]
 refine wpAny_bind (wpAny_standAt ?_)
 rw [hs]
 refine wpAny_bind (wpAny_pure ?_)
 rw [if_neg (by decide)]
 refine wpAny_bind (Tuple_ (thn (ha _ pins s σ H _ I h) fun us s1 ⟨vs,H1,I1,r1,q1⟩=>?_))
 obtain ⟨v,w,e1,q1⟩:=q1
 subst e1
 obtain ⟨u1,u2,rfl,rv,rw'⟩:∃ u1 u2,us=[u1,u2]/\RelV v u1/\RelV w u2:=by
  cases r1 with
  | cons p q =>
   cases q with
   | cons p' q' =>
    cases q'
    exact ⟨_,_,rfl,p,p'⟩
 refine wpAny_newObj_type ?_ (by show 2<=sizeLine;decide)
 have I2:Inv X pins σ H1 { s1 with heap:=s1.heap.push { cls:=.type "tuple",data:=.seq [u1,u2].toArray } }:=I1.kept (t':=s1.toks) fun b o e=>Heap.get?_push_of_some _ e
 rw [hw]
 refine wpAny_bind (wpAny_pure ?_)
 show wpAny (model X.prog X.w) X.A (do rule "assign.swapped-stores";let items <- unpackItems (.ref s1.heap.objs.size) 2 none;assignInOrder [fun v=>bindName X.env y v,fun v=>bindName X.env x v] items.reverse;pure Flow.next) _ _ _
 refine wpAny_bind (wpAny_rule (wpAny_bind (unpackItems_tuple (items:=#[u1,u2]) (I.ok.hd hc) (IsTup.new s1.heap _) fun h' hx'=>?_)))
 have I3:=I2.kept (h':=h') (t':=s1.toks) fun b o e=>hx' b o (Nat.ne_of_lt (Heap.lt_size e)) e
 show wpAny _ _ (assignInOrder [fun v=>bindName X.env y v,fun v=>bindName X.env x v] [u2,u1] >>= fun _=>pure Flow.next) _ _ _
 refine wpAny_bind (assignInOrder_cons (wpAny_bindName (nU I3 hN hj (.inl hy) rw' (fun s2 I4=>?_) (.inr hy))))
 refine assignInOrder_cons (wpAny_bindName (nU I4 hN hi (.inl hx) rv (fun s3 I5=>assignInOrder_nil (wpAny_pure ?_)) (.inr hx)))
 rw [List.set_comm _ _ (Ne.symm hij)] at I5
 exact ⟨_,H1,I5,q1⟩
end
section
variable {X:Cx} {pos:Pos}
def aL1 (c:TT) (tb:TS):TS:=fun D σ H=>∃ W:Nat->St->Hp->Prop,(∃ m,W m σ H)/\∀ m σ H,W m σ H ->
 c σ H fun b H1=>if b=true then ∃ N:St->Hp->Prop,(∀ σ' H',N σ' H'->∃ m',m' < m/\W m' σ' H')/\tb { D with nx:=N,ct:=N,bk:=D.nx } σ H1 else D.nx σ H1
theorem aGb {c:Expr} {body:List Stmt} {tc:TT} {tb:TS} (hp:PassesOwn (model X.prog X.w) X.A X.env X.xe) (hc:PT X c tc) (hb:PSs X body tb):PS X (.While c body [] pos) (aL1 tc tb):=by
 intro pins s σ H D I h
 obtain ⟨W,⟨m0,w0⟩,turn⟩:=h
 refine wpAny_While (codeAny_whileLoop (fun n s'=>∃ σ' H',Inv X pins σ' H' s'/\W n σ' H') ?_ m0 ⟨σ,H,I,w0⟩)
 rintro n s1 ⟨σ1,H1,I1,w1⟩
 refine wpAny_passesOwn hp (thn (hc pins s1 σ1 H1 _ I1 (turn n σ1 H1 w1)) fun b s2 ⟨H2,I2,q2⟩=>?_)
 cases b with
 | true =>
  obtain ⟨N,hN,q2⟩:=q2
  rw [if_pos rfl]
  refine wpAny_passesOwn hp (thn (hb pins s2 σ1 H2 _ I2 q2) fun f s3 q3=>?_)
  cases f with
  | next =>
   obtain ⟨σ3,H3,I3,n3⟩:=q3
   obtain ⟨m',hm,w3⟩:=hN σ3 H3 n3
   exact ⟨m',hm,σ3,H3,I3,w3⟩
  | cont =>
   obtain ⟨σ3,H3,I3,n3⟩:=q3
   obtain ⟨m',hm,w3⟩:=hN σ3 H3 n3
   exact ⟨m',hm,σ3,H3,I3,w3⟩
  | brk=>exact q3
  | ret v=>exact q3
 | false =>
  rw [if_neg Bool.false_ne_true]
  exact wpAny_execs_nil ⟨σ1,H2,I2,q2⟩
end
structure It where
 go:Nat->Hp->Prop
 yld:Nat->Hp->V->Hp->Prop
 stop:Nat->Hp->Prop
def aGw (X:Cx) (pins:List (Addr×Obj)) (H:Hp) (b:Addr):Prop :=
 H b=none/\b≠X.env.locals/\b∉X.fs/\(b∈X.ex\/X.s₀.heap.objs.size<=b)/\(∀ x c,X.env.cells.lookup x=some c->c≠b)/\∀ p∈X.pn++pins,p.1≠b
theorem Inv.fpOk {X:Cx} {pins:List (Addr×Obj)} {σ:St} {H H':Hp} {s:Shared} {b:Addr} (I:Inv X pins σ H s) (hb:s.heap.objs.size<=b) (hn:H' b=none):aGw X pins H' b:=by
 refine ⟨hn,Nat.ne_of_gt (Nat.lt_of_lt_of_le I.lt hb),I.nofs hb,.inr (Nat.le_trans I.sz hb),fun x c e z=>?_,fun p hp z=>?_⟩
 ·obtain ⟨v,q⟩:=I.cell x c e
  exact absurd (Nat.lt_of_lt_of_le q.lt (by rw [z];exact hb)) (Nat.lt_irrefl _)
 ·exact absurd (Nat.lt_of_lt_of_le (Heap.lt_size (I.pin p hp).1) (by rw [z];exact hb)) (Nat.lt_irrefl _)
structure Turn (P:Program) (w:World) (K:PySem.W.Frag) (tg:Expr) (J:It) (fp:List Addr) (it:Addr) (tn:Nat->Heap->Prop):Prop where
 mem:it∈fp
 obj:∀ i h,tn i h->∀ b∈fp,∃ o,h.get? b=some o/\∀ v,o.data≠.cell v
 keep:∀ i h h',tn i h->(∀ b∈fp,∀ o,h.get? b=some o->h'.get? b=some o)->tn i h'
 item:∀ (X:Cx),X.prog=P->X.w=w->X.K=K->X.calm=true->∀ (i:Nat) (pins:List (Addr×Obj)) (s:Shared) (σ:St) (H:Hp) (E:Value->Shared->Prop),Inv X pins σ H s->(∀ b∈fp,aGw X pins H b)->tn i s.heap->J.go i H ->
  wpAny (model P w) X.A (pyNext (.ref it)) (fun r s1=>∃ u,r=some u /\
   wpAny (model P w) X.A (letOwnedTupleGo tg (.ref it) u) (fun _ s2=>∃ x H',Inv X pins σ H' s2/\RelV x u/\J.yld i H x H'/\tn (i+1) s2.heap/\∀ b∈fp,H' b=none) E s1) E s
 done:∀ (X:Cx),X.prog=P->X.w=w->X.K=K->X.calm=true->∀ (i:Nat) (pins:List (Addr×Obj)) (s:Shared) (σ:St) (H:Hp) (E:Value->Shared->Prop),Inv X pins σ H s->(∀ b∈fp,aGw X pins H b)->tn i s.heap->J.stop i H ->
  wpAny (model P w) X.A (pyNext (.ref it)) (fun r s1=>r=none/\Inv X pins σ H s1) E s
 self:∀ (A:Around) (i:Nat) (s:Shared) (Q:Value->Shared->Prop) (E:Value->Shared->Prop),tn i s.heap->Q (.ref it) s->wpAny (model P w) A (pyIter (.ref it)) Q E s
abbrev TI:=St->Hp->(It->Hp->Prop)->Prop
def PIE (X:Cx) (pins:List (Addr×Obj)) (σ:St) (tg:Expr) (R:It->Hp->Prop) (itv:Value) (s2:Shared):Prop :=
 ∃ (it:Addr) (fp:List Addr) (tn:Nat->Heap->Prop) (J:It) (H':Hp),itv=.ref it/\Inv X pins σ H' s2/\Turn X.prog X.w X.K tg J fp it tn/\tn 0 s2.heap/\(∀ b∈fp,aGw X pins H' b)/\R J H'
def PI (X:Cx) (tg iter:Expr) (wi:TI):Prop :=
 ∀ (pins:List (Addr×Obj)) (s:Shared) (σ:St) (H:Hp) (R:It->Hp->Prop),Inv X pins σ H s->wi σ H R ->
  wpAny (model X.prog X.w) X.A (eval iter X.env) (fun v s1=>wpAny (model X.prog X.w) X.A (pyIter v) (PIE X pins σ tg R) X.xe s1) X.xe s
theorem aOj {M:Model} {A:Around} {E:Value->Shared->Prop} {s:Shared} {tg:Expr} {it:Addr} {u:Value} {o:Obj} {n:String} {vs:Array Value} {Q:Unit->Shared->Prop} (ho:s.heap.get? it=some o) (hc:o.cls=.type n) (hd:o.data=.fields vs)
  (hn:["enumerate","zip","dict_itemiterator","dict_reverseitemiterator","odict_iterator","itertools.zip_longest","itertools.pairwise"].contains n=false) (hQ:Q () s):wpAny M A (letOwnedTupleGo tg (.ref it) u) Q E s:=by
 unfold letOwnedTupleGo
 cases tg<;>first
  | exact wpAny_pure hQ
  | (cases u<;>first
    | exact wpAny_pure hQ
    | (refine wpAny_bind (wpAny_load ho ?_)
       rw [hc,hd]
       show wpAny M A (if (["enumerate","zip","dict_itemiterator","dict_reverseitemiterator","odict_iterator","itertools.zip_longest","itertools.pairwise"].contains n && vs[0]? == some (rawInt _))=true then _ else _) Q E s
       rw [if_neg (by intro h;rw [hn,Bool.false_and] at h;cases h)]
       exact wpAny_pure hQ))
def Itl (K:PySem.W.Frag) (a:Addr):It :=
 ⟨fun i H=>∃ xs x,SqL K H a xs/\xs[i]? = some x,fun i H x H'=>H'=H/\∀ xs,SqL K H a xs->xs[i]? = some x,fun i H=>∃ xs,SqL K H a xs/\xs.length<=i⟩
def Itr (lo:Int) (n:Nat):It:=⟨fun i _=>i < n,fun i H x H'=>H'=H/\x=.int (lo+i),fun i _=>n<=i⟩
theorem aDl {P:Program} {w:World} {K:PySem.W.Frag} {tg:Expr} (a it:Addr):Turn P w K tg (Itl K a) [it] it (fun i h=>h.IsListIter it a i) where
 mem:=by simp
 obj:=fun i h st b hb=>by
  have e:b=it:=by simpa using hb
  subst e
  obtain ⟨o,e,c,d⟩:=st
  exact ⟨o,e,fun v z=>by rw [d] at z;cases z⟩
 keep:=fun i h h' st k=>st.at fun o e=>k it (by simp) o e
 item:=by
  intro X hP hw hK hc i pins s σ H E I hf st hg
  subst hP hw hK
  obtain ⟨xs,x,hq,hx⟩:=hg
  obtain ⟨its,rv,p,hz⟩:=I.list hq
  obtain ⟨u,hu,ru⟩:=rv.get hx
  obtain ⟨f0,f1,f2,f3,f4,f5⟩:=hf it (by simp)
  refine wpAny_pyNext_list_item st p.isList (x:=u) (by simpa using hu) fun h' st' sb=>?_
  have I1:Inv X pins σ H { s with heap:=h' }:=I.turned (t':=s.toks) (fun b o hb e=>(sb.2 b hb).trans e) f0 f1 f3 f4 f5
  obtain ⟨o,e,c,d⟩:=id st'
  exact ⟨u,rfl,aOj (s:={ s with heap:=h' }) e c d (by decide) ⟨x,H,I1,ru,⟨rfl,fun ys hy=>by rw [I.list_inj hy hq];exact hx⟩,st',fun b hb=>(hf b hb).1⟩⟩
 done:=by
  intro X hP hw hK hc i pins s σ H E I hf st hg
  subst hP hw hK
  obtain ⟨xs,hq,hx⟩:=hg
  obtain ⟨its,rv,p,hz⟩:=I.list hq
  obtain ⟨f0,f1,f2,f3,f4,f5⟩:=hf it (by simp)
  have hl:=rv.length
  exact wpAny_pyNext_list_end (I.ok.hd hc) st p.isList (by simp;omega) fun h' eb=>⟨rfl,I.turned (t':=s.toks) (fun b o hb e=>eb b o hb e) f0 f1 f3 f4 f5⟩
 self:=fun _ _ _ _ _ st h=>wpAny_pyIter_listiter st h
theorem aAi {P:Program} {w:World} {K:PySem.W.Frag} {tg:Expr} (it:Addr) (lo:Int) (n:Nat):Turn P w K tg (Itr lo n) [it] it (fun i h=>IsRangeIter h it (lo+(i:Nat)*1) ((n:Int) - (i:Nat)) 1) where
 mem:=by simp
 obj:=fun i h st b hb=>by
  have e:b=it:=by simpa using hb
  subst e
  exact ⟨_,st,fun v z=>by
   have z':Data.fields _=Data.cell v:=z
   cases z'⟩
 keep:=fun i h h' st k=>k it (by simp) _ st
 item:=by
  intro X hP hw hK hc i pins s σ H E I hf st hg
  subst hP hw hK
  obtain ⟨f0,f1,f2,f3,f4,f5⟩:=hf it (by simp)
  have W:=Walks.range (prog:=X.prog) (w:=X.w) (I.ok.hd hc) it lo 1 n
  refine W.item i s _ _ hg st fun v h' tk hv st' kk=>?_
  obtain ⟨t,rfl⟩:=hv
  have I1:Inv X pins σ H { s with heap:=h',toks:=tk }:=I.turned (fun b o hb e=>kk b o (by simpa using hb) e) f0 f1 f3 f4 f5
  refine ⟨_,rfl,aOj (s:={ s with heap:=h',toks:=tk }) (n:="range_iterator") st' rfl rfl (by decide) ⟨.int (lo+i),H,I1,⟨t,?_⟩,⟨rfl,rfl⟩,st',fun b hb=>(hf b hb).1⟩⟩
  rw [Int.mul_one]
 done:=by
  intro X hP hw hK hc i pins s σ H E I hf st hg
  subst hP hw hK
  obtain ⟨f0,f1,f2,f3,f4,f5⟩:=hf it (by simp)
  exact wpAny_pyNext_range_end (I.ok.hd hc) st (by have:n<=i:=hg;omega) fun h' eb=>⟨rfl,I.turned (t':=s.toks) (fun b o hb e=>eb b o hb e) f0 f1 f3 f4 f5⟩
 self:=fun _ _ _ _ _ st h=>wpAny_pyIter_rangeiter st h
section
variable {X:Cx} {tg:Expr}
def aP1 (K:PySem.W.Frag) (tl:TE):TI:=fun σ H R=>tl σ H fun x H1=>∃ a,x=.ref a/\(∃ xs,SqL K H1 a xs)/\R (Itl K a) H1
theorem aCn {l:Expr} {tl:TE} (hl:PE X l tl):PI X tg l (aP1 X.K tl):=by
 intro pins s σ H R I h
 refine thn (hl pins s σ H _ I h) fun v s1 ⟨x,H1,I1,r1,q1⟩=>?_
 obtain ⟨a,e,⟨xs,hq⟩,q⟩:=q1
 subst e
 cases r1
 obtain ⟨its,rv,p,hz⟩:=I1.list hq
 refine wpAny_pyIter_list p.isList ?_
 refine ⟨s1.heap.objs.size,[s1.heap.objs.size],_,_,H1,rfl,I1.kept (t':=s1.toks) fun b o e=>Heap.get?_push_of_some _ e,aDl a _,⟨_,Heap.get?_push_size _ rfl,rfl,rfl⟩,fun b hb=>?_,q⟩
 have e:b=s1.heap.objs.size:=by simpa using hb
 subst e
 exact I1.fpOk (Nat.le_refl _) (I1.hok.fresh (Nat.le_refl _))
theorem zH {pins:List (Addr×Obj)} {σ:St} {H:Hp} {s:Shared} {R:It->Hp->Prop} {E:Value->Shared->Prop} {lo hi:Int} {t u v:Tok} {tk:Nat} (I:Inv X pins σ H s) (h1:-(2 ^ 62)<=lo) (h2:lo < 2 ^ 62) (h3:-(2 ^ 62)<=hi) (h4:hi < 2 ^ 62)
  (q:R (Itr lo (hi - lo).toNat) H):wpAny (model X.prog X.w) X.A (pyIter (.ref s.heap.objs.size)) (PIE X pins σ tg R) E { s with heap:=s.heap.push { cls:=.type "range",data:=.fields #[.int lo t,.int hi u,.int 1 v] },toks:=tk }:=by
 refine wpAny_pyIter_range (IsRange.new ..) (small_one h1 h2 h3 h4) ?_
 have I1:Inv X pins σ H { s with heap:=s.heap.push { cls:=.type "range",data:=.fields #[.int lo t,.int hi u,.int 1 v] },toks:=tk }:=I.kept fun b o e=>Heap.get?_push_of_some _ e
 refine ⟨(s.heap.push { cls:=.type "range",data:=.fields #[.int lo t,.int hi u,.int 1 v] }).objs.size,[(s.heap.push { cls:=.type "range",data:=.fields #[.int lo t,.int hi u,.int 1 v] }).objs.size],_,_,H,rfl,
  I1.kept (t':=tk) fun b o e=>Heap.get?_push_of_some _ e,aAi _ lo (hi - lo).toNat,?_,fun b hb=>?_,q⟩
 ·have e1:lo+((0:Nat):Int)*1=lo:=by simp
  have e2:(((hi - lo).toNat:Nat):Int) - ((0:Nat):Int)=Builtin.Range.rangeSize lo hi 1:=by rw [rangeSize_one];split<;>omega
  show IsRangeIter _ _ (lo+((0:Nat):Int)*1) ((((hi - lo).toNat:Nat):Int) - ((0:Nat):Int)) 1
  rw [e1,e2]
  exact Heap.get?_push_size _ rfl
 ·have e:b=(s.heap.push { cls:=.type "range",data:=.fields #[.int lo t,.int hi u,.int 1 v] }).objs.size:=by simpa using hb
  subst e
  exact I1.fpOk (Nat.le_refl _) (I1.hok.fresh (Nat.le_refl _))
def aPt (ta:TA):TI:=fun σ H R=>ta σ H fun vs H1=>∃ j:Int,vs=[.int j]/\-(2 ^ 62)<=j/\j < 2 ^ 62/\R (Itr 0 j.toNat) H1
def aPs (ta:TA):TI:=fun σ H R=>ta σ H fun vs H1=>∃ i j:Int,vs=[.int i,.int j]/\(-(2 ^ 62)<=i/\i < 2 ^ 62/\-(2 ^ 62)<=j/\j < 2 ^ 62)/\R (Itr i (j - i).toNat) H1
theorem aEs {a:Expr} {ta:TA} {p pos:Pos} (hg:Gl X "range") (hm:X.mg "range" = none) (ha:PA X [a] ta) (hs:starEach [a] X.env=[(false,eval a X.env)]:=by rfl):PI X tg (.Call (.Name "range" p) [a] [] pos) (aPt ta):=by
 intro pins s σ H R I h
 refine Call_ (oZ I hg hm boot_range (PyProof.Rows.callWith_type1 (thn (ha pos pins s σ H _ I h) fun us s1 ⟨vs,H1,I1,r1,q1⟩=>?_) hs rfl))
 obtain ⟨j,e,q1,q2,q⟩:=q1
 subst e
 cases r1 with
 | cons r rr =>
  cases rr
  obtain ⟨t,rfl⟩:=r
  exact call_range_1 (zH I1 (by omega) (by omega) q1 q2 (by simpa using q))
theorem aDc {a b:Expr} {ta:TA} {p pos:Pos} (hg:Gl X "range") (hm:X.mg "range" = none) (ha:PA X [a,b] ta) (hs:starEach [a,b] X.env=[(false,eval a X.env),(false,eval b X.env)]:=by rfl) (hs2:starEach [b] X.env=[(false,eval b X.env)]:=by rfl) :
  PI X tg (.Call (.Name "range" p) [a,b] [] pos) (aPs ta):=by
 intro pins s σ H R I h
 refine Call_ (oZ I hg hm boot_range (PyProof.Rows.callWith_type1 (thn (ha pos pins s σ H _ I h) fun us s1 ⟨vs,H1,I1,r1,q1⟩=>?_) (by rw [hs,hs2]) (by rw [hs2];rfl)))
 obtain ⟨i,j,e,⟨q1,q2,q3,q4⟩,q⟩:=q1
 subst e
 cases r1 with
 | cons r rr =>
  cases rr with
  | cons r' rr =>
   cases rr
   obtain ⟨t,rfl⟩:=r
   obtain ⟨t',rfl⟩:=r'
   exact call_range_2 (zH I1 q1 q2 q3 q4 q)
def aSc (wi:TI) (g:TG) (tb:TS):TS:=fun D σ H=>wi σ H fun J H1=>∃ W:Nat->Nat->St->Hp->Prop,(∃ m,W 0 m σ H1)/\∀ i m σ H,W i m σ H ->
 (J.stop i H/\D.nx σ H)\/(J.go i H/\∃ N:St->Hp->Prop,(∀ σ' H',N σ' H'->∃ m',m' < m/\W (i+1) m' σ' H')/\∀ x H',J.yld i H x H'->g x σ H' fun σ2 H2=>tb { D with nx:=N,ct:=N,bk:=D.nx } σ2 H2)
def yZ (fp:List Addr) (h:Heap):List (Addr×Obj):=fp.filterMap fun b=>(h.get? b).map fun o=>(b,o)
theorem fZ {fp:List Addr} {h:Heap} {b:Addr} {o:Obj} (hb:b∈fp) (e:h.get? b=some o):(b,o)∈yZ fp h:=List.mem_filterMap.mpr ⟨b,hb,by rw [e];rfl⟩
theorem aDb {fp:List Addr} {h:Heap} {p:Addr×Obj} (hp:p∈yZ fp h):p.1∈fp/\h.get? p.1=some p.2:=by
 obtain ⟨b,hb,e⟩:=List.mem_filterMap.mp hp
 cases q:h.get? b with
 | none=>rw [q] at e;cases e
 | some o =>
  rw [q] at e
  have e':(b,o)=p:=Option.some.inj e
  subst e'
  exact ⟨hb,q⟩
theorem Inv.pinned {pins:List (Addr×Obj)} {σ:St} {H:Hp} {s:Shared} {fp:List Addr} (I:Inv X pins σ H s) (hf:∀ b∈fp,aGw X pins H b) (ho:∀ b∈fp,∃ o,s.heap.get? b=some o/\∀ v,o.data≠.cell v):Inv X (pins++yZ fp s.heap) σ H s :=
 I.pins_of fun p hp=>(List.mem_append.mp hp).elim (fun z=>I.pin p (List.mem_append_right _ z)) fun z=>by
  obtain ⟨hb,e⟩:=aDb z
  obtain ⟨f0,f1,f2,_⟩:=hf p.1 hb
  obtain ⟨o,e',d⟩:=ho p.1 hb
  rw [e] at e';cases e'
  exact ⟨e,f0,f1,f2,d⟩
theorem Inv.unpinned {pins pl:List (Addr×Obj)} {σ:St} {H:Hp} {s:Shared} (I:Inv X (pins++pl) σ H s):Inv X pins σ H s:=I.pins_of fun p hp=>I.pin p (List.mem_append_right _ (List.mem_append_left _ hp))
theorem aH9 {iter:Expr} {body:List Stmt} {wi:TI} {g:TG} {tb:TS} {pos:Pos} (hp:PassesOwn (model X.prog X.w) X.A X.env X.xe) (hc:X.calm=true) (hi:PI X tg iter wi) (hg:PG X tg g) (hb:PSs X body tb)
  (hs:∀ x,foldedSetIterable iter X.env x=pure x:=by intro _;rfl):PS X (.For tg iter body [] pos) (aSc wi g tb):=by
 intro pins s σ H D I h
 refine wpAny_For (thn (hi pins s σ H _ I h) fun v s1 h1=>thn h1 fun itv s2 h2=>?_) hs
 obtain ⟨it,fp,tn,J,H2,e,I2,T,st2,f2,W,⟨m0,w0⟩,turn⟩:=h2
 subst e
 have stat:∀ {H':Hp},(∀ b∈fp,H' b=none)->∀ b∈fp,aGw X pins H' b:=fun hn b hb=>⟨hn b hb,(f2 b hb).2⟩
 refine codeAny_forLoop_any (fun n s'=>∃ i σ' H',Inv X pins σ' H' s'/\tn i s'.heap/\(∀ b∈fp,H' b=none)/\W i n σ' H') ?_ m0 ⟨0,σ,H2,I2,st2,fun b hb=>(f2 b hb).1,w0⟩
 rintro n s3 ⟨i,σ3,H3,I3,st3,fr3,w3⟩
 rcases turn i n σ3 H3 w3 with ⟨stop,qn⟩ | ⟨go,N,hN,step⟩
 ·refine wpAny_passesOwn hp (thn (T.done X rfl rfl rfl hc i pins s3 σ3 H3 X.xe I3 (stat fr3) st3 stop) fun r s4 ⟨hr,I4⟩=>?_)
  subst hr
  exact wpAny_execs_nil ⟨σ3,H3,I4,qn⟩
 ·refine wpAny_passesOwn hp (thn (T.item X rfl rfl rfl hc i pins s3 σ3 H3 X.xe I3 (stat fr3) st3 go) fun r s4 ⟨u,hr,h4⟩=>?_)
  subst hr
  refine wpAny_passesOwn hp (thn h4 fun _ s5 ⟨x,H5,I5,r5,y5,st5,fr5⟩=>?_)
  have I5':=I5.pinned (stat fr5) (T.obj _ _ st5)
  refine wpAny_passesOwn hp (thn (hg _ s5 σ3 H5 x u _ I5' r5 (step x H5 y5)) fun _ s6 ⟨σ6,H6,I6,q6⟩=>?_)
  refine wpAny_passesOwn hp (thn (hb _ s6 σ6 H6 _ I6 q6) fun f s7 q7=>?_)
  have again:∀ {σ7:St} {H7:Hp},Inv X (pins++yZ fp s5.heap) σ7 H7 s7->N σ7 H7->∃ m,m < n/\∃ i σ' H',Inv X pins σ' H' s7/\tn i s7.heap/\(∀ b∈fp,H' b=none)/\W i m σ' H':=fun {σ7 H7} I7 n7=>by
   obtain ⟨m',hm,w7⟩:=hN σ7 H7 n7
   refine ⟨m',hm,i+1,σ7,H7,I7.unpinned,T.keep _ _ _ st5 fun b hb o e=>(I7.pin (b,o) (List.mem_append_right _ (List.mem_append_right _ (fZ hb e)))).1,fun b hb=>?_,w7⟩
   obtain ⟨o,e,d⟩:=T.obj _ _ st5 b hb
   exact (I7.pin (b,o) (List.mem_append_right _ (List.mem_append_right _ (fZ hb e)))).2.1
  cases f with
  | next=>obtain ⟨σ7,H7,I7,n7⟩:=q7;exact again I7 n7
  | cont=>obtain ⟨σ7,H7,I7,n7⟩:=q7;exact again I7 n7
  | brk=>obtain ⟨σ7,H7,I7,q7⟩:=q7;exact ⟨σ7,H7,I7.unpinned,q7⟩
  | ret v=>obtain ⟨x7,σ7,H7,I7,r7,q7⟩:=q7;exact ⟨x7,σ7,H7,I7.unpinned,r7,q7⟩
end
abbrev R2:=V->V->Hp->VK->Prop
def OpR (X:Cx) (f:Value->Value->Sem Value) (r:R2):Prop :=
 ∀ (pins:List (Addr×Obj)) (s:Shared) (σ:St) (H:Hp) (x y:V) (v u:Value) (Q:VK),Inv X pins σ H s->RelV x v->RelV y u->r x y H Q ->
  wpAny (model X.prog X.w) X.A (f v u) (EP X pins σ Q) X.xe s
def UnR (X:Cx) (f:Value->Sem Value) (r:V->Hp->VK->Prop):Prop :=
 ∀ (pins:List (Addr×Obj)) (s:Shared) (σ:St) (H:Hp) (x:V) (v:Value) (Q:VK),Inv X pins σ H s->RelV x v->r x H Q ->
  wpAny (model X.prog X.w) X.A (f v) (EP X pins σ Q) X.xe s
def l5 (X:Cx) (f:Value) (r:List V->Hp->VK->Prop):Prop :=
 ∀ (pins:List (Addr×Obj)) (s:Shared) (σ:St) (H:Hp) (xs:List V) (us:List Value) (Q:VK),Inv X pins σ H s->Vals xs us->r xs H Q ->
  wpAny (model X.prog X.w) X.A (call f us) (EP X pins σ Q) X.xe s
def tOp (r:R2) (ta tb:TE):TE:=fun σ H Q=>ta σ H fun x H1=>tb σ H1 fun y H2=>r x y H2 Q
def tUn (r:V->Hp->VK->Prop) (ta:TE):TE:=fun σ H Q=>ta σ H fun x H1=>r x H1 Q
def rI (C:Int->Int->Prop) (g:Int->Int->V):R2:=fun x y H Q=>∃ i j,x=.int i/\y=.int j/\C i j/\Q (g i j) H
def rI0 (g:Int->Int->V):R2:=fun x y H Q=>∃ i j,x=.int i/\y=.int j/\Q (g i j) H
def rU (g:Int->V):V->Hp->VK->Prop:=fun x H Q=>∃ i,x=.int i/\Q (g i) H
section
variable {X:Cx} {a b c:Expr} {ta tb tc:TE} {pos:Pos}
theorem aQw (ha:PE X a ta) (hb:PE X b tb) {pins:List (Addr×Obj)} {s:Shared} {σ:St} {H:Hp} {R:V->V->Hp->Prop} (I:Inv X pins σ H s)
  (h:ta σ H fun x H1=>tb σ H1 fun y H2=>R x y H2) {Q:Value->Shared->Prop} {f:Value->Value->Sem Value}
  (hf:∀ v u s2 x y H2,Inv X pins σ H2 s2->RelV x v->RelV y u->R x y H2->wpAny (model X.prog X.w) X.A (f v u) Q X.xe s2) :
  wpAny (model X.prog X.w) X.A (eval a X.env) (fun v s₁=>wpAny (model X.prog X.w) X.A (eval b X.env) (fun u s₂=>wpAny (model X.prog X.w) X.A (f v u) Q X.xe s₂) X.xe s₁) X.xe s:=by
 refine thn (ha pins s σ H _ I h) fun v s1 ⟨x,H1,I1,r1,q1⟩=>?_
 refine thn (hb pins s1 σ H1 _ I1 q1) fun u s2 ⟨y,H2,I2,r2,q2⟩=>?_
 exact hf v u s2 x y H2 I2 r1 r2 q2
theorem aP6 {op:Operator} {r:R2} (ho:OpR X (binaryOp op) r) (ha:PE X a ta) (hb:PE X b tb):PE X (.BinOp a op b pos) (tOp r ta tb):=by
 intro pins s σ H Q I h
 exact wpAny_BinOp (aQw ha hb I h fun v u s2 x y H2 I2 rx ry q=>ho pins s2 σ H2 x y v u Q I2 rx ry q)
theorem aRn {op:UnaryOp} {r:V->Hp->VK->Prop} (ho:UnR X (unaryOp op) r) (ha:PE X a ta):PE X (.UnaryOp op a pos) (tUn r ta):=by
 intro pins s σ H Q I h
 exact UnaryOp_ (thn (ha pins s σ H _ I h) fun v s1 ⟨x,H1,I1,r1,q1⟩=>ho pins s1 σ H1 x v Q I1 r1 q1)
theorem opI {f:Value->Value->Sem Value} {C:Int->Int->Prop} {g:Int->Int->Int}
  (rule:∀ (i j:Int) (t u:Tok) (s:Shared) (Q:Value->Shared->Prop) (E:Value->Shared->Prop),C i j->Q (.int (g i j) s.toks) { s with toks:=s.toks+1 }->wpAny (model X.prog X.w) X.A (f (.int i t) (.int j u)) Q E s) :
  OpR X f (rI C fun i j=>.int (g i j)):=by
 intro pins s σ H x y v u Q I rx ry h
 obtain ⟨i,j,rfl,rfl,hc,q⟩:=h
 obtain ⟨t,rfl⟩:=rx
 obtain ⟨t',rfl⟩:=ry
 exact rule i j t t' s _ _ hc ⟨.int (g i j),H,I.tok _,⟨_,rfl⟩,q⟩
theorem aRq {f:Value->Value->Sem Value} {g:Int->Int->Int}
  (rule:∀ (i j:Int) (t u:Tok) (s:Shared) (Q:Value->Shared->Prop) (E:Value->Shared->Prop),Q (.int (g i j) s.toks) { s with toks:=s.toks+1 }->wpAny (model X.prog X.w) X.A (f (.int i t) (.int j u)) Q E s) :
  OpR X f (rI0 fun i j=>.int (g i j)):=by
 intro pins s σ H x y v u Q I rx ry h
 obtain ⟨i,j,rfl,rfl,q⟩:=h
 obtain ⟨t,rfl⟩:=rx
 obtain ⟨t',rfl⟩:=ry
 exact rule i j t t' s _ _ ⟨.int (g i j),H,I.tok _,⟨_,rfl⟩,q⟩
theorem aQa {f:Value->Value->Sem Value} {g:Int->Int->Bool}
  (rule:∀ (i j:Int) (t u:Tok) (s:Shared) (Q:Value->Shared->Prop) (E:Value->Shared->Prop),Q (.bool (g i j)) s->wpAny (model X.prog X.w) X.A (f (.int i t) (.int j u)) Q E s) :
  OpR X f (rI0 fun i j=>.bl (g i j)):=by
 intro pins s σ H x y v u Q I rx ry h
 obtain ⟨i,j,rfl,rfl,q⟩:=h
 obtain ⟨t,rfl⟩:=rx
 obtain ⟨t',rfl⟩:=ry
 exact rule i j t t' s _ _ ⟨.bl (g i j),H,I,rfl,q⟩
def aNc (i j:Int):Prop:=0<=j/\j<=1000000/\i.natAbs < 2 ^ 64
theorem aMu:OpR X (binaryOp .Add) (rI0 fun i j=>.int (i+j)):=aRq fun _ _ _ _ _ _ _ q=>add_int q
theorem fX:OpR X (binaryOp .Sub) (rI0 fun i j=>.int (i - j)):=aRq fun _ _ _ _ _ _ _ q=>sub_int q
theorem cT:OpR X (binaryOp .Mod) (rI (fun _ j=>j≠0) fun i j=>.int (i.fmod j)):=opI fun _ _ _ _ _ _ _ hc q=>mod_int' hc q
theorem aHt:OpR X (binaryOp .Pow) (rI aNc fun i j=>.int (i ^ j.toNat)):=opI fun _ _ _ _ _ _ _ hc q=>pow_int_small hc.1 hc.2.1 hc.2.2 q
theorem unI {f:Value->Sem Value} {g:Int->Int}
  (rule:∀ (i:Int) (t:Tok) (s:Shared) (Q:Value->Shared->Prop) (E:Value->Shared->Prop),Q (.int (g i) s.toks) { s with toks:=s.toks+1 }->wpAny (model X.prog X.w) X.A (f (.int i t)) Q E s) :
  UnR X f (rU fun i=>.int (g i)):=by
 intro pins s σ H x v Q I rx h
 obtain ⟨i,rfl,q⟩:=h
 obtain ⟨t,rfl⟩:=rx
 exact rule i t s _ _ ⟨.int (g i),H,I.tok _,⟨_,rfl⟩,q⟩
theorem aN7:UnR X (unaryOp .USub) (rU fun i=>.int (-i)):=unI fun _ _ _ _ _ q=>neg_int q
end
section
variable {X:Cx} {a b c:Expr} {ta tb tc:TE} {pos:Pos}
theorem pV:OpR X (compareOp .Lt) (rI0 fun i j=>.bl (decide (i < j))):=aQa fun _ _ _ _ _ _ _ q=>lt_int q
theorem aQ2:OpR X (compareOp .LtE) (rI0 fun i j=>.bl (decide (i<=j))):=aQa fun _ _ _ _ _ _ _ q=>le_int q
theorem tR:OpR X (compareOp .Gt) (rI0 fun i j=>.bl (decide (j < i))):=aQa fun _ _ _ _ _ _ _ q=>gt_int q
theorem OpR.or {f:Value->Value->Sem Value} {r r':R2} (h:OpR X f r) (h':OpR X f r'):OpR X f (fun x y H Q=>r x y H Q\/r' x y H Q):=by
 intro pins s σ H x y v u Q I rx ry q
 rcases q with q | q
 ·exact h pins s σ H x y v u Q I rx ry q
 ·exact h' pins s σ H x y v u Q I rx ry q
theorem bN (b:Expr) {op:CmpOp} (h:op≠.In:=by decide) (h2:op≠.NotIn:=by decide):behindInMarks op b=false:=by
 have e1:(op == CmpOp.In)=false:=by cases op<;>first | rfl | exact absurd rfl h
 have e2:(op == CmpOp.NotIn)=false:=by cases op<;>first | rfl | exact absurd rfl h2
 cases b<;>simp [behindInMarks,e1,e2]
theorem aK0 {op:CmpOp} {r:R2} (ho:OpR X (compareOp op) r) (ha:PE X a ta) (hb:PE X b tb) (hm:behindInMarks op b=false):PE X (.Compare a [op] [b] pos) (tOp r ta tb):=by
 intro pins s σ H Q I h
 exact wpAny_Compare1 (aQw ha hb I h fun v u s2 x y H2 I2 rx ry q=>ho pins s2 σ H2 x y v u Q I2 rx ry q) hm
def aQg (t:TE):TT:=fun σ H Q=>t σ H fun x H'=>∃ k,x=.bl k/\Q k H'
theorem aK4 {op:CmpOp} {r:R2} (ho:OpR X (compareOp op) r) (ha:PE X a ta) (hb:PE X b tb) (hm:behindInMarks op b=false):PT X (.Compare a [op] [b] pos) (aQg (tOp r ta tb)):=by
 intro pins s σ H Q I h
 refine wpAny_isTrue_Compare1 (thn (ha pins s σ H _ I h) fun v s1 ⟨x,H1,I1,r1,q1⟩=>thn (hb pins s1 σ H1 _ I1 q1) fun u s2 ⟨y,H2,I2,r2,q2⟩ =>
  thn (ho pins s2 σ H2 x y v u _ I2 r1 r2 q2) fun c s3 ⟨z,H3,I3,r3,k,e,q3⟩=>?_) hm
 subst e
 cases r3
 exact wpAny_truthy_bool ⟨H3,I3,q3⟩
theorem aDm:(sizeLine:Nat) < 2 ^ 63:=by rw [sizeLine_eq];decide
theorem zV:OpR X (binaryOp .Add) (fun x y H Q=>∃ i j,x=.str i/\y=.str j/\i.length+j.length<=sizeLine/\Q (.str (i++j)) H):=by
 intro pins s σ H x y v u Q I rx ry h
 obtain ⟨i,j,rfl,rfl,hz,q⟩:=h
 obtain ⟨t,rfl⟩:=rx
 obtain ⟨t',rfl⟩:=ry
 exact add_str (fun t' tk=>⟨.str (i++j),H,I.tok _,⟨_,rfl⟩,q⟩) hz
theorem vals1 {x:V} {us:List Value} (r:Vals [x] us):∃ u,us=[u]/\RelV x u:=by
 cases r with
 | cons r1 r2=>cases r2;exact ⟨_,rfl,r1⟩
theorem vals2 {x y:V} {us:List Value} (r:Vals [x,y] us):∃ u w',us=[u,w']/\RelV x u/\RelV y w':=by
 cases r with
 | cons r1 r2 =>
  cases r2 with
  | cons r3 r4=>cases r4;exact ⟨_,_,rfl,r1,r3⟩
theorem nS:l5 X (.builtin "abs") (fun xs H Q=>∃ i,xs=[.int i]/\Q (.int (if i < 0 then -i else i)) H):=by
 intro pins s σ H xs us Q I r h
 obtain ⟨i,rfl,q⟩:=h
 obtain ⟨u,rfl,t,rfl⟩:=vals1 r
 exact call_abs_int fun u tk=>⟨.int (if i < 0 then -i else i),H,I.tok _,⟨_,rfl⟩,q⟩
theorem aDv (hc:X.calm=true):l5 X (.builtin "max") (fun xs H Q=>∃ i j,xs=[.int i,.int j]/\Q (.int (if j > i then j else i)) H):=by
 intro pins s σ H xs us Q I r h
 obtain ⟨i,j,rfl,q⟩:=h
 obtain ⟨u,w',rfl,⟨t,rfl⟩,⟨t',rfl⟩⟩:=vals2 r
 refine max_two_ints (I.ok.hd hc) fun h' tk k=>⟨_,H,I.kept k,?_,q⟩
 by_cases hj:j > i
 ·rw [if_pos hj,if_pos hj];exact ⟨_,rfl⟩
 ·rw [if_neg hj,if_neg hj];exact ⟨_,rfl⟩
end
structure ObjM (h:Heap) (x dx C:Addr) (mA:Str->Option Value):Prop where
 obj:h.get? x=some (PySem.W.instObj C dx)
 ns:h.Ns1 dx mA
 ne:dx≠x
theorem aDn {h:Heap} {dx:Addr} {mA:Str->Option Value} (n:h.Ns1 dx mA):∃ od,h.get? dx=some od/\∀ name,PySem.W.lookIn name od=some (mA name):=by
 obtain ⟨o,es,ep,ho,hd,hk,_,hm⟩:=n
 refine ⟨o,ho,fun name=>?_⟩
 have e:=hm name
 unfold nsFind findBy at e
 rw [<- Array.find?_toList] at e
 unfold PySem.W.lookIn
 rw [hd]
 dsimp only
 split
 ·rename_i y q
  rw [q] at e
  exact congrArg some e
 ·rename_i q
  rw [q] at e
  have a:es.toList.any (·.refKey)=false:=by
   rw [List.any_eq_false]
   intro y hy
   obtain ⟨z,t,hkey⟩:=hk y (Array.mem_toList_iff.mp hy)
   simp [DictEntry.refKey,hkey]
  have a':¬ es.toList.any (·.refKey)=true:=by rw [a];exact Bool.false_ne_true
  rw [if_neg a']
  exact congrArg some e
theorem ObjM.look {h:Heap} {x dx C:Addr} {mA:Str->Option Value} (I:ObjM h x dx C mA):∃ od,PySem.W.InstAt h x (PySem.W.instObj C dx) C (some od)/\∀ name,PySem.W.lookIn name od=some (mA name) :=
 let ⟨od,ho,hl⟩:=aDn I.ns
 ⟨od,⟨I.obj,rfl,rfl,ho⟩,hl⟩
section
variable {prog:Program} {w:World} {A:Around} {E:Value->Shared->Prop} {s:Shared} {K:PySem.W.Frag} {x dx C f:Addr} {mA:Str->Option Value} {name:Str} {v:Value}
end
theorem RelO.some_of {v:V} {o:Option Value} (r:RelO (some v) o):∃ u,o=some u/\RelV v u:=by
 cases o with
 | none=>exact (show False from r).elim
 | some u=>exact ⟨u,rfl,r⟩
section
variable {P:Program} {w:World} {H H':Hp} {h h':Heap} {a C dx:Addr} {fs fs':List (Str×V)}
theorem aLa (hok:HOk P w H h) (e:H a=some (.ins C dx fs)):∃ mA,ObjM h a dx C mA/\(∀ f,RelO (fs.lookup f) (mA f))/\PySem.Within mA (fs.map (·.1))/\fs.length<=1000/\H dx=some (.own a):=by
 obtain ⟨d,z,ne,ob,mA,n,r,q⟩:=(show ObjOk P w H h a (.ins C dx fs) from hok a _ e)
 exact ⟨mA,⟨ob,n,ne⟩,r,q,z,d⟩
end
structure Cls (K:PySem.W.Frag) (C:Addr):Prop where
 pg:PySem.W.plainGet K C Str.empty=true
 hd:PySem.W.hasDictIn K C=true
 po:PySem.W.plainOver K C=true
 sa:PySem.W.findIn K (.ref C) "__setattr__" = some (some (.builtin "object.__setattr__"))
theorem Cls.get {K:PySem.W.Frag} {C:Addr} (c:Cls K C) (f:Str):PySem.W.plainGet K C f=true:=c.pg
section
variable {X:Cx} {pins:List (Addr×Obj)} {σ:St} {H:Hp} {s:Shared} {a C dx:Addr} {fs:List (Str×V)} {f:Str} {v:V} {A:Around} {E:Value->Shared->Prop}
end
section
variable {X:Cx} {o e value:Expr} {f:Str} {pos pos' tpos:Pos} {ta tv:TE}
end
section
variable {X:Cx} {pins:List (Addr×Obj)} {σ:St} {H:Hp} {s:Shared} {A:Around} {E:Value->Shared->Prop} {Q:Value->Shared->Prop} {c:Value} {b:Bool}
inductive yD (K:PySem.W.Frag) (H:Hp):V->Value->Prop where
 | non:yD K H .non (.type "NoneType")
 | bl (x:Bool):yD K H (.bl x) (.type "bool")
 | int (i:Int):yD K H (.int i) (.type "int")
 | str (x:Str):yD K H (.str x) (.type "str")
 | flt (x:UInt64):yD K H (.flt x) (.type "float")
 | lst {a:Addr} {xs:List V} (e:H a=some (.lst xs)):yD K H (.ref a) (.type "list")
 | frz {a:Addr} {o:Obj} {xs:List V} (e:H a=some (.frz o (.lst xs))):yD K H (.ref a) (.type "list")
 | tup {a:Addr} {xs:List V} (e:H a=some (.tup xs)):yD K H (.ref a) (.type "tuple")
 | dK {a:Addr} {kvs:List (Key×V)} (e:H a=some (.dK kvs)):yD K H (.ref a) (.type "dict")
 | dT {a:Addr} {kvs:List (List Key×V)} (e:H a=some (.dT kvs)):yD K H (.ref a) (.type "dict")
 | ins {a C dx:Addr} {fs:List (Str×V)} (e:H a=some (.ins C dx fs)) (cl:Cls K C) (ha:PySem.W.findIn K (.ref C) "__class__" = some (some (.builtin "object.__class__")))
   (hn:PySem.W.specialIn K (.builtin "object.__class__") "__get__" = some (some (.builtin "getset_descriptor.__get__"))) (htk:PySem.W.takesIn K (.builtin "object.__class__")=some true)
   (hm:PySem.W.mroIn K C (.type "object")=some true):yD K H (.ref a) (.ref C)
theorem aBp {x:V} {u t:Value} (I:Inv X pins σ H s) (rx:RelV x u) (ty:yD X.K H x t) (e:PySem.W.kitOne X.K t c=some b) (h:∀ tk,Q (.bool b) { s with toks:=tk }) :
  wpAny (model X.prog X.w) A (call (.builtin "isinstance") [u,c]) Q E s:=by
 cases ty with
 | non=>cases (show u=Value.none from rx);exact PySem.W.kia_one PySem.W.kitx_none I.kIn True.intro e (fun z=>nomatch z) h
 | bl y=>cases (show u=Value.bool y from rx);exact PySem.W.kia_one PySem.W.kitx_bool I.kIn True.intro e (fun z=>nomatch z) h
 | int i=>obtain ⟨t,q⟩:=(show ∃ t,u=Value.int i t from rx);cases q;exact PySem.W.kia_one PySem.W.kitx_int I.kIn True.intro e (fun z=>nomatch z) h
 | str y=>obtain ⟨t,q⟩:=(show ∃ t,u=Value.str y t from rx);cases q;exact PySem.W.kia_one PySem.W.kitx_str I.kIn True.intro e (fun z=>nomatch z) h
 | flt y=>obtain ⟨t,q⟩:=(show ∃ t,u=Value.float y t from rx);cases q;exact PySem.W.kia_one PySem.W.kitx_float I.kIn True.intro e (fun z=>nomatch z) h
 | @lst a xs ea =>
  cases (show u=Value.ref a from rx)
  obtain ⟨_,_,n,_,h1⟩:=(show ObjOk X.prog X.w H s.heap a (.lst xs) from I.hok a _ ea)
  exact PySem.W.kia_one PySem.W.kitx_list I.kIn ⟨_,h1,rfl⟩ e (fun z=>nomatch z) h
 | @frz a ob xs ea =>
  cases (show u=Value.ref a from rx)
  obtain ⟨_,_,_,n,_,h1⟩:=(show ObjOk X.prog X.w H s.heap a (.frz ob (.lst xs)) from I.hok a _ ea)
  exact PySem.W.kia_one PySem.W.kitx_list I.kIn ⟨_,h1,rfl⟩ e (fun z=>nomatch z) h
 | @tup a xs ea =>
  cases (show u=Value.ref a from rx)
  obtain ⟨_,_,_,p⟩:=(show ObjOk X.prog X.w H s.heap a (.tup xs) from I.hok a _ ea)
  obtain ⟨o,h1,h2,_⟩:=p
  exact PySem.W.kia_one PySem.W.kitx_tuple I.kIn ⟨o,h1,h2⟩ e (fun z=>nomatch z) h
 | @dK a kvs ea =>
  cases (show u=Value.ref a from rx)
  obtain ⟨_,_,vs,_,p⟩:=(show ObjOk X.prog X.w H s.heap a (.dK kvs) from I.hok a _ ea)
  obtain ⟨o,es,ep,h1,h2,_⟩:=p
  exact PySem.W.kia_one PySem.W.kitx_dict I.kIn ⟨o,h1,h2.1⟩ e (fun z=>nomatch z) h
 | @dT a kvs ea =>
  cases (show u=Value.ref a from rx)
  obtain ⟨_,_,xs,_,o,es,ep,h1,h2,_⟩:=(show ObjOk X.prog X.w H s.heap a (.dT kvs) from I.hok a _ ea)
  exact PySem.W.kia_one PySem.W.kitx_dict I.kIn ⟨o,h1,h2.1⟩ e (fun z=>nomatch z) h
 | @ins a C dx fs ea cl ha hn htk hm =>
  cases (show u=Value.ref a from rx)
  obtain ⟨mA,O,_⟩:=aLa I.hok ea
  obtain ⟨od,J,_⟩:=O.look
  exact PySem.W.kia_one (PySem.W.kitx_own (cl.get _) cl.hd ha hn htk hm) I.kIn J e (fun z=>nomatch z) h
end
structure Room (k:Nat) (A:Around):Prop where
 hd:A.handled=none
 dp:A.depth+3*k+5 < recursionLimit
 un:A.units+16*k+200 < cLine
theorem Room.mono {j k:Nat} {A:Around} (r:Room k A) (h:j<=k):Room j A:=⟨r.hd,by have:=r.dp;omega,by have:=r.un;omega⟩
theorem Room.deeper {k:Nat} {A:Around} (r:Room (k+1) A) (env:Env):Room k (A.deeper env) :=
 ⟨r.hd,by have:=r.dp;show A.depth+1+3*k+5 < _;omega,by have:=r.un;show A.units+3+16*k+200 < _;omega⟩
theorem Room.depth {k:Nat} {A:Around} (r:Room k A):A.depth < recursionLimit:=by have:=r.dp;omega
def aPn:TA:=fun _ H Q=>Q [] H
def aHa (ta:TE) (tr:TA):TA:=fun σ H Q=>ta σ H fun x H1=>tr σ H1 fun xs H2=>Q (x :: xs) H2
section
variable {X:Cx} {e:Expr} {es:List Expr} {te:TE} {t:TA} {pos:Pos}
theorem pC:PA X [] aPn:=fun _ _ _ _ H Q I h=>Calls.spliced_nil ⟨[],H,I,.nil,h⟩
theorem kE (ha:PE X e te) (hr:PA X es t) (hs:starEach (e :: es) X.env=(false,eval e X.env) :: starEach es X.env:=by rfl):PA X (e :: es) (aHa te t):=by
 intro pos pins s σ H Q I h
 rw [hs]
 show wpAny _ _ (spliced ((false,eval e X.env) :: backTo pos (starEach es X.env))) _ _ s
 refine Calls.spliced_cons (thn (ha pins s σ H _ I h) fun u s1 ⟨x,H1,I1,r1,q1⟩=>?_)
 exact thn (hr pos pins s1 σ H1 _ I1 q1) fun us s2 ⟨xs,H2,I2,r2,q2⟩=>⟨x :: xs,H2,I2,.cons r1 r2,q2⟩
def aSu (t:TA):TE:=fun σ H Q=>t σ H fun xs H1=>xs.length<=sizeLine/\∀ p,H1 p=none->Q (.ref p) (upd H1 p (.tup xs))
def aSj (t:TA):TE:=fun σ H Q=>t σ H fun xs H1=>xs.length<=sizeLine/\∀ p,H1 p=none->Q (.ref p) (upd H1 p (.lst xs))
theorem aM2 {x1} (h:PA X es t):PE X (.Tuple es x1 pos) (aSu t):=by
 intro pins s σ H Q I hq
 refine wpAny_Tuple_spliced (thn (h pos pins s σ H _ I hq) fun us s1 ⟨xs,H1,I1,r,z,q⟩=>⟨by rw [<- r.length];exact z,?_⟩)
 have hf:H1 s1.heap.objs.size=none:=I1.hok.fresh (Nat.le_refl _)
 refine ⟨.ref s1.heap.objs.size,upd H1 s1.heap.objs.size (.tup xs),I1.laid (t':=s1.toks) (fun b u e=>Heap.get?_push_of_some _ e) (Nat.le_refl _) ?_,rfl,q _ hf⟩
 exact ⟨z,us,r,⟨_,Heap.get?_push_size _ rfl,rfl,_,rfl⟩⟩
theorem aMd (h:PA X es t):PE X (.List es pos) (aSj t):=by
 intro pins s σ H Q I hq
 refine wpAny_List_spliced (thn (h pos pins s σ H _ I hq) fun us s1 ⟨xs,H1,I1,r,z,q⟩=>⟨by rw [<- r.length];exact z,?_⟩)
 have hf:H1 s1.heap.objs.size=none:=I1.hok.fresh (Nat.le_refl _)
 refine ⟨.ref s1.heap.objs.size,upd H1 s1.heap.objs.size (.lst xs),I1.laid (t':=s1.toks) (fun b u e=>Heap.get?_push_of_some _ e) (Nat.le_refl _) ?_,rfl,q _ hf⟩
 exact ⟨z,us,0,r,Heap.get?_push_size _ rfl⟩
end
abbrev Sp:=List V->Hp->VK->XK->Prop
abbrev CXT:=List Env->Hp->Shared->XK->Value->Shared->Prop
structure aPm (P:Program) (w:World) (K:PySem.W.Frag) (mg:Str->Option Value) (base:Heap) (A:Around) (outer:List Env) (s:Shared) (H:Hp):Prop where
 frames:A.frames=some outer
 mod:Mod K mg base
 bs:∀ b o,base.get? b=some o->s.heap.get? b=some o/\H b=none
 bsz:base.objs.size<=s.heap.objs.size
 funs:s.heap.FunFrames base outer
 frf:∀ b∈frs outer,H b=none
 hok:HOk P w H s.heap
 bare:AllBare s.gens
def CE (outer:List Env) (P:Program) (w:World) (H:Hp) (s:Shared) (Q:VK) (u:Value) (s':Shared):Prop :=
 ∃ v H',s'.os=s.os/\AllBare s'.gens/\Un (frs outer) [] H H' s.heap s'.heap/\HOk P w H' s'.heap/\RelV v u/\Q v H'
def CR (CX:CXT) (outer:List Env) (P:Program) (w:World) (H:Hp) (s:Shared) (Q:VK) (E:XK) (r:Result) (s':Shared):Prop :=
 match r with
 | .ok (.ret u)=>CE outer P w H s Q u s'
 | .ok _=>False
 | .error e=>CX outer H s E e s'
structure FnOk (P:Program) (w:World) (K:PySem.W.Frag) (mg:Str->Option Value) (base:Heap) (CX:CXT) (k:Nat) (f:Addr) (fd:FuncData) (ps:List Str) (sp:Sp):Prop where
 len:∀ vs H Q E,sp vs H Q E->vs.length=ps.length
 run:∀ (A:Around) (outer:List Env) (s:Shared) (H:Hp) (args:Args) (us:List Value) (vs:List V) (Q:VK) (E:XK),Room k A->aPm P w K mg base A outer s H->BindsTo s fd args (ps.zip us)->Vals vs us->sp vs H Q E ->
  codeAny (model P w) A (.call (.ref f) args) (CR CX outer P w H s Q E) s
theorem FnOk.mono {P:Program} {w:World} {K:PySem.W.Frag} {mg:Str->Option Value} {base:Heap} {CX:CXT} {j k:Nat} {f:Addr} {fd:FuncData} {ps:List Str} {sp:Sp} (F:FnOk P w K mg base CX j f fd ps sp) (h:j<=k) :
  FnOk P w K mg base CX k f fd ps sp:=⟨F.len,fun A outer s H args us vs Q E hr=>F.run A outer s H args us vs Q E (hr.mono h)⟩
theorem FnOk.imp {P:Program} {w:World} {K:PySem.W.Frag} {mg:Str->Option Value} {base:Heap} {CX:CXT} {k:Nat} {f:Addr} {fd:FuncData} {ps:List Str} {sp sp':Sp} (F:FnOk P w K mg base CX k f fd ps sp)
  (h:∀ vs H Q E,sp' vs H Q E->sp vs H Q E):FnOk P w K mg base CX k f fd ps sp' :=
 ⟨fun vs H Q E q=>F.len vs H Q E (h _ _ _ _ q),fun A outer s H args us vs Q E hr he hb hv hs=>F.run A outer s H args us vs Q E hr he hb hv (h _ _ _ _ hs)⟩
section
variable {X:Cx} {pins:List (Addr×Obj)} {σ:St} {H:Hp} {s s':Shared}
theorem Inv.env0 (I:Inv X pins σ H s):aPm X.prog X.w X.K X.mg X.base X.A X.stack s H :=
 ⟨I.ok.frames,I.ok.mod,I.bs,Nat.le_trans I.ok.bsz I.sz,I.stack,I.stkFree,I.hok,I.bare⟩
theorem Inv.after {Q:VK} {u:Value} (I:Inv X pins σ H s) (h:CE X.stack X.prog X.w H s Q u s'):EP X pins σ Q u s':=by
 obtain ⟨v,H',os,bare,un,hok,r,q⟩:=h
 obtain ⟨hh,g,d,t,os'⟩:=s'
 obtain rfl:os'=s.os:=os
 exact ⟨v,H',I.call (h':=hh) (g':=g) (d':=d) (t':=t) (ch:=[]) un hok bare (fun b z=>absurd z (by simp)),r,q⟩
end
def Binds (K:PySem.W.Frag) (fd:FuncData) (ps:List Str) (ds:List Value):Prop :=
 ∀ (s:Shared) (us:List Value),K.In s.heap->(us++ds).length=ps.length->BindsTo s fd ⟨us,[]⟩ (ps.zip (us++ds))
theorem Binds.all {K:PySem.W.Frag} {fd:FuncData} {ps:List Str} (h:∀ us:List Value,us.length=ps.length->bindArgs fd ⟨us,[]⟩=pure (ps.zip us)):Binds K fd ps []:=fun s us _ hl=>by
 rw [List.append_nil] at hl ⊢
 exact .of_eq (h us hl)
def aL8 (CX:CXT) (X:Cx) (E:XK):Prop:=∀ (pins:List (Addr×Obj)) (σ:St) (H:Hp) (s:Shared) (e:Value) (s':Shared),Inv X pins σ H s->CX X.stack H s E e s'->X.xe e s'
section
variable {X:Cx} {CX:CXT} {k:Nat} {f C:Addr} {fd:FuncData} {ps:List Str} {sp:Sp} {dvs:List V} {ds:List Value} {E:XK} {x m:Str} {p pos apos:Pos} {e o:Expr} {es:List Expr} {ta:TE} {t:TA}
end
section
variable {X:Cx} {CX:CXT} {k:Nat} {f C:Addr} {fd:FuncData} {ps ks:List Str} {sp:Sp} {E:XK} {x m:Str} {p pos apos kpos:Pos} {e o:Expr} {es:List Expr} {kws:List Keyword} {te ta:TE} {t tk:TA} {nm:Option Str}
variable {g:List Value->List Value->List Value} {gV:List V->List V->List V}
end
structure aW (N P:List Str) (sc:Scope):Prop where
 kind:sc.kind=.function
 co:sc.isCoroutine=false
 gen:sc.isGenerator=false
 nd:N.Nodup
 pre:N.take P.length=P
 par:∀ x∈P,sc.names.lookup x=some .local\/sc.names.lookup x=some .cell
 nofree:∀ y∈sc.names,y.2≠.free
theorem u4 {kindOf:Str->Option NameKind} {x:Str}:∀ {binds:List (Str×Value)} {m:Str->Option Value},(∀ v,(x,v)∉binds)->bindL kindOf binds m x=m x
 | [],_,_=>rfl
 | (n,v) :: r,m,h=>by
  unfold bindL
  rw [u4 fun w hw=>h w (List.mem_cons_of_mem _ hw)]
  split
  ·have:x≠n:=by rintro rfl;exact h v List.mem_cons_self
   simp [this]
  ·rfl
theorem vH {kindOf:Str->Option NameKind} {x:Str}:∀ {binds:List (Str×Value)} {m:Str->Option Value},(∀ v,(x,v)∉binds)->bindC kindOf binds m x=m x
 | [],_,_=>rfl
 | (n,v) :: r,m,h=>by
  unfold bindC
  rw [vH fun w hw=>h w (List.mem_cons_of_mem _ hw)]
  split
  ·rfl
  ·have:x≠n:=by rintro rfl;exact h v List.mem_cons_self
   simp [this]
theorem uT {kindOf:Str->Option NameKind} {x:Str} {v:Value}:∀ {P:List Str} {vs:List Value} {i:Nat} {m:Str->Option Value},P.Nodup->P[i]? = some x->vs[i]? = some v->kindOf x=some .local ->
  bindL kindOf (P.zip vs) m x=some v
 | [],_,_,_,_,h,_,_=>by simp at h
 | _ :: _,[],_,_,_,_,h,_=>by simp at h
 | p :: P,w :: vs,0,m,nd,h1,h2,hk=>by
  simp at h1 h2;subst h1;subst h2
  show bindL kindOf ((p,w) :: P.zip vs) m p=_
  unfold bindL
  rw [u4 fun v hv=>(List.nodup_cons.mp nd).1 (List.of_mem_zip hv).1,if_pos hk]
  simp
 | p :: P,w :: vs,i+1,m,nd,h1,h2,hk=>by
  show bindL kindOf ((p,w) :: P.zip vs) m x=_
  unfold bindL
  exact uT (i:=i) (List.nodup_cons.mp nd).2 (by simpa using h1) (by simpa using h2) hk
theorem vA {kindOf:Str->Option NameKind} {x:Str} {v:Value}:∀ {P:List Str} {vs:List Value} {i:Nat} {m:Str->Option Value},P.Nodup->P[i]? = some x->vs[i]? = some v->kindOf x≠some .local ->
  bindC kindOf (P.zip vs) m x=some v
 | [],_,_,_,_,h,_,_=>by simp at h
 | _ :: _,[],_,_,_,_,h,_=>by simp at h
 | p :: P,w :: vs,0,m,nd,h1,h2,hk=>by
  simp at h1 h2;subst h1;subst h2
  show bindC kindOf ((p,w) :: P.zip vs) m p=_
  unfold bindC
  rw [vH fun v hv=>(List.nodup_cons.mp nd).1 (List.of_mem_zip hv).1,if_neg hk]
  simp
 | p :: P,w :: vs,i+1,m,nd,h1,h2,hk=>by
  show bindC kindOf ((p,w) :: P.zip vs) m x=_
  unfold bindC
  exact vA (i:=i) (List.nodup_cons.mp nd).2 (by simpa using h1) (by simpa using h2) hk
def start (N:List Str) (vs:List V):St:=vs.map some++List.replicate (N.length - vs.length) none
def qT (CX:CXT) (P:Program) (w:World) (K:PySem.W.Frag) (mg:Str->Option Value) (base:Heap) (N:List Str) (qual:Str) (scope:Scope) (f:Addr) (cd:Value) (A:Around) (outer:List Env) (s:Shared) (H:Hp) (E:XK):Cx where
 prog:=P
 w:=w
 K:=K
 mg:=mg
 base:=base
 A:=A.deeper (envOfC qual scope s.heap.objs.size f cd)
 N:=N
 s₀:=s
 H₀:=H
 env:=envOfC qual scope s.heap.objs.size f cd
 outer:=outer
 stack:=envOfC qual scope s.heap.objs.size f cd :: outer
 ex:=[]
 calm:=true
 fn:=fun _=>true
 pn:=[]
 xe:=fun e s'=>wpAny (model P w) (A.deeper (envOfC qual scope s.heap.objs.size f cd)) (leaving (envOfC qual scope s.heap.objs.size f cd) e) (fun _ s''=>CX outer H s E e s'') (fun e' s''=>CX outer H s E e' s'') s'
theorem yN {sc:Scope} {n:Nat} {x:Str} (h:sc.names.lookup x=some .cell):∃ c,(cellsFrom n sc.names []).lookup x=some c:=by
 have q:=PySem.W.cellsFrom_some sc.names n [] (.inl h)
 exact Option.isSome_iff_exists.mp q
theorem aDe {CX:CXT} {P:Program} {w:World} {K:PySem.W.Frag} {mg:Str->Option Value} {base:Heap} {N ps:List Str} {qual:Str} {scope:Scope} {f:Addr} {cd:Value} {A:Around} {outer:List Env} {s s1:Shared} {H:Hp} {E:XK} {us:List Value} {vs:List V}
  (S:aW N ps scope) (hd:A.handled=none) (e0:aPm P w K mg base A outer s H) (hl:vs.length=ps.length) (r:Vals vs us)
  (x:InCallC s s.heap.objs.size (bindL (envOfC qual scope s.heap.objs.size f cd).kindOf (ps.zip us) fun _=>none) (cellsFrom (s.heap.objs.size+1) scope.names []) (bindC (envOfC qual scope s.heap.objs.size f cd).kindOf (ps.zip us) fun _=>none) s1) :
  Inv (qT CX P w K mg base N qual scope f cd A outer s H E) [] (start N vs) H s1:=by
 have hpl:ps.length<=N.length:=by have:=congrArg List.length S.pre;rw [List.length_take] at this;omega
 obtain ⟨h1,tk,rfl,hk⟩:=x.done
 have noA:∀ b:Addr,b∉(qT CX P w K mg base N qual scope f cd A outer s H E).ex:=fun b z=>absurd (show b∈([]:List Addr) from z) (by simp)
 refine ⟨⟨e0.mod,S.kind,rfl,rfl,Nat.le_refl _,fun y z c h1 h2=>?_,fun y hy=>?_,fun y c _ h=>?_,fun _=>hd,Around.frames_deeper e0.frames,.inr ⟨rfl,rfl⟩,fun b z=>absurd z (noA b),e0.bs,e0.bsz,fun b _ _=>noA b,fun b z=>absurd z (noA b),e0.funs,e0.frf⟩,
  rfl,e0.bare,Un.kept hk,⟨_,x.toInCall.ns,fun i y v h1 h2 h3=>?_⟩,fun y c h=>⟨_,x.cell y c h⟩,e0.hok.fresh (Nat.le_refl _),fun y c h=>?_,fun p hp=>absurd (show p∈([]:List (Addr×Obj)) from hp) (by simp),e0.hok.kept hk,?_⟩
 ·exact name_of_addr x.apart (PySem.mem_of_lookup h1) (PySem.mem_of_lookup h2)
 ·have hy:scope.names.lookup y=some .cell\/scope.names.lookup y=some .free:=hy
  rcases hy with hy | hy
  ·exact yN hy
  ·exact absurd rfl (S.nofree _ (PySem.mem_of_lookup hy))
 ·exact Nat.le_of_lt (x.above y c (PySem.mem_of_lookup h))
 ·have hi:i < vs.length:=by
   unfold start at h2
   by_cases hi:i < vs.length
   ·exact hi
   ·rw [List.getElem?_append_right (by simpa using hi)] at h2
    rw [List.getElem?_replicate] at h2
    split at h2<;>cases h2
  have ha:vs[i]? = some v:=by
   unfold start at h2
   rw [List.getElem?_append_left (by simpa using hi),List.getElem?_map] at h2
   cases e:vs[i]? with
   | none=>rw [e] at h2;cases h2
   | some a=>rw [e] at h2;cases h2;rfl
  obtain ⟨u,hu,rv⟩:=r.get ha
  have hp:ps[i]? = some y:=by
   rw [<- S.pre,List.getElem?_take_of_lt (by omega)];exact h1
  have ndP:ps.Nodup:=by rw [<- S.pre];exact S.nd.sublist (List.take_sublist _ _)
  refine ⟨u,rv,?_⟩
  rcases S.par y (List.mem_of_getElem? hp) with k | k
  ·exact .inl ⟨k,uT ndP hp hu k⟩
  ·obtain ⟨c,e⟩:=yN (n:=s.heap.objs.size+1) k
   refine .inr ⟨.inl k,c,e,?_⟩
   have q:=x.cell y c e
   rw [vA ndP hp hu (by show scope.names.lookup y≠_;rw [k];decide)] at q
   exact q
 ·exact e0.hok.fresh (Nat.le_of_lt (x.above y c (PySem.mem_of_lookup h)))
 ·unfold start
  show _=N.length
  rw [List.length_append,List.length_map,List.length_replicate]
  omega
theorem aPy {CX:CXT} {P:Program} {w:World} {K:PySem.W.Frag} {mg:Str->Option Value} {base:Heap} {k:Nat} {f:Addr} {name qual:Str} {params:Arguments} {body:List Stmt} {scope:Scope} {dV kV doc pm cdv ct oc:Value} {an od:Option Addr}
  {osl:Array (Option Value)} {N ps:List Str} {sp:Sp} (lk:K.lookup f=some ⟨oc,od,.func (PySem.W.fnOf name qual params body scope dV kV doc pm an cdv ct),osl⟩) (hcd:PySem.W.codeIn K cdv qual=true) (S:aW N ps scope)
  (len:∀ vs H Q E,sp vs H Q E->vs.length=ps.length)
  (hbody:∀ (A:Around) (outer:List Env) (s:Shared) (H:Hp) (vs:List V) (Q:VK) (E:XK),Room k (A.deeper (envOfC qual scope s.heap.objs.size f cdv))->sp vs H Q E ->
   ∃ t,PSs (qT CX P w K mg base N qual scope f cdv A outer s H E) body t/\t { nx:=fun _ H'=>Q .non H',rt:=Q } (start N vs) H) :
  FnOk P w K mg base CX (k+1) f (PySem.W.fnOf name qual params body scope dV kV doc pm an cdv ct) ps sp:=by
 refine ⟨len,fun A outer s H args us vs Q E hr e0 hb r hsp=>?_⟩
 have hl:=len _ _ _ _ hsp
 have KX:K.In s.heap:=e0.mod.kin.keeps fun b o e=>(e0.bs b o e).1
 have lim:s.heap.NoLimit:=e0.mod.nolimit.keeps fun b o e=>(e0.bs b o e).1
 have hkind:∀ y∈ps.zip us,scope.names.lookup y.1=some .local\/(scope.names.lookup y.1=some .cell/\((cellsFrom (s.heap.objs.size+1) scope.names []).lookup y.1).isSome=true):=fun ⟨n,v⟩ hy=>by
  rcases S.par n (List.of_mem_zip hy).1 with q | q
  ·exact .inl q
  ·exact .inr ⟨q,PySem.W.cellsFrom_some _ _ _ (.inl q)⟩
 refine codeAny_call_function hr.depth (KX _ _ lk) rfl S.co S.gen rfl (PySem.W.codeRec_of KX hcd) (hb _ _ _ _ ?_)
 refine wpAny_newFunctionEnv_cells S.kind hkind fun env he s1 x=>?_
 subst he
 refine ⟨lim.keeps x.toInCall.keep,codeAny_func ?_⟩
 obtain ⟨t,ht,hq⟩:=hbody A outer s H vs Q E (hr.deeper _) hsp
 have I:Inv (qT CX P w K mg base N qual scope f cdv A outer s H E) [] (start N vs) H s1:=aDe S hr.hd e0 hl r x
 refine wpAny_mono (ht [] s1 (start N vs) H _ I hq) (fun fl s' hs=>?_) fun e s' hs=>hs
 have fin:∀ {σ':St} {H':Hp} {v:V} {u:Value},Inv (qT CX P w K mg base N qual scope f cdv A outer s H E) [] σ' H' s'->RelV v u->Q v H'->CE outer P w H s Q u s' :=
  fun {σ' H' v u} J rv q=>⟨v,H',J.os,J.bare,J.base,J.hok,rv,q⟩
 cases fl with
 | ret u =>
  obtain ⟨v,σ',H',J,rv,q⟩:=hs
  exact fin J rv q
 | next =>
  obtain ⟨σ',H',J,q⟩:=hs
  exact fin (v:=V.non) (u:=Value.none) J rfl q
 | brk =>
  obtain ⟨_,_,_,q⟩:=hs
  exact False.elim q
 | cont =>
  obtain ⟨_,_,_,q⟩:=hs
  exact False.elim q
section
variable {X:Cx} {x:Str} {p pos:Pos} {e:Expr} {es:List Expr} {t:TA} {id T:String} {r:List V->Hp->VK->Prop}
def tCB (r:List V->Hp->VK->Prop) (t:TA):TE:=fun σ H Q=>t σ H fun vs H1=>r vs H1 Q
theorem yY (hc:l5 X (.builtin id) r) (hg:Gl X x) (hm:X.mg x=none) (hv:bootBuiltins x=some (.builtin id)) (ha:PA X (e :: es) t) (hn:x≠"__name__":=by decide) (hdb:(x == ("__debug__" : Str))=false:=by decide)
  (he:starEach (e :: es) X.env=(false,eval e X.env) :: starEach es X.env:=by rfl) (hpl:(backTo pos (starEach es X.env)).any (·.1)=false:=by rfl):PE X (.Call (.Name x p) (e :: es) [] pos) (tCB r t):=by
 intro pins s σ H Q I h
 refine wpAny_Call_Name_kw (oZ I hg hm hv ?_ hn hdb)
 exact PyProof.Rows.callWith_builtin1 (thn (ha pos pins s σ H _ I h) fun us s1 ⟨vs,H1,I1,r1,q1⟩=>hc pins s1 σ H1 vs us Q I1 r1 q1) he hpl
theorem aA3 (hc:l5 X (.type T) r) (hg:Gl X x) (hm:X.mg x=none) (hv:bootBuiltins x=some (.type T)) (ha:PA X (e :: es) t) (hn:x≠"__name__":=by decide) (hdb:(x == ("__debug__" : Str))=false:=by decide)
  (he:starEach (e :: es) X.env=(false,eval e X.env) :: starEach es X.env:=by rfl) (hpl:(backTo pos (starEach es X.env)).any (·.1)=false:=by rfl):PE X (.Call (.Name x p) (e :: es) [] pos) (tCB r t):=by
 intro pins s σ H Q I h
 refine wpAny_Call_Name_kw (oZ I hg hm hv ?_ hn hdb)
 exact PyProof.Rows.callWith_type1 (thn (ha pos pins s σ H _ I h) fun us s1 ⟨vs,H1,I1,r1,q1⟩=>hc pins s1 σ H1 vs us Q I1 r1 q1) he hpl
end
end L2
namespace HT
open PySem PyProof.Rows
def lexLt:List Int->List Int->Bool
 | [],[]=>false
 | [],_ :: _=>true
 | _ :: _,[]=>false
 | x :: xs,y :: ys=>if x=y then lexLt xs ys else decide (x < y)
theorem kT (x y:Int) (xs ys:List Int):lexLt (x :: xs) (y :: ys)=if x=y then lexLt xs ys else decide (x < y):=rfl
section
open PySem.SeqAt
open PySem.AutoSeq1 (wpAny_loadPart')
open PySem.MeetsSeq PySem.MeetsSeq2 PySem.MeetsSeq3
end
section
variable {prog:Program} {w:World} {A:Around} {E:Value->Shared->Prop} {s:Shared}
def sIx (n d:Nat):Option Int->Nat
 | none=>d
 | some v=>if v < 0 then (v+(n:Int)).toNat else min v.toNat n
theorem aFn (n d:Nat):sIx n d none=d:=rfl
theorem aAy (n d k:Nat):sIx n d (some (k:Int))=min k n:=by
 show (if (k:Int) < 0 then ((k:Int)+(n:Int)).toNat else min (k:Int).toNat n)=min k n
 rw [if_neg (by omega),Int.toNat_natCast]
end
end HT
namespace L2
open PySem PySem.Spec PyProof.Rows
abbrev TO:=St->Hp->(Option Int->Hp->Prop)->Prop
def PO (X:Cx) (e:Option Expr) (t:TO):Prop :=
 ∀ (pins:List (Addr×Obj)) (s:Shared) (σ:St) (H:Hp) (Q:Option Int->Hp->Prop),Inv X pins σ H s->t σ H Q ->
  wpAny (model X.prog X.w) X.A (evalPart e X.env) (fun u s'=>∃ o H',Inv X pins σ H' s'/\IsPart u o/\Q o H') X.xe s
def aJy:TO:=fun _ H Q=>Q none H
def aQr (t:TE):TO:=fun σ H Q=>t σ H fun x H1=>∃ i,x=.int i/\Q (some i) H1
theorem intsAre_of {ns:List Int}:∀ {us:List Value},Vals (ns.map V.int) us->IntsAre us ns:=by
 induction ns with
 | nil=>intro us r;rw [List.map_nil] at r;cases r;exact .nil
 | cons n ns ih =>
  intro us r
  rw [List.map_cons] at r
  cases r with
  | cons r1 r2 =>
   obtain ⟨t,e⟩:=r1
   subst e
   exact .cons n t (ih r2)
section
variable {X:Cx} {e:Expr} {te:TE} {lo hi:Option Expr} {tl th:TO} {pos p2:Pos}
theorem aI2:PO X none aJy:=by
 intro pins s σ H Q I h
 rw [evalPart_none]
 exact wpAny_pure ⟨none,H,I,.none,h⟩
theorem aJ0 (h:PE X e te):PO X (some e) (aQr te):=by
 intro pins s σ H Q I hw
 rw [evalPart_some]
 refine thn (h pins s σ H _ I hw) fun u s1 ⟨x,H1,I1,r1,q1⟩=>?_
 obtain ⟨i,rfl,q⟩:=q1
 obtain ⟨t,rfl⟩:=r1
 exact ⟨some i,H1,I1,.int i t,q⟩
def SlR (X:Cx) (r:V->Option Int->Option Int->Hp->VK->Prop):Prop :=
 ∀ (pins:List (Addr×Obj)) (s:Shared) (σ:St) (H:Hp) (x:V) (v vl vu:Value) (lo hi:Option Int) (sl:Addr) (Q:VK),Inv X pins σ H s->RelV x v->s.heap.IsSliceOf sl vl vu .none->IsPart vl lo->IsPart vu hi->r x lo hi H Q ->
  ∃ T id,typeLookup (.type T) "__getitem__" = pure (some (.builtin id))/\s.TypeIs v T/\wpAny (model X.prog X.w) X.A (getItem v (.ref sl)) (EP X pins σ Q) X.xe s
def tSl (r:V->Option Int->Option Int->Hp->VK->Prop) (te:TE) (tl th:TO):TE:=fun σ H Q=>te σ H fun x H1=>tl σ H1 fun l H2=>th σ H2 fun u H3=>r x l u H3 Q
theorem aFh {r:V->Option Int->Option Int->Hp->VK->Prop} (hr:SlR X r) (he:PE X e te) (hl:PO X lo tl) (hu:PO X hi th):PE X (.Subscript e (.Slice lo hi none p2) pos) (tSl r te tl th):=by
 intro pins s σ H Q I h
 refine Subscript_ (thn (he pins s σ H _ I h) fun v s1 ⟨x,H1,I1,r1,q1⟩=>?_)
 refine wpAny_Slice (thn (hl pins s1 σ H1 _ I1 q1) fun vl s2 ⟨l,H2,I2,pl,q2⟩=>thn (hu pins s2 σ H2 _ I2 q2) fun vu s3 ⟨u,H3,I3,pu,q3⟩=>?_)
 rw [evalPart_none]
 refine wpAny_pure ?_
 have I4:Inv X pins σ H3 { s3 with heap:=s3.heap.push { cls:=.type "slice",data:=.fields #[vl,vu,.none] } }:=I3.kept (t':=s3.toks) fun b ob q=>Heap.get?_push_of_some _ q
 obtain ⟨T,id,hT,ht,hg⟩:=hr pins { s3 with heap:=s3.heap.push { cls:=.type "slice",data:=.fields #[vl,vu,.none] } } σ H3 x v vl vu l u s3.heap.objs.size Q I4 r1 (Heap.IsSliceOf.new ..) pl pu q3
 show wpAny (model X.prog X.w) X.A (subscriptTail e (.Slice lo hi none p2) v (.ref s3.heap.objs.size)) (EP X pins σ Q) X.xe { s3 with heap:=s3.heap.push { cls:=.type "slice",data:=.fields #[vl,vu,.none] } }
 exact tail_any (ops:=[.ref s3.heap.objs.size,v]) ht hT hg (by with_unfolding_all rfl)
def aLl (xs:List V) (lo hi:Option Int):List V:=(xs.drop (HT.sIx xs.length 0 lo)).take (HT.sIx xs.length xs.length hi - HT.sIx xs.length 0 lo)
theorem xK (xs:List V) (lo hi:Option Int):(aLl xs lo hi).length<=xs.length:=by
 unfold aLl
 rw [List.length_take,List.length_drop]
 omega
end
def ixN (n:Nat) (i:Int):Option Nat:=if 0<=i then (if i < n then some i.toNat else none) else if -(n:Int)<=i then some (i+n).toNat else none
def atI {α:Type} (xs:List α) (i:Int):Option α:=(ixN xs.length i).bind fun j=>xs[j]?
theorem aKw {n:Nat} {i:Int} {j:Nat} (h:ixN n i=some j):seqIndex? i n=some j/\j < n/\-(n:Int)<=i/\i < n:=by
 unfold ixN at h
 by_cases h0:0<=i
 ·rw [if_pos h0] at h
  by_cases h1:i < n
  ·rw [if_pos h1] at h
   have e:i.toNat=j:=Option.some.inj h
   exact ⟨by rw [seqIndex_of h0 h1,e],by omega,by omega,h1⟩
  ·rw [if_neg h1] at h;cases h
 ·rw [if_neg h0] at h
  by_cases h1:-(n:Int)<=i
  ·rw [if_pos h1] at h
   have e:(i+n).toNat=j:=Option.some.inj h
   exact ⟨by rw [seqIndex_neg (by omega) h1,e],by omega,h1,by omega⟩
  ·rw [if_neg h1] at h;cases h
theorem aEn {α:Type} {xs:List α} {i:Int} {v:α} (h:atI xs i=some v):∃ j,seqIndex? i xs.length=some j/\xs[j]? = some v/\j < xs.length/\-(xs.length:Int)<=i/\i < xs.length:=by
 unfold atI at h
 cases e:ixN xs.length i with
 | none=>rw [e] at h;cases h
 | some j =>
  rw [e] at h
  obtain ⟨h1,h2,h3,h4⟩:=aKw e
  exact ⟨j,h1,h,h2,h3,h4⟩
theorem nZ {α:Type} {xs:List α} {j:Nat} {v:α} (h:xs[j]? = some v):atI xs (j:Int)=some v:=by
 have hj:j < xs.length:=(List.getElem?_eq_some_iff.mp h).1
 have e:ixN xs.length (j:Int)=some j:=by
  unfold ixN
  rw [if_pos (by omega),if_pos (by omega)];simp
 unfold atI;rw [e];exact h
def aB4 (b:Expr):Prop:=∀ o i,subscripted b false o i=operate [o,i] (getItem o i)
def IxR (X:Cx) (r:R2):Prop :=
 ∀ (value slice:Expr) (pins:List (Addr×Obj)) (s:Shared) (σ:St) (H:Hp) (x y:V) (v u:Value) (Q:VK),Inv X pins σ H s->RelV x v->RelV y u->r x y H Q ->
  subscripted slice false v u=operate [v,u] (getItem v u)->wpAny (model X.prog X.w) X.A (subscriptTail value slice v u) (EP X pins σ Q) X.xe s
def MtR (X:Cx) (id:String) (r:V->List V->Hp->VK->Prop):Prop :=
 ∀ (pins:List (Addr×Obj)) (s:Shared) (σ:St) (H:Hp) (x:V) (xs:List V) (v:Value) (us:List Value) (Q:VK),Inv X pins σ H s->RelV x v->Vals xs us->r x xs H Q ->
  wpAny (model X.prog X.w) X.A (call (.builtin id) (v :: us)) (EP X pins σ Q) X.xe s
section
variable {X:Cx} {a b:Expr} {ta tb:TE} {pos:Pos}
theorem IxR.or {r r':R2} (h:IxR X r) (h':IxR X r'):IxR X (fun x y H Q=>r x y H Q\/r' x y H Q):=by
 intro value slice pins s σ H x y v u Q I rx ry q hs
 rcases q with q | q
 ·exact h value slice pins s σ H x y v u Q I rx ry q hs
 ·exact h' value slice pins s σ H x y v u Q I rx ry q hs
theorem aPd {r:R2} (hr:IxR X r) (ha:PE X a ta) (hb:PE X b tb) (hs:aB4 b):PE X (.Subscript a b pos) (tOp r ta tb):=by
 intro pins s σ H Q I h
 exact Subscript_ (aQw ha hb I h fun v u s2 x y H2 I2 rx ry q=>hr a b pins s2 σ H2 x y v u Q I2 rx ry q (hs _ _))
def aR4 (K:PySem.W.Frag):R2:=fun x y H Q=>∃ p xs i v,x=.ref p/\y=.int i/\SqL K H p xs/\atI xs i=some v/\Q v H
def aRu (K:PySem.W.Frag):R2:=fun x y H Q=>∃ p xs i v,x=.ref p/\y=.int i/\SqT K H p xs/\atI xs i=some v/\Q v H
theorem ix_list:IxR X (aR4 X.K):=by
 intro value slice pins s σ H x y v u Q I rx ry h hs
 obtain ⟨p,xs,i,z,rfl,rfl,hq,he,q⟩:=h
 cases rx
 obtain ⟨t,rfl⟩:=ry
 obtain ⟨its,r,pl,hz⟩:=I.list hq
 obtain ⟨j,h1,h2,h3,h4,h5⟩:=aEn he
 obtain ⟨w,ew,rw'⟩:=r.get h2
 have hl:=r.length
 have hn:=aDm
 have fin:EP X pins σ Q w s:=⟨z,H,I,rw',q⟩
 by_cases h0:0<=i
 ·have hj:i.toNat=j:=by
   rw [seqIndex_of h0 h5] at h1
   exact Option.some.inj h1
  exact item_listR pl.isList h0 (by omega) (by rw [hj];simpa using ew) fin hs
 ·have hj:(i+(its.toArray.size:Int)).toNat=j:=by
   rw [seqIndex_neg (by omega) h4] at h1
   rw [List.size_toArray,<- hl]
   exact Option.some.inj h1
  exact subscriptTail_builtinR (x:=w) pl.isList.typeIs slot_list_getitem.lookup
   (wpAny_getItem_list_neg (Q:=fun r s'=>r=w/\EP X pins σ Q r s') pl.isList (by omega) (by rw [List.size_toArray]<;>omega) (by omega) (by rw [hj];simpa using ew) ⟨rfl,fin⟩) hs
theorem aPb:IxR X (aRu X.K):=by
 intro value slice pins s σ H x y v u Q I rx ry h hs
 obtain ⟨p,xs,i,z,rfl,rfl,hq,he,q⟩:=h
 cases rx
 obtain ⟨t,rfl⟩:=ry
 obtain ⟨its,r,pl,hz⟩:=I.tuple hq
 obtain ⟨j,h1,h2,h3,h4,h5⟩:=aEn he
 obtain ⟨w,ew,rw'⟩:=r.get h2
 have hl:=r.length
 have hn:=aDm
 have fin:EP X pins σ Q w s:=⟨z,H,I,rw',q⟩
 exact subscriptTail_builtinR (x:=w) pl.typeIs slot_tuple_getitem.lookup
  (getItem_tuple (j:=j) (Q:=fun r s'=>r=w/\EP X pins σ Q r s') pl (by omega) (by omega) (by rw [List.size_toArray,<- hl];exact h1) (by simpa using ew) ⟨rfl,fin⟩) hs
theorem uD (lo hi:Option Int) (n:Nat):(sliceBounds lo hi none n).1=((HT.sIx n 0 lo:Nat):Int)/\(sliceBounds lo hi none n).2.1=((HT.sIx n n hi:Nat):Int)/\(sliceBounds lo hi none n).2.2=1:=by
 refine ⟨?_,?_,rfl⟩
 ·cases lo with
  | none=>simp [sliceBounds,HT.sIx]
  | some i =>
   simp only [sliceBounds,HT.sIx,Option.getD_none,show (1:Int) > 0 by decide,if_true]
   by_cases h:i < 0
   ·simp only [h,if_true]<;>omega
   ·simp only [h,if_false]<;>omega
 ·cases hi with
  | none=>simp [sliceBounds,HT.sIx]
  | some i =>
   simp only [sliceBounds,HT.sIx,Option.getD_none,show (1:Int) > 0 by decide,if_true]
   by_cases h:i < 0
   ·simp only [h,if_true]<;>omega
   ·simp only [h,if_false]<;>omega
theorem sP (its:List Value) (lo hi:Option Int):slicePick its.toArray lo hi none=((its.drop (HT.sIx its.length 0 lo)).take (HT.sIx its.length its.length hi - HT.sIx its.length 0 lo)).toArray:=by
 obtain ⟨h1,h2,h3⟩:=uD lo hi its.toArray.size
 unfold slicePick
 rw [h1,h2,h3]
 simp only [sliceRange_one,pick_run,List.size_toArray]<;>rfl
def aR9 (K:PySem.W.Frag):V->Option Int->Option Int->Hp->VK->Prop:=fun x lo hi H Q=>∃ a xs,x=.ref a/\SqL K H a xs/\∀ p,H p=none->Q (.ref p) (upd H p (.lst (aLl xs lo hi)))
theorem aI9:SlR X (aR9 X.K):=by
 intro pins s σ H x v vl vu lo hi sl Q I rx hs pl pu h
 obtain ⟨a,xs,rfl,hx,q⟩:=h
 cases rx
 obtain ⟨its,r,ht,hz⟩:=I.list hx
 have hlen:=r.length
 refine ⟨"list",_,slot_list_getitem.lookup,ht.isList.typeIs,?_⟩
 refine wpAny_getItem_list_slice ht.isList hs pl pu .none (by simp) ?_ (by rw [List.size_toArray]<;>omega)
 rw [sP,<- hlen]
 refine ⟨.ref s.heap.objs.size,_,I.laid (t':=s.toks) (o:=.lst (aLl xs lo hi)) (fun b ob q=>Heap.get?_push_of_some _ q) (Nat.le_refl _) ?_,rfl,q _ (I.hok.fresh (Nat.le_refl _))⟩
 exact ⟨Nat.le_trans (xK xs lo hi) hz,_,0,(r.drop (HT.sIx xs.length 0 lo)).take (HT.sIx xs.length xs.length hi - HT.sIx xs.length 0 lo),Heap.get?_push_size _ rfl⟩
theorem bV:l5 X (.builtin "len") (fun xs H Q=>∃ p ys,xs=[.ref p]/\(SqL X.K H p ys\/SqT X.K H p ys)/\Q (.int ys.length) H):=by
 intro pins s σ H xs us Q I r h
 obtain ⟨p,ys,rfl,hq,q⟩:=h
 obtain ⟨u,rfl,rx⟩:=vals1 r
 cases rx
 have hn:=aDm
 rcases hq with hq | hq
 ·obtain ⟨its,r',pl,hz⟩:=I.list hq
  have hlen:=r'.length
  exact Calls.call_len_list pl.isList (by simp only [List.size_toArray]<;>omega) ⟨.int ys.length,H,I.tok _,⟨s.toks+1,by rw [List.size_toArray,hlen]⟩,q⟩
 ·obtain ⟨its,r',pl,hz⟩:=I.tuple hq
  have hlen:=r'.length
  exact len_tuple pl (by simp only [List.size_toArray]<;>omega) ⟨.int ys.length,H,I.tok _,⟨s.toks+1,by rw [List.size_toArray,hlen]⟩,q⟩
theorem tM:l5 X (.type "list") (fun xs H Q=>∃ p ys,xs=[.ref p]/\(SqL X.K H p ys\/SqT X.K H p ys)/\∀ l,H l=none->Q (.ref l) (upd H l (.lst ys))):=by
 intro pins s σ H xs us Q I r h
 obtain ⟨p,ys,rfl,hq,q⟩:=h
 obtain ⟨u,rfl,rx⟩:=vals1 r
 cases rx
 have fin:∀ (its:List Value),Vals ys its->ys.length<=sizeLine->∀ (h':Heap) (c':Nat),(∀ b o',s.heap.get? b=some o'->h'.get? b=some o') ->
   h'.get? s.heap.objs.size=some { cls:=.type "list",dict:=none,data:=.seq its.toArray c',slots:=#[] }->EP X pins σ Q (.ref s.heap.objs.size) { s with heap:=h' }:=fun its r' hz h' c' kp e =>
  ⟨.ref s.heap.objs.size,_,I.laid (t':=s.toks) kp (Nat.le_refl _) (show ObjOk X.prog X.w _ h' _ (.lst ys) from ⟨hz,its,c',r',e⟩),rfl,q _ (I.hok.fresh (Nat.le_refl _))⟩
 rcases hq with hq | hq
 ·obtain ⟨its,r',pl,hz⟩:=I.list hq
  have hlen:=r'.length
  obtain ⟨o,ho,hc,n,hd⟩:=pl.isList
  exact call_list_seq p (.inl rfl) ho hc hd (fun h' c' kp e=>fin its r' hz h' c' kp e) (by simp only [List.size_toArray]<;>omega)
 ·obtain ⟨its,r',pl,hz⟩:=I.tuple hq
  have hlen:=r'.length
  obtain ⟨o,ho,hc,n,hd⟩:=pl
  exact call_list_seq p (.inr rfl) ho hc hd (fun h' c' kp e=>fin its r' hz h' c' kp e) (by simp only [List.size_toArray]<;>omega)
def tyV (K:PySem.W.Frag) (T:String) (x:V) (H:Hp):Prop:=match x with
 | .str _=>T = "str"
 | .int _=>T = "int"
 | .ref p=>(T = "list"/\∃ xs,SqL K H p xs)\/(T = "tuple"/\∃ o,K.lookup p=some o/\o.cls=.type "tuple"/\o.dict=none) \/
   (T = "dict"/\((∃ kvs,H p=some (.dK kvs))\/∃ kvs,H p=some (.dT kvs)))\/(T = "set"/\∃ S n,H p=some (.set S n))
 | _=>False
theorem aIf {pins:List (Addr×Obj)} {σ:St} {H:Hp} {s:Shared} {T:String} {x:V} {v:Value} (I:Inv X pins σ H s) (r:RelV x v) (ty:tyV X.K T x H) :
  s.TypeIs v T/\∀ a,v=.ref a->∃ ob,s.heap.get? a=some ob/\ob.dict=none:=by
 cases x with
 | str z =>
  obtain ⟨t,rfl⟩:=r
  cases (show T = "str" from ty)
  exact ⟨typeIs_str s z t,fun _ e=>nomatch e⟩
 | int i =>
  obtain ⟨t,rfl⟩:=r
  cases (show T = "int" from ty)
  exact ⟨typeIs_int s i t,fun _ e=>nomatch e⟩
 | ref p =>
  cases r
  rcases ty with ⟨rfl,xs,hq⟩ | ⟨rfl,o,hk,hc,hd⟩ | ⟨rfl,hk⟩ | ⟨rfl,S,n,hk⟩
  ·obtain ⟨its,_,pl,_⟩:=I.list hq
   refine ⟨pl.isList.typeIs,fun a e=>?_⟩
   cases e
   obtain ⟨o,n,e,c,hd,_⟩:=pl
   exact ⟨o,e,hd⟩
  ·refine ⟨⟨o,I.kIn p o hk,hc⟩,fun a e=>?_⟩
   cases e
   exact ⟨o,I.kIn _ o hk,hd⟩
  ·have z:∃ o,s.heap.get? p=some o/\o.ExactDict:=by
    rcases hk with ⟨kvs,hk⟩ | ⟨kvs,hk⟩
    ·obtain ⟨_,_,_,_,o,_,_,e,ex,_⟩:=I.hok p _ hk
     exact ⟨o,e,ex⟩
    ·obtain ⟨_,_,_,_,o,_,_,e,ex,_⟩:=I.hok p _ hk
     exact ⟨o,e,ex⟩
   obtain ⟨o,e,ex⟩:=z
   refine ⟨⟨o,e,ex.1⟩,fun a e2=>?_⟩
   cases e2
   exact ⟨o,e,ex.2.1⟩
  ·obtain ⟨o,_,_,_,e,ex,_⟩:=I.hok p _ hk
   refine ⟨⟨o,e,ex.1⟩,fun a e2=>?_⟩
   cases e2
   exact ⟨o,e,ex.2.1⟩
 | _=>exact False.elim ty
def aRw (K:PySem.W.Frag) (T:String) (r:V->List V->Hp->VK->Prop) (to:TE):TE:=fun σ H Q=>to σ H fun x H1=>tyV K T x H1/\r x [] H1 Q
def tBM (K:PySem.W.Frag) (T:String) (r:V->List V->Hp->VK->Prop) (to:TE) (t:TA):TE:=fun σ H Q=>to σ H fun x H1=>tyV K T x H1/\t σ H1 fun xs H2=>r x xs H2 Q
variable {o e:Expr} {es:List Expr} {to:TE} {t:TA} {name:Str} {apos cpos:Pos} {T id:String} {r:V->List V->Hp->VK->Prop}
theorem aN8 (pa:PlainAttrs T) (slot:Slot T name id) (hty:typeOf (.builtin id)=pure (.type "method_descriptor")) (hm:MtR X id r) (ho:PE X o to)
  (hbase:attributeBase o name X.env (eval o X.env)=eval o X.env:=by rfl) (hline:(apos.endLine == cpos.line)=true:=by rfl):PE X (.Call (.Attribute o name apos) [] [] cpos) (aRw X.K T r to):=by
 intro pins s σ H Q I h
 refine wpAny_Call_method0_late hbase hline (thn (ho pins s σ H _ I h) fun v s1 ⟨x,H1,I1,r1,ty,q1⟩=>?_)
 obtain ⟨h1,h2⟩:=aIf I1 r1 ty
 exact ⟨T,id,pa,slot,hty,h1,h2,Calls.callWith_builtin rfl (PySem.evalArgs_none (hm pins s1 σ H1 x [] v [] Q I1 r1 .nil q1))⟩
theorem aCe (pa:PlainAttrs T) (slot:Slot T name id) (hty:typeOf (.builtin id)=pure (.type "method_descriptor")) (hm:MtR X id r) (ho:PE X o to) (ha:PA X (e :: es) t)
  (hbase:attributeBase o name X.env (eval o X.env)=eval o X.env:=by rfl)
  (hfew:((backTo cpos (starEach (e :: es) X.env)).all (fun x=>!x.1) && (backToKw cpos (keywordEach [] X.env)).all (fun x=>x.1.isSome)
   && decide ((e :: es).length+([]:List Keyword).length+(if ([]:List Keyword).isEmpty then 0 else 1) < 30))=true:=by rfl)
  (hline:(apos.endLine == cpos.line)=true:=by rfl) (hs:starEach (e :: es) X.env=(false,eval e X.env) :: starEach es X.env:=by rfl) (hplain:(backTo cpos (starEach es X.env)).any (·.1)=false:=by rfl) :
  PE X (.Call (.Attribute o name apos) (e :: es) [] cpos) (tBM X.K T r to t):=by
 intro pins s σ H Q I h
 refine wpAny_Call_method_late hbase hfew hline rfl (thn (ho pins s σ H _ I h) fun v s1 ⟨x,H1,I1,r1,ty,q1⟩=>?_)
 obtain ⟨h1,h2⟩:=aIf I1 r1 ty
 refine ⟨T,id,pa,slot,hty,h1,h2,?_⟩
 have hA:=ha cpos pins s1 σ H1 _ I1 q1
 rw [hs] at hA ⊢
 refine Calls.callWith_builtin (by show (false || (backTo cpos (starEach es X.env)).any (·.1))=false;rw [hplain]<;>rfl) (Calls.evalArgs_plain ?_)
 exact thn hA fun us s2 ⟨vs,H2,I2,r2,q2⟩=>hm pins s2 σ H2 x vs v us Q I2 r1 r2 q2
end
def MtM (X:Cx) (id:String) (r:V->List V->Hp->VK->Prop):Prop :=
 ∀ (pins:List (Addr×Obj)) (s:Shared) (σ:St) (H:Hp) (x:V) (xs:List V) (v:Value) (us:List Value) (Q:VK),Inv X pins σ H s->RelV x v->Vals xs us->r x xs H Q ->
  wpAny (model X.prog X.w) X.A (call (.builtin id) (v :: us)) (EP X pins σ Q) X.xe s
theorem Vals.one:∀ {x:V} {us:List Value},Vals [x] us->∃ u,us=[u]/\RelV x u
 | _,_,.cons r .nil=>⟨_,rfl,r⟩
theorem Vals.zero:∀ {us:List Value},Vals [] us->us=[]
 | _,.nil=>rfl
section
variable {X:Cx} {pins:List (Addr×Obj)} {σ:St} {H:Hp} {s:Shared} {l b:Addr} {xs ys zs:List V}
theorem Inv.lset {its its':List Value} {n:Nat} {f:Array Value->Array Value} {t':Nat} (I:Inv X pins σ H s) (hH:H l=some (.lst xs))
  (e:s.heap.get? l=some { cls:=.type "list",data:=.seq its.toArray n }) (hf:f its.toArray=its'.toArray) (hv:Vals ys its') (hz:ys.length<=sizeLine) :
  Inv X pins σ (upd H l (.lst ys)) { s with heap:=s.heap.update l (Obj.mapSeq f),toks:=t' }:=by
 have q:=PySem.IsL.update e f
 rw [hf] at q
 refine I.write (x:=l) (e:=l) (by rw [hH];exact trivial) (.inl rfl) (fun b' u hb hu=>(Heap.get?_update_other s.heap (Obj.mapSeq f) (Ne.symm hb)).trans hu) ⟨_,q⟩ ?_
 exact ⟨hz,its',_,hv,q⟩
theorem Inv.lnew {its:List Value} {t':Nat} (I:Inv X pins σ H s) (hv:Vals ys its) (hz:ys.length<=sizeLine) :
  Inv X pins σ (upd H s.heap.objs.size (.lst ys)) { s with heap:=s.heap.push { cls:=.type "list",data:=.seq its.toArray },toks:=t' } :=
 I.laid (fun _ _ q=>Heap.get?_push_of_some _ q) (Nat.le_refl _) ⟨hz,its,0,hv,Heap.get?_push_size _ rfl⟩
theorem Inv.fresh (I:Inv X pins σ H s):H s.heap.objs.size=none:=I.hok.fresh (Nat.le_refl _)
theorem Inv.lstM (I:Inv X pins σ H s) (hH:H l=some (.lst xs)):xs.length<=sizeLine/\∃ (its:List Value) (n:Nat),Vals xs its/\xs.length=its.length/\s.heap.get? l=some { cls:=.type "list",data:=.seq its.toArray n }:=by
 obtain ⟨z,its,n,r,e⟩:=I.hok l _ hH
 exact ⟨z,its,n,r,r.length,e⟩
theorem aG5 {n:Nat} (h:n<=sizeLine):Builtin.List.listTooLong n=false:=by
 unfold Builtin.List.listTooLong
 exact decide_eq_false (by omega)
end
section
variable {X:Cx}
def vW:V->List V->Hp->VK->Prop:=fun x vs H Q=>∃ l xs y,x=.ref l/\vs=[y]/\H l=some (.lst xs)/\xs.length < sizeLine/\Q .non (upd H l (.lst (xs++[y])))
theorem oR:MtM X "list.append" vW:=by
 intro pins s σ H x vs v us Q I rx rv h
 obtain ⟨l,xs,y,rfl,rfl,hH,hz,q⟩:=h
 cases rx
 obtain ⟨u,rfl,ru⟩:=rv.one
 obtain ⟨z,its,n,r,hl,e⟩:=I.lstM hH
 refine call_meets F.slot_list_append ⟨_,e,rfl⟩ F.entry_list_append (F.args_list_append_2 _ _) (PySem.list_append l its.toArray n u (by rw [List.size_toArray];omega)) ⟨e,?_⟩
 refine ⟨.non,_,I.lset (its':=its++[u]) hH e (by simp) (r.append (.cons ru .nil)) ?_,rfl,q⟩
 rw [List.length_append,List.length_singleton]
 omega
def aA1:V->List V->Hp->VK->Prop:=fun x vs H Q=>∃ l b xs zs,x=.ref l/\vs=[.ref b]/\H l=some (.lst xs)/\H b=some (.lst zs)/\xs.length+zs.length<=sizeLine/\Q .non (upd H l (.lst (xs++zs)))
theorem tW:MtM X "list.extend" aA1:=by
 intro pins s σ H x vs v us Q I rx rv h
 obtain ⟨l,b,xs,zs,rfl,rfl,hH,hB,hz,q⟩:=h
 cases rx
 obtain ⟨u,rfl,ru⟩:=rv.one
 cases ru
 obtain ⟨z,its,n,r,hl,e⟩:=I.lstM hH
 obtain ⟨z2,its2,n2,r2,hl2,e2⟩:=I.lstM hB
 have hsz:its.toArray.size+its2.toArray.size<=sizeLine:=by rw [List.size_toArray,List.size_toArray];omega
 have hlong:¬ (!its.toArray.isEmpty && Builtin.List.listTooLong (its.toArray.size+its2.toArray.size))=true:=by
  rw [aG5 hsz,Bool.and_false]
  exact Bool.false_ne_true
 refine call_meets F.slot_list_extend ⟨_,e,rfl⟩ F.entry_list_extend (F.args_list_extend_2 _ _)
  (AutoSeq1.list_extend_list_list_0 l its.toArray n b its2.toArray n2 hlong (by rw [List.size_toArray];omega) (by omega)) ⟨e,e2,?_⟩
 refine ⟨.non,_,I.lset (its':=its++its2) hH e (by simp) (r.append r2) ?_,rfl,q⟩
 rw [List.length_append]
 omega
def aOn:V->List V->Hp->VK->Prop:=fun x vs H Q=>∃ l xs,x=.ref l/\vs=[]/\H l=some (.lst xs)/\Q .non (upd H l (.lst []))
theorem xZ:MtM X "list.clear" aOn:=by
 intro pins s σ H x vs v us Q I rx rv h
 obtain ⟨l,xs,rfl,rfl,hH,q⟩:=h
 cases rx
 have hus:=rv.zero
 subst hus
 obtain ⟨z,its,n,r,hl,e⟩:=I.lstM hH
 refine call_meets F.slot_list_clear ⟨_,e,rfl⟩ F.entry_list_clear (F.args_list_clear_1 _) (AutoSeq1.list_clear_list_0 l its.toArray n (by rw [List.size_toArray];omega)) ⟨e,?_⟩
 exact ⟨.non,_,I.lset (its':=[]) (ys:=[]) hH e rfl .nil (Nat.zero_le _),rfl,q⟩
end
section
variable {prog:Program} {w:World} {A:Around} {E:Value->Shared->Prop} {s:Shared}
set_option maxRecDepth 100000 in
end
section
variable {X:Cx}
end
section
variable {κ:Type} [DecidableEq κ]
def tH (kvs:List (κ×V)) (k:κ):Option V:=(kvs.find? fun kv=>decide (kv.1=k)).map (·.2)
def putK (kvs:List (κ×V)) (k:κ) (v:V):List (κ×V) :=
 if (kvs.any fun kv=>decide (kv.1=k))=true then kvs.map (fun kv=>if kv.1=k then (kv.1,v) else kv) else kvs++[(k,v)]
theorem lU {p:κ×V} {r:List (κ×V)} {k:κ} (e:p.1=k):tH (p :: r) k=some p.2:=by simp [tH,List.find?_cons,e]
theorem lY {p:κ×V} {r:List (κ×V)} {k:κ} (e:¬ p.1=k):tH (p :: r) k=tH r k:=by simp [tH,List.find?_cons,e]
theorem nY (k:κ):∀ kvs:List (κ×V),(kvs.any fun kv=>decide (kv.1=k))=(tH kvs k).isSome
 | []=>rfl
 | p :: r=>by
  rw [List.any_cons]
  by_cases e:p.1=k
  ·simp only [lU e,decide_eq_true e,Bool.true_or,Option.isSome_some]
  ·rw [lY e,decide_eq_false e,Bool.false_or];exact nY k r
theorem pH (kvs:List (κ×V)) (k:κ) (v:V):(putK kvs k v).length<=kvs.length+1:=by
 unfold putK
 split
 ·rw [List.length_map];omega
 ·rw [List.length_append,List.length_cons,List.length_nil];omega
theorem RelO.isSome_eq {o:Option V} {u:Option Value} (r:RelO o u):o.isSome=u.isSome:=by
 cases o with
 | none=>cases u with
  | none=>rfl
  | some _=>exact (show False from r).elim
 | some _=>cases u with
  | none=>exact (show False from r).elim
  | some _=>rfl
theorem KV.val {kvs:List (κ×V)} {vs:List (κ×Value)} (r:KV kvs vs) (k:κ):RelO (tH kvs k) (valueAt vs k):=by
 unfold KV at r
 induction r with
 | nil=>exact True.intro
 | @cons p q ps qs h t ih =>
  obtain ⟨h1,h2⟩:=h
  by_cases e:p.1=k
  ·have e':q.1=k:=h1.symm.trans e
   have b:valueAt (q :: qs) k=some q.2:=by simp [valueAt,List.find?_cons,e']
   rw [lU e,b];exact h2
  ·have e':¬ q.1=k:=fun z=>e (h1.trans z)
   have b:valueAt (q :: qs) k=valueAt qs k:=by simp [valueAt,List.find?_cons,e']
   rw [lY e,b];exact ih
theorem KV.any {kvs:List (κ×V)} {vs:List (κ×Value)} (r:KV kvs vs) (k:κ):(kvs.any fun kv=>decide (kv.1=k))=vs.any fun kv=>decide (kv.1=k):=by
 unfold KV at r
 induction r with
 | nil=>rfl
 | cons h t ih=>rw [List.any_cons,List.any_cons,ih,h.1]
theorem KV.repl {kvs:List (κ×V)} {vs:List (κ×Value)} (r:KV kvs vs) (k:κ) {y:V} {u:Value} (ry:RelV y u) :
  KV (kvs.map fun kv=>if kv.1=k then (kv.1,y) else kv) (vs.map fun kv=>if kv.1=k then (kv.1,u) else kv):=by
 unfold KV at r ⊢
 induction r with
 | nil=>exact .nil
 | @cons p q ps qs h t ih =>
  rw [List.map_cons,List.map_cons]
  refine .cons ?_ ih
  obtain ⟨h1,h2⟩:=h
  by_cases e:p.1=k
  ·rw [if_pos e,if_pos (h1.symm.trans e)];exact ⟨h1,ry⟩
  ·rw [if_neg e,if_neg (fun z=>e (h1.trans z))];exact ⟨h1,h2⟩
theorem KV.put {kvs:List (κ×V)} {vs:List (κ×Value)} (r:KV kvs vs) (k:κ) {y:V} {u:Value} (ry:RelV y u):KV (putK kvs k y) (stored vs k u):=by
 unfold putK stored
 rw [r.any k]
 by_cases e:(vs.any fun kv=>decide (kv.1=k))=true
 ·rw [if_pos e,if_pos e];exact r.repl k ry
 ·rw [if_neg e,if_neg e];exact Paired.snoc r ⟨rfl,ry⟩
theorem KV.length {kvs:List (κ×V)} {vs:List (κ×Value)} (r:KV kvs vs):kvs.length=vs.length:=Paired.length r
end
theorem aG7 {P:Program} {w:World} {k:Key} {u:Value} (r:RelV (kV k) u):(gC P w).is k u=true:=by
 cases k with
 | inl i=>obtain ⟨t,e⟩:=(show ∃ t,u=Value.int i t from r);subst e;exact xC P w i t
 | inr x=>obtain ⟨t,e⟩:=(show ∃ t,u=Value.str x t from r);subst e;exact xB P w x t
theorem vC {P:Program} {w:World}:∀ {ks:List Key} {us:List Value},Vals (ks.map kV) us->ItemsAre (gC P w) ks us
 | [],_,r=>by rw [List.map_nil] at r;cases r;exact .nil
 | k :: ks,_,r=>by
  rw [List.map_cons] at r
  cases r with
  | cons h t=>exact .cons (aG7 h) (vC t)
abbrev KT (H:Hp):List (List Key×V)->List (List Key×Addr×Value)->Prop:=Paired fun p q=>p.1=q.1/\H q.2.1=some (.tup (p.1.map kV))/\RelV p.2 q.2.2
theorem KT.val {H:Hp} {kvs:List (List Key×V)} {xs:List (List Key×Addr×Value)} (r:KT H kvs xs) (k:List Key):RelO (tH kvs k) ((atKey xs k).map (·.2)):=by
 induction r with
 | nil=>exact True.intro
 | @cons p q ps qs h t ih =>
  obtain ⟨h1,_,h2⟩:=h
  by_cases e:p.1=k
  ·have e':q.1=k:=h1.symm.trans e
   have b:atKey (q :: qs) k=some q.2:=by simp [atKey,List.find?_cons,e']
   rw [lU e,b];exact h2
  ·have e':¬ q.1=k:=fun z=>e (h1.trans z)
   have b:atKey (q :: qs) k=atKey qs k:=by simp [atKey,List.find?_cons,e']
   rw [lY e,b];exact ih
theorem KT.repl {H:Hp} {kvs:List (List Key×V)} {xs:List (List Key×Addr×Value)} (r:KT H kvs xs) (k:List Key) {y:V} {u:Value} (ry:RelV y u) :
  KT H (kvs.map fun kv=>if kv.1=k then (kv.1,y) else kv) (xs.map (putAt k u)):=by
 induction r with
 | nil=>exact .nil
 | @cons p q ps qs h t ih =>
  rw [List.map_cons,List.map_cons]
  refine .cons ?_ ih
  obtain ⟨h1,h2,h3⟩:=h
  unfold putAt
  by_cases e:p.1=k
  ·rw [if_pos e,if_pos (h1.symm.trans e)];exact ⟨h1,h2,ry⟩
  ·rw [if_neg e,if_neg (fun z=>e (h1.trans z))];exact ⟨h1,h2,h3⟩
theorem KT.put {H:Hp} {kvs:List (List Key×V)} {xs:List (List Key×Addr×Value)} (r:KT H kvs xs) (k:List Key) {b:Addr} {y:V} {u:Value} (hb:H b=some (.tup (k.map kV))) (ry:RelV y u) :
  KT H (putK kvs k y) (storedH xs k b u):=by
 have e:(kvs.any fun kv=>decide (kv.1=k))=(atKey xs k).isSome:=by
  rw [nY,(r.val k).isSome_eq,Option.isSome_map]
 unfold putK storedH
 rw [e]
 by_cases q:(atKey xs k).isSome=true
 ·rw [if_pos q,if_pos q];exact r.repl k ry
 ·rw [if_neg q,if_neg q];exact Paired.snoc r ⟨rfl,hb,ry⟩
theorem KT.keeps {H H':Hp} {kvs:List (List Key×V)} {xs:List (List Key×Addr×Value)} (r:KT H kvs xs) (ht:∀ b ys,H b=some (.tup ys)->H' b=some (.tup ys)):KT H' kvs xs :=
 Paired.mapP r fun _ _ z=>⟨z.1,ht _ _ z.2.1,z.2.2⟩
section
variable {P:Program} {w:World} {H:Hp} {h:Heap} {a:Addr}
theorem aPa {u:HO} (ok:HOk P w H h) (e:Rd H a u):ObjOk P w H h a u:=e.ok ok
theorem aBj {kvs:List (Key×V)} (ok:HOk P w H h) (e:Rd H a (.dK kvs)):kvs.length<=sizeLine/\(a == sysModules)=false/\∃ vs,KV kvs vs/\h.DictOf (gC P w) a vs :=
 show ObjOk P w H h a (.dK kvs) from aPa ok e
theorem aP8 {kvs:List (Key×V)} (ok:HOk P w H h) (e:H a=some (.dK kvs)):kvs.length<=sizeLine/\(a == sysModules)=false/\∃ vs,KV kvs vs/\h.DictOf (gC P w) a vs:=aBj ok (.inl e)
theorem y8 {ks:List Key} (ok:HOk P w H h) (e:H a=some (.tup (ks.map kV))):(tupleKind (gC P w)).is h ks a:=by
 obtain ⟨_,its,r,o,h1,h2,n,h3⟩:=(show ObjOk P w H h a (.tup (ks.map kV)) from ok a _ e)
 exact ⟨o,its.toArray,n,h1,h2,h3,by simpa using vC r⟩
theorem aGv {kvs:List (List Key×V)} (ok:HOk P w H h) (e:Rd H a (.dT kvs)):kvs.length<=sizeLine/\(a == sysModules)=false /\
  ∃ xs,KT H kvs xs/\h.DictOfH (tupleKind (gC P w)) a xs:=by
 obtain ⟨z,y,xs,r,o,es,ep,h1,h2,h3,h4,h5⟩:=(show ObjOk P w H h a (.dT kvs) from aPa ok e)
 refine ⟨z,y,xs,r,o,es,ep,h1,h2,h3,h4,fun x hx=>?_,h5⟩
 have all:∀ {l:List (List Key×V)} {m:List (List Key×Addr×Value)},KT H l m->∀ x∈m,(tupleKind (gC P w)).is h x.1 x.2.1:=by
  intro l m q
  induction q with
  | nil=>intro x hx;exact nomatch hx
  | @cons p q ps qs hq t ih =>
   intro x hx
   rcases List.mem_cons.mp hx with e | hx
   ·subst e
    exact y8 ok (by rw [<- hq.1];exact hq.2.1)
   ·exact ih x hx
 exact all r x hx
theorem aP4 {kvs:List (List Key×V)} (ok:HOk P w H h) (e:H a=some (.dT kvs)):kvs.length<=sizeLine/\(a == sysModules)=false /\
  ∃ xs,KT H kvs xs/\h.DictOfH (tupleKind (gC P w)) a xs:=aGv ok (.inl e)
end
def DGet (H:Hp) (a:Addr) (y:V) (r:Option V):Prop :=
 (∃ kvs k,Rd H a (.dK kvs)/\y=kV k/\r=tH kvs k)\/∃ kvs k b,Rd H a (.dT kvs)/\y=.ref b/\H b=some (.tup (k.map kV))/\r=tH kvs k
def DPut (H:Hp) (a:Addr) (y v:V) (H':Hp):Prop :=
 (∃ kvs k,H a=some (.dK kvs)/\y=kV k/\kvs.length < sizeLine/\H'=upd H a (.dK (putK kvs k v))) \/
 ∃ kvs k b,H a=some (.dT kvs)/\y=.ref b/\H b=some (.tup (k.map kV))/\kvs.length < sizeLine/\H'=upd H a (.dT (putK kvs k v))
theorem DGet.k {H:Hp} {a:Addr} {kvs:List (Key×V)} {k:Key} (e:H a=some (.dK kvs)):DGet H a (kV k) (tH kvs k):=.inl ⟨kvs,k,.inl e,rfl,rfl⟩
theorem DGet.t {H:Hp} {a b:Addr} {kvs:List (List Key×V)} {k:List Key} (e:H a=some (.dT kvs)) (eb:H b=some (.tup (k.map kV))):DGet H a (.ref b) (tH kvs k):=.inr ⟨kvs,k,b,.inl e,rfl,eb,rfl⟩
theorem DPut.k {H:Hp} {a:Addr} {kvs:List (Key×V)} {k:Key} {v:V} (e:H a=some (.dK kvs)) (hl:kvs.length < sizeLine):DPut H a (kV k) v (upd H a (.dK (putK kvs k v))):=.inl ⟨kvs,k,e,rfl,hl,rfl⟩
theorem DPut.t {H:Hp} {a b:Addr} {kvs:List (List Key×V)} {k:List Key} {v:V} (e:H a=some (.dT kvs)) (eb:H b=some (.tup (k.map kV))) (hl:kvs.length < sizeLine) :
  DPut H a (.ref b) v (upd H a (.dT (putK kvs k v))):=.inr ⟨kvs,k,b,e,rfl,eb,hl,rfl⟩
section
variable {X:Cx} {pins:List (Addr×Obj)} {σ:St} {H:Hp} {s:Shared} {a:Addr} {y v:V} {u r:Value} {o:Option V} {A:Around} {E:Value->Shared->Prop}
theorem Inv.big (I:Inv X pins σ H s):sysModules < s.heap.objs.size:=by
 have h:mainGlobals < s.heap.objs.size:=(I.mod.glob.keeps I.bk).lt
 exact Nat.lt_trans (by decide) h
theorem aDo {Q:Value->Shared->Prop} (hu:A.units+1 < cLine) (I:Inv X pins σ H s) (g:DGet H a y (some v)) (ry:RelV y u) (h:∀ w' s',Inv X pins σ H s'->RelV v w'->Q w' s') :
  wpAny (model X.prog X.w) A (getItem (.ref a) u) Q E s:=by
 rcases g with ⟨kvs,k,e,ey,l⟩ | ⟨kvs,k,b,e,ey,eb,l⟩
 ·subst ey
  obtain ⟨z,hd,vs,rel,dd⟩:=aBj I.hok e
  obtain ⟨w',hw,rw'⟩:=RelO.some_of (v:=v) (o:=valueAt vs k) (by rw [l];exact rel.val k)
  exact wpAny_getItem_of (aG7 ry) dd.mapOf hw (h w' _ (I.tok _) rw')
 ·subst ey
  cases (show u=Value.ref b from ry)
  obtain ⟨z,hd,xs,rel,dd⟩:=aGv I.hok e
  obtain ⟨w',hw,rw'⟩:=RelO.some_of (v:=v) (o:=(atKey xs k).map (·.2)) (by rw [l];exact rel.val k)
  obtain ⟨p,hp,hp2⟩:=Option.map_eq_some_iff.mp hw
  refine wpAny_getItem_heap (tupleKind_room_in1 hu) (y8 I.hok eb) dd hp ?_
  rw [hp2]
  exact h w' _ (I.tok _) rw'
theorem aSf {Q:Value->Shared->Prop} (hu:A.units+1 < cLine) (I:Inv X pins σ H s) (g:DGet H a y o) (ry:RelV y u) (h:∀ s',Inv X pins σ H s'->Q (.bool o.isSome) s') :
  wpAny (model X.prog X.w) A (compareOp .In u (.ref a)) Q E s:=by
 rcases g with ⟨kvs,k,e,ey,l⟩ | ⟨kvs,k,b,e,ey,eb,l⟩
 ·subst ey
  obtain ⟨z,hd,vs,rel,dd⟩:=aBj I.hok e
  refine wpAny_in_of (aG7 ry) hd dd.mapOf ?_
  rw [<- (rel.val k).isSome_eq,<- l]
  exact h _ (I.tok _)
 ·subst ey
  cases (show u=Value.ref b from ry)
  obtain ⟨z,hd,xs,rel,dd⟩:=aGv I.hok e
  refine wpAny_in_heap (tupleKind_room_in1 hu) (y8 I.hok eb) hd dd ?_
  have q:=(rel.val k).isSome_eq
  rw [Option.isSome_map] at q
  rw [<- q,<- l]
  exact h _ (I.tok _)
theorem aCx {h':Heap} {t':Nat} {ob:HO} (I:Inv X pins σ H s) (mu:Mut (H a)) (hs:Heap.SameBut a s.heap h') (he:∃ q,h'.get? a=some q) (new:ObjOk X.prog X.w (upd H a ob) h' a ob) :
  Inv X pins σ (upd H a ob) { s with heap:=h',toks:=t' } :=
 I.write (x:=a) (e:=a) mu (.inl rfl) (fun b q hb z=>(hs.2 b hb).trans z) he new
theorem aMk {P:Program} {w:World} {H':Hp} {h':Heap} {kvs:List (Key×V)} {vs:List (Key×Value)} (z:kvs.length<=sizeLine) (hd:(a == sysModules)=false) (rel:KV kvs vs) (dd:h'.DictOf (gC P w) a vs) :
  ObjOk P w H' h' a (.dK kvs):=⟨z,hd,vs,rel,dd⟩
theorem aDp {H':Hp} {Q:Unit->Shared->Prop} (hu:A.units+1 < cLine) (I:Inv X pins σ H s) (g:DPut H a y v H') (ry:RelV y u) (rv:RelV v r) (h:∀ s',Inv X pins σ H' s'->Q () s') :
  wpAny (model X.prog X.w) A (setItem (.ref a) u r) Q E s:=by
 rcases g with ⟨kvs,k,e,ey,l,eH⟩ | ⟨kvs,k,b,e,ey,eb,l,eH⟩
 ·subst ey eH
  obtain ⟨z,hd,vs,rel,dd⟩:=aP8 I.hok e
  have hz:vs.length<=sizeLine:=by rw [<- rel.length];exact z
  have hl:(putK kvs k v).length<=sizeLine:=by have:=pH kvs k v;omega
  refine wpAny_setItem_pairs (hsz:=hz) (aG7 ry) dd fun h' dd' hs=>h _ ?_
  have he:∃ q,h'.get? a=some q:=let ⟨q,_,_,hq,_⟩:=dd';⟨q,hq⟩
  exact aCx I (by rw [e];exact True.intro) hs he (aMk hl hd (rel.put k rv) dd')
 ·subst ey eH
  cases (show u=Value.ref b from ry)
  obtain ⟨z,hd,xs,rel,dd⟩:=aP4 I.hok e
  have hz:xs.length<=sizeLine:=by rw [<- Paired.length rel];exact z
  have hl:(putK kvs k v).length<=sizeLine:=by have:=pH kvs k v;omega
  refine wpAny_setItem_heap (hsz:=hz) (tupleKind_room_in1 hu) (y8 I.hok eb) dd fun h' dd' hs=>h _ ?_
  obtain ⟨q,es,ep,hq,h2,h3,h4,_,h5⟩:=dd'
  refine aCx I (by rw [e];exact True.intro) hs ⟨q,hq⟩ ⟨hl,hd,_,(rel.put k eb rv).keeps fun c ys ec=>?_,q,es,ep,hq,h2,h3,h4,h5⟩
  rw [a9 (aRe ec e (fun z=>nomatch z))]
  exact ec
end
section
variable {X:Cx} {pins:List (Addr×Obj)} {σ:St} {H:Hp} {s:Shared} {a:Addr} {kvs:List (Key×V)} {k:Key} {u:Value} {A:Around} {E:Value->Shared->Prop}
theorem aRf {Q:Value->Shared->Prop} (I:Inv X pins σ H s) (e:Rd H a (.dK kvs)) (h:∀ t s',Inv X pins σ H s'->Q (.int kvs.length t) s'):wpAny (model X.prog X.w) A (call (.builtin "len") [.ref a]) Q E s:=by
 obtain ⟨z,hd,vs,rel,dd⟩:=aBj I.hok e
 refine call_len_dict hd dd (by rw [<- rel.length];rw [sizeLine_eq] at z;omega) ?_
 rw [<- rel.length]
 exact h _ _ (I.tok _)
end
def aQh (i:Expr):Prop:=∀ ov iv,subscripted i false ov iv=operate [ov,iv] (getItem ov iv)
theorem aI3 {prog:Program} {w:World} {A:Around} {E:Value->Shared->Prop} {s:Shared} {env:Env} {value slice:Expr} {pos:Pos} {T id:String} {Q:Value->Shared->Prop}
  (hl:typeLookup (.type T) "__getitem__" = pure (some (.builtin id))) (hs:aQh slice)
  (h:wpAny (model prog w) A (eval value env) (fun o s₁=>wpAny (model prog w) A (eval slice env) (fun i s₂=>s₂.TypeIs o T/\wpAny (model prog w) A (getItem o i) Q E s₂) E s₁) E s) :
  wpAny (model prog w) A (eval (.Subscript value slice pos) env) Q E s:=by
 refine Subscript_ (wpAny_mono h (fun o s₁ h₁=>wpAny_mono h₁ (fun i s₂ h₂=>?_) fun _ _ x=>x) fun _ _ x=>x)
 obtain ⟨hT,h₂⟩:=h₂
 unfold subscriptTail
 refine wpAny_bind ?_
 rw [getitemInPython_of_ne hT.not_modules]
 refine wpAny_bind (wpAny_specialOf hT hl ?_)
 have fin:wpAny (model prog w) A (subscripted slice false o i) (fun r s₃=>wpAny (model prog w) A (letTemporaryGo value o r >>= fun _=>pure r) Q E s₃) E s₂:=by
  rw [hs o i]
  exact wpAny_operating (wpAny_mono h₂ (fun r s₃ h₃=>wpAny_bind (wpAny_letTemporaryGo (wpAny_pure h₃))) fun _ _ x=>x)
 first
  | exact wpAny_pure (wpAny_bind fin)
  | exact wpAny_bind (wpAny_pure (wpAny_bind fin))
  | exact wpAny_bind fin
theorem wO {X:Cx} {pins:List (Addr×Obj)} {σ:St} {H:Hp} {s:Shared} {a:Addr} {y:V} {o:Option V} (I:Inv X pins σ H s) (g:DGet H a y o):s.TypeIs (.ref a) "dict":=by
 rcases g with ⟨kvs,k,e,_,_⟩ | ⟨kvs,k,b,e,_,_,_⟩
 ·obtain ⟨_,_,vs,_,dd⟩:=aBj I.hok e
  exact dd.typeIs
 ·obtain ⟨_,_,xs,_,dd⟩:=aGv I.hok e
  exact dd.typeIs
def aP2 (td ty:TE):TE:=fun σ H Q=>td σ H fun x H1=>ty σ H1 fun y H2=>∃ a v,x=.ref a/\DGet H2 a y (some v)/\Q v H2
def aRp (ty td:TE):TE:=fun σ H Q=>ty σ H fun y H1=>td σ H1 fun x H2=>∃ a o,x=.ref a/\DGet H2 a y o/\Q (.bl o.isSome) H2
def aPz (td ty tv:TE):TS:=fun D σ H=>tv σ H fun v H1=>td σ H1 fun x H2=>ty σ H2 fun y H3=>∃ a H4,x=.ref a/\DPut H3 a y v H4/\D.nx σ H4
section
variable {X:Cx} {o i e value:Expr} {pos pos' tpos:Pos} {td ty tv:TE}
theorem aI1 (hu:X.A.units+1 < cLine) (ho:PE X o td) (hi:PE X i ty) (hs:aQh i):PE X (.Subscript o i pos) (aP2 td ty):=by
 intro pins s σ H Q I h
 refine aI3 PySem.F.slot_dict_getitem.lookup hs (thn (ho pins s σ H _ I h) fun u s1 ⟨x,H1,I1,rx,q1⟩=>thn (hi pins s1 σ H1 _ I1 q1) fun iv s2 ⟨y,H2,I2,ry,a,v,ex,g,q2⟩=>?_)
 subst ex
 obtain rfl:u=Value.ref a:=rx
 exact ⟨wO I2 g,aDo hu I2 g ry fun w' s3 I3 rw'=>⟨v,H2,I3,rw',q2⟩⟩
theorem aNa (hu:X.A.units+1 < cLine) (hi:PE X i ty) (ho:PE X o td):PC X .In i o (aRp ty td):=by
 intro pins s σ H Q I h
 refine thn (hi pins s σ H _ I h) fun iv s1 ⟨y,H1,I1,ry,q1⟩=>thn (ho pins s1 σ H1 _ I1 q1) fun u s2 ⟨x,H2,I2,rx,a,ov,ex,g,q2⟩=>?_
 subst ex
 obtain rfl:u=Value.ref a:=rx
 exact aSf hu I2 g ry fun s3 I3=>⟨.bl ov.isSome,H2,I3,rfl,q2⟩
theorem aJn (hu:X.A.units+1 < cLine) (ho:PE X o td) (hi:PE X i ty) (hv:PE X value tv) (hs:swapsWith value (some (.Subscript o i pos')) pos.line X.env=pure false) :
  PS X (.Assign [.Subscript o i pos'] value pos) (aPz td ty tv):=by
 intro pins s σ H D I h
 refine wpAny_Assign_Subscript (thn (hv pins s σ H _ I h) fun r s1 ⟨v,H1,I1,rv,q1⟩=>thn (ho pins s1 σ H1 _ I1 q1) fun u s2 ⟨x,H2,I2,rx,q2⟩=>thn (hi pins s2 σ H2 _ I2 q2) fun iv s3 ⟨y,H3,I3,ry,a,H4,ex,g,q3⟩=>?_) hs
 subst ex
 obtain rfl:u=Value.ref a:=rx
 exact aDp hu I3 g ry rv fun s4 I4=>⟨σ,H4,I4,q3⟩
end
theorem aG0 {P:Program} {w:World} {H:Hp} (h:Heap) (hb:sysModules < h.objs.size):ObjOk P w H (h.push { cls:=.type "dict",data:=.dict #[] }) h.objs.size (.dT []) :=
 ⟨Nat.zero_le _,beq_eq_false_iff_ne.mpr (Ne.symm (Nat.ne_of_lt hb)),[],.nil,_,#[],0,Heap.get?_push_size _ rfl,⟨rfl,rfl,rfl⟩,rfl,rfl,List.nodup_nil⟩
def aNe:TE:=fun _ H Q=>∀ p,H p=none->Q (.ref p) (upd H p (.dT []))
section
variable {X:Cx} {pos:Pos}
theorem aGo:PE X (.Dict [] [] pos) aNe:=fun pins s σ H Q I h =>
 wpAny_Dict_empty ⟨.ref s.heap.objs.size,_,I.laid (a:=s.heap.objs.size) (o:=.dT []) (t':=s.toks) (fun _ _ q=>Heap.get?_push_of_some _ q) (Nat.le_refl _) (aG0 s.heap I.big),rfl,h _ (I.hok.fresh (Nat.le_refl _))⟩
end
section
variable {X:Cx} {pins:List (Addr×Obj)} {σ:St} {H:Hp} {s:Shared} {a:Addr} {y d:V} {u r:Value} {o:Option V} {A:Around} {E:Value->Shared->Prop}
end
section
variable {X:Cx} {o e f:Expr} {apos cpos:Pos} {td ty tx:TE}
end
section
variable {X:Cx} {pins:List (Addr×Obj)} {σ:St} {H:Hp} {s:Shared} {a:Addr} {kvs:List (Key×V)} {A:Around} {E:Value->Shared->Prop}
end
section
variable {X:Cx} {pins:List (Addr×Obj)} {σ:St} {H:Hp} {s:Shared} {a:Addr} {y:V} {u:Value} {A:Around} {E:Value->Shared->Prop}
end
end L2
namespace Att
open PySem PySem.W PySem.Calls PyProof.Rows
theorem o7 {P:Params} {h:Heap}:∀ (ns:List Int) (vs:List Value),WellAll P h vs (ns.map WData.int)->IntsAre vs ns:=by
 intro ns
 induction ns with
 | nil =>
  intro vs w
  rw [List.map_nil] at w
  cases w
  exact .nil
 | cons n ns ih =>
  intro vs w
  rw [List.map_cons] at w
  cases w with
  | cons a b =>
   cases a
   exact .cons _ _ (ih _ b)
theorem aCj {l:OpenLaw} {n:Nat} (hn:l.most=some n) {P:Params} {h:Heap} {args:List WData} {vals:List Value}
  (aLj:l.row.toRowW.claim.pre args=true) (hwl:WellAll P h vals args) :
  ∃ a vs ns,vals=[Value.ref a]/\args=[WData.list (ns.map WData.int)]/\h.get? a=some { cls:=.type "list",data:=.seq vs.toArray }/\IntsAre vs ns/\ns.length<=n:=by
 have hsh:WShape.hasAll [] args [.list .int]=true:=(pre_splitW aLj).1
 have hc:l.pre.holds [] { args:=args }=true:=(pre_splitW aLj).2
 obtain ⟨d,r,rfl,h1,h2⟩:=hasAllW_cons hsh
 obtain rfl:=hasAllW_nil h2
 obtain ⟨xs,rfl,h3⟩:=hasW_list h1
 obtain ⟨ns,rfl⟩:=items_int h3
 have hlen:ns.length<=n:=by
  unfold OpenLaw.pre at hc
  have h4:(WTm.not (.lt (.lit (.int (n:Int))) (.len (.arg 0)))).holds [] { args:=[.list (ns.map .int)] }=true:=by
   have h4:=(holds_andW hc).1
   rw [hn] at h4
   exact h4
  have h5:=condW_of h4 (w_not (w_lt w_lit (w_len_list (w_arg rfl))))
  rw [List.length_map] at h5
  refine Nat.le_of_not_lt fun q=>?_
  have q':(n:Int) < ((ns.length:Nat):Int):=by omega
  first
   | (rw [decide_eq_true q'] at h5;exact absurd h5 (by decide))
   | (simp at h5;omega)
 cases hwl with
 | cons w1 w2 =>
  cases w2
  cases w1 with
  | list ho hall=>exact ⟨_,_,ns,rfl,rfl,ho,o7 ns _ hall,hlen⟩
theorem aEo (l:OpenLaw) (args:List WData):l.row.toRowW.claim.post args (.bool true) args=true :=
 postW_of (r:=l.row.toRowW) (X:=(true == true))
  (show WShape.has [] (.bool true) .bool=true by first | rfl | decide | simp [WShape.has,WShape.arms,WShape.armsAll])
  (show (WTm.eq .res (.lit (.bool true))).value [] { args:=args,res:=some (.bool true),after:=args }=some (.bool (true == true)) from w_eq_bool (w_res rfl) w_lit) rfl
theorem wX {l:OpenLaw} {n:Nat} {q:Program} {loose:List Str} {XP:(Str->Option Value)->Heap->Prop} {YP:World->Heap->Prop} {d:DefRec}
  (hn:l.most=some n) (hdf:d.params.defaults=[])
  (call:∀ (w:World) (s₀ s₁:Shared) (mg mb:Str->Option Value) (fa:Addr) (o:Obj) (pm cd doc:Value) (a:Addr) (vs:List Value) (ns:List Int),
   Ground q loose [] XP w s₀ mg mb s₁.heap->YP w s₁.heap ->
   s₁.heap.get? fa=some o->o.data=.func (docDef d.name d.params d.body d.scope pm cd doc)->s₁.heap.CodeRec cd d.name->mg d.name=some (.ref fa) ->
   s₁.heap.get? a=some { cls:=.type "list",data:=.seq vs.toArray }->IntsAre vs ns->ns.length<=n->s₁.gens=#[] ->
   codeAny (model l.prog w) callerA (.call (.ref fa) ⟨[.ref a],[]⟩) (fun r s'=>r=.ok (.ret (.bool true))/\OldK s₁.heap s'.heap/\s'.os=s₁.os/\AllBare s'.gens) s₁) :
  WalkO q loose XP YP l.row.toRowW d [] (fun f vs=>PySem.call f vs):=by
 intro w s₀ s₁ mg mb G Y fa o pm cd doc dV kV ho hd hcd hD hmg hg args vals as aLj hlay hrd hwl hlo
 obtain rfl:dV=.none:=Dflts.none hD hdf
 obtain rfl:kV=.none:=Dflts.noKw hD
 obtain ⟨a,vs,ns,rfl,rfl,hobj,hints,hlen⟩:=aCj hn aLj hwl
 refine enter_call (codeAny_mono (call w s₀ s₁ mg mb fa o pm cd doc a vs ns G Y ho (fd_plain hd) hcd hmg hobj hints hlen hg) fun r s' hq=>?_)
 obtain ⟨rfl,h2,h3,h4⟩:=hq
 exact ⟨.inl ⟨.bool true,.bool true,[],rfl,fun _=>rfl,.bool true,aEo l _,fun _=>⟨List.Pairwise.nil,fun _ hm=>(nomatch hm)⟩⟩,h2,h3,h4⟩
section
variable {prog:Program} {w:World} {A:Around} {E:Value->Shared->Prop} {s:Shared} {K:Frag}
end
end Att
namespace L2
open PySem PySem.Spec PyProof.Rows
theorem tU:∀ {vs:List Value} {ns:List Int},IntsAre vs ns->Vals (ns.map V.int) vs
 | _,_,.nil=>.nil
 | _,_,.cons n t h=>.cons ⟨t,rfl⟩ (tU h)
def aQz (H:Hp):Prop:=∀ b,H b=none\/∃ o xs,H b=some (.frz o (.lst xs))
theorem aGe {P:Program} {w:World} {K:PySem.W.Frag} {mg mb:Str->Option Value} {CX:CXT} {k:Nat} {fa a:Addr} {fd:FuncData} {x:Str} {sp:Sp} {s₁:Shared} {vs:List Value} {ns:List Int}
  (KX:K.In s₁.heap) (hns:s₁.heap.Ns mainGlobals mg) (hb:s₁.heap.Ns builtinsNs mb) (hbb:∀ x:Str,x≠"__name__"->mb x=bootBuiltins x) (hlim:s₁.heap.NoLimit) (hg:s₁.gens=#[])
  (ha:s₁.heap.get? a=some { cls:=.type "list",data:=.seq vs.toArray }) (hi:IntsAre vs ns) (hl:ns.length<=sizeLine) (hr:Room k callerA)
  (F:∀ base:Heap,K.In base->base.Ns mainGlobals mg->FnOk P w K mg base CX k fa fd [x] sp) (hbind:∀ (s:Shared) (u:Value),BindsTo s fd ⟨[u],[]⟩ [(x,u)])
  (hsp:∀ H:Hp,aQz H->SqL K H a (ns.map V.int)->sp [.ref a] H (fun v _=>v=.bl true) fun _ _ _=>False)
  (hCX:∀ H e s',CX [] H s₁ (fun _ _ _=>False) e s'->False) :
  codeAny (model P w) callerA (.call (.ref fa) ⟨[.ref a],[]⟩) (fun r s'=>r=.ok (.ret (.bool true))/\OldK s₁.heap s'.heap/\s'.os=s₁.os/\AllBare s'.gens) s₁:=by
 have rv:=tU hi
 have lenV:=hi.length
 have core:∀ H:Hp,aQz H->SqL K H a (ns.map V.int)->HOk P w H s₁.heap->(∀ b,H b≠none->b=a)->(H a≠none->K.lookup a=none) ->
   codeAny (model P w) callerA (.call (.ref fa) ⟨[.ref a],[]⟩) (fun r s'=>r=.ok (.ret (.bool true))/\OldK s₁.heap s'.heap/\s'.os=s₁.os/\AllBare s'.gens) s₁:=by
  intro H hO hS hok hA hK
  have base_of:∀ {b:Addr} {o:Obj},s₁.heap.get? b=some o->H b=none->(aFm s₁.heap H).get? b=some o:=fun e n=>aFv e n
  have noA:∀ {b:Addr} {o:Obj} {es:Array DictEntry} {ep:Nat},s₁.heap.get? b=some o->o.data=.dict es ep->H b=none:=fun {b o es ep} e d=>by
   cases q:H b with
   | none=>rfl
   | some u =>
    have e':b=a:=hA b (by rw [q];simp)
    subst e'
    rw [ha] at e;cases e
    have d':Data.seq vs.toArray _=Data.dict es ep:=d
    cases d'
  have nsK:∀ {b:Addr} {m:Str->Option Value},s₁.heap.Ns b m->(aFm s₁.heap H).Ns b m:=fun {b m} ⟨o,es,ep,e,d,r⟩=>⟨o,es,ep,base_of e (noA e d),d,r⟩
  have hKb:K.In (aFm s₁.heap H):=fun b o e=>base_of (KX b o e) (by
   cases q:H b with
   | none=>rfl
   | some u =>
    have e':b=a:=hA b (by rw [q];simp)
    subst e'
    rw [hK (by rw [q];simp)] at e;cases e)
  have hM:Mod K mg (aFm s₁.heap H):=⟨hKb,nsK hns,⟨mb,nsK hb,hbb⟩,let ⟨mc,h1,h2⟩:=hlim;⟨mc,nsK h1,h2⟩⟩
  have e0:aPm P w K mg (aFm s₁.heap H) callerA [] s₁ H:=⟨rfl,hM,fun b o e=>aJs e,Nat.le_of_eq (aEt _ _),trivial,fun b hb=>absurd (show b∈([]:List Addr) from hb) (by simp),hok,.of_eq hg⟩
  refine codeAny_mono ((F _ hKb (nsK hns)).run callerA [] s₁ H ⟨[.ref a],[]⟩ [.ref a] [.ref a] _ _ hr e0 (hbind s₁ (.ref a)) (.cons rfl .nil) (hsp H hO hS)) fun r s' h=>?_
  cases r with
  | error e=>exact (hCX H e s' h).elim
  | ok fl =>
   cases fl with
   | next=>exact False.elim h
   | brk=>exact False.elim h
   | cont=>exact False.elim h
   | ret u =>
    obtain ⟨v,H',os,bare,un,hok',r',q⟩:=h
    have q':v=.bl true:=q
    subst q'
    obtain rfl:u=Value.bool true:=r'
    refine ⟨rfl,OldK.of_keep fun b o e=>?_,os,bare⟩
    cases q:H b with
    | none=>exact un.keep b o e q (by intro z;exact absurd (show b∈([]:List Addr) from z) (by simp)) (by simp)
    | some u =>
     rcases hO b with z | ⟨ob,xs,z⟩
     ·rw [q] at z;cases z
     ·have z2:=un.frzs b ob _ z
      obtain ⟨e1,_⟩:=hok b _ z
      obtain ⟨e2,_⟩:=hok' b _ z2
      rw [e] at e1;cases e1
      exact e2
 cases hk:K.lookup a with
 | some o =>
  have e:=KX a o hk
  rw [ha] at e
  cases e
  refine core (fun _=>none) (fun _=>.inl rfl) (.inr ⟨_,vs.toArray,_,hk,rfl,rfl,rfl,by rw [List.size_toArray,lenV];exact hl,by simpa using rv⟩) (fun b u z=>by have z':(none:Option HO)=some u:=z;cases z') (fun b z=>absurd rfl z) fun z=>absurd rfl z
 | none =>
  refine core (fun b=>if b=a then some (.frz { cls:=.type "list",data:=.seq vs.toArray } (.lst (ns.map V.int))) else none) (fun b=>?_) (.inl (.inr ⟨{ cls:=.type "list",data:=.seq vs.toArray },if_pos rfl⟩)) (fun b u z=>?_) (fun b z=>?_) fun _=>hk
  ·by_cases hb:b=a
   ·exact .inr ⟨_,_,if_pos hb⟩
   ·exact .inl (if_neg hb)
  ·by_cases hb:b=a
   ·have z':=(if_pos hb).symm.trans z
    cases z'
    subst hb
    exact ⟨ha,by rw [List.length_map];exact hl,vs,_,rv,ha⟩
   ·have z':=(if_neg hb).symm.trans z
    cases z'
  ·by_cases hb:b=a
   ·exact hb
   ·exact absurd (if_neg hb) z
theorem aKt {l:PySem.W.OpenLaw} {n k:Nat} {q:Program} {loose:List Str} {XP:(Str->Option Value)->Heap->Prop} {YP:World->Heap->Prop} {d:DefRec} {K:Params->PySem.W.Frag} {CX:World->CXT} {sp:World->Sp} {x:Str}
  (hn:l.most=some n) (hn2:n<=sizeLine) (hdf:d.params.defaults=[]) (hr:Room k callerA)
  (hY:∀ (w:World) (h:Heap),YP w h->(K w.params).In h)
  (F:∀ (w:World) (mg:Str->Option Value) (fa:Addr) (h:Heap),(K w.params).In h->h.Ns mainGlobals mg->mg d.name=some (.ref fa) ->
   ∃ fd:FuncData,(∀ (s:Shared) (u:Value),BindsTo s fd ⟨[u],[]⟩ [(x,u)]) /\
    ∀ base:Heap,(K w.params).In base->base.Ns mainGlobals mg->FnOk l.prog w (K w.params) mg base (CX w) k fa fd [x] (sp w))
  (hsp:∀ (w:World) (H:Hp) (a:Addr) (ns:List Int),ns.length<=n->aQz H->SqL (K w.params) H a (ns.map V.int)->sp w [.ref a] H (fun v _=>v=.bl true) fun _ _ _=>False)
  (hCX:∀ (w:World) (H:Hp) (s:Shared) (e:Value) (s':Shared),CX w [] H s (fun _ _ _=>False) e s'->False) :
  PySem.W.WalkO q loose XP YP l.row.toRowW d [] (fun f vs=>PySem.call f vs):=by
 refine Att.wX hn hdf fun w s₀ s₁ mg mb fa o pm cd doc a vs ns G Y ho hd hcd hmg hobj hints hlen hg=>?_
 have KX:=hY w _ Y
 obtain ⟨fd,hb,hF⟩:=F w mg fa _ KX G.T.g hmg
 exact aGe KX G.T.g G.T.b G.T.builtins G.T.nolimit hg hobj hints (Nat.le_trans hlen hn2) hr hF hb (fun H hO hS=>hsp w H a ns hlen hO hS) fun H e s'=>hCX w H s₁ e s'
def kI (s:Stmt):Arguments:=match s with
 | .FunctionDef _ a _ _ _ _ _ _ _ _=>a
 | _=>{ posonlyargs:=[],args:=[],vararg:=none,kwonlyargs:=[],kw_defaults:=[],kwarg:=none,defaults:=[] }
def iN (s:Stmt):List Stmt:=match s with
 | .FunctionDef _ _ b _ _ _ _ _ _ _=>b
 | _=>[]
def aO (s:Stmt):Scope:=match s with
 | .FunctionDef _ _ _ _ _ _ sc _ _ _=>sc
 | _=>{ kind:=.function,names:=[],isGenerator:=false,isCoroutine:=false }
abbrev E0:XK:=fun _ _ _=>False
structure Fun (K:PySem.W.Frag) (x qual:Str) (st:Stmt) (f:Addr) (fd:FuncData):Prop where
 ex:∃ (oc:Value) (od:Option Addr) (kV doc pm:Value) (an:Option Addr) (cdv ct:Value) (osl:Array (Option Value)),
  fd=PySem.W.fnOf x qual (kI st) (iN st) (aO st) .none kV doc pm an cdv ct/\K.lookup f=some ⟨oc,od,.func fd,osl⟩/\PySem.W.codeIn K cdv qual=true
 kp:PySem.W.keepIn K (.ref f)=true
section
variable {P:Program} {w:World} {K:PySem.W.Frag} {mg:Str->Option Value} {base:Heap}
theorem Fun.binds {x qual:Str} {st:Stmt} {f:Addr} {fd:FuncData} {ps:List Str} (F:Fun K x qual st f fd)
  (h:∀ (kV doc pm:Value) (an:Option Addr) (cdv ct:Value) (us:List Value),us.length=ps.length->bindArgs (PySem.W.fnOf x qual (kI st) (iN st) (aO st) .none kV doc pm an cdv ct) ⟨us,[]⟩=pure (ps.zip us)):Binds K fd ps []:=by
 obtain ⟨oc,od,kV,doc,pm,an,cdv,ct,osl,rfl,lk,hcd⟩:=F.ex
 exact .all (h kV doc pm an cdv ct)
theorem aHs {x qual:Str} {st:Stmt} {f:Addr} {oc:Value} {od an:Option Addr} {osl:Array (Option Value)} {kV doc pm cdv ct:Value} (l:K.lookup f=some ⟨oc,od,.func (PySem.W.fnOf x qual (kI st) (iN st) (aO st) .none kV doc pm an cdv ct),osl⟩)
  (c:PySem.W.codeIn K cdv qual=true) (k:PySem.W.keepIn K (.ref f)=true):Fun K x qual st f (PySem.W.fnOf x qual (kI st) (iN st) (aO st) .none kV doc pm an cdv ct):=⟨⟨oc,od,kV,doc,pm,an,cdv,ct,osl,rfl,l,c⟩,k⟩
end
section
variable {X:Cx}
theorem pv (i:Nat) {x:Str} {pos:Pos} (hN:X.N[i]? = some x:=by rfl) (hv:Vis X.env.scope x:=by first | exact Or.inl rfl | exact Or.inr (Or.inl rfl) | exact Or.inr (Or.inr rfl)) (hd:(x == ("__debug__" : Str))=false:=by decide)
  (hcd:(x == ("__classdict__" : Str))=false:=by decide):PE X (.Name x pos) (aIm i):=aHo hN hv hd hcd
end
def Same (H H':Hp):Prop:=∀ b o,H b=some o->H' b=some o
theorem Same.refl (H:Hp):Same H H:=fun _ _ h=>h
theorem Same.trans {H H1 H2:Hp} (a:Same H H1) (b:Same H1 H2):Same H H2:=fun c o h=>b c o (a c o h)
theorem Same.free {H H':Hp} (e:Same H H') {l:Addr} (h:H' l=Option.none):H l=Option.none:=by
 cases q:H l with
 | none=>rfl
 | some o =>
  rw [e l o q] at h
  cases h
theorem Same.seq {K:PySem.W.Frag} {H H':Hp} {a:Addr} {xs:List V} (e:Same H H') (h:SqL K H a xs):SqL K H' a xs:=by
 rcases h with (h | ⟨o,h⟩) | h
 ·exact .inl (.inl (e _ _ h))
 ·exact .inl (.inr ⟨o,e _ _ h⟩)
 ·exact .inr h
section
variable {X:Cx}
end
section
variable {κ:Type} [DecidableEq κ]
end
end L2
set_option maxHeartbeats 4000000
namespace PySem.W
open PySem PySem.Spec PySem.Calls PyProof.Rows Builtin Builtin.ObjectAttr Builtin.Getset_descriptor
section
variable {prog:Program} {w:World} {A:Around} {E:Value->Shared->Prop} {K:Frag} {h:Heap} {g:Array GenState} {d:Drawn} {t:Nat} {os:OsState} {a C:Addr}
structure ExcK (K:Frag) (C:Addr):Prop where
 ga:findIn K (.ref C) "__getattribute__" = some (some (.builtin "BaseException.__getattribute__"))
 gt:findIn K (.ref C) "__getattr__" = some none
 cl:findIn K (.ref C) "__class__" = some (some (.builtin "object.__class__"))
 mo:mroIn K C (.type "object")=some true
 mb:mroIn K C (.type "BaseException")=some true
 ic:(clsIn K C).isSome=true
def ExcAt (a:Addr) (cls:Value) (h:Heap):Prop:=∃ o,h.get? a=some o/\o.cls=cls/\∃ vs,o.data=.fields vs
theorem ExcAt.ty {cls:Value} (p:ExcAt a cls h) (M:Model):Looks M h (typeOf (.ref a)) cls:=by
 obtain ⟨o,h1,h2,_⟩:=p
 exact h2▸(Looks.ld h1).andThen .now
theorem aOb {tp:Value} {R:Result->Shared->Prop} (X:K.In h) (T:ExcK K C) (p:ExcAt a (.ref C) h) (hq:R (.ok (.ret (.ref C))) ⟨h,g,d,t,os⟩) :
  codeAny (model prog w) A (.call (.builtin "getset_descriptor.__get__") ⟨[.builtin "object.__class__",.ref a,tp],[]⟩) R ⟨h,g,d,t,os⟩:=by
 have La:=p.ty (model prog w)
 have Lb:=looks_mroIn (M:=model prog w) X T.mo
 refine codeAny_call_builtin KF.slot_gs.plain KF.entry_gs (KF.slot_gs.check _ _ _ _ _ _ _ _ KF.type_class (KF.args_gs _ _ _) ?_)
 unfold Builtin.«getset_descriptor.__get__» descrGet
 rw [dga_obj]
 refine wpAny_bind (wpAny_pure ?_)
 unfold descrGetter descrCheckInstance descrNameAndClass isInstance
 simp only [KF.owner_class]
 repeat lk
 refine ⟨Code.quiet_builtin _ (by decide +kernel),codeAny_builtin KF.entry_class ?_⟩
 unfold Builtin.«object.__class__» shownTypeOf
 repeat lk
 exact hq
theorem aHb {tk:Tok} {Q:Fin->Shared->Prop} (X:K.In h) (T:ExcK K C) (p:ExcAt a (.ref C) h) (hq:Q (.done (.ret (.ref C))) ⟨h,g,d,t,os⟩) :
  wpAny (model prog w) A (Builtin.«object.__getattribute__» ⟨[.ref a,.str "__class__" tk],[]⟩) Q E ⟨h,g,d,t,os⟩:=by
 have La:=p.ty (model prog w)
 have Lc:=looks_findIn (M:=model prog w) X T.cl
 have hT5:(⟨h,g,d,t,os⟩:Shared).TypeIs (.builtin "object.__class__") "getset_descriptor":=F.typeOf_object_class
 have e5:=F.typeOf_object_class
 have e6:=F.slot_gs_get.lookup
 have e7:=F.slot_gs_set.lookup
 repeat (any_goals (first | assumption | with_reducible refine Looks.at (by assumption) ?_ | wp_step))
 refine aOb X T p ?_
 repeat (any_goals (first | assumption | wp_step))
theorem aG6 {M:Model} {nameV:Value} {Q:Unit->Shared->Prop} (X:K.In h) (T:ExcK K C) (p:ExcAt a (.ref C) h) (hq:Q () ⟨h,g,d,t,os⟩) :
  wpAny M A (checkBuiltinCall "BaseException.__getattribute__" ⟨[.ref a,nameV],[]⟩) Q E ⟨h,g,d,t,os⟩:=by
 have hk:builtinKind "BaseException.__getattribute__" = some .slot:=by decide +kernel
 have hsp:splitId "BaseException.__getattribute__" = some ("BaseException","__getattribute__"):=by decide +kernel
 have La:=p.ty M
 have Lb:=looks_mroIn (M:=M) X T.mb
 have ha:=F.args_bexc_ga (.ref a) nameV
 simp only [checkBuiltinCall,hk,hsp]
 refine wpAny_bind ?_
 unfold isInstance
 repeat (any_goals (first | assumption | with_reducible refine Looks.at (by assumption) ?_ | wp_step))
theorem aLg {tk:Tok} {R:Result->Shared->Prop} (X:K.In h) (T:ExcK K C) (p:ExcAt a (.ref C) h) (hq:R (.ok (.ret (.ref C))) ⟨h,g,d,t,os⟩) :
  codeAny (model prog w) A (.call (.builtin "BaseException.__getattribute__") ⟨[.ref a,.str "__class__" tk],[]⟩) R ⟨h,g,d,t,os⟩ :=
 codeAny_call_builtin F.attr_ValueError.ga.plain F.entry_bexc_ga (aG6 X T p (aHb X T p hq))
theorem aQy {tk:Tok} {Q:Value->Shared->Prop} (X:K.In h) (T:ExcK K C) (p:ExcAt a (.ref C) h) (hq:Q (.ref C) ⟨h,g,d,t,os⟩):wpAny (model prog w) A (getAttrBy (.ref a) (.str "__class__" tk) false) Q E ⟨h,g,d,t,os⟩:=by
 have La:=p.ty (model prog w)
 have Lg:=looks_findIn (M:=model prog w) X T.ga
 have Lt:=looks_findIn (M:=model prog w) X T.gt
 have f3:=F.attr_ValueError.ga.bind (.ref a)
 have hx0:(false && onTheHeap (Value.builtin "BaseException.__getattribute__"))=false:=rfl
 have hx2:(Value.builtin "BaseException.__getattribute__" == Value.builtin "object.__getattribute__")=false:=by decide +kernel
 have hx1:(onTheHeap (Value.ref C) && Value.builtin "BaseException.__getattribute__" == Value.builtin "object.__getattribute__")=false:=by rw [hx2];rfl
 repeat (any_goals (first | assumption | with_reducible refine Looks.at (by assumption) ?_ | wp_step))
 refine aLg X T p ?_
 repeat (any_goals (first | assumption | wp_step))
theorem aJk {Q:Option Value->Shared->Prop} (X:K.In h) (T:ExcK K C) (p:ExcAt a (.ref C) h) (hq:Q (some (.ref C)) ⟨h,g,d,t+1,os⟩):wpAny (model prog w) A (getAttr? (.ref a) "__class__") Q E ⟨h,g,d,t,os⟩:=by
 unfold getAttr? getAttrBy?
 repeat (any_goals (first | assumption | with_reducible apply aQy X T p | wp_step))
theorem kitx_exc (T:ExcK K C):KitX K (.ref a) (.ref C) (ExcAt a (.ref C)) where
 ty:=fun M _ _ p=>p.ty M
 it:=fun _ _ X _=>by
  have hs:=T.ic
  unfold clsIn at hs
  split at hs
  ·rename_i ho
   intro A' Q' E' s' k q
   unfold isType loadHead
   exact wpAny_bind (wpAny_loadPart (k _ _ (X _ _ ho)) (wpAny_pure q))
  ·cases hs
 ne:=fun h tp dd its n sl X htp=>by
  refine Bool.eq_false_iff.mpr fun q=>?_
  have e:C=tp:=Value.ref.inj (beq_iff_eq.mp q)
  have hs:=T.ic
  unfold clsIn at hs
  split at hs
  ·rename_i ho
   have z:=X _ _ ho
   rw [e,htp] at z
   cases z
  ·cases hs
 ca:=fun {_ _ _ _ _ s} X p k=>by
  obtain ⟨hh,gg,dd,tt,oo⟩:=s
  exact aJk X T p k
end
end PySem.W
namespace L2
open PySem PySem.Spec PyProof.Rows
structure aLt (P:Program) (w:World) (outer:List Env) (H:Hp) (s:Shared) (ea:Addr) (cls:Value) (H':Hp) (B:Heap) (a0:Value) (s':Shared):Prop where
 os:s'.os=s.os
 bare:AllBare s'.gens
 un:Un (frs outer) [] H H' s.heap s'.heap
 hok:HOk P w H' s'.heap
 fly:Heap.FlyingW B outer ea cls a0 s'.heap
 inB:∀ b o,s'.heap.get? b=some o->(H' b≠none\/((∃ u,s.heap.get? b=some u)/\b∉frs outer))->B.get? b=some o
 new:s.heap.get? ea=none
 nt:H' ea=none
def CXr (P:Program) (w:World):CXT:=fun outer H s E e s' =>
 ∃ (ea:Addr) (cls:Value) (H':Hp) (B:Heap) (a0:Value),e=.ref ea/\aLt P w outer H s ea cls H' B a0 s'/\E cls none H'
theorem rG {P:Program} {w:World} {H:Hp} {h h':Heap} (ok:HOk P w H h) (k:∀ b o,H b≠none->h.get? b=some o->h'.get? b=some o):HOk P w H h':=fun a o e =>
 (ok a o e).stay (fun b u hb q=>k b u (by
  rcases hb with z | z
  ·rw [z,e];exact fun q=>nomatch q
  ·rw [z];exact fun q=>nomatch q) q) (fun _ q=>q) fun _ _ q=>q
theorem oQ {P:Program} {w:World} {H:Hp} {h:Heap} {a:Addr} {o:HO} (x:ObjOk P w H h a o):∃ ob,h.get? a=some ob:=by
 cases o with
 | lst xs=>obtain ⟨_,_,_,_,e⟩:=x;exact ⟨_,e⟩
 | tup xs=>obtain ⟨_,_,_,ob,e,_⟩:=x;exact ⟨_,e⟩
 | dK kvs=>obtain ⟨_,_,_,_,o,_,_,e,_⟩:=x;exact ⟨_,e⟩
 | dT kvs=>obtain ⟨_,_,_,_,o,_,_,e,_⟩:=x;exact ⟨_,e⟩
 | set S n=>obtain ⟨o,_,_,_,e,_⟩:=x;exact ⟨_,e⟩
 | ins C dx fs=>obtain ⟨_,_,_,e,_⟩:=x;exact ⟨_,e⟩
 | own y=>exact x
 | xd fs=>obtain ⟨_,⟨_,_,_,e,_⟩,_⟩:=x;exact ⟨_,e⟩
 | rng lo hi=>obtain ⟨_,_,_,e⟩:=x;exact ⟨_,e⟩
 | frz ob u=>obtain ⟨e,_⟩:=x;exact ⟨_,e⟩
 | tbl ps=>exact ⟨_,(show h.get? a=some _ from x)⟩
 | met f y=>exact ⟨_,(show h.get? a=some _ from x)⟩
 | ext φ=>obtain ⟨_,e,_⟩:=x;exact e
theorem HOk.there {P:Program} {w:World} {H:Hp} {h:Heap} {a:Addr} (x:HOk P w H h) (n:H a≠none):∃ ob,h.get? a=some ob:=by
 cases q:H a with
 | none=>exact absurd q n
 | some u=>exact oQ (x a u q)
section
variable {P:Program} {w:World} {K:PySem.W.Frag} {mg:Str->Option Value} {base:Heap} {N:List Str} {qual:Str} {scope:Scope} {f:Addr} {cd:Value} {A:Around} {outer:List Env} {s:Shared} {H:Hp} {E:XK}
theorem qY {env:Env} {l:List Env} {L:Addr} (h:env.frame=some L):frs (env :: l)=L :: frs l:=by
 unfold frs
 rw [List.filterMap_cons,h]
theorem yM {X:Cx} {pins:List (Addr×Obj)} {σ:St} {H1 H':Hp} {s1:Shared} {B h'':Heap} {ea:Addr} {cls a0:Value} {g':Array GenState} {d':Drawn} {t':Nat} {os':OsState}
  (I:Inv X pins σ H1 s1) (hx:X.ex=[]) (hs:X.env.locals∉frs X.outer)
  (ho:os'=X.s₀.os) (hg:AllBare g')
  (fly:Heap.FlyingW B X.outer ea cls a0 h'')
  (kp:∀ b o,s1.heap.get? b=some o->H1 b=none->b∉frs X.outer->b≠X.env.locals->B.get? b=some o)
  (sl:∀ b o,s1.heap.get? b=some o->b∈frs X.outer->∃ sl,h''.get? b=some { o with slots:=sl })
  (fr:∀ b o,s1.heap.get? b=some o->H1 b=none->H' b=none)
  (tups:∀ b xs,H1 b=some (.tup xs)->H' b=some (.tup xs)) (frzs:∀ b o u,H1 b=some (.frz o u)->H' b=some (.frz o u)) (tbls:∀ b ps,H1 b=some (.tbl ps)->∃ more,H' b=some (.tbl (ps++more)))
  (hok:HOk X.prog X.w H' h'') (inH:∀ b o,h''.get? b=some o->H' b≠none->B.get? b=some o)
  (th:∀ b o,s1.heap.get? b=some o->H1 b≠none->∃ o',h''.get? b=some o')
  (inB:∀ b o,s1.heap.get? b=some o->b∉frs X.outer->b≠X.env.locals->∃ o',B.get? b=some o')
  (new:s1.heap.get? ea=none) (nt:H' ea=none) :
  aLt X.prog X.w X.outer X.H₀ X.s₀ ea cls H' B a0 ⟨h'',g',d',t',os'⟩:=by
 have hxn:∀ b:Addr,b∉X.ex:=fun b z=>by rw [hx] at z;cases z
 have neL:∀ b o,X.s₀.heap.get? b=some o->b≠X.env.locals:=fun b o e=>Nat.ne_of_lt (Nat.lt_of_lt_of_le (Heap.lt_size e) I.ok.above)
 have st:=fly.1
 refine ⟨ho,hg,⟨fun b o e n hb _=>?_,fun b o e n hb _=>?_,fun b o e n _=>?_,fun b o e _=>?_,fun b xs e=>tups b xs (I.base.tups b xs e),fun b o u e=>frzs b o u (I.base.frzs b o u e),fun b ps e=>?_⟩,hok,fly,fun b o e hb=>?_,?_,nt⟩
 ·exact st b o (kp b o (I.base.keep b o e n hb (hxn b)) (I.base.free b o e n (hxn b)) hb (neL b o e))
 ·obtain ⟨l1,e1⟩:=I.base.slot b o e n hb (hxn b)
  obtain ⟨l2,e2⟩:=sl b _ e1 hb
  exact ⟨l2,e2⟩
 ·obtain ⟨o1,e1⟩:=I.base.there b o e (hxn b)
  exact fr b o1 e1 (I.base.free b o e n (hxn b))
 ·obtain ⟨o1,e1⟩:=I.base.there b o e (hxn b)
  by_cases hb:b∈frs X.outer
  ·obtain ⟨l2,e2⟩:=sl b o1 e1 hb
   exact ⟨_,e2⟩
  ·obtain ⟨o2,e2⟩:=inB b o1 e1 hb (neL b o e)
   exact ⟨o2,st b o2 e2⟩
 ·obtain ⟨m1,e1⟩:=I.base.tbls b ps e
  obtain ⟨m2,e2⟩:=tbls b _ e1
  exact ⟨m1++m2,by rw [e2,Array.append_assoc]⟩
 ·rcases hb with hb | ⟨⟨u,hu⟩,hb⟩
  ·exact inH b o e hb
  ·obtain ⟨o1,e1⟩:=I.base.there b u hu (hxn b)
   obtain ⟨o2,e2⟩:=inB b o1 e1 hb (neL b u hu)
   have e3:=st b o2 e2
   have e4:h''.get? b=some o:=e
   rw [e3] at e4
   cases e4
   exact e2
 ·cases q:X.s₀.heap.get? ea with
  | none=>rfl
  | some o =>
   obtain ⟨o',e'⟩:=I.base.there ea o q (hxn ea)
   rw [new] at e'
   cases e'
theorem aRo:aL8 (CXr P w) (qT (CXr P w) P w K mg base N qual scope f cd A outer s H E) E:=by
 intro pins σ H1 s1 e s1' I h
 obtain ⟨ea,cls,H',B,a0,rfl,F,want⟩:=h
 have hfr:(qT (CXr P w) P w K mg base N qual scope f cd A outer s H E).A.frames=some (envOfC qual scope s.heap.objs.size f cd :: outer):=I.ok.frames
 have hstk:frs (qT (CXr P w) P w K mg base N qual scope f cd A outer s H E).stack=s.heap.objs.size :: frs outer:=qY rfl
 have hLo:s.heap.objs.size∉frs outer:=fun z=>by
  obtain ⟨_,o,ho,_⟩:=I.ok.funs.mem z
  exact absurd (Heap.lt_size ho) (Nat.lt_irrefl _)
 have nst:∀ {b:Addr},b∉frs outer->b≠s.heap.objs.size->b∉frs (qT (CXr P w) P w K mg base N qual scope f cd A outer s H E).stack:=fun h1 h2 z=>by
  rw [hstk] at z
  rcases List.mem_cons.mp z with z | z
  ·exact h2 z
  ·exact h1 z
 show wpAny (model P w) _ (leaving _ (.ref ea)) _ _ s1'
 refine wpAny_leaves_onW hfr rfl F.fly fun h'' fl' up=>?_
 have inB':∀ b o,s1'.heap.get? b=some o->H' b≠none->h''.get? b=some o:=fun b o e n=>fl'.1 b o (F.inB b o e (.inl n))
 refine ⟨ea,cls,H',B,a0,rfl,yM (X:=qT (CXr P w) P w K mg base N qual scope f cd A outer s H E) I rfl hLo (F.os.trans I.os) F.bare fl' (fun b o e n hb hL=>?_) (fun b o e hb=>?_) (fun b o e n=>F.un.free b o e n (by simp)) F.un.tups F.un.frzs F.un.tbls
  (rG F.hok fun b o n e=>inB' b o e n) (fun b o e n=>?_) (fun b o e n=>?_) (fun b o e hb hL=>?_) F.new F.nt,want⟩
 ·exact F.inB b o (F.un.keep b o e n (nst hb hL) (by simp)) (.inr ⟨⟨o,e⟩,nst hb hL⟩)
 ·have hb':b∈frs outer:=hb
  have n:H1 b=none:=by
   have:=I.stkFree b (by rw [hstk];exact List.mem_cons_of_mem _ hb')
   exact this
  obtain ⟨l1,e1⟩:=F.un.slot b o e n (by rw [hstk];exact List.mem_cons_of_mem _ hb') (by simp)
  obtain ⟨_,o',ho',hd'⟩:=F.fly.2.2.1.mem (b:=b) (by
   have:b∈frs (qT (CXr P w) P w K mg base N qual scope f cd A outer s H E).stack:=by rw [hstk];exact List.mem_cons_of_mem _ hb'
   exact this)
  rw [e1] at ho'
  cases ho'
  obtain ⟨l2,e2⟩:=up b _ e1 hd'
  exact ⟨l2,e2⟩
 ·obtain ⟨o1,e1⟩:=F.hok.there n
  have e2:=F.inB b o1 e1 (.inl n)
  have e3:=fl'.1 b o1 e2
  rw [e] at e3
  cases e3
  exact e2
 ·obtain ⟨o1,e1⟩:=F.un.there b o e (by simp)
  by_cases hb:b∈frs outer
  ·have hz:H1 b=none:=I.stkFree b (by rw [hstk];exact List.mem_cons_of_mem _ hb)
   exact absurd hz n
  ·by_cases hL:b=s.heap.objs.size
   ·have hz:H1 b=none:=I.stkFree b (by rw [hstk,hL];exact List.mem_cons_self)
    exact absurd hz n
   ·exact ⟨o1,fl'.1 b o1 (F.inB b o1 e1 (.inr ⟨⟨o,e⟩,nst hb hL⟩))⟩
 ·obtain ⟨o1,e1⟩:=F.un.there b o e (by simp)
  exact ⟨o1,F.inB b o1 e1 (.inr ⟨⟨o,e⟩,nst hb hL⟩)⟩
def aEv (X:Cx) (E:XK):Prop:=∀ (pins:List (Addr×Obj)) (σ:St) (H:Hp) (s:Shared) (C:Addr) (h':Heap) (e:Addr) (vs:List Value),Inv X pins σ H s->Heap.MadeExcOf s.heap h' e (.ref C) vs->E (.ref C) none H->X.xe (.ref e) { s with heap:=h' }
theorem aK5:aEv (qT (CXr P w) P w K mg base N qual scope f cd A outer s H E) E:=by
 intro pins σ H1 s1 C h' e vs I hx want
 have hstk:frs (qT (CXr P w) P w K mg base N qual scope f cd A outer s H E).stack=s.heap.objs.size :: frs outer:=qY rfl
 have hfr:(qT (CXr P w) P w K mg base N qual scope f cd A outer s H E).A.frames=some (envOfC qual scope s.heap.objs.size f cd :: outer):=I.ok.frames
 have hLo:s.heap.objs.size∉frs outer:=fun z=>by
  obtain ⟨_,o,ho,_⟩:=I.ok.funs.mem z
  exact absurd (Heap.lt_size ho) (Nat.lt_irrefl _)
 have st:s1.heap.FunFrames base (envOfC qual scope s.heap.objs.size f cd :: outer):=I.stack
 have fin:s1.heap.FunFrames (PySem.W.hideAll s1.heap (s.heap.objs.size :: frs outer)) (envOfC qual scope s.heap.objs.size f cd :: outer) :=
  PySem.W.funFrames_hide st fun env he a ha=>by
   rw [<- hstk]
   exact List.mem_filterMap.mpr ⟨env,he,ha⟩
 have nfr:∀ {b:Addr},H1 b≠none->b∉s.heap.objs.size :: frs outer:=fun n z=>n (I.stkFree _ (by rw [hstk];exact z))
 have nin:∀ {b:Addr},b∉frs outer->b≠s.heap.objs.size->b∉s.heap.objs.size :: frs outer:=fun h1 h2 z=>(List.mem_cons.mp z).elim h2 h1
 show wpAny (model P w) _ (leaving _ (.ref e)) _ _ { s1 with heap:=h' }
 refine wpAny_leaves_madeW (base:=PySem.W.hideAll s1.heap (s.heap.objs.size :: frs outer)) (h:=s1.heap) hfr rfl (fun b o q=>PySem.W.of_hideAll _ q) fin hx fun h'' t fl _ _ up=>?_
 refine ⟨e,.ref C,H1,_,.ref t,rfl,yM (X:=qT (CXr P w) P w K mg base N qual scope f cd A outer s H E) I rfl hLo I.os I.bare fl (fun b o q n hb hL=>PySem.W.hideAll_get _ q (nin hb hL)) (fun b o q hb=>?_) (fun _ _ _ n=>n) (fun _ _ q=>q) (fun _ _ _ q=>q)
  (fun b ps q=>⟨#[],by rw [q];simp⟩) (rG I.hok fun b o n q=>fl.1 b o (PySem.W.hideAll_get _ q (nfr n))) (fun b o q n=>?_) (fun b o q n=>⟨o,fl.1 b o (PySem.W.hideAll_get _ q (nfr n))⟩) (fun b o q hb hL=>⟨o,PySem.W.hideAll_get _ q (nin hb hL)⟩) hx.new ?_,want⟩
 ·obtain ⟨_,o',ho',hd'⟩:=st.mem (b:=b) (by
   have:b∈frs (envOfC qual scope s.heap.objs.size f cd :: outer):=by
    rw [qY rfl]
    exact List.mem_cons_of_mem _ hb
   exact this)
  rw [q] at ho'
  cases ho'
  exact up b o (hx.keeps b o q) hd'
 ·obtain ⟨o1,e1⟩:=I.hok.there n
  have e2:=PySem.W.hideAll_get _ e1 (nfr n)
  have e3:=fl.1 b o1 e2
  rw [q] at e3
  cases e3
  exact e2
 ·cases q:H1 e with
  | none=>rfl
  | some u =>
   obtain ⟨ob,eo⟩:=oQ (I.hok e u q)
   rw [hx.new] at eo
   cases eo
end
section
variable {X:Cx} {E:XK}
def aPh (C:Addr) (E:XK) (t:TA):TS:=fun _ σ H=>t σ H fun vs H1=>vs.length<=sizeLine/\E (.ref C) none H1
theorem aE1 {x:Str} {e₀:Expr} {rest:List Expr} {t:TA} {C:Addr} {bm:List Value} {B newId initId:String} {np cpos pos:Pos} (hx:aEv X E) (hc:X.calm=true) (hg:Gl X x) (O:OwnCls x C bm newId X.mg X.base)
  (FB:ExcBaseFacts B newId initId bm) (ha:PA X (e₀ :: rest) t) (hdb:(x == ("__debug__" : Str))=false:=by decide)
  (he:starEach (e₀ :: rest) X.env=(false,eval e₀ X.env) :: starEach rest X.env:=by rfl) (hpl:(backTo cpos (starEach rest X.env)).any (·.1)=false:=by rfl) :
  PS X (.Raise (some (.Call (.Name x np) (e₀ :: rest) [] cpos)) none pos) (aPh C E t):=by
 intro pins s σ H D I h
 obtain ⟨tl,NN,nm,qn,bs,hdc,sn,sb,ab,cl,dd,z0,z1,z2,z3,z5,mN,hC,hN,hni,T⟩:=O.obj
 have hp:(backTo cpos (starEach (e₀ :: rest) X.env)).any (·.1)=false:=by
  rw [he]
  show (false || (backTo cpos (starEach rest X.env)).any (·.1))=false
  rw [hpl]
  all_goals rfl
 have h2:=ha cpos pins s σ H _ I h
 refine wpAny_Raise_call_subT (bm:=tl) (N:=NN) (nm:=nm) (q:=qn) (bs:=bs) (hdct:=hdc) (sn:=sn) (sub:=sb) (ab:=ab) (col:=cl) (dd:=dd) (k0:=z0) (k1:=z1) (k2:=z2) (k3:=z3) (k5:=z5) FB (T.hasType FB.hasBase) (I.ok.hd hc) hp hni
  (aCh I hg O.bound ⟨rfl,?_⟩ hdb)
 rw [he] at h2 ⊢
 refine Calls.evalArgs_plain (thn h2 fun us s2 ⟨vs,H1,I1,r,z,w'⟩=>?_)
 exact ⟨rfl,by rw [<- r.length];exact z,I1.bk _ _ hC,hN.keeps I1.bk,T.keeps I1.bk,fun h' e hm=>hx pins σ H1 s2 C h' e us I1 hm w'⟩
end
def oG (CX:CXT) (X:Cx) (E:St->XK):Prop:=∀ (pins:List (Addr×Obj)) (σ:St) (H:Hp) (s:Shared) (e:Value) (s':Shared),Inv X pins σ H s->CX X.stack H s (E σ) e s'->X.xe e s'
def aN1 (sp:Sp) (E:St->XK) (t:TA):TE:=fun σ H Q=>t σ H fun vs H1=>sp vs H1 Q (E σ)
section
variable {X:Cx} {CX:CXT} {k:Nat} {f:Addr} {fd:FuncData} {ps:List Str} {sp:Sp} {E:St->XK} {x:Str} {p pos:Pos} {e:Expr} {es:List Expr} {t:TA}
theorem aF0 (F:FnOk X.prog X.w X.K X.mg X.base CX k f fd ps sp) (hr:Room k X.A) (hg:Gl X x) (hm:X.mg x=some (.ref f)) (hk:PySem.W.keepIn X.K (.ref f)=true) (hb:Binds X.K fd ps []) (hx:oG CX X E)
  (ha:PA X (e :: es) t) (hdb:(x == ("__debug__" : Str))=false:=by decide) (he:starEach (e :: es) X.env=(false,eval e X.env) :: starEach es X.env:=by rfl) (hpl:(backTo pos (starEach es X.env)).any (·.1)=false:=by rfl) :
  PE X (.Call (.Name x p) (e :: es) [] pos) (aN1 sp E t):=by
 intro pins s σ H Q I h
 refine wpAny_Call_Name_kw (aCh I hg hm ?_ hdb)
 refine PySem.W.callWith_K (h₀:=X.base) I.ok.mod.kin hk (thn (ha pos pins s σ H _ I h) fun us s1 ⟨vs,H1,I1,r,q⟩=>⟨I1.kIn,?_⟩) he hpl
 have hl:us.length=ps.length:=by rw [<- r.length];exact F.len _ _ _ _ q
 have hb':=hb s1 us I1.kIn (by rw [List.append_nil];exact hl)
 rw [List.append_nil] at hb'
 refine wpAny_call (codeAny_mono (F.run X.A X.stack s1 H1 ⟨us,[]⟩ us vs Q (E σ) hr I1.env0 hb' r q) fun rr s' hq=>?_)
 cases rr with
 | error e'=>exact hx pins σ H1 s1 e' s' I1 hq
 | ok fl =>
  cases fl with
  | ret u=>exact I1.after hq
  | next=>exact False.elim hq
  | brk=>exact False.elim hq
  | cont=>exact False.elim hq
end
section
variable {X:Cx} {k:Nat} {f:Addr} {fd:FuncData} {ps:List Str} {sp:Sp} {x:Str} {p pos:Pos} {e:Expr} {es:List Expr} {t:TA}
end
def aLn (e:Addr) (cls:Value):HO:=.ext fun h=>∃ o,h.get? e=some o/\o.cls=cls/\∃ vs,o.data=.fields vs
abbrev b9 (X:Cx) (scope:Scope) (cl:List (Str×Addr)) (C:Addr) (N:List Str) (s₀:Shared) (H₀:Hp) (ex:List Addr) (pn:List (Addr×Obj)):Cx :=
 { X with env:=compEnvC scope cl C X.env,N:=N,s₀:=s₀,H₀:=H₀,outer:=X.stack,stack:=X.stack,ex:=ex,fn:=fun _=>false,pn:=pn,xe:=fun _ _=>False }
structure aJx (X:Cx) (scope:Scope) (cl:List (Str×Addr)):Prop where
 clos:closureFor scope X.env=pure cl
 sub:∀ y c,cl.lookup y=some c->X.env.cells.lookup y=some c
 has:∀ y,(relabel scope X.env).names.lookup y=some .cell\/(relabel scope X.env).names.lookup y=some .free->∃ c,cl.lookup y=some c
def x8 (js:List Nat) (σ:St):St:=js.map fun j=>(σ[j]?).getD none
structure qB (X:Cx) (scope:Scope) (cl:List (Str×Addr)) (ys:List Str) (js:List Nat):Prop where
 len:ys.length=js.length
 at_:∀ (i:Nat) (y:Str) (j:Nat),ys[i]? = some y->js[i]? = some j->X.N[j]? = some y/\(X.env.kindOf y=some .cell\/X.env.kindOf y=some .free)/\((relabel scope X.env).names.lookup y=some .cell\/(relabel scope X.env).names.lookup y=some .free)/\(X.env.cells.lookup y).isSome=true/\cl.lookup y=X.env.cells.lookup y
section
variable {X:Cx}
end
def Sz (n:Nat) (x:Int):Prop:=x.natAbs < 2 ^ n
theorem Sz.mono {m n:Nat} {x:Int} (h:Sz m x) (l:m<=n):Sz n x:=Nat.lt_of_lt_of_le h (Nat.pow_le_pow_right (by decide) l)
theorem Sz.mul {m n:Nat} {x y:Int} (hx:Sz m x) (hy:Sz n y):Sz (m+n) (x*y):=by
 unfold Sz at *
 rw [Int.natAbs_mul,Nat.pow_add]
 exact Nat.mul_lt_mul'' hx hy
theorem Sz.add {n:Nat} {x y:Int} (hx:Sz n x) (hy:Sz n y):Sz (n+1) (x+y):=by
 unfold Sz at *
 have:=Int.natAbs_add_le x y
 rw [Nat.pow_succ]
 omega
theorem Sz.neg {n:Nat} {x:Int} (hx:Sz n x):Sz n (-x):=by
 unfold Sz at *
 rw [Int.natAbs_neg]
 exact hx
theorem Sz.sub {n:Nat} {x y:Int} (hx:Sz n x) (hy:Sz n y):Sz (n+1) (x - y):=by
 have:=Sz.add hx hy.neg
 rwa [Int.sub_eq_add_neg]
theorem Sz.le {n:Nat} {x y:Int} (hy:Sz n y) (h:x.natAbs<=y.natAbs):Sz n x:=Nat.lt_of_le_of_lt h hy
def CMulW (i j:Int):Prop:=Sz 60000 i/\Sz 60000 j
theorem CMulW.ok {i j:Int} (h:CMulW i j):IntMulOk i j:=.of_le (intBits_le_iff.mpr h.1) (intBits_le_iff.mpr h.2) (by decide)
def nI (i j:Int):Prop:=j≠0/\Sz 8000 j
section
variable {X:Cx}
theorem aY:OpR X (binaryOp .Mult) (rI CMulW fun i j=>.int (i*j)):=opI fun _ _ _ _ _ _ _ hc q=>mul_int q hc.ok
theorem log2_small {n:Nat} (h:n < 2 ^ 8000):n.log2 < 9000:=by
 by_cases z:n=0
 ·rw [z];decide
 ·have:n.log2 < 8000:=(Nat.log2_lt z).mpr h
  omega
theorem dR:OpR X (binaryOp .FloorDiv) (rI nI fun i j=>.int (i.fdiv j)):=opI fun _ _ _ _ _ _ _ hc q=>floordiv_int hc.1 q (.inl (PyProof.noPylong_of_log2 (log2_small hc.2)))
inductive TyX (K:PySem.W.Frag) (H:Hp):V->Value->Prop where
 | plain {x:V} {t:Value} (h:yD K H x t):TyX K H x t
 | exc {a C:Addr} (e:H a=some (aLn a (.ref C))) (T:PySem.W.ExcK K C):TyX K H (.ref a) (.ref C)
theorem RelV.tyOrRef {y:V} {c u:Value} (h:(∃ n,y=.ty n)\/∃ a,y=.ref a) (r:RelV y c) (r':RelV y u):u=c:=by
 rcases h with ⟨n,rfl⟩ | ⟨n,rfl⟩
 ·cases r;cases r';rfl
 ·cases r;cases r';rfl
def aNw (K:PySem.W.Frag):List V->Hp->VK->Prop:=fun xs H Q=>∃ x y t c b,xs=[x,y]/\((∃ n,y=.ty n)\/∃ a,y=.ref a)/\TyX K H x t/\RelV y c/\PySem.W.kitOne K t c=some b/\Q (.bl b) H
theorem aE2:l5 X (.builtin "isinstance") (aNw X.K):=by
 intro pins s σ H xs us Q I r h
 obtain ⟨x,y,t,c,b,rfl,hy,ty,rc,e,q⟩:=h
 obtain ⟨u,w',rfl,r1,r2⟩:=vals2 r
 have ec:=RelV.tyOrRef hy rc r2
 subst ec
 cases ty with
 | plain ty=>exact aBp I r1 ty e fun tk=>⟨.bl b,H,I.tok _,rfl,q⟩
 | @exc a C ea T =>
  cases (show u=Value.ref a from r1)
  obtain ⟨p,_,_⟩:=(show ObjOk X.prog X.w H s.heap a (aLn a (.ref C)) from I.hok a _ ea)
  exact PySem.W.kia_one (PySem.W.kitx_exc T) I.kIn p e (fun z=>nomatch z) fun tk=>⟨.bl b,H,I.tok _,rfl,q⟩
end
def aSn (K:PySem.W.Frag) (te:TE) (v:V):TE:=fun σ H Q=>te σ H fun x H1=>aNw K [x,v] H1 Q
theorem aOe {X:Cx} {e c:Expr} {te:TE} {v:V} {p pos:Pos} (hg:Gl X "isinstance") (hm:X.mg "isinstance" = none) (he:PE X e te) (hc:PE X c (tC v)) (h1:starEach [e,c] X.env=(false,eval e X.env) :: starEach [c] X.env:=by rfl)
  (h2:(backTo pos (starEach [c] X.env)).any (·.1)=false:=by rfl) (h3:starEach [c] X.env=(false,eval c X.env) :: starEach [] X.env:=by rfl):PE X (.Call (.Name "isinstance" p) [e,c] [] pos) (aSn X.K te v):=fun pins s σ H Q I h =>
 yY aE2 hg hm (by decide +kernel) (kE he (kE hc pC h3) h1) (by decide) (by decide) h1 h2 pins s σ H Q I h
theorem Fun.okX {P:Program} {w:World} {K:PySem.W.Frag} {mg:Str->Option Value} {base:Heap} {x qual:Str} {st:Stmt} {f:Addr} {fd:FuncData} {N ps:List Str} {k:Nat} {sp:Sp} (F:Fun K x qual st f fd) (S:aW N ps (aO st)) (len:∀ vs H Q E,sp vs H Q E->vs.length=ps.length)
  (hbody:∀ (cdv:Value) (A:Around) (outer:List Env) (s:Shared) (H:Hp) (vs:List V) (Q:VK) (E:XK),Room k (A.deeper (envOfC qual (aO st) s.heap.objs.size f cdv))->sp vs H Q E ->
   ∃ t,PSs (qT (CXr P w) P w K mg base N qual (aO st) f cdv A outer s H E) (iN st) t/\t { nx:=fun _ H'=>Q .non H',rt:=Q } (start N vs) H):FnOk P w K mg base (CXr P w) (k+1) f fd ps sp:=by
 obtain ⟨oc,od,kV,doc,pm,an,cdv,ct,osl,rfl,lk,hcd⟩:=F.ex
 exact aPy lk hcd S len fun A outer s H vs Q E hr hsp=>hbody cdv A outer s H vs Q E hr hsp
theorem Same.upd {H H':Hp} {p:Addr} (h:Same H H') (hp:H' p=none) (o:HO):Same H (upd H' p o):=fun b u q=>by
 have:=h b u q
 rw [a9 (cU this hp)]
 exact this
end L2
namespace FR
theorem zC {a b:Int} (ha:0<=a) (hb:0<=b):Int.gcd b (a % b)=Int.gcd a b:=by
 obtain ⟨m,rfl⟩:=Int.eq_ofNat_of_zero_le ha
 obtain ⟨n,rfl⟩:=Int.eq_ofNat_of_zero_le hb
 rw [<- Int.natCast_emod,Int.gcd_natCast_natCast,Int.gcd_natCast_natCast,Nat.gcd_comm n,<- Nat.gcd_rec,Nat.gcd_comm]
theorem aEu (a b:Int):Int.gcd (if a < 0 then -a else a) (if b < 0 then -b else b)=Int.gcd a b:=by
 split<;>split<;>simp [Int.gcd_neg,Int.neg_gcd]
theorem aDi {a:Int} (ha:0<=a):((Int.gcd a 0:Nat):Int)=a:=by
 rw [Int.gcd_zero_right]
 omega
def sgn (b:Int) (g:Int):Int:=if b < 0 then -g else g
def mk (t b:Int):Int×Int:=(t.fdiv (sgn b (Int.gcd t b)),b.fdiv (sgn b (Int.gcd t b)))
theorem wC {t b:Int} (hb:b≠0):0 < Int.gcd t b:=Int.gcd_pos_of_ne_zero_right t hb
theorem parts (t b:Int) (hb:b≠0):∃ t' b':Int,t=(Int.gcd t b:Int)*t'/\b=(Int.gcd t b:Int)*b'/\Int.gcd t' b'=1:=by
 obtain ⟨t',ht⟩:=Int.gcd_dvd_left t b
 obtain ⟨b',hb'⟩:=Int.gcd_dvd_right t b
 refine ⟨t',b',ht,hb',?_⟩
 have g0:=wC (t:=t) hb
 have e:Int.gcd t b=Int.gcd t b*Int.gcd t' b':=by
  have h:Int.gcd ((Int.gcd t b:Int)*t') ((Int.gcd t b:Int)*b')=(Int.gcd t b:Int).natAbs*Int.gcd t' b':=Int.gcd_mul_left ..
  rw [<- ht,<- hb'] at h
  simpa using h
 have e2:Int.gcd t b*1=Int.gcd t b*Int.gcd t' b':=by omega
 exact (Nat.eq_of_mul_eq_mul_left g0 e2).symm
theorem aF4 {t b g t' b':Int} (g0:0 < g) (ht:t=g*t') (hb:b=g*b'):(t.fdiv (sgn b g)=(if b < 0 then -t' else t'))/\(b.fdiv (sgn b g)=if b < 0 then -b' else b'):=by
 unfold sgn
 by_cases h:b < 0
 ·rw [if_pos h,if_pos h,if_pos h]
  have e1:t=(-g)*(-t'):=by rw [ht,Int.neg_mul_neg]
  have e2:b=(-g)*(-b'):=by rw [hb,Int.neg_mul_neg]
  constructor
  ·conv=>lhs;rw [e1]
   exact Int.mul_fdiv_cancel_left _ (by omega)
  ·conv=>lhs;rw [e2]
   exact Int.mul_fdiv_cancel_left _ (by omega)
 ·rw [if_neg h,if_neg h,if_neg h]
  constructor
  ·conv=>lhs;rw [ht]
   exact Int.mul_fdiv_cancel_left _ (by omega)
  ·conv=>lhs;rw [hb]
   exact Int.mul_fdiv_cancel_left _ (by omega)
structure Fr (f:Int×Int):Prop where
 pos:1<=f.2
 low:Int.gcd f.1 f.2=1
theorem nM {t b:Int} (hb:b≠0):Fr (mk t b)/\(mk t b).1*b=t*(mk t b).2:=by
 obtain ⟨t',b',e1,e2,e3⟩:=parts t b hb
 have g0:(0:Int) < (Int.gcd t b:Int):=by have:=wC (t:=t) hb;omega
 obtain ⟨p1,p2⟩:=aF4 g0 e1 e2
 have q1:(mk t b).1=if b < 0 then -t' else t':=p1
 have q2:(mk t b).2=if b < 0 then -b' else b':=p2
 have hs:b < 0↔b' < 0:=by
  constructor
  ·intro h
   rcases Int.lt_or_le b' 0 with z | z
   ·exact z
   ·have:=Int.mul_nonneg (Int.le_of_lt g0) z
    omega
  ·intro h
   have:=Int.mul_neg_of_pos_of_neg g0 h
   omega
 have hb':b'≠0:=by
  rintro rfl
  rw [Int.mul_zero] at e2
  exact hb e2
 refine ⟨⟨?_,?_⟩,?_⟩
 ·rw [q2]
  split
  ·rename_i h
   have:=hs.mp h
   omega
  ·rename_i h
   have:¬ b' < 0:=fun z=>h (hs.mpr z)
   omega
 ·rw [q1,q2]
  split
  ·rw [Int.gcd_neg,Int.neg_gcd,e3]
  ·exact e3
 ·rw [q1,q2]
  generalize hg:(Int.gcd t b:Int)=g at *
  rw [e1,e2]
  split
  ·rw [Int.neg_mul,Int.mul_neg,Int.mul_left_comm,Int.mul_assoc]
  ·rw [Int.mul_left_comm,Int.mul_assoc]
end FR
namespace L2
open PySem PySem.Spec PyProof.Rows
theorem aA2 {h h':Heap} {o:Obj} (hk:∀ b x,b∉[h.objs.size]->(h.push o).get? b=some x->h'.get? b=some x):∀ b x,h.get? b=some x->h'.get? b=some x:=fun b x e =>
 hk b x (fun m=>Nat.lt_irrefl _ (List.mem_singleton.mp m▸Heap.lt_size e)) (Heap.get?_push_of_some _ e)
section
variable {X:Cx}
def aR2 (K:PySem.W.Frag):List V->Hp->VK->Prop:=fun xs H Q=>∃ (a:Addr) (bs:List Bool),xs=[.ref a]/\SqL K H a (bs.map V.bl)/\Q (.bl (bs.any id)) H
theorem aDj:∀ {bs:List Bool} {us:List Value},Vals (bs.map V.bl) us->us=bs.map Value.bool
 | [],_,.nil=>rfl
 | _ :: _,_,.cons r t=>by
  have e:_=Value.bool _:=r
  rw [e,aDj t];rfl
theorem any_range (bs:List Bool):((List.range bs.length).any fun i=>(bs[i]?).getD false)=bs.any id:=by
 rw [Bool.eq_iff_iff,List.any_eq_true,List.any_eq_true]
 constructor
 ·rintro ⟨i,hi,e⟩
  have hi:=List.mem_range.mp hi
  exact ⟨bs[i],List.getElem_mem hi,by simpa [hi] using e⟩
 ·rintro ⟨b,hb,e⟩
  obtain ⟨i,hi,e2⟩:=List.mem_iff_getElem.mp hb
  exact ⟨i,List.mem_range.mpr hi,by simp [hi,e2];simpa using e⟩
theorem aE5 (hc:X.calm=true) {K:PySem.W.Frag} (hK:X.K=K):l5 X (.builtin "any") (aR2 K):=by
 subst hK
 intro pins s σ H xs us Q I r h
 obtain ⟨a,bs,rfl,hq,q⟩:=h
 obtain ⟨u,rfl,ru⟩:=vals1 r
 cases ru
 obtain ⟨its,rv,p,hz⟩:=I.list hq
 have ei:=aDj rv
 have hl:=p.isList
 have lt:a < s.heap.objs.size:=by obtain ⟨_,e,_⟩:=hl;exact Heap.lt_size e
 refine call_any_walk (wpAny_pyIter_list hl ?_)
 refine ⟨s.heap.objs.size,[s.heap.objs.size,a],[s.heap.objs.size],its.toArray.size,_,_,fun i=>(bs[i]?).getD false,rfl,Walks.list (A:=X.A.in1) (I.ok.hd hc) _ a (Nat.ne_of_lt lt) its.toArray,
  ⟨⟨_,Heap.get?_push_size _ rfl,rfl,rfl⟩,hl.push _⟩,fun i v s' Q' E' hP hQ=>?_,fun h' tk hk=>?_⟩
 ·have e:its[i]? = some v:=by simpa using hP
  rw [ei,List.getElem?_map] at e
  cases eb:bs[i]? with
  | none=>rw [eb] at e;cases e
  | some b =>
   have hQ:Q' ((bs[i]?).getD false) s':=hQ
   rw [eb] at e hQ
   cases e
   exact wpAny_truthy_bool hQ
 ·have e:its.toArray.size=bs.length:=by rw [List.size_toArray,ei,List.length_map]
  rw [e,any_range]
  exact ⟨.bl (bs.any id),H,I.kept (aA2 hk),rfl,q⟩
end
open PySem.W (Dat kqdP kqdPs kqdOk kqd_lay kqd_eqv)
mutual
inductive HasD (H:Hp):V->Dat->Prop
 | int (i:Int):HasD H (.int i) (.int i)
 | tup {a:Addr} {xs:List V} {ds:List Dat}:H a=some (.tup xs)->HasDs H xs ds->HasD H (.ref a) (.tuple ds)
 | lst {a:Addr} {xs:List V} {ds:List Dat}:H a=some (.lst xs)->HasDs H xs ds->HasD H (.ref a) (.list ds)
inductive HasDs (H:Hp):List V->List Dat->Prop
 | nil:HasDs H [] []
 | cons {x:V} {xs:List V} {d:Dat} {ds:List Dat}:HasD H x d->HasDs H xs ds->HasDs H (x :: xs) (d :: ds)
end
mutual
theorem HasD.keep {H H':Hp} (k:∀ a o,H a=some o->H' a=some o):∀ {v:V} {d:Dat},HasD H v d->HasD H' v d
 | _,_,.int i=>.int i
 | _,_,.tup h r=>.tup (k _ _ h) (HasDs.keep k r)
 | _,_,.lst h r=>.lst (k _ _ h) (HasDs.keep k r)
theorem HasDs.keep {H H':Hp} (k:∀ a o,H a=some o->H' a=some o):∀ {v:List V} {d:List Dat},HasDs H v d->HasDs H' v d
 | _,_,.nil=>.nil
 | _,_,.cons h r=>.cons (HasD.keep k h) (HasDs.keep k r)
end
mutual
theorem HasD.reads {P:Program} {w:World} {H:Hp} {h:Heap} (ok:HOk P w H h):∀ {v:V} {d:Dat},HasD H v d->∀ {u:Value},RelV v u->∃ as,Reads h u (kqdP d) as
 | _,_,.int i,_,⟨t,e⟩=>by subst e;exact ⟨_,Reads.int i t⟩
 | _,_,.tup hh r,_,e=>by
  have e:_=Value.ref _:=e
  subst e
  obtain ⟨_,its,rv,o,ho,hc,n,hd⟩:=(show ObjOk P w H h _ _ from ok _ _ hh)
  obtain ⟨as,q⟩:=HasDs.reads ok r rv
  rw [kqdP]
  exact ⟨as,reads_tuple_at ho hc hd (by simpa using q)⟩
 | _,_,.lst hh r,_,e=>by
  have e:_=Value.ref _:=e
  subst e
  obtain ⟨_,its,n,rv,ho⟩:=(show ObjOk P w H h _ _ from ok _ _ hh)
  obtain ⟨as,q⟩:=HasDs.reads ok r rv
  rw [kqdP]
  exact ⟨_,reads_list_at ho rfl rfl (by simpa using q)⟩
theorem HasDs.reads {P:Program} {w:World} {H:Hp} {h:Heap} (ok:HOk P w H h):∀ {vs:List V} {ds:List Dat},HasDs H vs ds->∀ {us:List Value},Vals vs us->∃ as,ReadsAll h us (kqdPs ds) as
 | _,_,.nil,_,.nil=>⟨_,ReadsAll.nil⟩
 | _,_,.cons hd r,_,.cons rv rt=>by
  obtain ⟨as,q⟩:=HasD.reads ok hd rv
  obtain ⟨bs,p⟩:=HasDs.reads ok r rt
  rw [kqdPs]
  exact ⟨_,ReadsAll.cons q p⟩
end
section
variable {X:Cx}
end
def RawD (h:Heap) (d:Addr) (es:Array DictEntry) (ep:Nat):Prop:=∃ o,h.get? d=some o/\o.ExactDict/\o.data=.dict es ep
theorem RawD.at {h h':Heap} {d:Addr} {es:Array DictEntry} {ep:Nat} (x:RawD h d es ep) (k:∀ o,h.get? d=some o->h'.get? d=some o):RawD h' d es ep:=let ⟨o,ho,r⟩:=x;⟨o,k o ho,r⟩
theorem RawD.lt {h:Heap} {d:Addr} {es:Array DictEntry} {ep:Nat} (x:RawD h d es ep):d < h.objs.size:=let ⟨_,ho,_⟩:=x;Heap.lt_size ho
theorem RawD.ty {s:Shared} {d:Addr} {es:Array DictEntry} {ep:Nat} (x:RawD s.heap d es ep):s.TypeIs (.ref d) "dict":=let ⟨o,ho,hc,_⟩:=x;⟨o,ho,hc.1⟩
section
variable {prog:Program} {w:World} {A:Around} {E:Value->Shared->Prop} {s:Shared} {d it:Addr} {es:Array DictEntry} {ep i:Nat}
theorem aFz {Q:Value->Shared->Prop} (hd:(d == sysModules)=false) (hm:RawD s.heap d es ep)
  (q:Q (.ref s.heap.objs.size) { s with heap:=s.heap.push { cls:=.type "dict_keyiterator",data:=.fields #[.ref d,.int 0 0,.int es.size 0,.int ep 0] } }):wpAny (model prog w) A (pyIter (.ref d)) Q E s:=by
 have ty:=hm.ty
 obtain ⟨o,ho,hc,hdat⟩:=hm
 refine wpAny_pyIter_slot ty F.slot_dict_iter (wpAny_call_entry F.slot_dict_iter ty F.entry_dict_iter ?_ (F.args_dict_iter_1 _))
 unfold Builtin.«dict.__iter__» Builtin.Dict.dictSlotNone
 refine wpAny_bind (wpAny_bind (wpAny_notOrdered_dict ty (wpAny_pure ?_)))
 unfold Builtin.Dict.showsAll
 refine wpAny_bind (m:=Builtin.Dict.addrOf (Value.ref d)) (wpAny_pure ?_)
 rw [if_neg (by rw [hd];exact Bool.false_ne_true)]
 refine wpAny_bind (wpAny_pure (wpAny_bind (wpAny_dictEntries ho hdat (wpAny_bind (wpAny_dictEpoch ho hdat ?_)))))
 exact wpAny_bind (wpAny_newObj_type (wpAny_pure ⟨_,rfl,_,_,⟨_,Heap.get?_push_size _ rfl,rfl⟩,F.slot_dict_keyiterator_next.lookup,q⟩))
theorem aG3 {Q:Option Value->Shared->Prop} (hit:s.heap.IsKeyIter it d i es.size ep) (hm:RawD s.heap d es ep) (lt:i < es.size)
  (q:∀ h',h'.IsKeyIter it d (i+1) es.size ep->Heap.SameBut it s.heap h'->Q (some es[i].key) { s with heap:=h' }):wpAny (model prog w) A (pyNext (.ref it)) Q E s:=by
 have ty:=hit.typeIs
 obtain ⟨o,ho,hc,hd⟩:=hit
 obtain ⟨od,hod,_,hdd⟩:=hm
 have own:Builtin.Dict_items.ownsTuple "dict_keyiterator" = false:=by decide
 have nn:¬ ((i:Int) < 0):=Int.not_lt.mpr (Int.natCast_nonneg i)
 unfold pyNext
 refine wpAny_bind (wpAny_attempt (wpAny_callSpecial?_slot (name:=Str.ofString "__next__") ty F.slot_dict_keyiterator_next (wpAny_call_entry F.slot_dict_keyiterator_next ty F.entry_dict_keyiterator_next ?_ (F.args_dict_keyiterator_next_1 _))))
 refine wpAny_bind (wpAny_pure (wpAny_bind (wpAny_bind ?_)))
 first | refine wpAny_bind (wpAny_typeNameOfWhole_keyiter ty (wpAny_pure ?_)) | refine wpAny_bind (wpAny_typeNameOf_keyiter ty (wpAny_pure ?_))
 refine wpAny_bind (wpAny_fieldsOf ho hd ?_)
 simp only [own,Bool.false_eq_true,if_false]
 show wpAny _ _ (if (Value.ref d == Value.none)=true then _ else _) _ _ s
 rw [if_neg (by intro z;cases z)]
 refine wpAny_bind (wpAny_pure (wpAny_bind (wpAny_dictEntries hod hdd ?_)))
 rw [if_neg (by simp)]
 refine wpAny_bind (wpAny_pure (wpAny_bind (wpAny_dictEpoch hod hdd ?_)))
 rw [if_neg (by simp)]
 refine wpAny_pure ?_
 simp only [nn,if_false,Int.toNat_natCast,Array.getElem?_eq_getElem lt]
 refine wpAny_bind ?_
 first | refine wpAny_bind (wpAny_typeNameOfWhole_keyiter ty (wpAny_pure ?_)) | refine wpAny_bind (wpAny_typeNameOf_keyiter ty (wpAny_pure ?_))
 refine wpAny_bind (wpAny_isOneOf_keyiter ty ?_)
 refine wpAny_bind (m:=setField (.ref it) 1 (rawInt ((i:Int)+1))) (wpAny_setField ho hd (by simp) ?_)
 have hit':(s.heap.update it (Obj.mapFields (·.setIfInBounds 1 (rawInt ((i:Int)+1))))).IsKeyIter it d (i+1) es.size ep :=
  ⟨_,Heap.get?_update_self _ ho (Obj.isFreed_of_fields (Obj.data_mapFields hd _)),(Obj.cls_mapFields ..).trans hc,(Obj.data_mapFields hd _).trans (by simp [rawInt])⟩
 refine wpAny_bind (wpAny_holding (wpAny_bind (wpAny_isOneOf_keyiter (s:={ s with heap:=s.heap.update it (Obj.mapFields (·.setIfInBounds 1 (rawInt ((i:Int)+1)))) }) hit'.typeIs ?_)))
 exact wpAny_pure (wpAny_pure ⟨_,rfl,wpAny_pure (q _ hit' (Heap.SameBut.update ..))⟩)
theorem aJt {Q:Option Value->Shared->Prop} (hh:A.handled=none) (hit:s.heap.IsKeyIter it d es.size es.size ep) (hm:RawD s.heap d es ep) (q:∀ h',Heap.ExtBut it s.heap h'->Q none { s with heap:=h' }):wpAny (model prog w) A (pyNext (.ref it)) Q E s:=by
 have ty:=hit.typeIs
 obtain ⟨o,ho,hc,hd⟩:=hit
 obtain ⟨od,hod,_,hdd⟩:=hm
 have own:Builtin.Dict_items.ownsTuple "dict_keyiterator" = false:=by decide
 have nn:¬ ((es.size:Int) < 0):=Int.not_lt.mpr (Int.natCast_nonneg _)
 unfold pyNext
 refine wpAny_bind (wpAny_attempt (wpAny_callSpecial?_slot (name:=Str.ofString "__next__") ty F.slot_dict_keyiterator_next (wpAny_call_entry F.slot_dict_keyiterator_next ty F.entry_dict_keyiterator_next ?_ (F.args_dict_keyiterator_next_1 _))))
 refine wpAny_bind (wpAny_pure (wpAny_bind (wpAny_bind ?_)))
 first | refine wpAny_bind (wpAny_typeNameOfWhole_keyiter ty (wpAny_pure ?_)) | refine wpAny_bind (wpAny_typeNameOf_keyiter ty (wpAny_pure ?_))
 refine wpAny_bind (wpAny_fieldsOf ho hd ?_)
 simp only [own,Bool.false_eq_true,if_false]
 show wpAny _ _ (if (Value.ref d == Value.none)=true then _ else _) _ _ s
 rw [if_neg (by intro z;cases z)]
 refine wpAny_bind (wpAny_pure (wpAny_bind (wpAny_dictEntries hod hdd ?_)))
 rw [if_neg (by simp)]
 refine wpAny_bind (wpAny_pure (wpAny_bind (wpAny_dictEpoch hod hdd ?_)))
 rw [if_neg (by simp)]
 refine wpAny_pure ?_
 simp only [nn,if_false,Int.toNat_natCast,Array.getElem?_eq_none (Nat.le_refl es.size)]
 refine wpAny_bind ?_
 first | refine wpAny_bind (wpAny_typeNameOfWhole_keyiter ty (wpAny_pure ?_)) | refine wpAny_bind (wpAny_typeNameOf_keyiter ty (wpAny_pure ?_))
 refine wpAny_bind (m:=setField (.ref it) 0 .none) (wpAny_setField ho hd (by simp) ?_)
 refine wpAny_bind (m:=newExc (.type "StopIteration") []) ?_
 simp only [newExc,newTuple]
 refine wpAny_bind (wpAny_newObj_type (wpAny_bind (m:=firstArgMember _ _) (wpAny_of_eq (a:=Value.none) (by first | rfl | (simp only [firstArgMember];rfl)) ?_)) (by size_fits))
 refine wpAny_newObj_type ?_ (by size_fits)
 simp only [raiseNew]
 refine wpAny_bind (wpAny_handled ?_)
 rw [show A.in1.handled=none from hh]
 refine wpAny_bind (wpAny_pure (wpAny_throw ?_))
 refine wpAny_bind (wpAny_isInstance (T:="StopIteration") (b:=true) ⟨_,Heap.get?_push_size _ rfl,rfl⟩ isSubtype_stop ?_)
 exact wpAny_pure (q _ (((Heap.SameBut.update ..).extBut.push _).push _))
theorem aEe (hh:A.handled=none) (I d:Addr) (hne:d≠I) (es:Array DictEntry) (ep:Nat) :
  Walks prog w A I [I,d] [I] es.size (fun i v=>∃ e,es[i]? = some e/\v=e.key) (fun i h=>h.IsKeyIter I d i es.size ep/\RawD h d es ep) where
 sub:=fun b hb=>List.mem_cons.mpr (.inl (List.mem_singleton.mp hb))
 frame:=fun _ _ _ st hk=>⟨st.1.at fun o e=>hk I (by simp) o e,st.2.at fun o e=>hk d (by simp) o e⟩
 item:=fun i s Q E hi st hQ=>aG3 st.1 st.2 hi fun h' hit' sb=>hQ _ h' s.toks ⟨es[i],by simp [hi],rfl⟩ ⟨hit',st.2.at fun o e=>(sb.2 d hne).trans e⟩ fun b o hb e=>(sb.2 b fun z=>hb (by simp [z])).trans e
 done:=fun s Q E st hQ=>aJt hh st.1 st.2 fun h' he'=>hQ h' s.toks fun b o hb e=>he' b o (fun z=>hb (by simp [z])) e
 self:=fun _ _ _ _ st hQ=>wpAny_pyIter_keyiter st.1 hQ
theorem aJp (lo:(d == sysModules)=false):PySem.W.KdlSrc prog w "dict" d d es.size (fun i v=>∃ e,es[i]? = some e/\v=e.key) (fun h=>RawD h d es ep) where
 type:=fun _ hm=>hm.ty
 there:=fun _ hm=>⟨hm.lt,hm.lt⟩
 keep:=fun _ _ hm hk=>hm.at fun o e=>hk d (.inl rfl) o e
 notList:=by decide
 notTuple:=by decide
 hint:=fun _ _ _ _ hm hq=>PySem.W.kdl_hint_dict hm.ty hq
 iter:=fun _ _ hh hm=>⟨_,_,(fun _ _ hq=>aFz lo hm hq),aEe hh _ d (Nat.ne_of_lt hm.lt) es ep,⟨⟨_,Heap.get?_push_size _ rfl,rfl,rfl⟩,hm.at fun o e=>Heap.get?_push_of_some _ e⟩⟩
end
section
variable {prog:Program} {w:World} {A:Around} {R:Result->Shared->Prop} {s:Shared}
abbrev aC4 (ifs:List Expr) (env:Env):Sem Bool:=forIn ifs true fun c r=>if r=true then do let ok <- isTrue c env (eval c env);pure (ForInStep.yield ok) else pure (ForInStep.yield r)
theorem aCo {elt target iter:Expr} {ifs:List Expr} {scope:Scope} {pos:Pos} {it acc:Value} {env:Env} (I:Nat->Shared->Prop)
  (turn:∀ n s,I n s->wpAny (model prog w) A (pyNext it) (fun r s₁=>match r with
   | none=>R (.ok .next) s₁
   | some v=>wpAny (model prog w) A (letOwnedTupleGo target it v) (fun _ s₀=>wpAny (model prog w) A (assign target env v) (fun _ s₂ =>
     wpAny (model prog w) A (aC4 ifs env) (fun ok s₃ =>
      if ok=true then wpAny (model prog w) A (eval elt env) (fun x s₄ =>
       wpAny (model prog w) A (call (.builtin "list.append") [acc,x]) (fun _ s₅=>∃ m,m < n/\I m s₅) (fun _ _=>False) s₄) (fun _ _=>False) s₃
      else ∃ m,m < n/\I m s₃) (fun _ _=>False) s₂) (fun _ _=>False) s₀) (fun _ _=>False) s₁) (fun _ _=>False) s)
  (n:Nat) (h:I n s):codeAny (model prog w) A (.compLoop (.ListComp elt [⟨target,iter,ifs,0⟩] scope pos) 0 it acc env) R s:=by
 refine codeAny_loop rfl I (fun n s hI=>?_) n h
 show wpAny _ A ((compTurn (.ListComp elt [⟨target,iter,ifs,0⟩] scope pos) 0 it acc env).onRaise (fun x=>do noteFrame x env;theTreesLotGoes x)) _ _ s
 refine wpAny_noted ?_
 rw [compTurn_list]
 refine wpAny_bind (wpAny_standAt (wpAny_bind (wpAny_mono (turn n s hI) (fun r s₁ h₁=>?_) fun _ _ z=>z.elim)))
 cases r with
 | none=>exact wpAny_pure h₁
 | some v =>
  refine wpAny_bind (wpAny_mono h₁ (fun _ s₀ h₀=>?_) fun _ _ z=>z.elim)
  refine wpAny_bind (wpAny_mono h₀ (fun _ s₂ h₂=>wpAny_bind (wpAny_mono h₂ (fun ok s₃ h₃=>?_) fun _ _ z=>z.elim)) fun _ _ z=>z.elim)
  cases ok with
  | false=>exact wpAny_pure ⟨rfl,h₃⟩
  | true =>
   exact wpAny_bind (wpAny_bind (wpAny_mono h₃ (fun x s₄ h₄=>wpAny_bind (wpAny_mono h₄ (fun _ s₅ h₅=>wpAny_pure (wpAny_pure ⟨rfl,h₅⟩)) fun _ _ z=>z.elim)) fun _ _ z=>z.elim))
end
def PTs (X:Cx) (ifs:List Expr) (t:TT):Prop :=
 ∀ (pins:List (Addr×Obj)) (s:Shared) (σ:St) (H:Hp) (Q:Bool->Hp->Prop),Inv X pins σ H s->t σ H Q->wpAny (model X.prog X.w) X.A (aC4 ifs X.env) (TP X pins σ Q) X.xe s
def aR8:TT:=fun _ H Q=>Q true H
theorem aKn {X:Cx}:PTs X [] aR8:=fun _ _ _ H _ I h=>wpAny_tests_nil ⟨H,I,h⟩
theorem aKy {X:Cx} {c:Expr} {t:TT} (h:PT X c t):PTs X [c] t:=fun pins s σ H Q I hw=>wpAny_tests_one (h pins s σ H Q I hw)
def yP (wi:TI) (g:TG) (tt:TT) (te:TE) (n:Nat) (js:List Nat):TE:=fun σ H Q=>wi σ H fun J H1=>∀ D,H1 D=none->∃ (N:Nat) (W:Nat->List V->Hp->Prop),W 0 [] (upd H1 D (.lst []))/\∀ i ys H2,W i ys H2 ->
 (J.stop i H2/\Q (.ref D) H2)\/(i < N/\J.go i H2/\∀ v H3,J.yld i H2 v H3->g v (List.replicate n none++x8 js σ) H3 fun σ2 H4=>(σ2.length=n+js.length/\σ2.drop n=x8 js σ)/\tt σ2 H4 fun b H5 =>
  if b=true then te σ2 H5 fun y H6=>H6 D=some (.lst ys)/\ys.length < sizeLine/\W (i+1) (ys++[y]) (upd H6 D (.lst (ys++[y]))) else W (i+1) ys H5)
section
variable {X:Cx}
theorem Inv.but {pins:List (Addr×Obj)} {σ:St} {H:Hp} {s:Shared} {C:Addr} {h':Heap} (I:Inv X pins σ H s) (f:aGw X pins H C) (hs:Heap.SameBut C s.heap h'):Inv X pins σ H { s with heap:=h' }:=by
 have ne:∀ b,b∉[C]->b≠C:=fun b hb z=>hb (by rw [z];exact .head _)
 refine I.call' (s':={ s with heap:=h' }) (ch:=[C]) rfl ⟨fun b o e n hb hx=>(hs.2 b (ne b hx)).trans e,fun b o e n hb hx=>⟨o.slots,(hs.2 b (ne b hx)).trans e⟩,fun b o e n hx=>n,fun b o e hx=>⟨o,(hs.2 b (ne b hx)).trans e⟩,fun b xs e=>e,fun b o u e=>e,fun b ps e=>⟨#[],by rw [Array.append_empty];exact e⟩⟩ (rG I.hok fun b o nn e=>(hs.2 b (fun z=>nn (by rw [z];exact f.1))).trans e) I.bare fun b hb=>?_
 rw [List.mem_singleton.mp hb]
 exact ⟨f.2.2.2.1,f.2.1,f.2.2.2.2.1,f.2.2.2.2.2⟩
set_option maxHeartbeats 8000000 in
theorem uR {elt iter tg:Expr} {pos:Pos} {scope:Scope} {ifs:List Expr} {wi:TI} {g:TG} {tt:TT} {te:TE} {xs ys:List Str} {js:List Nat} {cl:List (Str×Addr)} (hc:X.calm=true) (hi:PI X tg iter wi)
  (hcl:aJx X scope cl) (hcap:qB X scope cl ys js) (hcell:∀ y∈scope.names,y.2≠.cell) (hkind:scope.kind=.function) (hnames:∀ y∈scope.names,y.2=.local->scope.names.lookup y.1=some .local)
  (hg:∀ C s₀ H₀ ex pn,PG (b9 X scope cl C (xs++ys) s₀ H₀ ex pn) tg g) (ht:∀ C s₀ H₀ ex pn,PTs (b9 X scope cl C (xs++ys) s₀ H₀ ex pn) ifs tt) (hb:∀ C s₀ H₀ ex pn,PE (b9 X scope cl C (xs++ys) s₀ H₀ ex pn) elt te)
  (hs:∀ x,foldedSetIterable iter X.env x=pure x) {use:Option (Value->Sem Unit)} {QQ:Value->Shared->Prop} {Q:VK} {pins:List (Addr×Obj)} {s:Shared} {σ:St} {H:Hp} {cp:Pos} (I:Inv X pins σ H s)
  (aP9:∀ (C D:Addr) (s':Shared) (H':Hp),Inv X pins σ H' s'->aGw X pins H' C->(∃ m,s'.heap.Ns C m)->Q (.ref D) H'->compPost (model X.prog X.w) X.A X.xe use QQ (.ref D) C (.ok .next) s')
  (h:yP wi g tt te xs.length js σ H Q) :
  wpAny (model X.prog X.w) X.A (comprehension (.ListComp elt [⟨tg,iter,ifs,0⟩] scope pos) scope X.env cp (newList []) false (eval iter X.env) use) QQ X.xe s:=by
 refine wpAny_comprehension_free rfl hs hcl.clos hkind hnames (thn (hi pins s σ H _ I h) fun v s1 h1=>thn h1 fun itv s2 h2=>?_)
 obtain ⟨it,fp,tn,J,H2,e,I2,T,st2,f2,q2⟩:=h2
 subst e
 obtain ⟨n,W,w0,turn⟩:=q2 s2.heap.objs.size I2.fresh
 refine wpAny_newObj_type (wpAny_newFunctionEnv hcell (by intro y hy;simp at hy) (fun h₁ hns₁ hsb₁=>?_) hkind)
 dsimp only at hns₁ hsb₁ ⊢
 have I3:=I2.lnew (ys:=[]) (its:=[]) (t':=s2.toks) .nil (Nat.zero_le _)
 generalize hg3:s2.heap.push { cls:=.type "list",dict:=none,data:=.seq ([]:List Value).toArray }=g3 at hns₁ hsb₁ I3 ⊢
 have sz3:g3.objs.size=s2.heap.objs.size+1:=by rw [<- hg3,Heap.size_push]
 generalize hC:g3.objs.size=C at hns₁ hsb₁ ⊢
 have old3:∀ b o,g3.get? b=some o->h₁.get? b=some o:=fun b o q=>hsb₁.extBut b o (by rw [<- hC];exact Nat.ne_of_lt (Heap.lt_size q)) (Heap.get?_push_of_some _ q)
 have old2:∀ b o,s2.heap.get? b=some o->g3.get? b=some o:=fun b o q=>by rw [<- hg3];exact Heap.get?_push_of_some _ q
 have fpl:∀ b∈fp,∃ o,s2.heap.get? b=some o/\∀ v,o.data≠.cell v:=T.obj _ _ st2
 have fplt:∀ b∈fp,b < s2.heap.objs.size:=fun b hb=>let ⟨o,q,_⟩:=fpl b hb;Heap.lt_size q
 have H3n:∀ b,b≠s2.heap.objs.size->upd H2 s2.heap.objs.size (.lst []) b=H2 b:=fun b hb=>a9 hb
 have fp3:∀ b∈fp,upd H2 s2.heap.objs.size (.lst []) b=none:=fun b hb=>by rw [H3n b (Nat.ne_of_lt (fplt b hb))];exact (f2 b hb).1
 have okX:=I3.ok
 have inj:∀ y z c,cl.lookup y=some c->cl.lookup z=some c->y=z:=fun y z c h1 h2=>okX.inj y z c (hcl.sub y c h1) (hcl.sub z c h2)
 have cellE:∀ y c,cl.lookup y=some c->∃ v,g3.IsCell c v:=fun y c q=>I3.cell y c (hcl.sub y c q)
 have st3:g3.FunFrames X.base X.stack:=I3.stack
 have exlt:∀ b∈fp,b≠C:=fun b hb=>by rw [<- hC,sz3];exact Nat.ne_of_lt (Nat.lt_succ_of_lt (fplt b hb))
 have frlt:∀ b∈frs X.stack,b < g3.objs.size:=fun b hb=>let ⟨_,o,q,_⟩:=st3.mem hb;Heap.lt_size q
 have okB:(b9 X scope cl C (xs++ys) { s2 with heap:=g3 } (upd H2 s2.heap.objs.size (.lst [])) fp (X.pn++pins)).Ok:=by
  refine ⟨okX.mod,hkind,okX.glob,okX.blt,Nat.le_of_eq hC,inj,fun y hy=>hcl.has y hy,(fun y c hf _=>nomatch hf),okX.hd,okX.frames,.inl rfl,fun b hb=>⟨exlt b hb,fun y c q z=>?_⟩,I3.bs,Nat.le_trans okX.bsz I3.sz,fun b o q hb=>?_,fun b hb=>?_,st3,I3.stkFree⟩
  ·subst z
   exact (f2 c hb).2.2.2.2.1 y c (hcl.sub y c q) rfl
  ·rcases (f2 b hb).2.2.2.1 with z | z
   ·exact okX.noex b o q z
   ·have:=Heap.lt_size (okX.bs b o q).1
    exact absurd (Nat.lt_of_lt_of_le this z) (Nat.lt_irrefl _)
  ·intro hz
   rcases List.mem_cons.mp (I3.stkSub b hz) with z | z
   ·exact (f2 b hb).2.1 z
   ·exact (f2 b hb).2.2.1 z
 have tot:∀ tk:Nat,Inv (b9 X scope cl C (xs++ys) { s2 with heap:=g3 } (upd H2 s2.heap.objs.size (.lst [])) fp (X.pn++pins)) [] (List.replicate xs.length none++x8 js σ) (upd H2 s2.heap.objs.size (.lst [])) { s2 with heap:=h₁,toks:=tk }:=fun tk=>by
  refine ⟨okB,rfl,I3.bare,Un.kept old3,⟨_,hns₁,fun i y v' e1 e2 e3=>?_⟩,fun y c q=>?_,I3.hok.fresh (Nat.le_of_eq hC),fun y c q=>?_,fun p hp=>?_,I3.hok.kept old3,?_⟩
  ·by_cases hix:i < xs.length
   ·rw [List.getElem?_append_left (by rw [List.length_replicate];exact hix),List.getElem?_replicate] at e2
    split at e2<;>cases e2
   ·have hix':xs.length<=i:=by omega
    obtain ⟨k,rfl⟩:∃ k,i=xs.length+k:=⟨i - xs.length,by omega⟩
    have e1':ys[k]? = some y:=by
     rw [List.getElem?_append_right (by omega)] at e1
     simpa using e1
    have e2':(x8 js σ)[k]? = some (some v'):=by
     rw [List.getElem?_append_right (by rw [List.length_replicate];omega),List.length_replicate] at e2
     simpa using e2
    unfold x8 at e2'
    rw [List.getElem?_map] at e2'
    cases ej:js[k]? with
    | none=>rw [ej] at e2';cases e2'
    | some j =>
     rw [ej] at e2'
     have e2'':(σ[j]?).getD none=some v':=Option.some.inj e2'
     have eσ:σ[j]? = some (some v'):=by
      cases es:σ[j]? with
      | none=>rw [es] at e2'';cases e2''
      | some z=>rw [es] at e2'';have:z=some v':=e2'';rw [this]
     obtain ⟨c1,c2,c3,c4,c5⟩:=hcap.at_ k y j e1' ej
     obtain ⟨m0,hn0,hl0⟩:=I3.loc
     obtain ⟨u,r,l⟩:=hl0 j y v' c1 eσ (c2.elim (fun z=>.inr (.inl z)) fun z=>.inr (.inr z))
     refine ⟨u,r,.inr ⟨c3,?_⟩⟩
     rcases l with ⟨l,_⟩ | ⟨_,c,hcc,z⟩
     ·rcases c2 with c2 | c2
      ·rw [c2] at l;cases l
      ·rw [c2] at l;cases l
     ·obtain ⟨o,ho,hd⟩:=z
      exact ⟨c,c5.trans hcc,o,old3 c o ho,hd⟩
  ·obtain ⟨v0,o,ho,hd⟩:=cellE y c q
   exact ⟨v0,o,old3 c o ho,hd⟩
  ·exact I3.freeC y c (hcl.sub y c q)
  ·have hp':p∈X.pn++pins:=by simpa using hp
   obtain ⟨p1,p2,p3,p4,p5⟩:=I3.pin p hp'
   refine ⟨old3 _ _ p1,p2,?_,fun hz=>?_,p5⟩
   ·show p.1≠C
    rw [<- hC]
    exact Nat.ne_of_lt (Heap.lt_size p1)
   ·rcases List.mem_cons.mp (I3.stkSub p.1 hz) with z | z
    ·exact p3 z
    ·exact p4 z
  ·show (List.replicate xs.length none++x8 js σ).length=(xs++ys).length
   unfold x8
   simp [hcap.len]
 have fpB:∀ {H':Hp},(∀ b∈fp,H' b=none)->∀ b∈fp,aGw (b9 X scope cl C (xs++ys) { s2 with heap:=g3 } (upd H2 s2.heap.objs.size (.lst [])) fp (X.pn++pins)) [] H' b:=fun hn b hb =>
  ⟨hn b hb,exlt b hb,okB.exfs b hb,.inl hb,(okB.exf b hb).2,fun p hp=>(f2 b hb).2.2.2.2.2 p (by simpa using hp)⟩
 have fin:∀ s':Shared,(∃ i zs σ' H',Inv (b9 X scope cl C (xs++ys) { s2 with heap:=g3 } (upd H2 s2.heap.objs.size (.lst [])) fp (X.pn++pins)) [] σ' H' s'/\W i zs H'/\J.stop i H'/\Q (.ref s2.heap.objs.size) H') ->
   compPost (model X.prog X.w) X.A X.xe use QQ (.ref s2.heap.objs.size) C (.ok .next) s':=by
  rintro s' ⟨i,zs,σ',H',Ib,w,stop,q⟩
  obtain ⟨m',hn',_⟩:=Ib.loc
  have ub:=Ib.base
  have un:Un (frs X.stack) fp (upd H2 s2.heap.objs.size (.lst [])) H' g3 s'.heap:=ub
  have IX:Inv X pins σ H' s':=I3.call' (s':=s') (ch:=fp) Ib.os un Ib.hok Ib.bare fun b hb=>⟨(f2 b hb).2.2.2.1,(f2 b hb).2.1,(f2 b hb).2.2.2.2.1,(f2 b hb).2.2.2.2.2⟩
  exact aP9 C _ s' H' IX (I3.fpOk (Nat.le_of_eq hC) Ib.free) ⟨m',hn'⟩ q
 have loop:∀ s₃:Shared,(∃ tk,s₃={ s2 with heap:=h₁,toks:=tk }) ->
   codeAny (model X.prog X.w) X.A (.compLoop (.ListComp elt [⟨tg,iter,ifs,0⟩] scope pos) 0 (.ref it) (.ref s2.heap.objs.size) (compEnvC scope cl C X.env)) (compPost (model X.prog X.w) X.A X.xe use QQ (.ref s2.heap.objs.size) C) s₃:=by
  rintro s₃ ⟨tk,rfl⟩
  refine aCo (fun k s'=>∃ i zs H',k=n+1 - i/\i<=n/\Inv (b9 X scope cl C (xs++ys) { s2 with heap:=g3 } (upd H2 s2.heap.objs.size (.lst [])) fp (X.pn++pins)) [] (List.replicate xs.length none++x8 js σ) H' s'/\tn i s'.heap/\(∀ b∈fp,H' b=none)/\W i zs H')
   ?_ (n+1) ⟨0,[],_,rfl,Nat.zero_le _,tot tk,T.keep _ _ _ st2 fun b hb o q=>old3 b o (old2 b o q),fp3,w0⟩
  rintro k s' ⟨i,zs,H',rfl,hin,Ib,st,fr,w⟩
  rcases turn i zs H' w with ⟨stop,qq⟩ | ⟨hlt,go,step⟩
  ·refine wpAny_mono (T.done (b9 X scope cl C (xs++ys) { s2 with heap:=g3 } (upd H2 s2.heap.objs.size (.lst [])) fp (X.pn++pins)) rfl rfl rfl hc i [] s' _ H' (fun _ _=>False) Ib (fpB fr) st stop) (fun r s4 ⟨hr,I4⟩=>?_) fun _ _ z=>z.elim
   subst hr
   exact fin s4 ⟨i,zs,_,H',I4,w,stop,qq⟩
  ·refine wpAny_mono (T.item (b9 X scope cl C (xs++ys) { s2 with heap:=g3 } (upd H2 s2.heap.objs.size (.lst [])) fp (X.pn++pins)) rfl rfl rfl hc i [] s' _ H' (fun _ _=>False) Ib (fpB fr) st go) (fun r s4 ⟨u,hr,h4⟩=>?_) fun _ _ z=>z.elim
   subst hr
   refine wpAny_mono h4 (fun _ s5 ⟨v5,H5,I5,r5,y5,st5,fr5⟩=>?_) fun _ _ z=>z.elim
   have I5':=I5.pinned (fpB fr5) (T.obj _ _ st5)
   have hw5:=step v5 H5 y5
   refine wpAny_mono (hg C _ _ fp (X.pn++pins) _ s5 _ H5 v5 u _ I5' r5 hw5) (fun _ s6 ⟨σ6,H6,I6,⟨hl6,hd6⟩,e6⟩=>?_) fun _ _ z=>z.elim
   have back:∀ {H':Hp} {s':Shared} {pins':List (Addr×Obj)},Inv (b9 X scope cl C (xs++ys) { s2 with heap:=g3 } (upd H2 s2.heap.objs.size (.lst [])) fp (X.pn++pins)) pins' σ6 H' s'->Inv (b9 X scope cl C (xs++ys) { s2 with heap:=g3 } (upd H2 s2.heap.objs.size (.lst [])) fp (X.pn++pins)) pins' (List.replicate xs.length none++x8 js σ) H' s':=fun I'=>by
    refine I'.weak ?_ fun j v' e=>?_
    ·rw [hl6];unfold x8;simp
    ·by_cases hj:j < xs.length
     ·rw [List.getElem?_append_left (by rw [List.length_replicate];exact hj),List.getElem?_replicate] at e
      split at e<;>cases e
     ·rw [List.getElem?_append_right (by rw [List.length_replicate];omega),List.length_replicate,<- hd6,List.getElem?_drop] at e
      rw [<- e]
      congr 1
      omega
   refine wpAny_mono (ht C _ _ fp (X.pn++pins) _ s6 _ _ _ I6 e6) (fun ok s6b ⟨H6b,I6b,e6b⟩=>?_) fun _ _ z=>z.elim
   cases ok with
   | false =>
    rw [if_neg Bool.false_ne_true]
    have e6c:W (i+1) zs H6b:=by simpa using e6b
    have I8:=back I6b
    refine ⟨n+1 - (i+1),by omega,i+1,zs,_,rfl,hlt,I8.unpinned (pins:=[]),?_,fun b hb=>?_,e6c⟩
    ·exact T.keep _ _ _ st5 fun b hb o q=>(I8.pin (b,o) (List.mem_append_right _ (List.mem_append_right _ (fZ hb q)))).1
    ·obtain ⟨o,q,d⟩:=T.obj _ _ st5 b hb
     exact (I8.pin (b,o) (List.mem_append_right _ (List.mem_append_right _ (fZ hb q)))).2.1
   | true =>
    rw [if_pos rfl]
    have e6c:=e6b
    rw [if_pos rfl] at e6c
    refine wpAny_mono (hb C _ _ fp (X.pn++pins) _ s6b _ _ _ I6b e6c) (fun y s7 ⟨yv,H7,I7,r7,hD,hz,w7⟩=>?_) fun _ _ z=>z.elim
    obtain ⟨z7,its,n7,rv7,hl7,e7⟩:=I7.lstM hD
    refine append_at (n:=n7) (its:=its.toArray) e7 (fun h₈ sb8 eD8=>?_) (by rw [List.size_toArray,<- hl7];exact Nat.le_of_lt hz)
    have I8:Inv _ _ _ (upd H7 s2.heap.objs.size (.lst (zs++[yv]))) { s7 with heap:=h₈,toks:=s7.toks }:=I7.write (x:=s2.heap.objs.size) (e:=s2.heap.objs.size) (by rw [hD];exact trivial) (.inl rfl) (fun b u hb q=>(sb8.2 b hb).trans q) ⟨_,eD8⟩
     ⟨by rw [List.length_append];exact hz,its++[y],n7+1,rv7.append (.cons r7 .nil),by rw [eD8,List.push_toArray]⟩
    have I9:=back I8
    refine ⟨n+1 - (i+1),by omega,i+1,zs++[yv],_,rfl,hlt,I9.unpinned (pins:=[]),?_,fun b hb=>?_,w7⟩
    ·exact T.keep _ _ _ st5 fun b hb o q=>(I8.pin (b,o) (List.mem_append_right _ (List.mem_append_right _ (fZ hb q)))).1
    ·obtain ⟨o,q,d⟩:=T.obj _ _ st5 b hb
     exact (I8.pin (b,o) (List.mem_append_right _ (List.mem_append_right _ (fZ hb q)))).2.1
 exact codeAny_compStart_list (loop _ ⟨_,rfl⟩) (T.self _ 0 _ _ _ (T.keep _ _ _ st2 fun b hb o q=>old3 b o (old2 b o q)) (loop _ ⟨_,rfl⟩))
theorem aGi {elt iter tg:Expr} {pos:Pos} {scope:Scope} {ifs:List Expr} {wi:TI} {g:TG} {tt:TT} {te:TE} {xs ys:List Str} {js:List Nat} {cl:List (Str×Addr)} (hc:X.calm=true) (hi:PI X tg iter wi)
  (hcl:aJx X scope cl) (hcap:qB X scope cl ys js) (hcell:∀ y∈scope.names,y.2≠.cell) (hkind:scope.kind=.function) (hnames:∀ y∈scope.names,y.2=.local->scope.names.lookup y.1=some .local)
  (hg:∀ C s₀ H₀ ex pn,PG (b9 X scope cl C (xs++ys) s₀ H₀ ex pn) tg g) (ht:∀ C s₀ H₀ ex pn,PTs (b9 X scope cl C (xs++ys) s₀ H₀ ex pn) ifs tt) (hb:∀ C s₀ H₀ ex pn,PE (b9 X scope cl C (xs++ys) s₀ H₀ ex pn) elt te)
  (hs:∀ x,foldedSetIterable iter X.env x=pure x:=by intro _;rfl) :
  PE X (.ListComp elt [⟨tg,iter,ifs,0⟩] scope pos) (yP wi g tt te xs.length js):=by
 intro pins s σ H Q I h
 rw [eval_ListComp]
 exact uR hc hi hcl hcap hcell hkind hnames hg ht hb hs (use:=none) (QQ:=EP X pins σ Q) (Q:=Q) I (fun C D s' H' IX f ⟨m,hn⟩ q=>⟨m,hn,fun h' hs'=>⟨.ref D,H',IX.but f hs',rfl,q⟩⟩) h
theorem aE3 {elt iter tg:Expr} {pos py spos:Pos} {scope:Scope} {ifs:List Expr} {wi:TI} {g:TG} {tt:TT} {te:TE} {xs ys:List Str} {js:List Nat} {cl:List (Str×Addr)} {i:Nat} {y:Str} (hN:X.N.Nodup) (hiN:X.N[i]? = some y) (hx:Loc X.env.scope y) (hc:X.calm=true) (hi:PI X tg iter wi)
  (hcl:aJx X scope cl) (hcap:qB X scope cl ys js) (hcell:∀ y∈scope.names,y.2≠.cell) (hkind:scope.kind=.function) (hnames:∀ y∈scope.names,y.2=.local->scope.names.lookup y.1=some .local)
  (hg:∀ C s₀ H₀ ex pn,PG (b9 X scope cl C (xs++ys) s₀ H₀ ex pn) tg g) (ht:∀ C s₀ H₀ ex pn,PTs (b9 X scope cl C (xs++ys) s₀ H₀ ex pn) ifs tt) (hb:∀ C s₀ H₀ ex pn,PE (b9 X scope cl C (xs++ys) s₀ H₀ ex pn) elt te)
  (hsw:swapsWith (.ListComp elt [⟨tg,iter,ifs,0⟩] scope pos) (some (.Name y py)) spos.line X.env=pure true) (hs:∀ x,foldedSetIterable iter X.env x=pure x:=by intro _;rfl)
  (hf:X.fn y=true\/X.env.scope.names.lookup y=some .local:=by first | exact .inl rfl | exact .inr rfl | assumption) :
  PS X (.Assign [.Name y py] (.ListComp elt [⟨tg,iter,ifs,0⟩] scope pos) spos) (aRr (yP wi g tt te xs.length js) (aJz i)):=by
 intro pins s σ H D I h
 rw [exec_Assign_Name_used _ _ _ _ hsw]
 refine wpAny_bind (wpAny_standAt (wpAny_bind ?_))
 show wpAny _ X.A (do let _ <- comprehension (.ListComp elt [⟨tg,iter,ifs,0⟩] scope pos) scope X.env _ (newList []) false (eval iter X.env) (some (assign (.Name y py) X.env))) _ _ s
 refine wpAny_bind (wpAny_mono (uR hc hi hcl hcap hcell hkind hnames hg ht hb hs (use:=some (assign (.Name y py) X.env)) (QQ:=fun _ s'=>∃ σ' H',Inv X pins σ' H' s'/\D.nx σ' H') I (fun C L s' H' IX f ⟨m,hn⟩ q=>?_) h) (fun _ s' hq=>wpAny_pure (wpAny_pure hq)) fun _ _ e=>e)
 obtain ⟨o,es,ep,ho,hd,hr⟩:=id hn
 have IP:=IX.pinned (fp:=[C]) (fun b hb=>by rw [List.mem_singleton.mp hb];exact f) (fun b hb=>by rw [List.mem_singleton.mp hb];exact ⟨o,ho,fun v z=>by rw [hd] at z;cases z⟩)
 refine wpAny_mono (vP (pos:=py) hN hiN hx hf _ s' σ H' (.ref L) (.ref L) _ IP rfl q) (fun _ s2 ⟨σ2,H2,I2,q2⟩=>?_) fun _ _ e=>e
 have pc:=I2.pin (C,o) (List.mem_append_right _ (List.mem_append_right _ (fZ (.head _) ho)))
 exact ⟨m,⟨o,es,ep,pc.1,hd,hr⟩,fun h' hs'=>⟨σ2,H2,(I2.unpinned (pins:=pins)).but ⟨pc.2.1,f.2⟩ hs',q2⟩⟩
end
end L2
namespace M
open PySem PySem.Spec PyProof.Rows L2
abbrev D:=PyData
inductive Res (α:Type) where
 | ok (a:α)
 | exc (C:Addr)
 | bad
def Res.bind {α β:Type} (r:Res α) (f:α->Res β):Res β:=match r with
 | .ok a=>f a
 | .exc C=>.exc C
 | .bad=>.bad
def wpR {α:Type} (r:Res α) (Q:α->Prop) (E:Addr->Prop):Prop:=match r with
 | .ok a=>Q a
 | .exc C=>E C
 | .bad=>False
theorem b6 {α β:Type} {r:Res α} {f:α->Res β} {Q:β->Prop} {E:Addr->Prop}:wpR (r.bind f) Q E=wpR r (fun a=>wpR (f a) Q E) E:=by cases r<;>rfl
theorem bF {α:Type} {r:Res α} {Q Q':α->Prop} {E E':Addr->Prop} (h:wpR r Q E) (hQ:∀ a,Q a->Q' a) (hE:∀ C,E C->E' C):wpR r Q' E':=by
 cases r with
 | ok a=>exact hQ a h
 | exc C=>exact hE C h
 | bad=>exact h
inductive L where
 | p (d:D)
 | o (d:D)
 | x (C:Addr)
 | h (a:Addr)
inductive Ev where
 | p (d:D)
 | f (d:D)
 | b (d:D)
 | x (C:Addr)
def Ev.c:Ev->Ev
 | .f d=>.p d
 | r=>r
abbrev En:=List (Option L)
def kD:Key->D
 | .inl i=>.int i
 | .inr x=>.str x
def tkD (ks:List Key):D:=.tuple (ks.map kD)
mutual
inductive Rep (K:PySem.W.Frag) (G:Hp):V->D->Prop
 | non:Rep K G .non .none
 | bl (b:Bool):Rep K G (.bl b) (.bool b)
 | int (i:Int):Rep K G (.int i) (.int i)
 | str (x:Str):Rep K G (.str x) (.str x)
 | tup {a:Addr} {xs:List V} {ds:List D}:G a=some (.tup xs)->Reps K G xs ds->Rep K G (.ref a) (.tuple ds)
 | lst {a:Addr} {xs:List V} {ds:List D}:Rd G a (.lst xs)->Reps K G xs ds->Rep K G (.ref a) (.list ds)
 | dT {a:Addr} {kv:List (List Key×V)} {kvs:List (D×D)}:G a=some (.dT kv)->RepT K G kv kvs->Rep K G (.ref a) (.dict kvs)
 | dK {a:Addr} {kv:List (Key×V)} {kvs:List (D×D)}:G a=some (.dK kv)->RepK K G kv kvs->Rep K G (.ref a) (.dict ((.none,.none) :: kvs))
inductive Reps (K:PySem.W.Frag) (G:Hp):List V->List D->Prop
 | nil:Reps K G [] []
 | cons {x:V} {xs:List V} {d:D} {ds:List D}:Rep K G x d->Reps K G xs ds->Reps K G (x :: xs) (d :: ds)
inductive RepT (K:PySem.W.Frag) (G:Hp):List (List Key×V)->List (D×D)->Prop
 | nil:RepT K G [] []
 | cons {k:List Key} {x:V} {d:D} {kv:List (List Key×V)} {kvs:List (D×D)}:Rep K G x d->RepT K G kv kvs->RepT K G ((k,x) :: kv) ((tkD k,d) :: kvs)
inductive RepK (K:PySem.W.Frag) (G:Hp):List (Key×V)->List (D×D)->Prop
 | nil:RepK K G [] []
 | cons {k:Key} {x:V} {d:D} {kv:List (Key×V)} {kvs:List (D×D)}:Rep K G x d->RepK K G kv kvs->RepK K G ((k,x) :: kv) ((kD k,d) :: kvs)
end
inductive Cont (K:PySem.W.Frag) (G:Hp):HO->D->Prop
 | lst {xs:List V} {ds:List D}:Reps K G xs ds->Cont K G (.lst xs) (.list ds)
 | dT {kv:List (List Key×V)} {kvs:List (D×D)}:RepT K G kv kvs->Cont K G (.dT kv) (.dict kvs)
 | dK {kv:List (Key×V)} {kvs:List (D×D)}:RepK K G kv kvs->Cont K G (.dK kv) (.dict ((.none,.none) :: kvs))
section
variable {K:PySem.W.Frag} {G G' H H':Hp}
theorem eY {a:Addr} {u:HO} (s:Same G G') (h:Rd G a u):Rd G' a u:=by
 rcases h with h | ⟨o,h⟩
 ·exact .inl (s _ _ h)
 ·exact .inr ⟨o,s _ _ h⟩
mutual
theorem Rep.mono (s:Same G G'):∀ {v:V} {d:D},Rep K G v d->Rep K G' v d
 | _,_,.non=>.non
 | _,_,.bl b=>.bl b
 | _,_,.int i=>.int i
 | _,_,.str x=>.str x
 | _,_,.tup h r=>.tup (s _ _ h) (Reps.mono s r)
 | _,_,.lst h r=>.lst (eY s h) (Reps.mono s r)
 | _,_,.dT h r=>.dT (s _ _ h) (RepT.mono s r)
 | _,_,.dK h r=>.dK (s _ _ h) (RepK.mono s r)
theorem Reps.mono (s:Same G G'):∀ {v:List V} {d:List D},Reps K G v d->Reps K G' v d
 | _,_,.nil=>.nil
 | _,_,.cons h r=>.cons (Rep.mono s h) (Reps.mono s r)
theorem RepT.mono (s:Same G G'):∀ {v:List (List Key×V)} {d:List (D×D)},RepT K G v d->RepT K G' v d
 | _,_,.nil=>.nil
 | _,_,.cons h r=>.cons (Rep.mono s h) (RepT.mono s r)
theorem RepK.mono (s:Same G G'):∀ {v:List (Key×V)} {d:List (D×D)},RepK K G v d->RepK K G' v d
 | _,_,.nil=>.nil
 | _,_,.cons h r=>.cons (Rep.mono s h) (RepK.mono s r)
end
theorem Cont.mono (s:Same G G') {o:HO} {d:D} (h:Cont K G o d):Cont K G' o d:=by
 cases h with
 | lst r=>exact .lst (r.mono s)
 | dT r=>exact .dT (r.mono s)
 | dK r=>exact .dK (r.mono s)
theorem Cont.rep {a:Addr} {o:HO} {d:D} (h:Cont K G o d) (e:G a=some o):Rep K G (.ref a) d:=by
 cases h with
 | lst r=>exact .lst (.inl e) r
 | dT r=>exact .dT e r
 | dK r=>exact .dK e r
theorem Reps.length:∀ {xs:List V} {ds:List D},Reps K G xs ds->xs.length=ds.length
 | _,_,.nil=>rfl
 | _,_,.cons _ r=>by rw [List.length_cons,List.length_cons,Reps.length r]
theorem Reps.get:∀ {xs:List V} {ds:List D} {i:Nat} {x:V},Reps K G xs ds->xs[i]? = some x->∃ d,ds[i]? = some d/\Rep K G x d
 | _,_,_,_,.nil,e=>by simp at e
 | _,_,0,_,.cons h _,e=>by simp at e;subst e;exact ⟨_,rfl,h⟩
 | _,_,i+1,_,.cons _ r,e=>by
  have:=Reps.get (i:=i) r (by simpa using e)
  simpa using this
theorem Reps.get':∀ {xs:List V} {ds:List D} {i:Nat} {d:D},Reps K G xs ds->ds[i]? = some d->∃ x,xs[i]? = some x/\Rep K G x d
 | _,_,_,_,.nil,e=>by simp at e
 | _,_,0,_,.cons h _,e=>by simp at e;subst e;exact ⟨_,rfl,h⟩
 | _,_,i+1,_,.cons _ r,e=>by
  have:=Reps.get' (i:=i) r (by simpa using e)
  simpa using this
theorem Reps.append:∀ {xs ys:List V} {ds es:List D},Reps K G xs ds->Reps K G ys es->Reps K G (xs++ys) (ds++es)
 | _,_,_,_,.nil,r=>r
 | _,_,_,_,.cons h t,r=>.cons h (Reps.append t r)
theorem Reps.take:∀ {xs:List V} {ds:List D} (n:Nat),Reps K G xs ds->Reps K G (xs.take n) (ds.take n)
 | _,_,0,_=>.nil
 | _,_,_+1,.nil=>.nil
 | _,_,n+1,.cons h t=>.cons h (Reps.take n t)
theorem Reps.drop:∀ {xs:List V} {ds:List D} (n:Nat),Reps K G xs ds->Reps K G (xs.drop n) (ds.drop n)
 | _,_,0,r=>r
 | _,_,_+1,.nil=>.nil
 | _,_,n+1,.cons _ t=>Reps.drop n t
end
structure Step (G H G' H':Hp):Prop where
 g:Same G G'
 h:Same H H'
 gh:Same G' H'
 new:∀ b,H b≠none->G b=none->G' b=none\/∃ xs,H b=some (.tup xs)
theorem Step.off {G H G' H':Hp} (s:Step G H G' H') {b:Addr} {o:HO} (h:H b=some o) (n:∀ xs,o≠.tup xs) (g:G b=none):G' b=none:=by
 rcases s.new b (by rw [h];exact fun z=>nomatch z) g with z | ⟨xs,z⟩
 ·exact z
 ·rw [h] at z;exact absurd (Option.some.inj z) (n xs)
theorem aC1 {H H':Hp} (s:Same H H') {b:Addr} (h:H b≠none):H' b≠none:=by
 cases e:H b with
 | none=>exact absurd e h
 | some o=>rw [s b o e];exact fun z=>nomatch z
theorem Step.refl {G H:Hp} (s:Same G H):Step G H G H:=⟨Same.refl _,Same.refl _,s,fun _ _ h=>.inl h⟩
theorem Step.trans {G H G1 H1 G2 H2:Hp} (a:Step G H G1 H1) (b:Step G1 H1 G2 H2):Step G H G2 H2 :=
 ⟨a.g.trans b.g,a.h.trans b.h,b.gh,fun c hc hg=>by
  rcases a.new c hc hg with z | z
  ·rcases b.new c (aC1 a.h hc) z with y | ⟨xs,y⟩
   ·exact .inl y
   ·cases e:H c with
    | none=>exact absurd e hc
    | some o =>
     rw [a.h _ _ e] at y
     exact .inr ⟨xs,y⟩
  ·exact .inr z⟩
theorem Step.put {G H:Hp} {a:Addr} {o:HO} (s:Same G H) (e:H a=none):Step G H (upd G a o) (upd H a o) :=
 ⟨Same.upd (Same.refl _) (s.free e) o,Same.upd (Same.refl _) e o,fun b u q=>by
  by_cases z:b=a
  ·subst z;rw [bR] at q ⊢;exact q
  ·rw [a9 z] at q ⊢;exact s b u q,fun b hb hg=>by
  have z:b≠a:=fun z=>hb (z▸e)
  rw [a9 z];exact .inl hg⟩
theorem Step.lay {G H:Hp} {a:Addr} {o:HO} (s:Same G H) (e:H a=none):Step G H G (upd H a o) :=
 ⟨Same.refl _,Same.upd (Same.refl _) e o,Same.upd s e o,fun _ _ h=>.inl h⟩
def EOk (K:PySem.W.Frag) (W:Addr->Option Nat) (Hs G H:Hp) (v:V):Ev->Prop
 | .p d=>Rep K G v d
 | .f d=>∃ a o,v=.ref a/\Hs a=none/\G a=none/\H a=some o/\Cont K G o d
 | .b d=>∃ a i o,v=.ref a/\W a=some i/\H a=some o/\Cont K G o d
 | .x C=>∃ e,v=.ref e/\G e=some (aLn e (.ref C))
theorem EOk.step {K:PySem.W.Frag} {W:Addr->Option Nat} {Hs Hs' G H G' H':Hp} {v:V} {r:Ev} (h:EOk K W Hs G H v r.c) (s:Step G H G' H'):EOk K W Hs' G' H' v r.c:=by
 cases r with
 | p d=>exact Rep.mono s.g h
 | f d=>exact Rep.mono s.g h
 | b d =>
  obtain ⟨a,i,o,h1,h2,h3,h4⟩:=h
  exact ⟨a,i,o,h1,h2,s.h _ _ h3,h4.mono s.g⟩
 | x C =>
  obtain ⟨e,h1,h2⟩:=h
  exact ⟨e,h1,s.g _ _ h2⟩
theorem EOk.c {K:PySem.W.Frag} {W:Addr->Option Nat} {G H G1 H1:Hp} {v:V} {r:Ev} (s:Step G H G1 H1) (h:EOk K W H G1 H1 v r):∃ G2,Step G H G2 H1/\EOk K W H G2 H1 v r.c:=by
 cases r with
 | p d=>exact ⟨G1,s,h⟩
 | b d=>exact ⟨G1,s,h⟩
 | x d=>exact ⟨G1,s,h⟩
 | f d =>
  obtain ⟨a,o,rfl,h1,h2,h3,h4⟩:=h
  refine ⟨upd G1 a o,⟨s.g.trans (Same.upd (Same.refl _) h2 o),s.h,fun b u q=>?_,fun b hb hg=>?_⟩,(h4.mono (Same.upd (Same.refl _) h2 o)).rep bR⟩
  ·by_cases z:b=a
   ·subst z;rw [bR] at q;rw [h3];exact q
   ·rw [a9 z] at q;exact s.gh b u q
  ·have z:b≠a:=fun z=>hb (z▸h1)
   rw [a9 z];exact s.new b hb hg
structure SimH (B G0 G:Hp) (W:Addr->Option Nat) (H:Hp):Prop where
 gh:Same G H
 bh:Same B H
 g0:Same G0 G
 gb:∀ b,G b≠none->G0 b≠none\/B b=none\/∃ xs,B b=some (.tup xs)
 wf:∀ a i,W a=some i->G a=none/\B a=none/\∃ o,H a=some o/\∀ xs,o≠.tup xs
theorem SimH.step {B G0 G H G' H':Hp} {W:Addr->Option Nat} (s:SimH B G0 G W H) (t:Step G H G' H'):SimH B G0 G' W H':=by
 refine ⟨t.gh,s.bh.trans t.h,s.g0.trans t.g,fun b hb=>?_,fun a i e=>?_⟩
 ·by_cases z:G b=none
  ·refine .inr ?_
   by_cases y:H b=none
   ·exact .inl (s.bh.free y)
   ·rcases t.new b y z with q | ⟨xs,q⟩
    ·exact absurd q hb
    ·cases e:B b with
     | none=>exact .inl rfl
     | some o=>rw [s.bh _ _ e] at q;exact .inr ⟨xs,q⟩
  ·exact s.gb b z
 ·obtain ⟨h1,h2,o,h3,h4⟩:=s.wf a i e
  exact ⟨t.off h3 h4 h1,h2,o,t.h _ _ h3,h4⟩
theorem Cont.mut {K:PySem.W.Frag} {G:Hp} {o:HO} {d:D} (h:Cont K G o d):∀ xs,o≠.tup xs:=by
 intro xs z
 subst z
 cases h
def Slot (K:PySem.W.Frag) (W:Addr->Option Nat) (G H:Hp) (i:Nat) (v:V):L->Prop
 | .p d=>Rep K G v d
 | .o d=>∃ a o,v=.ref a/\W a=some i/\H a=some o/\Cont K G o d
 | .x C=>∃ e,v=.ref e/\G e=some (aLn e (.ref C))
 | .h a=>v=.ref a
def SimS (K:PySem.W.Frag) (W:Addr->Option Nat) (G H:Hp) (σ:L2.St) (en:En):Prop:=σ.length=en.length/\∀ i l,en[i]? = some (some l)->∃ v,σ[i]? = some (some v)/\Slot K W G H i v l
theorem Slot.step {K:PySem.W.Frag} {W:Addr->Option Nat} {G H G' H':Hp} {i:Nat} {v:V} {l:L} (h:Slot K W G H i v l) (s:Step G H G' H'):Slot K W G' H' i v l:=by
 cases l with
 | p d=>exact Rep.mono s.g h
 | o d =>
  obtain ⟨a,o,h1,h2,h3,h4⟩:=h
  exact ⟨a,o,h1,h2,s.h _ _ h3,h4.mono s.g⟩
 | x C =>
  obtain ⟨e,h1,h2⟩:=h
  exact ⟨e,h1,s.g _ _ h2⟩
 | h a=>exact h
theorem SimS.step {K:PySem.W.Frag} {W:Addr->Option Nat} {G H G' H':Hp} {σ:L2.St} {en:En} (h:SimS K W G H σ en) (s:Step G H G' H'):SimS K W G' H' σ en :=
 ⟨h.1,fun i l e=>let ⟨v,e1,e2⟩:=h.2 i l e;⟨v,e1,e2.step s⟩⟩
def PostE (K:PySem.W.Frag) (W:Addr->Option Nat) (G H:Hp) (Q:VK) (r:Ev):Prop:=∀ G' H' v,Step G H G' H'->EOk K W H G' H' v r->Q v H'
def PostB (G H:Hp) (Q:Bool->Hp->Prop) (b:Bool):Prop:=∀ G' H',Step G H G' H'->Q b H'
def EOks (K:PySem.W.Frag) (W:Addr->Option Nat) (Hs G H:Hp):List V->List Ev->Prop
 | [],[]=>True
 | v :: vs,r :: rs=>EOk K W Hs G H v r/\EOks K W Hs G H vs rs
 | _,_=>False
def aGd (K:PySem.W.Frag) (W:Addr->Option Nat) (G H:Hp) (Q:List V->Hp->Prop) (rs:List Ev):Prop:=∀ G' H' vs,Step G H G' H'->EOks K W H G' H' vs rs->Q vs H'
def PostX (E:XK) (G H:Hp) (C:Addr):Prop:=∀ G' H',Step G H G' H'->E (.ref C) none H'
theorem PostE.step {K:PySem.W.Frag} {W:Addr->Option Nat} {G H G' H':Hp} {Q:VK} {r:Ev} (h:PostE K W G H Q r) (s:Step G H G' H'):PostE K W G' H' Q r:=fun G2 H2 v s2 e=>h G2 H2 v (s.trans s2) (by
 cases r with
 | p d=>exact e
 | b d=>exact e
 | x d=>exact e
 | f d =>
  obtain ⟨a,o,h1,h2,h3,h4,h5⟩:=e
  exact ⟨a,o,h1,s.h.free h2,h3,h4,h5⟩)
theorem PostX.step {E:XK} {G H G' H':Hp} {C:Addr} (h:PostX E G H C) (s:Step G H G' H'):PostX E G' H' C:=fun G2 H2 s2=>h G2 H2 (s.trans s2)
theorem PostB.step {G H G' H':Hp} {Q:Bool->Hp->Prop} {b:Bool} (h:PostB G H Q b) (s:Step G H G' H'):PostB G' H' Q b:=fun G2 H2 s2=>h G2 H2 (s.trans s2)
def tE (K:PySem.W.Frag) (E:L2.St->XK) (f:En->Res Ev):TE:=fun σ H Q=>∃ B G0 G W en,SimH B G0 G W H/\SimS K W G H σ en/\wpR (f en) (PostE K W G H Q) (PostX (E σ) G H)
def DE (X:Cx) (E:L2.St->XK) (e:Expr) (f:En->Res Ev):Prop:=PE X e (tE X.K E f)
theorem DE.out {X:Cx} {E:L2.St->XK} {e:Expr} {f:En->Res Ev} (h:DE X E e f):∃ t,PE X e t/\∀ B G0 G W H σ en Q,SimH B G0 G W H->SimS X.K W G H σ en->wpR (f en) (PostE X.K W G H Q) (PostX (E σ) G H)->t σ H Q :=
 ⟨_,h,fun B G0 G W H σ en Q h1 h2 h3=>⟨B,G0,G,W,en,h1,h2,h3⟩⟩
theorem DE.in {X:Cx} {E:L2.St->XK} {e:Expr} {f:En->Res Ev} (h:∃ t,PE X e t/\∀ B G0 G W H σ en Q,SimH B G0 G W H->SimS X.K W G H σ en->wpR (f en) (PostE X.K W G H Q) (PostX (E σ) G H)->t σ H Q):DE X E e f :=
 fun pins s σ H Q I ⟨B,G0,G,W,en,h1,h2,h3⟩=>let ⟨_,p,m⟩:=h;p pins s σ H Q I (m B G0 G W H σ en Q h1 h2 h3)
def tT (K:PySem.W.Frag) (E:L2.St->XK) (f:En->Res Bool):TT:=fun σ H Q=>∃ B G0 G W en,SimH B G0 G W H/\SimS K W G H σ en/\wpR (f en) (PostB G H Q) (PostX (E σ) G H)
def tA (K:PySem.W.Frag) (E:L2.St->XK) (f:En->Res (List Ev)):TA:=fun σ H Q=>∃ B G0 G W en,SimH B G0 G W H/\SimS K W G H σ en/\wpR (f en) (aGd K W G H Q) (PostX (E σ) G H)
def DT (X:Cx) (E:L2.St->XK) (e:Expr) (f:En->Res Bool):Prop:=PT X e (tT X.K E f)
def DW (X:Cx) (E:L2.St->XK) (e:Expr) (f:En->Res Bool):Prop:=PW X e (tT X.K E f)
def DA (X:Cx) (E:L2.St->XK) (es:List Expr) (f:En->Res (List Ev)):Prop:=PA X es (tA X.K E f)
section
variable {X:Cx} {E:L2.St->XK} {e:Expr} {es:List Expr} {f:En->Res Bool} {fr:En->Res (List Ev)}
theorem DT.out (h:DT X E e f):∃ t,PT X e t/\∀ B G0 G W H σ en Q,SimH B G0 G W H->SimS X.K W G H σ en->wpR (f en) (PostB G H Q) (PostX (E σ) G H)->t σ H Q :=
 ⟨_,h,fun B G0 G W H σ en Q h1 h2 h3=>⟨B,G0,G,W,en,h1,h2,h3⟩⟩
theorem DT.in (h:∃ t,PT X e t/\∀ B G0 G W H σ en Q,SimH B G0 G W H->SimS X.K W G H σ en->wpR (f en) (PostB G H Q) (PostX (E σ) G H)->t σ H Q):DT X E e f :=
 fun pins s σ H Q I ⟨B,G0,G,W,en,h1,h2,h3⟩=>let ⟨_,p,m⟩:=h;p pins s σ H Q I (m B G0 G W H σ en Q h1 h2 h3)
theorem DW.out (h:DW X E e f):∃ t,PW X e t/\∀ B G0 G W H σ en Q,SimH B G0 G W H->SimS X.K W G H σ en->wpR (f en) (PostB G H Q) (PostX (E σ) G H)->t σ H Q :=
 ⟨_,h,fun B G0 G W H σ en Q h1 h2 h3=>⟨B,G0,G,W,en,h1,h2,h3⟩⟩
theorem DW.in (h:∃ t,PW X e t/\∀ B G0 G W H σ en Q,SimH B G0 G W H->SimS X.K W G H σ en->wpR (f en) (PostB G H Q) (PostX (E σ) G H)->t σ H Q):DW X E e f :=
 fun wh pins s σ H Q I ⟨B,G0,G,W,en,h1,h2,h3⟩=>let ⟨_,p,m⟩:=h;p wh pins s σ H Q I (m B G0 G W H σ en Q h1 h2 h3)
theorem DA.out (h:DA X E es fr):∃ t,PA X es t/\∀ B G0 G W H σ en Q,SimH B G0 G W H->SimS X.K W G H σ en->wpR (fr en) (aGd X.K W G H Q) (PostX (E σ) G H)->t σ H Q :=
 ⟨_,h,fun B G0 G W H σ en Q h1 h2 h3=>⟨B,G0,G,W,en,h1,h2,h3⟩⟩
theorem DA.in (h:∃ t,PA X es t/\∀ B G0 G W H σ en Q,SimH B G0 G W H->SimS X.K W G H σ en->wpR (fr en) (aGd X.K W G H Q) (PostX (E σ) G H)->t σ H Q):DA X E es fr :=
 fun pos pins s σ H Q I ⟨B,G0,G,W,en,h1,h2,h3⟩=>let ⟨_,p,m⟩:=h;p pos pins s σ H Q I (m B G0 G W H σ en Q h1 h2 h3)
end
theorem DW.t {X:Cx} {E:L2.St->XK} {e:Expr} {f:En->Res Bool} (h:DW X E e f):DT X E e f:=h _
section
variable {X:Cx} {E:L2.St->XK} {a b c e:Expr} {es:List Expr} {fa fb:En->Res Ev} {fr:En->Res (List Ev)} {pos:Pos}
theorem DE.go {K:PySem.W.Frag} {W:Addr->Option Nat} {G H:Hp} {EE:XK} {Q:VK} {r:Res Ev} {k:Ev->Res Ev} {Q':VK} (hw:wpR (r.bind k) (PostE K W G H Q) (PostX EE G H))
  (h:∀ (x:Ev) G1 H1 v,Step G H G1 H1->EOk K W H G1 H1 v x.c->wpR (k x) (PostE K W G1 H1 Q) (PostX EE G1 H1)->Q' v H1):wpR r (PostE K W G H Q') (PostX EE G H):=by
 rw [b6] at hw
 refine bF hw (fun x hx G1 H1 v s e=>?_) fun C h=>h
 obtain ⟨G2,s2,e2⟩:=e.c s
 exact h x G2 H1 v s2 e2 (bF hx (fun r h=>h.step s2) fun C h=>h.step s2)
theorem DE.goB {K:PySem.W.Frag} {W:Addr->Option Nat} {G H:Hp} {EE:XK} {Q:Bool->Hp->Prop} {r:Res Ev} {k:Ev->Res Bool} {Q':VK} (hw:wpR (r.bind k) (PostB G H Q) (PostX EE G H))
  (h:∀ (x:Ev) G1 H1 v,Step G H G1 H1->EOk K W H G1 H1 v x.c->wpR (k x) (PostB G1 H1 Q) (PostX EE G1 H1)->Q' v H1):wpR r (PostE K W G H Q') (PostX EE G H):=by
 rw [b6] at hw
 refine bF hw (fun x hx G1 H1 v s e=>?_) fun C h=>h
 obtain ⟨G2,s2,e2⟩:=e.c s
 exact h x G2 H1 v s2 e2 (bF hx (fun r h=>h.step s2) fun C h=>h.step s2)
def OpM (K:PySem.W.Frag) (r:R2) (op:Ev->Ev->Res Ev):Prop:=∀ (W:Addr->Option Nat) (G H:Hp) (v u:V) (x y:Ev) (Q:VK),Same G H->EOk K W H G H v x.c->EOk K W H G H u y.c->wpR (op x.c y.c) (PostE K W G H Q) (fun _=>False)->r v u H Q
def aE (op:Ev->Ev->Res Ev) (fa fb:En->Res Ev):En->Res Ev:=fun en=>(fa en).bind fun x=>(fb en).bind fun y=>op x.c y.c
def NoX (op:Ev->Ev->Res Ev):Prop:=∀ x y C,op x y≠.exc C
theorem noX {α:Type} {r:Res α} {Q:α->Prop} {E E':Addr->Prop} (h:wpR r Q E) (n:∀ C,r≠.exc C):wpR r Q E':=by
 cases r with
 | ok a=>exact h
 | exc C=>exact absurd rfl (n C)
 | bad=>exact h
theorem qS {ta tb:TE} {r:R2} {op:Ev->Ev->Res Ev} (ma:∀ B G0 G W H σ en Q,SimH B G0 G W H->SimS X.K W G H σ en->wpR (fa en) (PostE X.K W G H Q) (PostX (E σ) G H)->ta σ H Q)
  (mb:∀ B G0 G W H σ en Q,SimH B G0 G W H->SimS X.K W G H σ en->wpR (fb en) (PostE X.K W G H Q) (PostX (E σ) G H)->tb σ H Q) (hm:OpM X.K r op) (hn:NoX op) :
  ∀ B G0 G W H σ en Q,SimH B G0 G W H->SimS X.K W G H σ en->wpR (aE op fa fb en) (PostE X.K W G H Q) (PostX (E σ) G H)->tOp r ta tb σ H Q:=by
 intro B G0 G W H σ en Q hh hs hw
 refine ma B G0 G W H σ en _ hh hs (DE.go hw fun x G1 H1 v s1 e1 h1=>?_)
 refine mb B G0 G1 W H1 σ en _ (hh.step s1) (hs.step s1) (DE.go h1 fun y G2 H2 u s2 e2 h2=>?_)
 exact hm W G2 H2 v u x y Q s2.gh (e1.step s2) (by cases y<;>exact e2) (noX h2 (hn _ _))
theorem aS {op:Operator} {r:R2} {f:Ev->Ev->Res Ev} (ho:OpR X (binaryOp op) r) (hm:OpM X.K r f) (hn:NoX f) (ha:DE X E a fa) (hb:DE X E b fb):DE X E (.BinOp a op b pos) (aE f fa fb):=by
 obtain ⟨ta,pa,ma⟩:=ha.out
 obtain ⟨tb,pb,mb⟩:=hb.out
 refine DE.in ?_
 exact ⟨_,aP6 ho pa pb,qS ma mb hm hn⟩
theorem mZ {op:CmpOp} {r:R2} {f:Ev->Ev->Res Ev} (ho:OpR X (compareOp op) r) (hm:OpM X.K r f) (hn:NoX f) (ha:DE X E a fa) (hb:DE X E b fb) (hk:behindInMarks op b=false):DE X E (.Compare a [op] [b] pos) (aE f fa fb):=by
 obtain ⟨ta,pa,ma⟩:=ha.out
 obtain ⟨tb,pb,mb⟩:=hb.out
 refine DE.in ?_
 exact ⟨_,aK0 ho pa pb hk,qS ma mb hm hn⟩
def bE (r:Ev):Res Bool:=match r with
 | .p (.bool b)=>.ok b
 | _=>.bad
def aZ (f:En->Res Ev):En->Res Bool:=fun en=>(f en).bind bE
theorem l9 {t:TE} (m:∀ B G0 G W H σ en Q,SimH B G0 G W H->SimS X.K W G H σ en->wpR (fa en) (PostE X.K W G H Q) (PostX (E σ) G H)->t σ H Q) :
  ∀ B G0 G W H σ en Q,SimH B G0 G W H->SimS X.K W G H σ en->wpR (aZ fa en) (PostB G H Q) (PostX (E σ) G H)->t σ H fun x H1=>∃ k,x=.bl k/\Q k H1:=by
 intro B G0 G W H σ en Q hh hs hw
 refine m B G0 G W H σ en _ hh hs (DE.goB hw fun x G1 H1 v s1 e1 h1=>?_)
 cases x with
 | p d =>
  cases d with
  | bool k=>cases e1;exact ⟨k,rfl,h1 G1 H1 (Step.refl s1.gh)⟩
  | _=>exact False.elim h1
 | _=>exact False.elim h1
theorem bU {op:CmpOp} {r:R2} {f:Ev->Ev->Res Ev} (ho:OpR X (compareOp op) r) (hm:OpM X.K r f) (hn:NoX f) (ha:DE X E a fa) (hb:DE X E b fb) (hk:behindInMarks op b=false):DT X E (.Compare a [op] [b] pos) (aZ (aE f fa fb)):=by
 obtain ⟨ta,pa,ma⟩:=ha.out
 obtain ⟨tb,pb,mb⟩:=hb.out
 refine DT.in ?_
 exact ⟨_,aK4 ho pa pb hk,l9 (qS ma mb hm hn)⟩
theorem iK (h:DE X E e fa) (he:∀ whole,isTrue e X.env whole=(do let v <- whole;standAt e.pos;holding [v] (truthy v)):=by intro _;rfl):DT X E e (aZ fa):=by
 obtain ⟨t,p,m⟩:=h.out
 refine DT.in ?_
 exact ⟨_,aMn p he,l9 m⟩
def aD (i:Nat):En->Res Ev:=fun en=>match en[i]? with
 | some (some (.p d))=>.ok (.p d)
 | some (some (.o d))=>.ok (.b d)
 | some (some (.x C))=>.ok (.x C)
 | _=>.bad
theorem aM7 {i:Nat} {x:Str} (hN:X.N[i]? = some x) (hv:Vis X.env.scope x) (hd:(x == ("__debug__" : Str))=false:=by decide) (hcd:(x == ("__classdict__" : Str))=false:=by decide):DE X E (.Name x pos) (aD i):=by
 refine DE.in ?_
 refine ⟨_,aHo hN hv hd hcd,fun B G0 G W H σ en Q hh hs hw=>?_⟩
 unfold aD at hw
 split at hw
 ·rename_i d e
  obtain ⟨v,e1,e2⟩:=hs.2 i _ e
  exact ⟨v,e1,hw G H v (Step.refl hh.gh) e2⟩
 ·rename_i d e
  obtain ⟨v,e1,a,o,e2,e3,e4,e5⟩:=hs.2 i _ e
  exact ⟨v,e1,hw G H v (Step.refl hh.gh) ⟨a,i,o,e2,e3,e4,e5⟩⟩
 ·rename_i C e
  obtain ⟨v,e1,e2⟩:=hs.2 i _ e
  exact ⟨v,e1,hw G H v (Step.refl hh.gh) e2⟩
 ·exact hw.elim
def mC (d:D):En->Res Ev:=fun _=>.ok (.p d)
theorem kY {v:V} {d:D} (h:∀ G,Rep X.K G v d):∀ B G0 G W H σ en Q,SimH B G0 G W H->SimS X.K W G H σ en->wpR (mC d en) (PostE X.K W G H Q) (PostX (E σ) G H)->tC v σ H Q :=
 fun B G0 G W H σ en Q hh hs hw=>hw G H v (Step.refl hh.gh) (h G)
theorem aC {i j}:DE X E (.Constant (.int i) j pos) (mC (.int i)):=DE.in ⟨_,aH6,kY fun _=>.int i⟩
theorem sO {b j}:DE X E (.Constant (.bool b) j pos) (mC (.bool b)):=DE.in ⟨_,aRb,kY fun _=>.bl b⟩
theorem aAt {j}:DE X E (.Constant .none j pos) (mC .none):=DE.in ⟨_,aHw,kY fun _=>.non⟩
theorem aMb {x j}:DE X E (.Constant (.str x) j pos) (mC (.str x)):=DE.in ⟨_,aO2,kY fun _=>.str x⟩
variable {ga gb:En->Res Bool} {rest:List Expr}
def aAr (f g:En->Res Bool):En->Res Bool:=fun en=>(f en).bind fun c=>if c=true then g en else .ok false
def mOr (f g:En->Res Bool):En->Res Bool:=fun en=>(f en).bind fun c=>if c=true then .ok true else g en
def jR (f:En->Res Bool):En->Res Bool:=fun en=>(f en).bind fun c=>.ok (!c)
theorem aK3 (ha:DT X E a ga):DW X E (.BoolOp .And [a] pos) ga:=let ⟨t,p,m⟩:=ha.out;DW.in ⟨t,aJi p,m⟩
theorem u9 (ha:DT X E a ga):DW X E (.BoolOp .Or [a] pos) ga:=let ⟨t,p,m⟩:=ha.out;DW.in ⟨t,aN9 p,m⟩
theorem aL4 (ha:DT X E a ga) (hb:DW X E (.BoolOp .And (b :: rest) pos) gb):DW X E (.BoolOp .And (a :: b :: rest) pos) (aAr ga gb):=by
 obtain ⟨ta,pa,ma⟩:=ha.out
 obtain ⟨tb,pb,mb⟩:=hb.out
 refine DW.in ?_
 refine ⟨_,aLq pa pb,fun B G0 G W H σ en Q hh hs hw=>ma B G0 G W H σ en _ hh hs ?_⟩
 have hw:wpR ((ga en).bind _) _ _:=hw
 rw [b6] at hw
 refine bF hw (fun c hc G1 H1 s=>?_) fun C h=>h
 cases c with
 | true=>exact mb B G0 G1 W H1 σ en Q (hh.step s) (hs.step s) (bF hc (fun _ h=>h.step s) fun _ h=>h.step s)
 | false=>exact hc G1 H1 s
theorem nJ (ha:DT X E a ga) (hb:DW X E (.BoolOp .Or (b :: rest) pos) gb):DW X E (.BoolOp .Or (a :: b :: rest) pos) (mOr ga gb):=by
 obtain ⟨ta,pa,ma⟩:=ha.out
 obtain ⟨tb,pb,mb⟩:=hb.out
 refine DW.in ?_
 refine ⟨_,aPw pa pb,fun B G0 G W H σ en Q hh hs hw=>ma B G0 G W H σ en _ hh hs ?_⟩
 have hw:wpR ((ga en).bind _) _ _:=hw
 rw [b6] at hw
 refine bF hw (fun c hc G1 H1 s=>?_) fun C h=>h
 cases c with
 | false=>exact mb B G0 G1 W H1 σ en Q (hh.step s) (hs.step s) (bF hc (fun _ h=>h.step s) fun _ h=>h.step s)
 | true=>exact hc G1 H1 s
theorem kM (ha:DT X E a ga):DT X E (.UnaryOp .Not a pos) (jR ga):=by
 obtain ⟨ta,pa,ma⟩:=ha.out
 refine DT.in ?_
 refine ⟨_,aMi pa,fun B G0 G W H σ en Q hh hs hw=>ma B G0 G W H σ en _ hh hs ?_⟩
 have hw:wpR ((ga en).bind _) _ _:=hw
 rw [b6] at hw
 exact bF hw (fun c hc=>hc) fun C h=>h
def k8 (f g:En->Res Ev):En->Res Ev:=fun en=>(f en).bind fun c=>match c with
 | .p (.bool true)=>g en
 | .p (.bool false)=>.ok (.p (.bool false))
 | _=>.bad
def aH4 (f g:En->Res Ev):En->Res Ev:=fun en=>(f en).bind fun c=>match c with
 | .p (.bool false)=>g en
 | .p (.bool true)=>.ok (.p (.bool true))
 | _=>.bad
def nK (f:En->Res Ev):En->Res Ev:=fun en=>(f en).bind fun c=>match c with
 | .p (.bool k)=>.ok (.p (.bool (!k)))
 | _=>.bad
theorem xR {op} (h:DE X E a fa):DE X E (.BoolOp op [a] pos) fa:=let ⟨t,p,m⟩:=h.out;DE.in ⟨t,aNg p,m⟩
theorem zD (ha:DE X E a fa) (hb:DE X E (.BoolOp .And (b :: rest) pos) fb):DE X E (.BoolOp .And (a :: b :: rest) pos) (k8 fa fb):=by
 obtain ⟨ta,pa,ma⟩:=ha.out
 obtain ⟨tb,pb,mb⟩:=hb.out
 refine DE.in ?_
 refine ⟨_,aLw pa pb,fun B G0 G W H σ en Q hh hs hw=>ma B G0 G W H σ en _ hh hs (DE.go hw fun x G1 H1 v s1 e1 h1=>?_)⟩
 cases x with
 | p d =>
  cases d with
  | bool k =>
   cases e1
   cases k with
   | true=>exact ⟨true,rfl,mb B G0 G1 W H1 σ en Q (hh.step s1) (hs.step s1) h1⟩
   | false=>exact ⟨false,rfl,h1 G1 H1 _ (Step.refl s1.gh) (.bl false)⟩
  | _=>exact False.elim h1
 | _=>exact False.elim h1
theorem aH7 (ha:DE X E a fa):DE X E (.UnaryOp .Not a pos) (nK fa):=by
 obtain ⟨ta,pa,ma⟩:=ha.out
 refine DE.in ?_
 refine ⟨_,aPc pa,fun B G0 G W H σ en Q hh hs hw=>ma B G0 G W H σ en _ hh hs (DE.go hw fun x G1 H1 v s1 e1 h1=>?_)⟩
 cases x with
 | p d =>
  cases d with
  | bool k =>
   cases e1
   exact ⟨k,rfl,h1 G1 H1 _ (Step.refl s1.gh) (.bl _)⟩
  | _=>exact False.elim h1
 | _=>exact False.elim h1
def mIf (c:En->Res Bool) (f g:En->Res Ev):En->Res Ev:=fun en=>(c en).bind fun k=>if k=true then f en else g en
theorem aM8 (hc:DT X E c ga) (ha:DE X E a fa) (hb:DE X E b fb):DE X E (.IfExp c a b pos) (mIf ga fa fb):=by
 obtain ⟨tc,pc,mc⟩:=hc.out
 obtain ⟨ta,pa,ma⟩:=ha.out
 obtain ⟨tb,pb,mb⟩:=hb.out
 refine DE.in ?_
 refine ⟨_,aGz pc pa pb,fun B G0 G W H σ en Q hh hs hw=>mc B G0 G W H σ en _ hh hs ?_⟩
 have hw:wpR ((ga en).bind _) _ _:=hw
 rw [b6] at hw
 refine bF hw (fun k hk G1 H1 s=>?_) fun C h=>h
 have hk':=bF hk (fun _ h=>PostE.step h s) fun _ h=>PostX.step h s
 cases k with
 | true=>exact ma B G0 G1 W H1 σ en Q (hh.step s) (hs.step s) hk'
 | false=>exact mb B G0 G1 W H1 σ en Q (hh.step s) (hs.step s) hk'
def aN:En->Res (List Ev):=fun _=>.ok []
def aB (f:En->Res Ev) (g:En->Res (List Ev)):En->Res (List Ev):=fun en=>(f en).bind fun x=>(g en).bind fun xs=>.ok (x.c :: xs)
theorem aF:DA X E [] aN:=DA.in ⟨_,pC,fun B G0 G W H σ en Q hh hs hw=>hw G H [] (Step.refl hh.gh) trivial⟩
theorem EOk.cc {K:PySem.W.Frag} {W:Addr->Option Nat} {Hs Hs' G H:Hp} {v:V} {r:Ev} (h:EOk K W Hs G H v r.c):EOk K W Hs' G H v r.c:=by
 cases r<;>exact h
theorem aA (ha:DE X E e fa) (hr:DA X E es fr) (hst:starEach (e :: es) X.env=(false,eval e X.env) :: starEach es X.env:=by rfl):DA X E (e :: es) (aB fa fr):=by
 obtain ⟨ta,pa,ma⟩:=ha.out
 obtain ⟨tr,pr,mr⟩:=hr.out
 refine DA.in ?_
 refine ⟨_,kE pa pr hst,fun B G0 G W H σ en Q hh hs hw=>ma B G0 G W H σ en _ hh hs ?_⟩
 have hw:wpR ((fa en).bind _) _ _:=hw
 rw [b6] at hw
 refine bF hw (fun x hx G1 H1 v s e1=>?_) fun C h=>h
 obtain ⟨G2,s2,e2⟩:=e1.c s
 refine mr B G0 G2 W H1 σ en _ (hh.step s2) (hs.step s2) ?_
 rw [b6] at hx
 refine bF hx (fun xs hxs G3 H3 vs s3 e3=>?_) fun C h=>h.step s2
 refine hxs G3 H3 (v :: vs) (s2.trans s3) ⟨e2.step s3,?_⟩
 clear hxs hx hw
 induction xs generalizing vs with
 | nil=>cases vs<;>exact e3
 | cons y ys ih =>
  cases vs with
  | nil=>exact e3
  | cons u us =>
   refine ⟨?_,ih us e3.2⟩
   have z:=e3.1
   cases y with
   | p d=>exact z
   | b d=>exact z
   | x d=>exact z
   | f d =>
    obtain ⟨a,o,h1,h2,h3⟩:=z
    exact ⟨a,o,h1,s2.h.free h2,h3⟩
end
inductive Out where
 | nx (en:En)
 | rt (l:L)
 | bk (en:En)
 | ct (en:En)
 | ex (C:Addr) (en:En)
abbrev MS:=En->Option Out
def aJe (K:PySem.W.Frag) (B G H:Hp) (v:V):L->Prop
 | .p d=>Rep K G v d
 | .o d=>∃ a o,v=.ref a/\G a=none/\B a=none/\H a=some o/\Cont K G o d
 | .x C=>∃ e,v=.ref e/\G e=some (aLn e (.ref C))
 | .h _=>False
def PostS (K:PySem.W.Frag) (B G0:Hp) (E:L2.St->XK) (Dn:Ends):Out->Prop
 | .nx en=>∀ G W H σ,SimH B G0 G W H->SimS K W G H σ en->Dn.nx σ H
 | .bk en=>∀ G W H σ,SimH B G0 G W H->SimS K W G H σ en->Dn.bk σ H
 | .ct en=>∀ G W H σ,SimH B G0 G W H->SimS K W G H σ en->Dn.ct σ H
 | .rt l=>∀ G W H v,SimH B G0 G W H->aJe K B G H v l->Dn.rt v H
 | .ex C en=>∀ G W H σ,SimH B G0 G W H->SimS K W G H σ en->E σ (.ref C) none H
def wpO (o:Option Out) (P:Out->Prop):Prop:=match o with
 | some r=>P r
 | none=>False
def tS (K:PySem.W.Frag) (E:L2.St->XK) (f:MS):TS:=fun Dn σ H=>∃ B G0 G W en,SimH B G0 G W H/\SimS K W G H σ en/\wpO (f en) (PostS K B G0 E Dn)
def DS (X:Cx) (E:L2.St->XK) (st:Stmt) (f:MS):Prop:=PS X st (tS X.K E f)
def DSs (X:Cx) (E:L2.St->XK) (st:List Stmt) (f:MS):Prop:=PSs X st (tS X.K E f)
section
variable {X:Cx} {E:L2.St->XK} {st:Stmt} {sts:List Stmt} {f g:MS} {fe:En->Res Ev} {fc:En->Res Bool} {e c:Expr} {pos:Pos}
theorem DS.in (h:∃ t,PS X st t/\∀ B G0 G W H σ en Dn,SimH B G0 G W H->SimS X.K W G H σ en->wpO (f en) (PostS X.K B G0 E Dn)->t Dn σ H):DS X E st f :=
 fun pins s σ H Dn I ⟨B,G0,G,W,en,h1,h2,h3⟩=>let ⟨_,p,m⟩:=h;p pins s σ H Dn I (m B G0 G W H σ en Dn h1 h2 h3)
theorem DSs.in (h:∃ t,PSs X sts t/\∀ B G0 G W H σ en Dn,SimH B G0 G W H->SimS X.K W G H σ en->wpO (f en) (PostS X.K B G0 E Dn)->t Dn σ H):DSs X E sts f :=
 fun pins s σ H Dn I ⟨B,G0,G,W,en,h1,h2,h3⟩=>let ⟨_,p,m⟩:=h;p pins s σ H Dn I (m B G0 G W H σ en Dn h1 h2 h3)
theorem DS.out (h:DS X E st f):∃ t,PS X st t/\∀ B G0 G W H σ en Dn,SimH B G0 G W H->SimS X.K W G H σ en->wpO (f en) (PostS X.K B G0 E Dn)->t Dn σ H :=
 ⟨_,h,fun B G0 G W H σ en Dn h1 h2 h3=>⟨B,G0,G,W,en,h1,h2,h3⟩⟩
theorem DSs.out (h:DSs X E sts f):∃ t,PSs X sts t/\∀ B G0 G W H σ en Dn,SimH B G0 G W H->SimS X.K W G H σ en->wpO (f en) (PostS X.K B G0 E Dn)->t Dn σ H :=
 ⟨_,h,fun B G0 G W H σ en Dn h1 h2 h3=>⟨B,G0,G,W,en,h1,h2,h3⟩⟩
def cS:MS:=fun en=>some (.nx en)
def cB (f g:MS):MS:=fun en=>match f en with
 | some (.nx e)=>g e
 | r=>r
theorem bS:DSs X E [] cS:=DSs.in ⟨_,aDt,fun B G0 G W H σ en Dn hh hs hw=>hw G W H σ hh hs⟩
theorem aL (h:DS X E st f):DSs X E [st] f:=let ⟨t,p,m⟩:=h.out;DSs.in ⟨t,aC7 p,m⟩
theorem aJ (h1:DS X E st f) (h2:DSs X E sts g):DSs X E (st :: sts) (cB f g):=by
 obtain ⟨t,p,m⟩:=h1.out
 obtain ⟨u,q,n⟩:=h2.out
 refine DSs.in ⟨_,l6 p q,fun B G0 G W H σ en Dn hh hs hw=>m B G0 G W H σ en _ hh hs ?_⟩
 unfold cB at hw
 cases ef:f en with
 | none=>rw [ef] at hw;exact hw
 | some r =>
  rw [ef] at hw
  cases r with
  | nx e=>exact fun G1 W1 H1 σ1 hh1 hs1=>n B G0 G1 W1 H1 σ1 e Dn hh1 hs1 hw
  | rt l=>exact hw
  | bk e=>exact hw
  | ct e=>exact hw
  | ex C e=>exact hw
theorem SimS.set {K:PySem.W.Frag} {W:Addr->Option Nat} {G H:Hp} {σ:L2.St} {en:En} {i:Nat} {v:V} {l:L} (h:SimS K W G H σ en) (hl:Slot K W G H i v l):SimS K W G H (σ.set i (some v)) (en.set i (some l)):=by
 refine ⟨by rw [List.length_set,List.length_set];exact h.1,fun j m e=>?_⟩
 rw [List.getElem?_set] at e
 rw [List.getElem?_set]
 by_cases hj:i=j
 ·subst hj
  rw [if_pos rfl] at e
  split at e
  ·rename_i hlt
   cases e
   rw [if_pos rfl,if_pos (by rw [h.1];exact hlt)]
   exact ⟨v,rfl,hl⟩
  ·cases e
 ·rw [if_neg hj] at e ⊢
  exact h.2 j m e
def owner (W:Addr->Option Nat) (a:Addr) (i:Nat):Addr->Option Nat:=fun b=>if b=a then some i else W b
theorem aE7 {K:PySem.W.Frag} {B G0 G H:Hp} {W:Addr->Option Nat} {σ:L2.St} {en:En} {i:Nat} {a:Addr} {o:HO} {d:D} (hh:SimH B G0 G W H) (hs:SimS K W G H σ en) (hW:W a=none) (hG:G a=none) (hB:B a=none) (hH:H a=some o) (hc:Cont K G o d) :
  SimH B G0 G (owner W a i) H/\SimS K (owner W a i) G H (σ.set i (some (.ref a))) (en.set i (some (.o d))):=by
 refine ⟨⟨hh.gh,hh.bh,hh.g0,hh.gb,fun b j e=>?_⟩,SimS.set ⟨hs.1,fun j l e=>?_⟩ ⟨a,o,rfl,if_pos rfl,hH,hc⟩⟩
 ·unfold owner at e
  split at e
  ·rename_i z
   subst z
   exact ⟨hG,hB,o,hH,hc.mut⟩
  ·exact hh.wf b j e
 ·obtain ⟨v,e1,e2⟩:=hs.2 j l e
  refine ⟨v,e1,?_⟩
  cases l with
  | p d=>exact e2
  | x C=>exact e2
  | h a=>exact e2
  | o d =>
   obtain ⟨b,ob,h1,h2,h3,h4⟩:=e2
   refine ⟨b,ob,h1,?_,h3,h4⟩
   unfold owner
   rw [if_neg (fun z=>by rw [z,hW] at h2;cases h2)]
   exact h2
def cW (i:Nat) (fe:En->Res Ev):MS:=fun en=>match fe en with
 | .ok (.p d)=>some (.nx (en.set i (some (.p d))))
 | .ok (.f d)=>some (.nx (en.set i (some (.o d))))
 | .ok (.x C)=>some (.nx (en.set i (some (.x C))))
 | .ok (.b _)=>none
 | .exc C=>some (.ex C en)
 | .bad=>none
theorem SimH.lone {B G0 G H:Hp} {W:Addr->Option Nat} (hh:SimH B G0 G W H) {a:Addr} (h:H a=none):W a=none:=by
 cases e:W a with
 | none=>rfl
 | some i =>
  obtain ⟨_,_,o,q,_⟩:=hh.wf a i e
  rw [h] at q;cases q
theorem x5 {te:TE} {i:Nat} (m:∀ B G0 G W H σ en Q,SimH B G0 G W H->SimS X.K W G H σ en->wpR (fe en) (PostE X.K W G H Q) (PostX (E σ) G H)->te σ H Q) :
  ∀ B G0 G W H σ en Dn,SimH B G0 G W H->SimS X.K W G H σ en->wpO (cW i fe en) (PostS X.K B G0 E Dn)->te σ H fun x H1=>Dn.nx (σ.set i (some x)) H1:=by
 intro B G0 G W H σ en Dn hh hs hw
 refine m B G0 G W H σ en _ hh hs ?_
 unfold cW at hw
 cases ef:fe en with
 | bad=>rw [ef] at hw;exact hw
 | exc C=>rw [ef] at hw;exact fun G1 H1 s=>hw G1 W H1 σ (hh.step s) (hs.step s)
 | ok r =>
  rw [ef] at hw
  cases r with
  | b d=>exact hw.elim
  | p d=>exact fun G1 H1 v s e=>hw G1 W H1 _ (hh.step s) ((hs.step s).set e)
  | x C=>exact fun G1 H1 v s e=>hw G1 W H1 _ (hh.step s) ((hs.step s).set e)
  | f d =>
   rintro G1 H1 v s ⟨a,o,rfl,h1,h2,h3,h4⟩
   obtain ⟨q1,q2⟩:=aE7 (i:=i) (hh.step s) (hs.step s) (hh.lone h1) h2 (hh.bh.free h1) h3 h4
   exact hw G1 _ H1 _ q1 q2
theorem bD {i:Nat} {x:Str} {pos':Pos} (hN:X.N.Nodup) (hi:X.N[i]? = some x) (hx:Loc X.env.scope x) (he:DE X E e fe) (hs:swapsWith e (some (.Name x pos')) pos.line X.env=pure false:=by rfl) (hf:X.fn x=true\/X.env.scope.names.lookup x=some .local:=by first | exact .inl rfl | exact .inr rfl | assumption) :
  DS X E (.Assign [.Name x pos'] e pos) (cW i fe):=by
 obtain ⟨t,p,m⟩:=he.out
 exact DS.in ⟨_,aIq hN hi hx p hs hf,x5 m⟩
def aAp:Ev->L
 | .p d=>.p d
 | .f d=>.o d
 | .b d=>.o d
 | .x C=>.x C
def cY (fe:En->Res Ev):MS:=fun en=>match fe en with
 | .ok r=>some (.rt (aAp r))
 | .exc C=>some (.ex C en)
 | .bad=>none
theorem aX (he:DE X E e fe):DS X E (.Return (some e) pos) (cY fe):=by
 obtain ⟨t,p,m⟩:=he.out
 refine DS.in ⟨_,aM1 p,fun B G0 G W H σ en Dn hh hs hw=>m B G0 G W H σ en _ hh hs ?_⟩
 unfold cY at hw
 cases ef:fe en with
 | bad=>rw [ef] at hw;exact hw
 | exc C=>rw [ef] at hw;exact fun G1 H1 s=>hw G1 W H1 σ (hh.step s) (hs.step s)
 | ok r =>
  rw [ef] at hw
  intro G1 H1 v s e
  refine hw G1 W H1 v (hh.step s) ?_
  cases r with
  | p d=>exact e
  | x C=>exact e
  | f d =>
   obtain ⟨a,o,h0,h1,h2,h3,h4⟩:=e
   exact ⟨a,o,h0,h2,hh.bh.free h1,h3,h4⟩
  | b d =>
   obtain ⟨a,i,o,h0,h1,h3,h4⟩:=e
   have z:=(hh.step s).wf a i h1
   exact ⟨a,o,h0,z.1,z.2.1,h3,h4⟩
def gS (c:En->Res Bool) (f g:MS):MS:=fun en=>match c en with
 | .ok k=>if k=true then f en else g en
 | .exc C=>some (.ex C en)
 | .bad=>none
theorem eN {A B:List Stmt} (hc:DT X E c fc) (ha:DSs X E A f) (hb:DSs X E B g):DS X E (.If c A B pos) (gS fc f g):=by
 obtain ⟨tc,pc,mc⟩:=hc.out
 obtain ⟨t,p,m⟩:=ha.out
 obtain ⟨u,q,n⟩:=hb.out
 refine DS.in ⟨_,aMw pc p q,fun B G0 G W H σ en Dn hh hs hw=>mc B G0 G W H σ en _ hh hs ?_⟩
 unfold gS at hw
 cases ef:fc en with
 | bad=>rw [ef] at hw;exact hw
 | exc C=>rw [ef] at hw;exact fun G1 H1 s=>hw G1 W H1 σ (hh.step s) (hs.step s)
 | ok k =>
  rw [ef] at hw
  intro G1 H1 s
  cases k with
  | true=>exact m B G0 G1 W H1 σ en Dn (hh.step s) (hs.step s) hw
  | false=>exact n B G0 G1 W H1 σ en Dn (hh.step s) (hs.step s) hw
def frz (i:Nat) (en:En):En:=match en[i]? with
 | some (some (.o d))=>en.set i (some (.p d))
 | _=>en
theorem aN3 {K:PySem.W.Frag} {B G0 G H:Hp} {W:Addr->Option Nat} {σ:L2.St} {en:En} (i:Nat) (hh:SimH B G0 G W H) (hs:SimS K W G H σ en):∃ G' W',SimH B G0 G' W' H/\SimS K W' G' H σ (frz i en):=by
 unfold frz
 split
 ·rename_i d e
  obtain ⟨v,e1,a,o,rfl,e2,e3,e4⟩:=hs.2 i _ e
  obtain ⟨w1,w2,w3⟩:=hh.wf a i e2
  have sg:Same G (upd G a o):=Same.upd (Same.refl _) w1 o
  refine ⟨upd G a o,fun b=>if b=a then none else W b,⟨fun b u q=>?_,hh.bh,hh.g0.trans sg,fun b hb=>?_,fun b j e=>?_⟩,by rw [List.length_set];exact hs.1,fun j l e5=>?_⟩
  ·by_cases z:b=a
   ·subst z;rw [bR] at q;rw [e3];exact q
   ·rw [a9 z] at q;exact hh.gh b u q
  ·by_cases z:b=a
   ·subst z;exact .inr (.inl w2)
   ·rw [a9 z] at hb;exact hh.gb b hb
  ·split at e
   ·cases e
   ·rename_i z
    rw [a9 z];exact hh.wf b j e
  ·rw [List.getElem?_set] at e5
   by_cases hj:i=j
   ·subst hj
    rw [if_pos rfl] at e5
    split at e5
    ·cases e5
     exact ⟨_,e1,(e4.mono sg).rep bR⟩
    ·cases e5
   ·rw [if_neg hj] at e5
    obtain ⟨v,f1,f2⟩:=hs.2 j l e5
    refine ⟨v,f1,?_⟩
    cases l with
    | p d=>exact f2.mono sg
    | x C=>obtain ⟨ea,g1,g2⟩:=f2;exact ⟨ea,g1,sg _ _ g2⟩
    | h a=>exact f2
    | o d =>
     obtain ⟨b,ob,g1,g2,g3,g4⟩:=f2
     refine ⟨b,ob,g1,?_,g3,g4.mono sg⟩
     show (if b=a then none else W b)=some j
     rw [if_neg (fun z=>by rw [z,e2] at g2;exact hj (Option.some.inj g2))]
     exact g2
 ·exact ⟨G,W,hh,hs⟩
theorem d9 (i:Nat) (h:DSs X E sts f):DSs X E sts (fun en=>f (frz i en)):=by
 obtain ⟨t,p,m⟩:=h.out
 refine DSs.in ⟨t,p,fun B G0 G W H σ en Dn hh hs hw=>?_⟩
 obtain ⟨G',W',h1,h2⟩:=aN3 i hh hs
 exact m B G0 G' W' H σ _ Dn h1 h2 hw
end
def mWh (c:En->Res Bool) (f:MS):Nat->MS
 | 0,_=>none
 | n+1,en=>match c en with
  | .bad=>none
  | .exc C=>some (.ex C en)
  | .ok false=>some (.nx en)
  | .ok true=>match f en with
   | some (.nx e)=>mWh c f n e
   | some (.ct e)=>mWh c f n e
   | some (.bk e)=>some (.nx e)
   | r=>r
theorem sG {c:En->Res Bool} {f:MS}:∀ {n:Nat} {en:En} {r:Out},mWh c f n en=some r->mWh c f (n+1) en=some r
 | 0,_,_,h=>by cases h
 | n+1,en,r,h=>by
  unfold mWh at h ⊢
  cases ec:c en with
  | bad=>rw [ec] at h;exact h
  | exc C=>rw [ec] at h;exact h
  | ok k =>
   rw [ec] at h
   cases k with
   | false=>exact h
   | true =>
    dsimp only at h ⊢
    cases ef:f en with
    | none=>rw [ef] at h;exact h
    | some o =>
     rw [ef] at h
     cases o with
     | nx e=>exact sG (n:=n) h
     | ct e=>exact sG (n:=n) h
     | bk e=>exact h
     | rt l=>exact h
     | ex C e=>exact h
theorem aHq {c:En->Res Bool} {f:MS} {n m:Nat} {en:En} {r:Out} (h:mWh c f n en=some r) (l:n<=m):mWh c f m en=some r:=by
 induction l with
 | refl=>exact h
 | step _ ih=>exact sG ih
open Classical in
noncomputable def pM (c:En->Res Bool) (f:MS):MS:=fun en=>if h:∃ n r,mWh c f n en=some r then mWh c f h.choose en else none
theorem uJ {c:En->Res Bool} {f:MS} {n:Nat} {en:En} {r:Out} (h:mWh c f n en=some r):pM c f en=some r:=by
 unfold pM
 have hx:∃ n r,mWh c f n en=some r:=⟨n,r,h⟩
 rw [dif_pos hx]
 obtain ⟨r',h'⟩:=hx.choose_spec
 rcases Nat.le_total n hx.choose with l | l
 ·exact aHq h l
 ·have:=aHq h' l
  rw [h] at this
  rw [h'];exact this.symm
theorem vS {c:En->Res Bool} {f:MS} {en:En} {P:Out->Prop} (h:wpO (pM c f en) P):∃ n,wpO (mWh c f n en) P:=by
 unfold pM at h
 split at h
 ·exact ⟨_,h⟩
 ·exact h.elim
section
variable {X:Cx} {E:L2.St->XK} {st:Stmt} {sts:List Stmt} {f g:MS} {fe:En->Res Ev} {fc:En->Res Bool} {e c:Expr} {pos:Pos}
theorem xW (hp:PassesOwn (model X.prog X.w) X.A X.env X.xe) (hc:DT X E c fc) (hb:DSs X E sts f):DS X E (.While c sts [] pos) (pM fc f):=by
 obtain ⟨tc,pc,mc⟩:=hc.out
 obtain ⟨t,p,m⟩:=hb.out
 refine DS.in ⟨_,aGb hp pc p,fun B G0 G W H σ en Dn hh hs hw=>?_⟩
 obtain ⟨n0,hw⟩:=vS hw
 refine ⟨fun n σ H=>∃ G W en,SimH B G0 G W H/\SimS X.K W G H σ en/\wpO (mWh fc f n en) (PostS X.K B G0 E Dn),⟨n0,G,W,en,hh,hs,hw⟩,?_⟩
 rintro n σ H ⟨G,W,en,hh,hs,hw⟩
 cases n with
 | zero=>exact hw.elim
 | succ n =>
  refine mc B G0 G W H σ en _ hh hs ?_
  unfold mWh at hw
  cases ec:fc en with
  | bad=>rw [ec] at hw;exact hw
  | exc C=>rw [ec] at hw;exact fun G1 H1 s=>hw G1 W H1 σ (hh.step s) (hs.step s)
  | ok k =>
   rw [ec] at hw
   intro G1 H1 s
   cases k with
   | false=>exact hw G1 W H1 σ (hh.step s) (hs.step s)
   | true =>
    refine ⟨fun σ' H'=>∃ G W en,SimH B G0 G W H'/\SimS X.K W G H' σ' en/\wpO (mWh fc f n en) (PostS X.K B G0 E Dn),fun σ' H' q=>⟨n,Nat.lt_succ_self n,q⟩,?_⟩
    refine m B G0 G1 W H1 σ en _ (hh.step s) (hs.step s) ?_
    dsimp only at hw
    cases ef:f en with
    | none=>rw [ef] at hw;exact hw
    | some o =>
     rw [ef] at hw
     cases o with
     | nx e=>exact fun G2 W2 H2 σ2 h2 s2=>⟨G2,W2,e,h2,s2,hw⟩
     | ct e=>exact fun G2 W2 H2 σ2 h2 s2=>⟨G2,W2,e,h2,s2,hw⟩
     | bk e=>exact hw
     | rt l=>exact hw
     | ex C e=>exact hw
end
def aCq (K:PySem.W.Frag) (ds:List D) (G1:Hp) (J:It):Prop:=∀ G H,Same G1 G->Same G H ->
 (∀ i d,ds[i]? = some d->J.go i H/\∀ v H',J.yld i H v H'->∃ G',Step G H G' H'/\Rep K G' v d)/\J.stop ds.length H
def tI (K:PySem.W.Frag) (E:L2.St->XK) (f:En->Res (List D)):TI:=fun σ H R=>∃ B G0 G W en,SimH B G0 G W H/\SimS K W G H σ en/\wpR (f en) (fun ds=>∀ G' H' J,Step G H G' H'->aCq K ds G' J->R J H') (PostX (E σ) G H)
def DI (X:Cx) (E:L2.St->XK) (tg e:Expr) (f:En->Res (List D)):Prop:=PI X tg e (tI X.K E f)
def Kept (ks:List Nat) (σ σ':L2.St):Prop:=σ'.length=σ.length/\∀ j,j∉ks->σ'[j]? = σ[j]?
def tG (K:PySem.W.Frag) (ks:List Nat) (f:D->En->Option En):TG:=fun v σ H Q=>∃ G W en d en',Same G H/\SimS K W G H σ en/\Rep K G v d/\f d en=some en'/\∀ σ',SimS K W G H σ' en'->Kept ks σ σ'->Q σ' H
def tGs (K:PySem.W.Frag) (ks:List Nat) (f:List D->En->Option En):TGs:=fun vs σ H Q=>∃ G W en ds en',Same G H/\SimS K W G H σ en/\Reps K G vs ds/\f ds en=some en'/\∀ σ',SimS K W G H σ' en'->Kept ks σ σ'->Q σ' H
def DG (X:Cx) (tg:Expr) (ks:List Nat) (f:D->En->Option En):Prop:=PG X tg (tG X.K ks f)
def DGs (X:Cx) (tg:List Expr) (ks:List Nat) (f:List D->En->Option En):Prop:=PGs X tg (tGs X.K ks f)
theorem Kept.trans {ks ls:List Nat} {σ σ1 σ2:L2.St} (a:Kept ks σ σ1) (b:Kept ls σ1 σ2):Kept (ks++ls) σ σ2 :=
 ⟨b.1.trans a.1,fun j hj=>(b.2 j fun z=>hj (List.mem_append_right _ z)).trans (a.2 j fun z=>hj (List.mem_append_left _ z))⟩
def aG (i:Nat):D->En->Option En:=fun d en=>some (en.set i (some (.p d)))
def iV:List D->En->Option En:=fun ds en=>match ds with
 | []=>some en
 | _=>none
def b8 (f:D->En->Option En) (g:List D->En->Option En):List D->En->Option En:=fun ds en=>match ds with
 | []=>none
 | d :: r=>match f d en with
  | none=>none
  | some e=>g r e
def iT (n:Nat) (f:List D->En->Option En):D->En->Option En:=fun d en=>match d with
 | .tuple ds=>if ds.length=n then f ds en else none
 | _=>none
section
variable {X:Cx} {E:L2.St->XK} {pos:Pos}
theorem DI.in {tg e:Expr} {f:En->Res (List D)} (h:∃ t,PI X tg e t/\∀ B G0 G W H σ en R,SimH B G0 G W H->SimS X.K W G H σ en->wpR (f en) (fun ds=>∀ G' H' J,Step G H G' H'->aCq X.K ds G' J->R J H') (PostX (E σ) G H)->t σ H R):DI X E tg e f :=
 fun pins s σ H R I ⟨B,G0,G,W,en,h1,h2,h3⟩=>let ⟨_,p,m⟩:=h;p pins s σ H R I (m B G0 G W H σ en R h1 h2 h3)
theorem a8 {i:Nat} {x:Str} (hN:X.N.Nodup) (hi:X.N[i]? = some x) (hx:Loc X.env.scope x) (hf:X.fn x=true\/X.env.scope.names.lookup x=some .local:=by first | exact .inl rfl | exact .inr rfl | assumption):DG X (.Name x pos) [i] (aG i):=by
 intro pins s σ H v u Q I r ⟨G,W,en,d,en',h1,h2,h3,h4,h5⟩
 refine vP hN hi hx hf pins s σ H v u Q I r ?_
 cases h4
 exact h5 _ (h2.set h3) ⟨List.length_set ..,fun j hj=>List.getElem?_set_ne (fun z=>hj (by rw [z];exact .head _))⟩
theorem mY:DGs X [] [] iV:=by
 intro pins s σ H vs us Q I r ⟨G,W,en,ds,en',h1,h2,h3,h4,h5⟩
 refine aIy pins s σ H vs us Q I r ?_
 unfold iV at h4
 split at h4
 ·cases h4;cases h3;exact ⟨rfl,h5 _ h2 ⟨rfl,fun _ _=>rfl⟩⟩
 ·cases h4
theorem eX {e:Expr} {es:List Expr} {ks ls:List Nat} {f:D->En->Option En} {g:List D->En->Option En} (h1:DG X e ks f) (h2:DGs X es ls g)
  (hs:(assignEach (e :: es) X.env).map (·.2)=assign e X.env :: (assignEach es X.env).map (·.2):=by rfl):DGs X (e :: es) (ks++ls) (b8 f g):=by
 intro pins s σ H vs us Q I r ⟨G,W,en,ds,en',k1,k2,k3,k4,k5⟩
 refine aFi h1 h2 hs pins s σ H vs us Q I r ?_
 unfold b8 at k4
 cases k3 with
 | nil=>cases k4
 | @cons x xs d ds hx hr =>
  dsimp only at k4
  split at k4
  ·cases k4
  ·rename_i e1 q1
   exact ⟨x,xs,rfl,G,W,en,d,e1,k1,k2,hx,q1,fun σ' hσ hk=>⟨G,W,e1,ds,en',k1,hσ,hr,k4,fun σ2 q1 q2=>k5 σ2 q1 (hk.trans q2)⟩⟩
theorem qK {es:List Expr} {k:Nat} {ks:List Nat} {f:List D->En->Option En} {n:Nat} (hc:X.calm=true) (h:DGs X es ks f) (hn:(assignEach es X.env).length=n:=by rfl) (hst:(assignEach es X.env).findIdx? (·.1)=none:=by rfl):DG X (.Tuple es k pos) ks (iT n f):=by
 intro pins s σ H v u Q I r ⟨G,W,en,d,en',k1,k2,k3,k4,k5⟩
 refine aNs hc h hn hst pins s σ H v u Q I r ?_
 unfold iT at k4
 split at k4
 ·rename_i ds
  split at k4
  ·rename_i hl
   cases k3 with
   | @tup a xs _ ha hr=>exact ⟨a,xs,rfl,SqT.of (k1 _ _ ha),by rw [hr.length];exact hl,G,W,en,ds,en',k1,k2,hr,k4,k5⟩
  ·cases k4
 ·cases k4
def fB (tg:D->En->Option En) (f:MS):List D->MS
 | [],en=>some (.nx en)
 | d :: ds,en=>match tg d en with
  | none=>none
  | some e1=>match f e1 with
   | some (.nx e2)=>fB tg f ds e2
   | some (.ct e2)=>fB tg f ds e2
   | some (.bk e2)=>some (.nx e2)
   | r=>r
def vJ (fi:En->Res (List D)) (tg:D->En->Option En) (f:MS):MS:=fun en=>match fi en with
 | .ok ds=>fB tg f ds en
 | .exc C=>some (.ex C en)
 | .bad=>none
theorem SimH.lower {B G0 G1 G H H1:Hp} {W W1:Addr->Option Nat} (h:SimH B G1 G W H) (h1:SimH B G0 G1 W1 H1):SimH B G0 G W H :=
 ⟨h.gh,h.bh,h1.g0.trans h.g0,fun b hb=>(h.gb b hb).elim (fun z=>h1.gb b z) .inr,h.wf⟩
theorem SimH.raise {B G0 G H:Hp} {W:Addr->Option Nat} (h:SimH B G0 G W H):SimH B G G W H:=⟨h.gh,h.bh,Same.refl _,fun _ hb=>.inl hb,h.wf⟩
theorem PostS.lower {K:PySem.W.Frag} {B G0 G1 H1:Hp} {W1:Addr->Option Nat} {Dn:Ends} {r:Out} (h:PostS K B G0 E Dn r) (h1:SimH B G0 G1 W1 H1):PostS K B G1 E Dn r:=by
 cases r with
 | nx en=>exact fun G W H σ a b=>h G W H σ (a.lower h1) b
 | bk en=>exact fun G W H σ a b=>h G W H σ (a.lower h1) b
 | ct en=>exact fun G W H σ a b=>h G W H σ (a.lower h1) b
 | rt l=>exact fun G W H σ a b=>h G W H σ (a.lower h1) b
 | ex C en=>exact fun G W H σ a b=>h G W H σ (a.lower h1) b
theorem jW {tg iter:Expr} {body:List Stmt} {fi:En->Res (List D)} {ks:List Nat} {g:D->En->Option En} {f:MS} (hp:PassesOwn (model X.prog X.w) X.A X.env X.xe) (hc:X.calm=true) (hi:DI X E tg iter fi) (hg:DG X tg ks g) (hb:DSs X E body f)
  (hs:∀ x,foldedSetIterable iter X.env x=pure x:=by intro _;rfl):DS X E (.For tg iter body [] pos) (vJ fi g f):=by
 obtain ⟨t,p,m⟩:=hb.out
 refine DS.in ⟨_,aH9 hp hc hi hg p hs,fun B G0 G W H σ en Dn hh hs hw=>⟨B,G0,G,W,en,hh,hs,?_⟩⟩
 unfold vJ at hw
 cases ef:fi en with
 | bad=>rw [ef] at hw;exact hw
 | exc C=>rw [ef] at hw;exact fun G1 H1 s=>hw G1 W H1 σ (hh.step s) (hs.step s)
 | ok ds =>
  rw [ef] at hw
  intro G1 H1 J s1 hJ
  have hh1:=hh.step s1
  refine ⟨fun i n σ H=>n=ds.length - i/\i<=ds.length/\∃ G W en,SimH B G1 G W H/\SimS X.K W G H σ en/\wpO (fB g f (ds.drop i) en) (PostS X.K B G0 E Dn),
   ⟨ds.length,rfl,Nat.zero_le _,G1,W,en,hh1.raise,hs.step s1,hw⟩,?_⟩
  rintro i n σ H ⟨rfl,hi,G,W,en,hh,hs,hw⟩
  obtain ⟨j1,j2⟩:=hJ G H hh.g0 hh.gh
  by_cases hlt:i < ds.length
  ·refine .inr ?_
   obtain ⟨jg,jy⟩:=j1 i ds[i] (List.getElem?_eq_getElem hlt)
   rw [List.drop_eq_getElem_cons hlt] at hw
   unfold fB at hw
   refine ⟨jg,fun σ' H'=>∃ G W en,SimH B G1 G W H'/\SimS X.K W G H' σ' en/\wpO (fB g f (ds.drop (i+1)) en) (PostS X.K B G0 E Dn),fun σ' H' q=>⟨ds.length - (i+1),by omega,rfl,hlt,q⟩,fun v H' hy=>?_⟩
   obtain ⟨G2,s2,rv⟩:=jy v H' hy
   cases eg:g ds[i] en with
   | none=>rw [eg] at hw;exact hw.elim
   | some e1 =>
    rw [eg] at hw
    dsimp only at hw
    refine ⟨G2,W,en,ds[i],e1,s2.gh,hs.step s2,rv,eg,fun σ' hσ _=>?_⟩
    refine m B G1 G2 W H' σ' e1 _ (hh.step s2) hσ ?_
    cases ef2:f e1 with
    | none=>rw [ef2] at hw;exact hw
    | some o =>
     rw [ef2] at hw
     cases o with
     | nx e=>exact fun G2 W2 H2 σ2 h2 s2=>⟨G2,W2,e,h2,s2,hw⟩
     | ct e=>exact fun G2 W2 H2 σ2 h2 s2=>⟨G2,W2,e,h2,s2,hw⟩
     | bk e=>exact PostS.lower (E:=E) (Dn:=Dn) (r:=.nx e) hw hh1
     | rt l=>exact PostS.lower (E:=E) (Dn:=Dn) (r:=.rt l) hw hh1
     | ex C e=>exact PostS.lower (E:=E) (Dn:=Dn) (r:=.ex C e) hw hh1
  ·have e:i=ds.length:=by omega
   subst e
   rw [List.drop_length] at hw
   exact .inl ⟨j2,hw G W H σ (hh.lower hh1) hs⟩
def aFr (r:Ev):Res (List D):=match r with
 | .p (.list ds)=>.ok ds
 | _=>.bad
def fT (fe:En->Res Ev):En->Res (List D):=fun en=>(fe en).bind fun r=>aFr r.c
theorem bX {tg e:Expr} {fe:En->Res Ev} (he:DE X E e fe):DI X E tg e (fT fe):=by
 obtain ⟨t,p,m⟩:=he.out
 refine DI.in ⟨_,aCn p,fun B G0 G W H σ en R hh hs hw=>m B G0 G W H σ en _ hh hs ?_⟩
 have hw:wpR ((fe en).bind _) _ _:=hw
 rw [b6] at hw
 refine bF hw (fun r hr G1 H1 v s e=>?_) fun C h=>h
 obtain ⟨G2,s2,e2⟩:=e.c s
 cases er:r.c with
 | p d =>
  rw [er] at hr e2
  cases d with
  | list ds =>
   cases e2 with
   | @lst a xs _ ha hrs =>
    refine ⟨a,rfl,⟨xs,s2.gh.seq (.inl ha)⟩,hr G2 H1 _ s2 fun G3 H3 k1 k2=>⟨fun i d ed=>?_,xs,(k1.trans k2).seq (.inl ha),Nat.le_of_eq hrs.length⟩⟩
    obtain ⟨x,ex,rx⟩:=hrs.get' ed
    refine ⟨⟨xs,x,(k1.trans k2).seq (.inl ha),ex⟩,fun v H' hy=>?_⟩
    obtain ⟨rfl,hy⟩:=hy
    have:=hy xs ((k1.trans k2).seq (.inl ha))
    rw [ex] at this
    cases this
    exact ⟨G3,Step.refl k2,rx.mono k1⟩
  | _=>exact False.elim hr
 | f d=>rw [er] at hr;exact False.elim hr
 | b d=>rw [er] at hr;exact False.elim hr
 | x C=>rw [er] at hr;exact False.elim hr
def zU (lo:Int) (n:Nat):List D:=(List.range n).map fun (k:Nat)=>PyData.int (lo+(k:Int))
def oF (rs:List Ev):Res (List D):=match rs with
 | [.p (.int j)]=>if -(2 ^ 62)<=j/\j < 2 ^ 62 then .ok (zU 0 j.toNat) else .bad
 | _=>.bad
def zN (rs:List Ev):Res (List D):=match rs with
 | [.p (.int i),.p (.int j)]=>if -(2 ^ 62)<=i/\i < 2 ^ 62/\-(2 ^ 62)<=j/\j < 2 ^ 62 then .ok (zU i (j - i).toNat) else .bad
 | _=>.bad
theorem qE (K:PySem.W.Frag) (lo:Int) (n:Nat) (G1:Hp):aCq K (zU lo n) G1 (Itr lo n):=fun G H _ k2=>by
 refine ⟨fun i d ed=>?_,by show n<=_;unfold zU;rw [List.length_map,List.length_range];exact Nat.le_refl _⟩
 unfold zU at ed
 rw [List.getElem?_map] at ed
 by_cases hi:i < n
 ·rw [List.getElem?_range hi] at ed
  cases ed
  refine ⟨hi,fun v H' hy=>?_⟩
  obtain ⟨rfl,rfl⟩:=hy
  exact ⟨G,Step.refl k2,.int _⟩
 ·rw [List.getElem?_eq_none (by rw [List.length_range];omega)] at ed
  cases ed
def lS (r:List Ev->Res (List D)) (fr:En->Res (List Ev)):En->Res (List D):=fun en=>(fr en).bind r
theorem uW {tg a:Expr} {fr:En->Res (List Ev)} {p:Pos} (hg:Gl X "range") (hm:X.mg "range" = none) (ha:DA X E [a] fr) (hs:starEach [a] X.env=[(false,eval a X.env)]:=by rfl):DI X E tg (.Call (.Name "range" p) [a] [] pos) (lS oF fr):=by
 obtain ⟨t,q,m⟩:=ha.out
 refine DI.in ⟨_,aEs hg hm q hs,fun B G0 G W H σ en R hh hs hw=>m B G0 G W H σ en _ hh hs ?_⟩
 have hw:wpR ((fr en).bind _) _ _:=hw
 rw [b6] at hw
 refine bF hw (fun rs hr G1 H1 vs s e=>?_) fun C h=>h
 unfold oF at hr
 split at hr
 ·rename_i j
  split at hr
  ·rename_i hj
   match vs,e with
   | [v],⟨e1,_⟩ =>
    cases e1
    exact ⟨j,rfl,hj.1,hj.2,hr G1 H1 _ s (qE _ _ _ _)⟩
  ·exact False.elim hr
 ·exact False.elim hr
theorem aCi {tg a b:Expr} {fr:En->Res (List Ev)} {p:Pos} (hg:Gl X "range") (hm:X.mg "range" = none) (ha:DA X E [a,b] fr) (hs:starEach [a,b] X.env=[(false,eval a X.env),(false,eval b X.env)]:=by rfl) (hs2:starEach [b] X.env=[(false,eval b X.env)]:=by rfl) :
  DI X E tg (.Call (.Name "range" p) [a,b] [] pos) (lS zN fr):=by
 obtain ⟨t,q,m⟩:=ha.out
 refine DI.in ⟨_,aDc hg hm q hs hs2,fun B G0 G W H σ en R hh hs hw=>m B G0 G W H σ en _ hh hs ?_⟩
 have hw:wpR ((fr en).bind _) _ _:=hw
 rw [b6] at hw
 refine bF hw (fun rs hr G1 H1 vs s e=>?_) fun C h=>h
 unfold zN at hr
 split at hr
 ·rename_i i j
  split at hr
  ·rename_i hj
   match vs,e with
   | [v,u],⟨e1,e2,_⟩ =>
    cases e1
    cases e2
    exact ⟨i,j,rfl,hj,hr G1 H1 _ s (qE _ _ _ _)⟩
  ·exact False.elim hr
 ·exact False.elim hr
end
def gP:Ev->Option L
 | .p d=>some (.p d)
 | .x C=>some (.x C)
 | .b _=>none
 | .f _=>none
def wK:Ev->Option L
 | .p d=>some (.p d)
 | .b d=>some (.p d)
 | .x _=>none
 | .f _=>none
def bY (g:Ev->Option L):List Ev->Option (List L)
 | []=>some []
 | r :: rs=>match g r with
  | none=>none
  | some l=>match bY g rs with
   | none=>none
   | some ls=>some (l :: ls)
def gT:L->Ev
 | .p d=>.p d
 | .o d=>.f d
 | .x C=>.x C
 | .h a=>.x a
mutual
def lfD:D->Bool
 | .list _=>false
 | .dict _=>false
 | .tuple ds=>lfA ds
 | _=>true
def lfA:List D->Bool
 | []=>true
 | d :: ds=>lfD d && lfA ds
end
def lfP:List (D×D)->Bool
 | []=>true
 | p :: r=>lfD p.2 && lfP r
def uQ:L->Bool
 | .p d=>lfD d
 | .o (.list ds)=>lfA ds
 | .o (.dict kvs)=>lfP kvs
 | _=>false
def cH (n:Nat) (m:List L->Res L) (rs:List Ev):Res Ev:=match bY gP rs with
 | some ls=>if ls.length=n then (m ls).bind fun l=>.ok (gT l) else .bad
 | none=>match bY wK rs with
  | some ls=>if ls.length=n then (m ls).bind fun l=>if uQ l=true then .ok (gT l) else .bad else .bad
  | none=>.bad
def aM (n:Nat) (m:List L->Res L) (fr:En->Res (List Ev)):En->Res Ev:=fun en=>(fr en).bind (cH n m)
def aQk (K:PySem.W.Frag) (G:Hp) (v:V):L->Prop
 | .p d=>Rep K G v d
 | .o _=>False
 | .x C=>∃ e,v=.ref e/\G e=some (aLn e (.ref C))
 | .h _=>False
def ArgsOk (K:PySem.W.Frag) (G:Hp):List V->List L->Prop
 | [],[]=>True
 | v :: vs,l :: ls=>aQk K G v l/\ArgsOk K G vs ls
 | _,_=>False
theorem ArgsOk.length {K:PySem.W.Frag} {G:Hp}:∀ {vs:List V} {ls:List L},ArgsOk K G vs ls->vs.length=ls.length
 | [],[],_=>rfl
 | _ :: _,_ :: _,h=>by rw [List.length_cons,List.length_cons,ArgsOk.length h.2]
def spM (K:PySem.W.Frag) (n:Nat) (m:List L->Res L):Sp:=fun vs H Q E=>vs.length=n/\∃ G ls,Same G H/\ArgsOk K G vs ls /\
 wpR (m ls) (fun l=>∀ G' H' v,Step G H G' H'->aJe K H G' H' v l->Q v H') (fun C=>∀ G' H',Step G H G' H'->E (.ref C) none H')
theorem aAv {K:PySem.W.Frag} {W:Addr->Option Nat} {Hs G H:Hp}:∀ {rs:List Ev} {ls:List L} {vs:List V},bY gP rs=some ls->EOks K W Hs G H vs rs->ArgsOk K G vs ls
 | [],_,[],h,_=>by cases h;exact trivial
 | [],_,_ :: _,_,e=>e.elim
 | _ :: _,_,[],_,e=>e.elim
 | r :: rs,ls,v :: vs,h,e=>by
  unfold bY at h
  cases r with
  | p d =>
   cases er:bY gP rs with
   | none=>rw [er] at h;cases h
   | some ls'=>rw [er] at h;cases h;exact ⟨e.1,aAv er e.2⟩
  | x C =>
   cases er:bY gP rs with
   | none=>rw [er] at h;cases h
   | some ls'=>rw [er] at h;cases h;exact ⟨e.1,aAv er e.2⟩
  | b d=>cases h
  | f d=>cases h
def both (W:Addr->Option Nat) (G H:Hp):Hp:=fun b=>match W b with
 | some _=>H b
 | none=>G b
theorem pJ {W:Addr->Option Nat} {B G0 G H:Hp} (hh:SimH B G0 G W H):Same G (both W G H)/\Same (both W G H) H:=by
 refine ⟨fun b o e=>?_,fun b o e=>?_⟩
 ·unfold both
  cases ew:W b with
  | none=>exact e
  | some i=>rw [(hh.wf b i ew).1] at e;cases e
 ·unfold both at e
  cases ew:W b with
  | none=>rw [ew] at e;exact hh.gh b o e
  | some i=>rw [ew] at e;exact e
theorem aD2 {K:PySem.W.Frag} {W:Addr->Option Nat} {Hs B G0 G H:Hp} (hh:SimH B G0 G W H):∀ {rs:List Ev} {ls:List L} {vs:List V},bY wK rs=some ls->EOks K W Hs G H vs rs->ArgsOk K (both W G H) vs ls
 | [],_,[],h,_=>by cases h;exact trivial
 | [],_,_ :: _,_,e=>e.elim
 | _ :: _,_,[],_,e=>e.elim
 | r :: rs,ls,v :: vs,h,e=>by
  unfold bY at h
  cases r with
  | p d =>
   cases er:bY wK rs with
   | none=>rw [er] at h;cases h
   | some ls'=>rw [er] at h;cases h;exact ⟨Rep.mono (pJ hh).1 e.1,aD2 hh er e.2⟩
  | b d =>
   cases er:bY wK rs with
   | none=>rw [er] at h;cases h
   | some ls' =>
    rw [er] at h;cases h
    refine ⟨?_,aD2 hh er e.2⟩
    obtain ⟨a,i,o,rfl,h1,h2,h3⟩:=e.1
    exact (h3.mono (pJ hh).1).rep (by unfold both;rw [h1];exact h2)
  | x d=>cases h
  | f d=>cases h
mutual
theorem yC {K:PySem.W.Frag} {G G':Hp} (k:∀ b xs,G b=some (.tup xs)->G' b=some (.tup xs)):∀ {v:V} {d:D},lfD d=true->Rep K G v d->Rep K G' v d
 | _,_,_,.non=>.non
 | _,_,_,.bl b=>.bl b
 | _,_,_,.int i=>.int i
 | _,_,_,.str x=>.str x
 | _,_,hf,.tup h r=>.tup (k _ _ h) (rO k (by unfold lfD at hf;exact hf) r)
 | _,_,hf,.lst _ _=>by unfold lfD at hf;cases hf
 | _,_,hf,.dT _ _=>by unfold lfD at hf;cases hf
 | _,_,hf,.dK _ _=>by unfold lfD at hf;cases hf
theorem rO {K:PySem.W.Frag} {G G':Hp} (k:∀ b xs,G b=some (.tup xs)->G' b=some (.tup xs)):∀ {vs:List V} {ds:List D},lfA ds=true->Reps K G vs ds->Reps K G' vs ds
 | _,_,_,.nil=>.nil
 | _,_,hf,.cons h r=>by
  unfold lfA at hf
  have hf:=Bool.and_eq_true_iff.mp hf
  exact .cons (yC k hf.1 h) (rO k hf.2 r)
end
theorem aEp {K:PySem.W.Frag} {G G':Hp} (k:∀ b xs,G b=some (.tup xs)->G' b=some (.tup xs)):∀ {kv:List (List Key×V)} {kvs:List (D×D)},lfP kvs=true->RepT K G kv kvs->RepT K G' kv kvs
 | _,_,_,.nil=>.nil
 | _,_,hf,.cons h r=>by
  unfold lfP at hf
  have hf:=Bool.and_eq_true_iff.mp hf
  exact .cons (yC k hf.1 h) (aEp k hf.2 r)
theorem aA9 {K:PySem.W.Frag} {G G':Hp} (k:∀ b xs,G b=some (.tup xs)->G' b=some (.tup xs)):∀ {kv:List (Key×V)} {kvs:List (D×D)},lfP kvs=true->RepK K G kv kvs->RepK K G' kv kvs
 | _,_,_,.nil=>.nil
 | _,_,hf,.cons h r=>by
  unfold lfP at hf
  have hf:=Bool.and_eq_true_iff.mp hf
  exact .cons (yC k hf.1 h) (aA9 k hf.2 r)
def qA (W:Addr->Option Nat) (G:Hp):Hp:=fun b=>match W b with
 | some _=>none
 | none=>G b
theorem aF3 {K:PySem.W.Frag} {W:Addr->Option Nat} {H1 G H Hs:Hp} {v:V} {l:L} (hf:uQ l=true) (hH:Hs=Hs) (hs:∀ b,H1 b=none->Hs b=none) (k:∀ b xs,G b=some (.tup xs)->qA W G b=some (.tup xs)) (h:aJe K H1 G H v l):EOk K W Hs (qA W G) H v (gT l):=by
 have n0:∀ b,G b=none->qA W G b=none:=fun b e=>by
  unfold qA
  cases W b with
  | none=>exact e
  | some _=>rfl
 cases l with
 | x C=>cases hf
 | h a=>cases hf
 | p d=>exact yC k hf h
 | o d =>
  obtain ⟨a,o,rfl,h1,h2,h3,h4⟩:=h
  refine ⟨a,o,rfl,hs _ h2,n0 _ h1,h3,?_⟩
  cases h4 with
  | lst r=>exact .lst (rO k hf r)
  | dT r=>exact .dT (aEp k hf r)
  | dK r=>exact .dK (aA9 k (by unfold uQ at hf;unfold lfP at hf;exact (Bool.and_eq_true_iff.mp hf).2) r)
theorem aDr {K:PySem.W.Frag} {W:Addr->Option Nat} {B G0 G H G1 H1:Hp} {n:Nat} {m:List L->Res L} {rs:List Ev} {vs:List V} {Q:VK} {EE:XK} (hh:SimH B G0 G W H) (s:Step G H G1 H1) (e:EOks K W H G1 H1 vs rs)
  (hr:wpR (cH n m rs) (PostE K W G H Q) (PostX EE G H)):spM K n m vs H1 Q EE:=by
 unfold cH at hr
 split at hr
 ·rename_i ls el
  split at hr
  ·rename_i hn
   have ha:=aAv el e
   refine ⟨by rw [ha.length];exact hn,G1,ls,s.gh,ha,?_⟩
   rw [b6] at hr
   refine bF hr (fun l hl G2 H2 v s2 rv=>hl G2 H2 v (s.trans s2) ?_) fun C h G2 H2 s2=>h G2 H2 (s.trans s2)
   cases l with
   | p d=>exact rv
   | x C=>exact rv
   | h a=>exact rv.elim
   | o d =>
    obtain ⟨a,o,h1,h2,h3,h4,h5⟩:=rv
    exact ⟨a,o,h1,s.h.free h3,h2,h4,h5⟩
  ·exact hr.elim
 ·split at hr
  ·rename_i ls el
   split at hr
   ·rename_i hn
    have hh1:=hh.step s
    have ha:=aD2 hh1 el e
    obtain ⟨k1,k2⟩:=pJ hh1
    refine ⟨by rw [ha.length];exact hn,both W G1 H1,ls,k2,ha,?_⟩
    rw [b6] at hr
    refine bF hr (fun l hl G2 H2 v s2 rv=>?_) fun C h G2 H2 s2=>h G1 H2 (s.trans ⟨Same.refl _,s2.h,s.gh.trans s2.h,fun _ _ q=>.inl q⟩)
    split at hl
    ·rename_i hf
     have kt:∀ b xs,G2 b=some (.tup xs)->qA W G2 b=some (.tup xs):=fun b xs eb=>by
      unfold qA
      cases ew:W b with
      | none=>exact eb
      | some i =>
       obtain ⟨_,_,o,e1,e2⟩:=hh1.wf b i ew
       have e3:=s2.gh _ _ eb
       rw [s2.h _ _ e1] at e3
       exact absurd (Option.some.inj e3) (e2 xs)
     refine hl (qA W G2) H2 v ⟨fun b o eb=>?_,s.h.trans s2.h,fun b o eb=>?_,fun b hb hg=>?_⟩ (aF3 hf rfl (fun b e=>s.h.free e) kt rv)
     ·have e1:=s.g _ _ eb
      unfold qA
      cases ew:W b with
      | none=>exact s2.g _ _ (k1 _ _ e1)
      | some i=>rw [(hh1.wf b i ew).1] at e1;cases e1
     ·unfold qA at eb
      cases ew:W b with
      | none=>rw [ew] at eb;exact s2.gh _ _ eb
      | some i=>rw [ew] at eb;cases eb
     ·unfold qA
      cases ew:W b with
      | some i=>exact .inl rfl
      | none =>
       rcases s.new b hb hg with z | z
       ·have z2:both W G1 H1 b=none:=by unfold both;rw [ew];exact z
        rcases s2.new b (aC1 s.h hb) z2 with y | ⟨xs,y⟩
        ·exact .inl y
        ·cases e:H b with
         | none=>exact absurd e hb
         | some o=>rw [s.h _ _ e] at y;exact .inr ⟨xs,y⟩
       ·exact .inr z
    ·exact hl.elim
   ·exact hr.elim
  ·exact hr.elim
section
variable {X:Cx} {E:L2.St->XK} {k:Nat} {f:Addr} {fd:FuncData} {ps:List Str} {x:Str} {p pos:Pos} {e:Expr} {es:List Expr} {fr:En->Res (List Ev)} {n:Nat} {m:List L->Res L}
theorem aKd (F:FnOk X.prog X.w X.K X.mg X.base (CXr X.prog X.w) k f fd ps (spM X.K n m)) (hr:Room k X.A) (hg:Gl X x) (hm:X.mg x=some (.ref f)) (hk:PySem.W.keepIn X.K (.ref f)=true) (hb:Binds X.K fd ps []) (hx:oG (CXr X.prog X.w) X E)
  (ha:DA X E (e :: es) fr) (hdb:(x == ("__debug__" : Str))=false:=by decide) (he:starEach (e :: es) X.env=(false,eval e X.env) :: starEach es X.env:=by rfl) (hpl:(backTo pos (starEach es X.env)).any (·.1)=false:=by rfl) :
  DE X E (.Call (.Name x p) (e :: es) [] pos) (aM n m fr):=by
 obtain ⟨t,q,mm⟩:=ha.out
 refine DE.in ⟨_,aF0 F hr hg hm hk hb hx q hdb he hpl,fun B G0 G W H σ en Q hh hs hw=>mm B G0 G W H σ en _ hh hs ?_⟩
 have hw:wpR ((fr en).bind _) _ _:=hw
 rw [b6] at hw
 exact bF hw (fun rs hr G1 H1 vs s e=>aDr hh s e hr) fun C h=>h
def nO (K:PySem.W.Frag) (r:List V->Hp->VK->Prop) (f:List Ev->Res Ev):Prop:=∀ (W:Addr->Option Nat) (Hs G H:Hp) (vs:List V) (rs:List Ev) (Q:VK),Same G H->EOks K W Hs G H vs rs->wpR (f rs) (PostE K W G H Q) (fun _=>False)->r vs H Q
def aAq (f:List Ev->Res Ev):Prop:=∀ rs C,f rs≠.exc C
def aH (f:List Ev->Res Ev) (fr:En->Res (List Ev)):En->Res Ev:=fun en=>(fr en).bind f
theorem qH {r:List V->Hp->VK->Prop} {f:List Ev->Res Ev} {t:TA} (hm:nO X.K r f) (hn:aAq f) (mm:∀ B G0 G W H σ en Q,SimH B G0 G W H->SimS X.K W G H σ en->wpR (fr en) (aGd X.K W G H Q) (PostX (E σ) G H)->t σ H Q) :
  ∀ B G0 G W H σ en Q,SimH B G0 G W H->SimS X.K W G H σ en->wpR (aH f fr en) (PostE X.K W G H Q) (PostX (E σ) G H)->tCB r t σ H Q:=by
 intro B G0 G W H σ en Q hh hs hw
 refine mm B G0 G W H σ en _ hh hs ?_
 have hw:wpR ((fr en).bind _) _ _:=hw
 rw [b6] at hw
 exact bF hw (fun rs hr G1 H1 vs s e=>hm W H G1 H1 vs rs Q s.gh e (noX (bF hr (fun _ h=>h.step s) fun _ h=>h) (hn rs))) fun C h=>h
theorem bW {id:String} {r:List V->Hp->VK->Prop} {f:List Ev->Res Ev} (hc:l5 X (.builtin id) r) (hM:nO X.K r f) (hn:aAq f) (hg:Gl X x) (hm:X.mg x=none) (hv:bootBuiltins x=some (.builtin id)) (ha:DA X E (e :: es) fr) (hnn:x≠"__name__":=by decide) (hdb:(x == ("__debug__" : Str))=false:=by decide)
  (he:starEach (e :: es) X.env=(false,eval e X.env) :: starEach es X.env:=by rfl) (hpl:(backTo pos (starEach es X.env)).any (·.1)=false:=by rfl):DE X E (.Call (.Name x p) (e :: es) [] pos) (aH f fr):=by
 obtain ⟨t,q,mm⟩:=ha.out
 exact DE.in ⟨_,yY hc hg hm hv q hnn hdb he hpl,qH hM hn mm⟩
theorem aCy {T:String} {r:List V->Hp->VK->Prop} {f:List Ev->Res Ev} (hc:l5 X (.type T) r) (hM:nO X.K r f) (hn:aAq f) (hg:Gl X x) (hm:X.mg x=none) (hv:bootBuiltins x=some (.type T)) (ha:DA X E (e :: es) fr) (hnn:x≠"__name__":=by decide) (hdb:(x == ("__debug__" : Str))=false:=by decide)
  (he:starEach (e :: es) X.env=(false,eval e X.env) :: starEach es X.env:=by rfl) (hpl:(backTo pos (starEach es X.env)).any (·.1)=false:=by rfl):DE X E (.Call (.Name x p) (e :: es) [] pos) (aH f fr):=by
 obtain ⟨t,q,mm⟩:=ha.out
 exact DE.in ⟨_,aA3 hc hg hm hv q hnn hdb he hpl,qH hM hn mm⟩
end
def a7 (n:Nat) (ls:List L):En:=ls.map some++List.replicate (n - ls.length) none
def dX (n:Nat) (f:MS) (ls:List L):Res L:=match f (a7 n ls) with
 | some (.nx _)=>.ok (.p .none)
 | some (.rt l)=>.ok l
 | some (.ex C _)=>.exc C
 | _=>.bad
theorem qO {K:PySem.W.Frag} {W:Addr->Option Nat} {G H:Hp}:∀ {vs:List V} {ls:List L} (i:Nat) (l:L),ArgsOk K G vs ls->ls[i]? = some l->∃ v,vs[i]? = some v/\∀ j,Slot K W G H j v l
 | [],[],_,_,_,e=>by simp at e
 | v :: vs,l :: ls,0,m,h,e=>by
  simp at e;subst e
  refine ⟨v,rfl,fun j=>?_⟩
  have z:=h.1
  cases l with
  | p d=>exact z
  | x C=>exact z
  | h a=>exact z.elim
  | o d=>exact z.elim
 | v :: vs,l :: ls,i+1,m,h,e=>by
  have:=qO (W:=W) (H:=H) i m h.2 (by simpa using e)
  simpa using this
theorem aBg {K:PySem.W.Frag} {W:Addr->Option Nat} {G H:Hp} {N:List Str} {vs:List V} {ls:List L} (h:ArgsOk K G vs ls):SimS K W G H (L2.start N vs) (a7 N.length ls):=by
 have hl:=h.length
 refine ⟨by unfold L2.start a7;simp [hl],fun i l e=>?_⟩
 unfold a7 at e
 by_cases hi:i < ls.length
 ·rw [List.getElem?_append_left (by rw [List.length_map];exact hi),List.getElem?_map] at e
  cases e2:ls[i]? with
  | none=>rw [e2] at e;cases e
  | some l' =>
   rw [e2] at e
   cases e
   obtain ⟨v,e3,e4⟩:=qO (W:=W) (H:=H) i l h e2
   refine ⟨v,?_,e4 i⟩
   unfold L2.start
   rw [List.getElem?_append_left (by rw [List.length_map,hl];exact hi),List.getElem?_map,e3]
   rfl
 ·rw [List.getElem?_append_right (by rw [List.length_map];omega),List.getElem?_replicate] at e
  split at e<;>cases e
theorem xG {G H G' H':Hp} {W:Addr->Option Nat} (h:SimH H G G' W H'):Step G H G' H':=⟨h.g0,h.bh,h.gh,fun b hb hg=>by
 cases e:G' b with
 | none=>exact .inl rfl
 | some o =>
  rcases h.gb b (by rw [e];exact fun z=>nomatch z) with z | z | z
  ·exact absurd hg z
  ·exact absurd z hb
  ·exact .inr z⟩
theorem aD4 {K:PySem.W.Frag} {N:List Str} {n:Nat} {m:List L->Res L} {fm:MS} {vs:List V} {H:Hp} {Q:VK} {E:XK} (h:spM K n m vs H Q E) (hm:∀ ls,m ls=.bad\/dX N.length fm ls=m ls) :
  tS K (fun _=>E) fm { nx:=fun _ H'=>Q .non H',rt:=Q } (L2.start N vs) H:=by
 obtain ⟨hl,G,ls,gh,ha,hw⟩:=h
 refine ⟨H,G,G,fun _=>none,a7 N.length ls,⟨gh,Same.refl _,Same.refl _,fun _ hb=>.inl hb,fun a i e=>nomatch e⟩,aBg ha,?_⟩
 rcases hm ls with e | e
 ·rw [e] at hw;exact hw.elim
 ·rw [<- e] at hw
  unfold dX at hw
  cases ef:fm (a7 N.length ls) with
  | none=>rw [ef] at hw;exact hw
  | some o =>
   rw [ef] at hw
   cases o with
   | nx en=>exact fun G' W' H' σ' h1 _=>hw G' H' .non (xG h1) .non
   | rt l=>exact fun G' W' H' v h1 h2=>hw G' H' v (xG h1) h2
   | bk en=>exact hw.elim
   | ct en=>exact hw.elim
   | ex C en=>exact fun G' W' H' σ' h1 _=>hw G' H' (xG h1)
section
variable {P:Program} {w:World} {K:PySem.W.Frag} {mg:Str->Option Value} {base:Heap}
theorem bQ {N:List Str} {qual:Str} {scope:Scope} {f:Addr} {cd:Value} {A:Around} {outer:List Env} {s:Shared} {H:Hp} {E:XK}:oG (CXr P w) (qT (CXr P w) P w K mg base N qual scope f cd A outer s H E) (fun _=>E) :=
 fun pins σ H s e s' I h=>aRo pins σ H s e s' I h
theorem pU {X:Cx}:oG (CXr P w) X (fun _=>E0):=fun _ _ _ _ _ _ _ ⟨_,_,_,_,_,_,_,z⟩=>z.elim
theorem fnM {x qual:Str} {st:Stmt} {f:Addr} {fd:FuncData} {N ps:List Str} {k n:Nat} {m:List L->Res L} (F:Fun K x qual st f fd) (S:aW N ps (aO st)) (hn:n=ps.length)
  (hbody:∀ (cdv:Value) (A:Around) (outer:List Env) (s:Shared) (H:Hp) (E:XK),Room k (A.deeper (envOfC qual (aO st) s.heap.objs.size f cdv)) ->
   ∃ fm,DSs (qT (CXr P w) P w K mg base N qual (aO st) f cdv A outer s H E) (fun _=>E) (iN st) fm/\∀ ls,m ls=.bad\/dX N.length fm ls=m ls):FnOk P w K mg base (CXr P w) (k+1) f fd ps (spM K n m):=by
 refine F.okX S (fun vs H Q E h=>?_) (fun cdv A outer s H vs Q E hr h=>?_)
 ·rw [<- hn];exact h.1
 ·obtain ⟨fm,hd,hm⟩:=hbody cdv A outer s H E hr
  exact ⟨_,hd,aD4 h hm⟩
end
def j8 (C:Addr) (fr:En->Res (List Ev)):MS:=fun en=>match fr en with
 | .ok rs=>if rs.length<=1000 then some (.ex C en) else none
 | .exc C=>some (.ex C en)
 | .bad=>none
theorem EOks.length {K:PySem.W.Frag} {W:Addr->Option Nat} {Hs G H:Hp}:∀ {vs:List V} {rs:List Ev},EOks K W Hs G H vs rs->vs.length=rs.length
 | [],[],_=>rfl
 | [],_ :: _,h=>h.elim
 | _ :: _,[],h=>h.elim
 | _ :: _,_ :: _,h=>by rw [List.length_cons,List.length_cons,EOks.length h.2]
section
variable {X:Cx}
theorem aFx {E:XK} {x:Str} {e₀:Expr} {rest:List Expr} {fr:En->Res (List Ev)} {C:Addr} {bm:List Value} {B newId initId:String} {np cpos pos:Pos} (hx:aEv X E) (hc:X.calm=true) (hg:Gl X x) (O:OwnCls x C bm newId X.mg X.base)
  (FB:ExcBaseFacts B newId initId bm) (ha:DA X (fun _=>E) (e₀ :: rest) fr) (hdb:(x == ("__debug__" : Str))=false:=by decide)
  (he:starEach (e₀ :: rest) X.env=(false,eval e₀ X.env) :: starEach rest X.env:=by rfl) (hpl:(backTo cpos (starEach rest X.env)).any (·.1)=false:=by rfl) :
  DS X (fun _=>E) (.Raise (some (.Call (.Name x np) (e₀ :: rest) [] cpos)) none pos) (j8 C fr):=by
 obtain ⟨t,q,m⟩:=ha.out
 refine DS.in ⟨_,aE1 hx hc hg O FB q hdb he hpl,fun B G0 G W H σ en Dn hh hs hw=>m B G0 G W H σ en _ hh hs ?_⟩
 unfold j8 at hw
 cases ef:fr en with
 | bad=>rw [ef] at hw;exact hw
 | exc C=>rw [ef] at hw;exact fun G1 H1 s=>hw G1 W H1 σ (hh.step s) (hs.step s)
 | ok rs =>
  rw [ef] at hw
  intro G1 H1 vs s e
  dsimp only at hw
  split at hw
  ·rename_i hl
   exact ⟨by rw [e.length];exact Nat.le_trans hl (by decide),hw G1 W H1 σ (hh.step s) (hs.step s)⟩
  ·exact hw.elim
end
def hV:List Ev->Option (List D)
 | []=>some []
 | r :: rs=>match r with
  | .p d=>match hV rs with
   | some ds=>some (d :: ds)
   | none=>none
  | _=>none
theorem oJ {K:PySem.W.Frag} {W:Addr->Option Nat} {Hs G H:Hp}:∀ {rs:List Ev} {ds:List D} {vs:List V},hV rs=some ds->EOks K W Hs G H vs rs->Reps K G vs ds
 | [],_,[],h,_=>by cases h;exact .nil
 | [],_,_ :: _,_,e=>e.elim
 | _ :: _,_,[],_,e=>e.elim
 | r :: rs,ds,v :: vs,h,e=>by
  unfold hV at h
  cases r with
  | p d =>
   dsimp only at h
   cases er:hV rs with
   | none=>rw [er] at h;cases h
   | some ds'=>rw [er] at h;cases h;exact .cons e.1 (oJ er e.2)
  | x C=>cases h
  | b d=>cases h
  | f d=>cases h
def bH (rs:List Ev):Res Ev:=match hV rs with
 | some ds=>if ds.length<=1000 then .ok (.p (.tuple ds)) else .bad
 | none=>.bad
def gB (rs:List Ev):Res Ev:=match hV rs with
 | some ds=>if ds.length<=1000 then .ok (.f (.list ds)) else .bad
 | none=>.bad
section
variable {X:Cx} {E:L2.St->XK} {es:List Expr} {fr:En->Res (List Ev)} {pos:Pos}
theorem b7 {x1} (h:DA X E es fr):DE X E (.Tuple es x1 pos) (aH bH fr):=by
 obtain ⟨t,q,m⟩:=h.out
 refine DE.in ⟨_,aM2 q,fun B G0 G W H σ en Q hh hs hw=>m B G0 G W H σ en _ hh hs ?_⟩
 have hw:wpR ((fr en).bind _) _ _:=hw
 rw [b6] at hw
 refine bF hw (fun rs hr G1 H1 vs s e=>?_) fun C h=>h
 unfold bH at hr
 split at hr
 ·rename_i ds el
  have rp:=oJ el e
  split at hr
  ·rename_i hl
   refine ⟨by rw [rp.length];exact Nat.le_trans hl (by decide),fun p hp=>?_⟩
   have st:=Step.put (o:=.tup vs) s.gh hp
   exact hr _ _ _ (s.trans st) (.tup bR (rp.mono st.g))
  ·exact False.elim hr
 ·exact False.elim hr
theorem lC (h:DA X E es fr):DE X E (.List es pos) (aH gB fr):=by
 obtain ⟨t,q,m⟩:=h.out
 refine DE.in ⟨_,aMd q,fun B G0 G W H σ en Q hh hs hw=>m B G0 G W H σ en _ hh hs ?_⟩
 have hw:wpR ((fr en).bind _) _ _:=hw
 rw [b6] at hw
 refine bF hw (fun rs hr G1 H1 vs s e=>?_) fun C h=>h
 unfold gB at hr
 split at hr
 ·rename_i ds el
  have rp:=oJ el e
  split at hr
  ·rename_i hl
   refine ⟨by rw [rp.length];exact Nat.le_trans hl (by decide),fun p hp=>?_⟩
   have st:=Step.lay (o:=.lst vs) s.gh hp
   exact hr _ _ _ (s.trans st) ⟨p,_,rfl,s.h.free hp,s.gh.free hp,bR,.lst rp⟩
  ·exact False.elim hr
 ·exact False.elim hr
end
def kH (g:D->Option (Option D)):List D->Option (List D)
 | []=>some []
 | d :: ds=>match g d with
  | none=>none
  | some o=>match kH g ds with
   | none=>none
   | some r=>some (match o with
    | some y=>y :: r
    | none=>r)
def pQ (o:Option (Option L)):Option L:=match o with
 | some (some (.p d))=>some (.p d)
 | some (some (.x C))=>some (.x C)
 | _=>none
def kF (js:List Nat) (en:En):En:=js.map fun j=>pQ en[j]?
def e9:En->Res Bool:=fun _=>.ok true
def aQ (n:Nat) (js:List Nat) (tg:D->En->Option En) (ft:En->Res Bool) (fe:En->Res Ev) (en:En) (d:D):Option (Option D):=match tg d (List.replicate n none++kF js en) with
 | none=>none
 | some e=>match ft e with
  | .ok true=>match fe e with
   | .ok r=>match r.c with
    | .p y=>some (some y)
    | _=>none
   | _=>none
  | .ok false=>some none
  | _=>none
def aG4 (g:D->Option (Option D)) (ds:List D):Res Ev:=if ds.length<=100000 then match kH g ds with
  | some r=>.ok (.f (.list r))
  | none=>.bad
 else .bad
def dG (n:Nat) (js:List Nat) (fi:En->Res (List D)) (tg:D->En->Option En) (ft:En->Res Bool) (fe:En->Res Ev):En->Res Ev:=fun en=>(fi en).bind fun ds=>aG4 (aQ n js tg ft fe en) ds
def DTs (X:Cx) (ifs:List Expr) (f:En->Res Bool):Prop:=PTs X ifs (tT X.K (fun _=>E0) f)
theorem aR0 {G H:Hp} (h:Same G H):SimH H G G (fun _=>none) H:=⟨h,Same.refl _,Same.refl _,fun _ hb=>.inl hb,fun a i e=>nomatch e⟩
theorem aGl {K:PySem.W.Frag} {W:Addr->Option Nat} {G H:Hp} {σ:L2.St} {en:En} (n:Nat) (js:List Nat) (h:SimS K W G H σ en):SimS K (fun _=>none) G H (List.replicate n none++x8 js σ) (List.replicate n none++kF js en):=by
 refine ⟨by unfold x8 kF;simp,fun i l e=>?_⟩
 by_cases hi:i < n
 ·rw [List.getElem?_append_left (by rw [List.length_replicate];exact hi),List.getElem?_replicate] at e
  split at e<;>cases e
 ·rw [List.getElem?_append_right (by rw [List.length_replicate];omega),List.length_replicate] at e ⊢
  unfold kF at e
  unfold x8
  rw [List.getElem?_map] at e ⊢
  cases ej:js[i - n]? with
  | none=>rw [ej] at e;cases e
  | some j =>
   rw [ej] at e
   have e':pQ en[j]? = some l:=Option.some.inj e
   unfold pQ at e'
   split at e'
   ·rename_i d q
    cases e'
    obtain ⟨v,h1,h2⟩:=h.2 j _ q
    exact ⟨v,by show some ((σ[j]?).getD none)=_;rw [h1];rfl,h2⟩
   ·rename_i d q
    cases e'
    obtain ⟨v,h1,h2⟩:=h.2 j _ q
    exact ⟨v,by show some ((σ[j]?).getD none)=_;rw [h1];rfl,h2⟩
   ·cases e'
section
variable {X:Cx} {E:L2.St->XK} {pos:Pos}
theorem e8:DTs X [] e9:=fun pins s σ H Q I ⟨B,G0,G,W,en,h1,h2,h3⟩=>aKn pins s σ H Q I (h3 G H (Step.refl h1.gh))
theorem jK {c:Expr} {f:En->Res Bool} (h:DT X (fun _=>E0) c f):DTs X [c] f:=aKy h
theorem x9 {elt iter tg:Expr} {scope:Scope} {ifs:List Expr} {n:Nat} {js ks:List Nat} {fi:En->Res (List D)} {g:D->En->Option En} {ft:En->Res Bool} {fe:En->Res Ev} {xs ys:List Str} {cl:List (Str×Addr)} (hc:X.calm=true) (hi:DI X E tg iter fi)
  (hcl:aJx X scope cl) (hcap:qB X scope cl ys js) (hcell:∀ y∈scope.names,y.2≠.cell) (hkind:scope.kind=.function) (hnames:∀ y∈scope.names,y.2=.local->scope.names.lookup y.1=some .local) (hn:xs.length=n) (hks:∀ j∈ks,j < n)
  (hg:∀ C s₀ H₀ ex pn,DG (b9 X scope cl C (xs++ys) s₀ H₀ ex pn) tg ks g) (ht:∀ C s₀ H₀ ex pn,DTs (b9 X scope cl C (xs++ys) s₀ H₀ ex pn) ifs ft) (hb:∀ C s₀ H₀ ex pn,DE (b9 X scope cl C (xs++ys) s₀ H₀ ex pn) (fun _=>E0) elt fe)
  : ∀ B G0 G W H σ en Q,SimH B G0 G W H->SimS X.K W G H σ en->wpR (dG n js fi g ft fe en) (PostE X.K W G H Q) (PostX (E σ) G H)->yP (tI X.K E fi) (tG X.K ks g) (tT X.K (fun _=>E0) ft) (tE X.K (fun _=>E0) fe) xs.length js σ H Q:=by
 subst hn
 refine fun B G0 G W H σ en Q hh hs hw=>⟨B,G0,G,W,en,hh,hs,?_⟩
 have hw:wpR ((fi en).bind _) _ _:=hw
 rw [b6] at hw
 refine bF hw (fun ds hds G1 H1 J s1 hJ D hD=>?_) fun C h=>h
 unfold aG4 at hds
 split at hds
 case isFalse=>exact hds.elim
 rename_i hlen
 split at hds
 case h_2=>exact hds.elim
 rename_i r em
 have gD:G1 D=none:=s1.gh.free hD
 have aQ8:∀ {G2 H2:Hp} {y:List V},Step G1 H1 G2 H2->G2 D=none->Step G1 H1 G2 (upd H2 D (.lst y)):=fun st hg2=>by
  refine ⟨st.g,fun b o e=>?_,fun b o e=>?_,st.new⟩
  ·rw [a9 (cU e hD)];exact st.h b o e
  ·rw [a9 (cU e hg2)];exact st.gh b o e
 refine ⟨ds.length,fun i ys H2=>i<=ds.length/\ys.length<=i/\∃ G2 rs rest,Step G1 H1 G2 H2/\G2 D=none/\H2 D=some (.lst ys)/\Reps X.K G2 ys rs/\kH (aQ xs.length js g ft fe en) (ds.drop i)=some rest/\rs++rest=r,
  ⟨Nat.zero_le _,Nat.zero_le _,G1,[],r,Step.lay s1.gh hD,gD,bR,.nil,em,rfl⟩,?_⟩
 rintro i zs H2 ⟨hi,hzl,G2,rs,rest,st,g2,h2,rp,em2,er⟩
 obtain ⟨j1,j2⟩:=hJ G2 H2 st.g st.gh
 by_cases hlt:i < ds.length
 ·refine .inr ⟨hlt,?_⟩
  obtain ⟨jg,jy⟩:=j1 i ds[i] (List.getElem?_eq_getElem hlt)
  refine ⟨jg,fun v H3 hy=>?_⟩
  obtain ⟨G3,s3,rv⟩:=jy v H3 hy
  rw [List.drop_eq_getElem_cons hlt] at em2
  unfold kH at em2
  cases ec:aQ xs.length js g ft fe en ds[i] with
  | none=>rw [ec] at em2;cases em2
  | some o =>
   rw [ec] at em2
   dsimp only at em2
   cases em3:kH (aQ xs.length js g ft fe en) (ds.drop (i+1)) with
   | none=>rw [em3] at em2;cases em2
   | some rest' =>
    rw [em3] at em2
    have em2:=Option.some.inj em2
    unfold aQ at ec
    split at ec
    ·cases ec
    ·rename_i e eg
     have in3:=aGl xs.length js (hs.step ((s1.trans st).trans s3))
     refine ⟨G3,fun _=>none,_,ds[i],e,s3.gh,in3,rv,eg,fun σ' hσ hk=>⟨⟨?_,?_⟩,?_⟩⟩
     ·rw [hk.1];unfold x8;simp
     ·refine List.ext_getElem? fun j=>?_
      rw [List.getElem?_drop,hk.2 (xs.length+j) fun z=>absurd (hks _ z) (by omega),List.getElem?_append_right (by rw [List.length_replicate];omega),List.length_replicate]
      congr 1
      omega
     ·refine ⟨_,_,G3,fun _=>none,e,aR0 s3.gh,hσ,?_⟩
      cases et:ft e with
      | bad=>rw [et] at ec;cases ec
      | exc C=>rw [et] at ec;cases ec
      | ok k =>
       rw [et] at ec
       intro G5 H5 s5
       cases k with
       | false =>
        cases ec
        rw [if_neg Bool.false_ne_true]
        have s25:=s3.trans s5
        exact ⟨hlt,Nat.le_succ_of_le hzl,G5,rs,rest',st.trans s25,s25.off h2 (fun xs z=>nomatch z) g2,s25.h _ _ h2,rp.mono s25.g,em3,by rw [<- er,<- em2]⟩
       | true =>
        rw [if_pos rfl]
        refine ⟨_,_,G5,fun _=>none,e,aR0 s5.gh,hσ.step s5,?_⟩
        dsimp only at ec
        cases ee:fe e with
        | bad=>rw [ee] at ec;cases ec
        | exc C=>rw [ee] at ec;cases ec
        | ok q =>
         rw [ee] at ec
         intro G6 H6 y s6 ey
         obtain ⟨G7,s7,e7⟩:=EOk.c s6 ey
         dsimp only at ec
         split at ec
         ·rename_i y' eq
          cases ec
          rw [eq] at e7
          have s27:=(s3.trans s5).trans s7
          have g7:=s27.off h2 (fun xs z=>nomatch z) g2
          refine ⟨s27.h _ _ h2,Nat.lt_of_le_of_lt (Nat.le_trans hzl (Nat.le_trans hi hlen)) (by decide),hlt,by rw [List.length_append];exact Nat.succ_le_succ hzl,G7,rs++[y'],rest',aQ8 (st.trans s27) g7,g7,bR,(rp.mono s27.g).append (.cons e7 .nil),em3,?_⟩
          rw [<- er,<- em2,List.append_assoc]
          rfl
         ·cases ec
 ·have e:i=ds.length:=by omega
  subst e
  rw [List.drop_length] at em2
  cases em2
  rw [List.append_nil] at er
  subst er
  exact .inl ⟨j2,hds G2 H2 _ (s1.trans st) ⟨D,_,rfl,s1.h.free hD,g2,h2,.lst rp⟩⟩
theorem dJ {elt iter tg:Expr} {scope:Scope} {ifs:List Expr} {n:Nat} {js ks:List Nat} {fi:En->Res (List D)} {g:D->En->Option En} {ft:En->Res Bool} {fe:En->Res Ev} {xs ys:List Str} {cl:List (Str×Addr)} (hc:X.calm=true) (hi:DI X E tg iter fi)
  (hcl:aJx X scope cl) (hcap:qB X scope cl ys js) (hcell:∀ y∈scope.names,y.2≠.cell) (hkind:scope.kind=.function) (hnames:∀ y∈scope.names,y.2=.local->scope.names.lookup y.1=some .local) (hn:xs.length=n) (hks:∀ j∈ks,j < n)
  (hg:∀ C s₀ H₀ ex pn,DG (b9 X scope cl C (xs++ys) s₀ H₀ ex pn) tg ks g) (ht:∀ C s₀ H₀ ex pn,DTs (b9 X scope cl C (xs++ys) s₀ H₀ ex pn) ifs ft) (hb:∀ C s₀ H₀ ex pn,DE (b9 X scope cl C (xs++ys) s₀ H₀ ex pn) (fun _=>E0) elt fe)
  (hs:∀ x,foldedSetIterable iter X.env x=pure x:=by intro _;rfl):DE X E (.ListComp elt [⟨tg,iter,ifs,0⟩] scope pos) (dG n js fi g ft fe) :=
 DE.in ⟨_,aGi (xs:=xs) (g:=tG X.K ks g) (tt:=tT X.K (fun _=>E0) ft) (te:=tE X.K (fun _=>E0) fe) hc hi hcl hcap hcell hkind hnames hg ht hb hs,x9 hc hi hcl hcap hcell hkind hnames hn hks hg ht hb⟩
theorem lO {i:Nat} {y:Str} {py spos:Pos} (hN:X.N.Nodup) (hiN:X.N[i]? = some y) (hx:Loc X.env.scope y) {elt iter tg:Expr} {scope:Scope} {ifs:List Expr} {n:Nat} {js ks:List Nat} {fi:En->Res (List D)} {g:D->En->Option En} {ft:En->Res Bool} {fe:En->Res Ev} {xs ys:List Str} {cl:List (Str×Addr)} (hc:X.calm=true) (hi:DI X E tg iter fi)
  (hcl:aJx X scope cl) (hcap:qB X scope cl ys js) (hcell:∀ y∈scope.names,y.2≠.cell) (hkind:scope.kind=.function) (hnames:∀ y∈scope.names,y.2=.local->scope.names.lookup y.1=some .local) (hn:xs.length=n) (hks:∀ j∈ks,j < n)
  (hg:∀ C s₀ H₀ ex pn,DG (b9 X scope cl C (xs++ys) s₀ H₀ ex pn) tg ks g) (ht:∀ C s₀ H₀ ex pn,DTs (b9 X scope cl C (xs++ys) s₀ H₀ ex pn) ifs ft) (hb:∀ C s₀ H₀ ex pn,DE (b9 X scope cl C (xs++ys) s₀ H₀ ex pn) (fun _=>E0) elt fe)
  (hsw:swapsWith (.ListComp elt [⟨tg,iter,ifs,0⟩] scope pos) (some (.Name y py)) spos.line X.env=pure true:=by rfl) (hs:∀ x,foldedSetIterable iter X.env x=pure x:=by intro _;rfl)
  (hf:X.fn y=true\/X.env.scope.names.lookup y=some .local:=by first | exact .inl rfl | exact .inr rfl | assumption):DS X E (.Assign [.Name y py] (.ListComp elt [⟨tg,iter,ifs,0⟩] scope pos) spos) (cW i (dG n js fi g ft fe)) :=
 DS.in ⟨_,aE3 (xs:=xs) (g:=tG X.K ks g) (tt:=tT X.K (fun _=>E0) ft) (te:=tE X.K (fun _=>E0) fe) hN hiN hx hc hi hcl hcap hcell hkind hnames hg ht hb hsw hs hf,x5 (x9 hc hi hcl hcap hcell hkind hnames hn hks hg ht hb)⟩
end
section
variable {X:Cx} {K:PySem.W.Frag}
def rOr (r r':R2):R2:=fun x y H Q=>r x y H Q\/r' x y H Q
theorem OpR.or' {f:Value->Value->Sem Value} {r r':R2} (h:OpR X f r) (h':OpR X f r'):OpR X f (rOr r r'):=OpR.or h h'
def aNl:R2:=fun x y H Q=>∃ l b xs zs,x=.ref l/\y=.ref b/\Rd H l (.lst xs)/\Rd H b (.lst zs)/\xs.length+zs.length<=sizeLine/\∀ p,H p=none->Q (.ref p) (upd H p (.lst (xs++zs)))
theorem aKa:OpR X (binaryOp .Add) aNl:=by
 intro pins s σ H x y v u Q I rx ry h
 obtain ⟨l,b,xs,zs,rfl,rfl,hH,hB,hz,q⟩:=h
 cases rx
 cases ry
 obtain ⟨z,its,n,r,e⟩:=hH.ok I.hok
 obtain ⟨z2,its2,n2,r2,e2⟩:=hB.ok I.hok
 have hl:=r.length
 have hl2:=r2.length
 refine PySem.P.add_list e e2 ?_ (by rw [List.size_toArray,List.size_toArray];omega)
 have ea:its.toArray++its2.toArray=(its++its2).toArray:=by simp
 rw [ea]
 exact ⟨.ref _,_,I.lnew (t':=s.toks) (r.append r2) (by rw [List.length_append];omega),rfl,q _ I.fresh⟩
def aJd:R2:=fun x y H Q=>∃ i j,x=.str i/\y=.str j/\i.length+j.length<=sizeLine/\Q (.str (i++j)) H
def iS:Ev->Option (List D)
 | .p (.list ds)=>some ds
 | .b (.list ds)=>some ds
 | _=>none
theorem qN {W:Addr->Option Nat} {Hs G H:Hp} {v:V} {r:Ev} {ds:List D} (gh:Same G H) (h:EOk K W Hs G H v r) (e:iS r=some ds):∃ a xs,v=.ref a/\Rd H a (.lst xs)/\Reps K G xs ds:=by
 cases r with
 | p d =>
  cases d with
  | list es =>
   cases e
   cases h with
   | @lst a xs _ h1 h2=>exact ⟨a,xs,rfl,eY gh h1,h2⟩
  | _=>cases e
 | b d =>
  cases d with
  | list es =>
   cases e
   obtain ⟨a,i,o,rfl,h1,h2,h3⟩:=h
   cases h3 with
   | @lst xs _ h4=>exact ⟨a,xs,rfl,.inl h2,h4⟩
  | _=>cases e
 | f d=>cases e
 | x C=>cases e
def dat:Ev->Option D
 | .p d=>some d
 | .b d=>some d
 | _=>none
theorem EOk.read {W:Addr->Option Nat} {Hs G H:Hp} {v:V} {r:Ev} {d:D} (gh:Same G H) (h:EOk K W Hs G H v r) (e:dat r=some d):Rep K H v d:=by
 cases r with
 | p d=>cases e;exact Rep.mono gh h
 | b d =>
  cases e
  obtain ⟨a,i,o,rfl,h1,h2,h3⟩:=h
  exact (h3.mono gh).rep h2
 | f d=>cases e
 | x C=>cases e
open Classical in
noncomputable def uP (C:Int->Int->Prop) (g:Int->Int->D) (x y:Ev):Res Ev:=match x,y with
 | .p (.int i),.p (.int j)=>if C i j then .ok (.p (g i j)) else .bad
 | _,_=>.bad
def eP (g:Int->Int->D) (x y:Ev):Res Ev:=match x,y with
 | .p (.int i),.p (.int j)=>.ok (.p (g i j))
 | _,_=>.bad
theorem aI {C:Int->Int->Prop} {g:Int->Int->D}:NoX (uP C g):=by
 intro x y A h
 unfold uP at h
 split at h
 ·split at h<;>cases h
 ·cases h
theorem aU {g:Int->Int->D}:NoX (eP g):=by
 intro x y A h
 unfold eP at h
 split at h<;>cases h
theorem xV {C:Int->Int->Prop} {g:Int->Int->D} {gv:Int->Int->V} (hg:∀ G i j,Rep K G (gv i j) (g i j)):OpM K (rI C gv) (uP C g):=by
 intro W G H v u x y Q gh hx hy hw
 unfold uP at hw
 split at hw
 ·rename_i i j e1 e2
  rw [e1] at hx;rw [e2] at hy
  cases hx;cases hy
  split at hw
  ·rename_i hc
   exact ⟨i,j,rfl,rfl,hc,hw G H _ (Step.refl gh) (hg G i j)⟩
  ·exact hw.elim
 ·exact hw.elim
theorem aEy {g:Int->Int->D} {gv:Int->Int->V} (hg:∀ G i j,Rep K G (gv i j) (g i j)):OpM K (rI0 gv) (eP g):=by
 intro W G H v u x y Q gh hx hy hw
 unfold eP at hw
 split at hw
 ·rename_i i j e1 e2
  rw [e1] at hx;rw [e2] at hy
  cases hx;cases hy
  exact ⟨i,j,rfl,rfl,hw G H _ (Step.refl gh) (hg G i j)⟩
 ·exact hw.elim
noncomputable abbrev fU:Ev->Ev->Res Ev:=uP CMulW fun i j=>.int (i*j)
noncomputable abbrev gZ:Ev->Ev->Res Ev:=uP nI fun i j=>.int (i.fdiv j)
noncomputable abbrev jT:Ev->Ev->Res Ev:=uP (fun _ j=>j≠0) fun i j=>.int (i.fmod j)
noncomputable abbrev aOs:Ev->Ev->Res Ev:=uP aNc fun i j=>.int (i ^ j.toNat)
abbrev pW:Ev->Ev->Res Ev:=eP fun i j=>.int (i - j)
abbrev ltE:Ev->Ev->Res Ev:=eP fun i j=>.bool (decide (i < j))
abbrev leE:Ev->Ev->Res Ev:=eP fun i j=>.bool (decide (i<=j))
abbrev gtE:Ev->Ev->Res Ev:=eP fun i j=>.bool (decide (j < i))
theorem bG:OpM K (rI CMulW fun i j=>.int (i*j)) fU:=xV fun _ _ _=>.int _
theorem fI:OpM K (rI nI fun i j=>.int (i.fdiv j)) gZ:=xV fun _ _ _=>.int _
theorem eK:OpM K (rI (fun _ j=>j≠0) fun i j=>.int (i.fmod j)) jT:=xV fun _ _ _=>.int _
theorem aIc:OpM K (rI aNc fun i j=>.int (i ^ j.toNat)) aOs:=xV fun _ _ _=>.int _
theorem fW:OpM K (rI0 fun i j=>.int (i - j)) pW:=aEy fun _ _ _=>.int _
def lA (x y:Ev):Res Ev:=match x,y with
 | .p (.int i),.p (.int j)=>.ok (.p (.int (i+j)))
 | .p (.str i),.p (.str j)=>if i.length+j.length<=100000 then .ok (.p (.str (i++j))) else .bad
 | x,y=>match iS x,iS y with
  | some ds,some es=>if ds.length+es.length<=100000 then .ok (.f (.list (ds++es))) else .bad
  | _,_=>.bad
theorem eL:NoX lA:=by
 intro x y A h
 unfold lA at h
 split at h
 ·cases h
 ·split at h<;>cases h
 ·split at h
  ·split at h<;>cases h
  ·cases h
abbrev aNz:R2:=rOr (rI0 fun i j=>.int (i+j)) (rOr aJd aNl)
theorem eM:OpR X (binaryOp .Add) aNz:=OpR.or' aMu (OpR.or' zV aKa)
theorem g8:OpM K aNz lA:=by
 intro W G H v u x y Q gh hx hy hw
 unfold lA at hw
 split at hw
 ·rename_i i j e1 e2
  rw [e1] at hx;rw [e2] at hy
  cases hx;cases hy
  exact .inl ⟨i,j,rfl,rfl,hw G H _ (Step.refl gh) (.int _)⟩
 ·rename_i i j e1 e2
  rw [e1] at hx;rw [e2] at hy
  cases hx;cases hy
  split at hw
  ·rename_i hl
   exact .inr (.inl ⟨i,j,rfl,rfl,Nat.le_trans hl (by decide),hw G H _ (Step.refl gh) (.str _)⟩)
  ·exact hw.elim
 ·split at hw
  ·rename_i ds es e1 e2
   obtain ⟨a,xs,rfl,h1,h2⟩:=qN gh hx e1
   obtain ⟨b,ys,rfl,h3,h4⟩:=qN gh hy e2
   split at hw
   ·rename_i hl
    refine .inr (.inr ⟨a,b,xs,ys,rfl,rfl,h1,h3,by rw [h2.length,h4.length];exact Nat.le_trans hl (by decide),fun p hp=>?_⟩)
    exact hw _ _ _ (Step.lay gh hp) ⟨p,_,rfl,hp,gh.free hp,bR,.lst (h2.append h4)⟩
   ·exact hw.elim
  ·exact hw.elim
theorem fR {p:Int->Int->Bool}:OpM K (rI0 fun i j=>.bl (p i j)) (eP fun i j=>.bool (p i j)):=aEy fun _ _ _=>.bl _
mutual
theorem Rep.reads {P:Program} {w:World} {H:Hp} {h:Heap} (ok:HOk P w H h):∀ {v:V} {d:D},Rep K H v d->d.canLay0=true->∀ {u:Value},RelV v u->∃ as,Reads h u d as
 | _,_,.non,_,_,e=>by cases e;exact ⟨_,Reads.none⟩
 | _,_,.bl b,_,_,e=>by cases e;exact ⟨_,Reads.bool b⟩
 | _,_,.int i,_,_,⟨t,e⟩=>by subst e;exact ⟨_,Reads.int i t⟩
 | _,_,.str i,_,_,⟨t,e⟩=>by subst e;exact ⟨_,Reads.str i t⟩
 | _,_,.tup hh r,hc,_,e=>by
  have e:_=Value.ref _:=e
  subst e
  obtain ⟨_,its,rv,o,ho,hcl,n,hd⟩:=(show ObjOk P w H h _ _ from ok _ _ hh)
  obtain ⟨as,q⟩:=Reps.reads ok r (by simpa [PyData.canLay0] using hc) rv
  exact ⟨as,reads_tuple_at ho hcl hd (by simpa using q)⟩
 | _,_,.lst hh r,hc,_,e=>by
  have e:_=Value.ref _:=e
  subst e
  obtain ⟨_,its,n,rv,ho⟩:=hh.ok ok
  obtain ⟨as,q⟩:=Reps.reads ok r (by simpa [PyData.canLay0] using hc) rv
  exact ⟨_,reads_list_at ho rfl rfl (by simpa using q)⟩
 | _,_,.dT _ _,hc,_,_=>by simp [PyData.canLay0] at hc
 | _,_,.dK _ _,hc,_,_=>by simp [PyData.canLay0] at hc
theorem Reps.reads {P:Program} {w:World} {H:Hp} {h:Heap} (ok:HOk P w H h):∀ {vs:List V} {ds:List D},Reps K H vs ds->PyData.canLayAll0 ds=true->∀ {us:List Value},Vals vs us->∃ as,ReadsAll h us ds as
 | _,_,.nil,_,_,.nil=>⟨_,ReadsAll.nil⟩
 | _,_,.cons hd r,hc,_,.cons rv rt=>by
  simp only [PyData.canLayAll0,Bool.and_eq_true] at hc
  obtain ⟨as,q⟩:=Rep.reads ok hd hc.1 rv
  obtain ⟨bs,p⟩:=Reps.reads ok r hc.2 rt
  exact ⟨_,ReadsAll.cons q p⟩
end
def aQ5 (K:PySem.W.Frag) (ng:Bool):R2:=fun x y H Q=>∃ d e,Rep K H x d/\Rep K H y e/\SeqAt.shaped d=true/\SeqAt.shaped e=true/\Q (.bl (if ng then !PyData.eqv d e else PyData.eqv d e)) H
theorem iM {K:PySem.W.Frag} (hu:X.A.units+64 < cLine):OpR X (compareOp .Eq) (aQ5 K false):=by
 intro pins s σ H x y v u Q I rx ry h
 obtain ⟨d,e,h1,h2,o1,o2,q⟩:=h
 obtain ⟨as,r1⟩:=h1.reads I.hok (Bool.and_eq_true_iff.mp o1).1 rx
 obtain ⟨bs,r2⟩:=h2.reads I.hok (Bool.and_eq_true_iff.mp o2).1 ry
 exact eq_dataH r1 r2 o1 o2 hu ⟨.bl _,H,I,rfl,q⟩
theorem lB {K:PySem.W.Frag} (hu:X.A.units+64 < cLine):OpR X (compareOp .NotEq) (aQ5 K true):=by
 intro pins s σ H x y v u Q I rx ry h
 obtain ⟨d,e,h1,h2,o1,o2,q⟩:=h
 obtain ⟨as,r1⟩:=h1.reads I.hok (Bool.and_eq_true_iff.mp o1).1 rx
 obtain ⟨bs,r2⟩:=h2.reads I.hok (Bool.and_eq_true_iff.mp o2).1 ry
 exact ne_dataH r1 r2 o1 o2 hu ⟨.bl _,H,I,rfl,q⟩
def eqE (ng:Bool) (x y:Ev):Res Ev:=match dat x,dat y with
 | some d,some e=>if SeqAt.shaped d=true/\SeqAt.shaped e=true then .ok (.p (.bool (if ng then !PyData.eqv d e else PyData.eqv d e))) else .bad
 | _,_=>.bad
theorem dI {ng:Bool}:NoX (eqE ng):=by
 intro x y A h
 unfold eqE at h
 split at h
 ·split at h<;>cases h
 ·cases h
theorem gX {ng:Bool}:OpM K (aQ5 K ng) (eqE ng):=by
 intro W G H v u x y Q gh hx hy hw
 unfold eqE at hw
 split at hw
 ·rename_i d e e1 e2
  split at hw
  ·rename_i hs
   exact ⟨d,e,hx.read gh e1,hy.read gh e2,hs.1,hs.2,hw G H _ (Step.refl gh) (.bl _)⟩
  ·exact hw.elim
 ·exact hw.elim
def rJ (ng:Bool) (x:Ev):Res Ev:=match x with
 | .p .none=>.ok (.p (.bool (!ng)))
 | .p _=>.ok (.p (.bool ng))
 | .b _=>.ok (.p (.bool ng))
 | _=>.bad
def mUn (op:Ev->Res Ev) (fa:En->Res Ev):En->Res Ev:=fun en=>(fa en).bind fun x=>op x.c
variable {E:L2.St->XK} {a b:Expr} {fa fb:En->Res Ev} {pos:Pos}
theorem sN {ng:Bool} {W:Addr->Option Nat} {G H:Hp} {v:V} {x:Ev} {Q:VK} (gh:Same G H) (hx:EOk K W H G H v x.c) {EE:XK} (hw:wpR (rJ ng x.c) (PostE K W G H Q) (PostX EE G H)):Q (.bl (if ng then !decide (v=.non) else decide (v=.non))) H:=by
 unfold rJ at hw
 split at hw
 ·rename_i e
  rw [e] at hx
  cases hx
  have z:=hw G H _ (Step.refl gh) (.bl _)
  cases ng<;>exact z
 ·rename_i d e e2
  rw [e2] at hx
  have nv:v≠.non:=by
   intro z
   subst z
   have hx:Rep K G V.non d:=hx
   cases hx
   exact e rfl
  have z:=hw G H _ (Step.refl gh) (.bl _)
  rw [decide_eq_false nv]
  cases ng<;>exact z
 ·rename_i d e
  rw [e] at hx
  obtain ⟨a,i,o,rfl,h1⟩:=hx
  have z:=hw G H _ (Step.refl gh) (.bl _)
  cases ng<;>exact z
 ·exact hw.elim
theorem aLp {j pos'} (ha:DE X E a fa):DE X E (.Compare a [.Is] [.Constant .none j pos'] pos) (mUn (rJ false) fa):=by
 obtain ⟨t,p,m⟩:=ha.out
 refine DE.in ⟨_,aM9 (aIk p),fun B G0 G W H σ en Q hh hs hw=>m B G0 G W H σ en _ hh hs (DE.go hw fun x G1 H1 v s1 e1 h1=>?_)⟩
 exact sN (ng:=false) s1.gh e1.cc h1
theorem aOx {j pos'} (ha:DE X E a fa):DT X E (.Compare a [.Is] [.Constant .none j pos'] pos) (aZ (mUn (rJ false) fa)):=by
 obtain ⟨t,p,m⟩:=ha.out
 refine DT.in ⟨_,aEm (aIk p),fun B G0 G W H σ en Q hh hs hw=>?_⟩
 have k:=(aLp (pos:=pos) (j:=j) (pos':=pos') ha)
 refine l9 (t:=aR1 t) (fa:=mUn (rJ false) fa) (E:=E) (X:=X) (fun B G0 G W H σ en Q hh hs hw=>m B G0 G W H σ en _ hh hs (DE.go hw fun x G1 H1 v s1 e1 h1=>sN (ng:=false) s1.gh e1.cc h1)) B G0 G W H σ en Q hh hs hw
theorem aDd {j pos'} (ha:DE X E a fa):DT X E (.Compare a [.IsNot] [.Constant .none j pos'] pos) (aZ (mUn (rJ true) fa)):=by
 obtain ⟨t,p,m⟩:=ha.out
 refine DT.in ⟨_,aEm (aJh p),fun B G0 G W H σ en Q hh hs hw=>?_⟩
 refine l9 (t:=aM4 t) (fa:=mUn (rJ true) fa) (E:=E) (X:=X) (fun B G0 G W H σ en Q hh hs hw=>m B G0 G W H σ en _ hh hs (DE.go hw fun x G1 H1 v s1 e1 h1=>sN (ng:=true) s1.gh e1.cc h1)) B G0 G W H σ en Q hh hs hw
def tK (x:Ev):Res Ev:=match x with
 | .p (.int i)=>.ok (.p (.int (-i)))
 | _=>.bad
theorem qG (ha:DE X E a fa):DE X E (.UnaryOp .USub a pos) (mUn tK fa):=by
 obtain ⟨t,p,m⟩:=ha.out
 refine DE.in ⟨_,aRn aN7 p,fun B G0 G W H σ en Q hh hs hw=>m B G0 G W H σ en _ hh hs (DE.go hw fun x G1 H1 v s1 e1 h1=>?_)⟩
 unfold tK at h1
 split at h1
 ·rename_i i e
  rw [e] at e1
  cases e1
  exact ⟨i,rfl,h1 G1 H1 _ (Step.refl s1.gh) (.int _)⟩
 ·exact h1.elim
def j6:Ev->Option (List D)
 | .p (.list ds)=>some ds
 | .b (.list ds)=>some ds
 | .p (.tuple ds)=>some ds
 | _=>none
def ixE (x y:Ev):Res Ev:=match y with
 | .p (.int i)=>match j6 x with
  | some ds=>match atI ds i with
   | some d=>.ok (.p d)
   | none=>.bad
  | none=>.bad
 | _=>.bad
theorem aNq:NoX ixE:=by
 intro x y A h
 unfold ixE at h
 split at h
 ·split at h
  ·split at h<;>cases h
  ·cases h
 ·cases h
theorem xF {G:Hp} {xs:List V} {ds:List D} {i:Int} {d:D} (r:Reps K G xs ds) (h:atI ds i=some d):∃ x,atI xs i=some x/\Rep K G x d:=by
 unfold atI at h ⊢
 rw [r.length]
 cases e:ixN ds.length i with
 | none=>rw [e] at h;cases h
 | some j =>
  rw [e] at h
  exact r.get' h
def aPv (K:PySem.W.Frag):R2:=fun x y H Q=>aR4 K x y H Q\/aRu K x y H Q
theorem aRz:IxR X (aPv X.K):=ix_list.or aPb
theorem aQ1:OpM K (aPv K) ixE:=by
 intro W G H v u x y Q gh hx hy hw
 unfold ixE at hw
 split at hw
 ·rename_i i ey
  rw [ey] at hy
  cases hy
  split at hw
  ·rename_i ds ed
   split at hw
   ·rename_i d ea
    cases ex:x.c with
    | p dd =>
     rw [ex] at ed hx
     cases dd with
     | list es =>
      cases ed
      cases hx with
      | @lst a xs _ h1 h2 =>
       obtain ⟨z,h3,h4⟩:=xF h2 ea
       exact .inl ⟨a,xs,i,z,rfl,rfl,.inl (eY gh h1),h3,hw G H _ (Step.refl gh) h4⟩
     | tuple es =>
      cases ed
      cases hx with
      | @tup a xs _ h1 h2 =>
       obtain ⟨z,h3,h4⟩:=xF h2 ea
       exact .inr ⟨a,xs,i,z,rfl,rfl,SqT.of (gh _ _ h1),h3,hw G H _ (Step.refl gh) h4⟩
     | _=>cases ed
    | b dd =>
     rw [ex] at ed hx
     cases dd with
     | list es =>
      cases ed
      obtain ⟨a,k,o,rfl,h1,h2,h3⟩:=hx
      cases h3 with
      | @lst xs _ h4 =>
       obtain ⟨z,h5,h6⟩:=xF h4 ea
       exact .inl ⟨a,xs,i,z,rfl,rfl,.inl (.inl h2),h5,hw G H _ (Step.refl gh) h6⟩
     | _=>cases ed
    | f dd=>rw [ex] at ed;cases ed
    | x C=>rw [ex] at ed;cases ed
   ·exact hw.elim
  ·exact hw.elim
 ·exact hw.elim
theorem aP (ha:DE X E a fa) (hb:DE X E b fb) (hs:aB4 b):DE X E (.Subscript a b pos) (aE ixE fa fb):=by
 obtain ⟨ta,pa,ma⟩:=ha.out
 obtain ⟨tb,pb,mb⟩:=hb.out
 exact DE.in ⟨_,aPd aRz pa pb hs,qS ma mb aQ1 aNq⟩
def gF (rs:List Ev):Res Ev:=match rs with
 | [x]=>match j6 x with
  | some ds=>.ok (.p (.int ds.length))
  | none=>.bad
 | _=>.bad
theorem fY:aAq gF:=by
 intro rs C h
 unfold gF at h
 split at h
 ·split at h<;>cases h
 ·cases h
theorem jM:nO K (fun xs H Q=>∃ p ys,xs=[.ref p]/\(SqL K H p ys\/SqT K H p ys)/\Q (.int ys.length) H) gF:=by
 intro W Hs G H vs rs Q gh he hw
 unfold gF at hw
 split at hw
 ·rename_i x
  match vs,he with
  | [v],⟨h1,_⟩ =>
   split at hw
   ·rename_i ds ed
    cases x with
    | p dd =>
     cases dd with
     | list es =>
      cases ed
      cases h1 with
      | @lst a xs _ k1 k2=>exact ⟨a,xs,rfl,.inl (.inl (eY gh k1)),by rw [k2.length];exact hw G H _ (Step.refl gh) (.int _)⟩
     | tuple es =>
      cases ed
      cases h1 with
      | @tup a xs _ k1 k2=>exact ⟨a,xs,rfl,.inr (SqT.of (gh _ _ k1)),by rw [k2.length];exact hw G H _ (Step.refl gh) (.int _)⟩
     | _=>cases ed
    | b dd =>
     cases dd with
     | list es =>
      cases ed
      obtain ⟨a,k,o,rfl,k1,k2,k3⟩:=h1
      cases k3 with
      | @lst xs _ k4=>exact ⟨a,xs,rfl,.inl (.inl (.inl k2)),by rw [k4.length];exact hw G H _ (Step.refl gh) (.int _)⟩
     | _=>cases ed
    | f dd=>cases ed
    | x C=>cases ed
   ·exact hw.elim
 ·exact hw.elim
def aIj (rs:List Ev):Res Ev:=match rs with
 | [.p (.int i)]=>.ok (.p (.int (if i < 0 then -i else i)))
 | _=>.bad
theorem rA:aAq aIj:=by
 intro rs C h
 unfold aIj at h
 split at h<;>cases h
theorem yK:nO K (fun xs H Q=>∃ i,xs=[.int i]/\Q (.int (if i < 0 then -i else i)) H) aIj:=by
 intro W Hs G H vs rs Q gh he hw
 unfold aIj at hw
 split at hw
 ·rename_i i
  match vs,he with
  | [v],⟨h1,_⟩=>cases h1;exact ⟨i,rfl,hw G H _ (Step.refl gh) (.int _)⟩
 ·exact hw.elim
def aJ1 (f:Int->Int->Int) (rs:List Ev):Res Ev:=match rs with
 | [.p (.int i),.p (.int j)]=>.ok (.p (.int (f i j)))
 | _=>.bad
theorem aJc {f:Int->Int->Int}:aAq (aJ1 f):=by
 intro rs C h
 unfold aJ1 at h
 split at h<;>cases h
theorem aOo {f:Int->Int->Int}:nO K (fun xs H Q=>∃ i j,xs=[.int i,.int j]/\Q (.int (f i j)) H) (aJ1 f):=by
 intro W Hs G H vs rs Q gh he hw
 unfold aJ1 at hw
 split at hw
 ·rename_i i j
  match vs,he with
  | [v,u],⟨h1,h2,_⟩=>cases h1;cases h2;exact ⟨i,j,rfl,hw G H _ (Step.refl gh) (.int _)⟩
 ·exact hw.elim
def wB:List D->Option (List Bool)
 | []=>some []
 | .bool b :: ds=>match wB ds with
  | some bs=>some (b :: bs)
  | none=>none
 | _=>none
theorem yS {G:Hp}:∀ {ds:List D} {bs:List Bool} {xs:List V},wB ds=some bs->Reps K G xs ds->xs=bs.map V.bl
 | [],_,_,h,.nil=>by cases h;rfl
 | d :: ds,bs,_,h,.cons r t=>by
  cases d with
  | bool b =>
   unfold wB at h
   cases e:wB ds with
   | none=>rw [e] at h;cases h
   | some bs' =>
    rw [e] at h
    cases h
    cases r
    rw [yS e t]
    rfl
  | _=>cases h
def aHv (rs:List Ev):Res Ev:=match rs with
 | [x]=>match iS x with
  | some ds=>match wB ds with
   | some bs=>.ok (.p (.bool (bs.any id)))
   | none=>.bad
  | none=>.bad
 | _=>.bad
theorem aLc:aAq aHv:=by
 intro rs C h
 unfold aHv at h
 split at h
 ·split at h
  ·split at h<;>cases h
  ·cases h
 ·cases h
theorem aMz:nO K (aR2 K) aHv:=by
 intro W Hs G H vs rs Q gh he hw
 unfold aHv at hw
 split at hw
 ·rename_i x
  match vs,he with
  | [v],⟨h1,_⟩ =>
   split at hw
   ·rename_i ds ed
    obtain ⟨a,xs,rfl,k1,k2⟩:=qN gh h1 ed
    split at hw
    ·rename_i bs eb
     have:=yS eb k2
     subst this
     exact ⟨a,bs,rfl,.inl k1,hw G H _ (Step.refl gh) (.bl _)⟩
    ·exact hw.elim
   ·exact hw.elim
 ·exact hw.elim
def listE (rs:List Ev):Res Ev:=match rs with
 | [x]=>match j6 x with
  | some ds=>.ok (.f (.list ds))
  | none=>.bad
 | _=>.bad
theorem aFc:aAq listE:=by
 intro rs C h
 unfold listE at h
 split at h
 ·split at h<;>cases h
 ·cases h
theorem aKe:nO K (fun xs H Q=>∃ p ys,xs=[.ref p]/\(SqL K H p ys\/SqT K H p ys)/\∀ l,H l=none->Q (.ref l) (upd H l (.lst ys))) listE:=by
 intro W Hs G H vs rs Q gh he hw
 unfold listE at hw
 split at hw
 ·rename_i x
  match vs,he with
  | [v],⟨h1,_⟩ =>
   split at hw
   ·rename_i ds ed
    have fin:∀ {xs:List V},Reps K G xs ds->∀ l,H l=none->Q (.ref l) (upd H l (.lst xs)):=fun r l hl =>
     hw _ _ _ (Step.lay gh hl) ⟨l,_,rfl,hl,gh.free hl,bR,.lst r⟩
    cases x with
    | p dd =>
     cases dd with
     | list es =>
      cases ed
      cases h1 with
      | @lst a xs _ k1 k2=>exact ⟨a,xs,rfl,.inl (.inl (eY gh k1)),fin k2⟩
     | tuple es =>
      cases ed
      cases h1 with
      | @tup a xs _ k1 k2=>exact ⟨a,xs,rfl,.inr (SqT.of (gh _ _ k1)),fin k2⟩
     | _=>cases ed
    | b dd =>
     cases dd with
     | list es =>
      cases ed
      obtain ⟨a,k,o,rfl,k1,k2,k3⟩:=h1
      cases k3 with
      | @lst xs _ k4=>exact ⟨a,xs,rfl,.inl (.inl (.inl k2)),fin k4⟩
     | _=>cases ed
    | f dd=>cases ed
    | x C=>cases ed
   ·exact hw.elim
 ·exact hw.elim
def tyD:D->String
 | .none=>"NoneType"
 | .bool _=>"bool"
 | .int _=>"int"
 | .str _=>"str"
 | .list _=>"list"
 | .tuple _=>"tuple"
 | .dict _=>"dict"
def pY (K:PySem.W.Frag) (c:Value) (x:Ev):Res Ev:=match dat x with
 | some d=>match PySem.W.kitOne K (.type (tyD d)) c with
  | some b=>.ok (.p (.bool b))
  | none=>.bad
 | none=>.bad
theorem aOt {H:Hp} {v:V} {d:D} (h:Rep K H v d):yD K H v (.type (tyD d)):=by
 cases h with
 | non=>exact .non
 | bl b=>exact .bl b
 | int i=>exact .int i
 | str i=>exact .str i
 | tup h _=>exact .tup h
 | lst h _ =>
  rcases h with h | ⟨o,h⟩
  ·exact .lst h
  ·exact .frz h
 | dT h _=>exact .dT h
 | dK h _=>exact .dK h
theorem n8 {e c:Expr} {v:V} {cv:Value} {p:Pos} (hg:Gl X "isinstance") (hm:X.mg "isinstance" = none) (hv:(∃ n,v=.ty n)\/∃ a,v=.ref a) (hr:RelV v cv) (he:DE X E e fa) (hc:PE X c (tC v))
  (h1:starEach [e,c] X.env=(false,eval e X.env) :: starEach [c] X.env:=by rfl) (h2:(backTo pos (starEach [c] X.env)).any (·.1)=false:=by rfl) (h3:starEach [c] X.env=(false,eval c X.env) :: starEach [] X.env:=by rfl) :
  DE X E (.Call (.Name "isinstance" p) [e,c] [] pos) (mUn (pY X.K cv) fa):=by
 obtain ⟨t,q,m⟩:=he.out
 refine DE.in ⟨_,aOe hg hm q hc h1 h2 h3,fun B G0 G W H σ en Q hh hs hw=>m B G0 G W H σ en _ hh hs (DE.go hw fun x G1 H1 u s1 e1 k1=>?_)⟩
 unfold pY at k1
 split at k1
 ·rename_i d ed
  split at k1
  ·rename_i b eb
   exact ⟨u,v,.type (tyD d),cv,b,rfl,hv,.plain (aOt (EOk.read s1.gh e1 ed)),hr,eb,k1 G1 H1 _ (Step.refl s1.gh) (.bl _)⟩
  ·exact k1.elim
 ·exact k1.elim
end
section
variable {P:Program} {w:World} {K:PySem.W.Frag} {mg:Str->Option Value} {base:Heap}
structure Def (K:PySem.W.Frag) (mg:Str->Option Value) (x:Str) (ps:List Str) (st:Stmt):Prop where
 ex:∃ f fd,Fun K x x st f fd/\Binds K fd ps []/\PySem.W.keepIn K (.ref f)=true/\mg x=some (.ref f)
structure Cal (P:Program) (w:World) (K:PySem.W.Frag) (mg:Str->Option Value) (base:Heap) (k:Nat) (x:Str) (n:Nat) (m:List L->Res L):Prop where
 ex:∃ f fd ps,FnOk P w K mg base (CXr P w) k f fd ps (spM K n m)/\Binds K fd ps []/\PySem.W.keepIn K (.ref f)=true/\mg x=some (.ref f)
theorem jC {x:Str} {st:Stmt} {N ps:List Str} {k n:Nat} {m:List L->Res L} (Df:Def K mg x ps st) (S:aW N ps (aO st)) (hn:n=ps.length)
  (hbody:∀ (f:Addr) (cdv:Value) (A:Around) (outer:List Env) (s:Shared) (H:Hp) (E:XK),Room k (A.deeper (envOfC x (aO st) s.heap.objs.size f cdv)) ->
   ∃ fm,DSs (qT (CXr P w) P w K mg base N x (aO st) f cdv A outer s H E) (fun _=>E) (iN st) fm/\∀ ls,m ls=.bad\/dX N.length fm ls=m ls):Cal P w K mg base (k+1) x n m:=by
 obtain ⟨f,fd,F,b,kp,h⟩:=Df.ex
 exact ⟨f,fd,ps,fnM F S hn fun cdv A outer s H E hr=>hbody f cdv A outer s H E hr,b,kp,h⟩
end
section
variable {X:Cx} {E:L2.St->XK} {k j:Nat} {x:Str} {p pos:Pos} {e:Expr} {es:List Expr} {fr:En->Res (List Ev)} {n:Nat} {m:List L->Res L}
theorem aK (c:Cal X.prog X.w X.K X.mg X.base j x n m) (hr:Room k X.A) (hx:oG (CXr X.prog X.w) X E) (ha:DA X E (e :: es) fr) (hg:Gl X x:=by rfl) (hjk:j<=k:=by decide) (hdb:(x == ("__debug__" : Str))=false:=by decide)
  (he:starEach (e :: es) X.env=(false,eval e X.env) :: starEach es X.env:=by rfl) (hpl:(backTo pos (starEach es X.env)).any (·.1)=false:=by rfl) :
  DE X E (.Call (.Name x p) (e :: es) [] pos) (aM n m fr):=by
 obtain ⟨f,fd,ps,F,b,kp,h⟩:=c.ex
 exact aKd (F.mono hjk) hr hg h kp b hx ha hdb he hpl
theorem dv (i:Nat) (hN:X.N[i]? = some x:=by rfl) (hv:Vis X.env.scope x:=by first | exact Or.inl rfl | exact Or.inr (Or.inl rfl) | exact Or.inr (Or.inr rfl)) (hd:(x == ("__debug__" : Str))=false:=by decide) (hcd:(x == ("__classdict__" : Str))=false:=by decide) :
  DE X E (.Name x pos) (aD i):=aM7 hN hv hd hcd
theorem u64 {A:Around} (hr:Room k A):A.units+64 < cLine:=by have:=hr.un;omega
theorem u1 {A:Around} (hr:Room k A):A.units+1 < cLine:=by have:=hr.un;omega
theorem aV {scope:Scope} {cl:List (Str×Addr)}:qB X scope cl [] []:=⟨rfl,fun i y j h _=>by simp at h⟩
theorem a5 {scope:Scope} {cl:List (Str×Addr)} {y:Str} {ys:List Str} {j:Nat} {js:List Nat} (h:X.N[j]? = some y/\(X.env.kindOf y=some .cell\/X.env.kindOf y=some .free)/\((relabel scope X.env).names.lookup y=some .cell\/(relabel scope X.env).names.lookup y=some .free)/\(X.env.cells.lookup y).isSome=true/\cl.lookup y=X.env.cells.lookup y)
  (t:qB X scope cl ys js):qB X scope cl (y :: ys) (j :: js) :=
 ⟨by rw [List.length_cons,List.length_cons,t.len],fun i z q e1 e2=>by
  cases i with
  | zero=>simp at e1 e2;subst e1 e2;exact h
  | succ i=>exact t.at_ i z q (by simpa using e1) (by simpa using e2)⟩
theorem g6 {scope:Scope} {cl:List (Str×Addr)} {ys:List Str} {js:List Nat} (clos:closureFor scope X.env=pure cl) (sub:∀ q∈cl,X.env.cells.lookup q.1=some q.2) (cap:qB X scope cl ys js) (hcell:∀ y∈scope.names,y.2≠.cell) (hfree:∀ q∈scope.names,q.2=.free->q.1∈ys):aJx X scope cl:=by
 refine ⟨clos,fun y c h=>sub _ (PySem.mem_of_lookup h),fun y hy=>?_⟩
 have hm:y∈ys:=by
  rcases hy with hy | hy
  ·have m:=PySem.mem_of_lookup hy
   obtain ⟨⟨n0,k0⟩,m0,e0⟩:=List.mem_map.mp m
   dsimp only at e0
   split at e0
   ·rename_i z
    injection e0 with e1 e2
    subst e1
    have:k0=.free:=by
     cases k0<;>simp at z ⊢
    exact hfree _ m0 this
   ·injection e0 with e1 e2
    exact absurd e2 (hcell _ m0)
  ·have m:=PySem.mem_of_lookup hy
   obtain ⟨⟨n0,k0⟩,m0,e0⟩:=List.mem_map.mp m
   dsimp only at e0
   split at e0
   ·injection e0 with e1 e2
    cases e2
   ·injection e0 with e1 e2
    subst e1
    exact hfree _ m0 e2
 obtain ⟨i,hi,e⟩:=List.mem_iff_getElem.mp hm
 have hj:i < js.length:=by rw [<- cap.len];exact hi
 obtain ⟨_,_,_,h4,h5⟩:=cap.at_ i y js[i] (by rw [List.getElem?_eq_getElem hi,e]) (List.getElem?_eq_getElem hj)
 rw [h5]
 exact Option.isSome_iff_exists.mp h4
theorem nQ {K:PySem.W.Frag} {B G0 G H:Hp} {W:Addr->Option Nat} {σ:L2.St} {en:En} {i:Nat} {a:Addr} {o':HO} {d':D} (hh:SimH B G0 G W H) (hs:SimS K W G H σ en) (hW:W a=some i) (hv:σ[i]? = some (some (.ref a))) (hc:Cont K G o' d') :
  SimH B G0 G W (upd H a o')/\SimS K W G (upd H a o') σ (en.set i (some (.o d'))):=by
 obtain ⟨g1,g2,g3⟩:=hh.wf a i hW
 refine ⟨⟨fun b o e=>?_,fun b o e=>?_,hh.g0,hh.gb,fun b j e=>?_⟩,by rw [List.length_set];exact hs.1,fun j l e=>?_⟩
 ·rw [a9 (cU e g1)];exact hh.gh b o e
 ·rw [a9 (cU e g2)];exact hh.bh b o e
 ·obtain ⟨k1,k2,o,k3,k4⟩:=hh.wf b j e
  refine ⟨k1,k2,?_⟩
  by_cases z:b=a
  ·rw [z,bR];exact ⟨_,rfl,hc.mut⟩
  ·rw [a9 z];exact ⟨o,k3,k4⟩
 ·rw [List.getElem?_set] at e
  by_cases hj:i=j
  ·subst hj
   rw [if_pos rfl] at e
   split at e
   ·cases e
    exact ⟨_,hv,a,o',rfl,hW,bR,hc⟩
   ·cases e
  ·rw [if_neg hj] at e
   obtain ⟨v,e1,e2⟩:=hs.2 j l e
   refine ⟨v,e1,?_⟩
   cases l with
   | p d=>exact e2
   | x C=>exact e2
   | h a=>exact e2
   | o d =>
    obtain ⟨b,ob,h1,h2,h3,h4⟩:=e2
    refine ⟨b,ob,h1,h2,?_,h4⟩
    rw [a9 (fun z=>by rw [z,hW] at h2;exact hj (Option.some.inj h2))]
    exact h3
def lF (i:Nat) (fe:En->Res Ev):MS:=fun en=>match en[i]? with
 | some (some (.o (.list ds)))=>match fe en with
  | .ok r=>match r.c with
   | .p d=>if ds.length<=100000 then some (.nx (en.set i (some (.o (.list (ds++[d])))))) else none
   | _=>none
  | .exc C=>some (.ex C en)
  | .bad=>none
 | _=>none
theorem uG {i:Nat} {fe:En->Res Ev} {st:Stmt} (he:DE X E e fe) (hp:∀ t,PE X e t->PS X st (aBw (tBM X.K "list" vW (aIm i) (aHa t aPn)))):DS X E st (lF i fe):=by
 obtain ⟨t,q,mm⟩:=he.out
 refine DS.in ⟨_,hp t q,fun B G0 G W H σ en Dn hh hs hw=>?_⟩
 unfold lF at hw
 split at hw
 ·rename_i ds ei
  obtain ⟨v,e1,a,o,rfl,e2,e3,e4⟩:=hs.2 i _ ei
  cases e4 with
  | @lst xs _ rp =>
  refine ⟨_,e1,.inl ⟨rfl,_,SqL.of e3⟩,mm B G0 G W H σ en _ hh hs ?_⟩
  cases ef:fe en with
  | bad=>rw [ef] at hw;exact hw
  | exc C=>rw [ef] at hw;exact fun G1 H1 s=>hw G1 W H1 σ (hh.step s) (hs.step s)
  | ok r =>
   rw [ef] at hw
   intro G1 H1 y s ey
   obtain ⟨G2,s2,ey2⟩:=ey.c s
   dsimp only at hw
   cases er:r.c with
   | p d =>
    rw [er] at hw ey2
    dsimp only at hw
    split at hw
    ·rename_i hl
     have hx:=s2.h _ _ e3
     refine ⟨a,xs,y,rfl,rfl,hx,Nat.lt_of_le_of_lt (by rw [rp.length];exact hl) (by decide),?_⟩
     obtain ⟨w1,w2⟩:=nQ (o':=.lst (xs++[y])) (d':=.list (ds++[d])) (hh.step s2) (hs.step s2) e2 e1 (.lst ((rp.mono s2.g).append (.cons ey2 .nil)))
     exact hw _ _ _ _ w1 w2
    ·exact hw.elim
   | f d=>rw [er] at hw;exact hw.elim
   | b d=>rw [er] at hw;exact hw.elim
   | x C=>rw [er] at hw;exact hw.elim
 ·exact hw.elim
end
section
variable {X:Cx} {K:PySem.W.Frag} {E:L2.St->XK} {a b:Expr} {fa fb:En->Res Ev} {pos:Pos}
def aHu:D->Option Key
 | .int i=>some (.inl i)
 | .str x=>some (.inr x)
 | _=>none
def vQ:List D->Option (List Key)
 | []=>some []
 | d :: ds=>match aHu d with
  | none=>none
  | some k=>match vQ ds with
   | none=>none
   | some ks=>some (k :: ks)
def aLk:D->Option (List Key)
 | .tuple ds=>vQ ds
 | _=>none
theorem rH {d:D} {k:Key} (h:aHu d=some k):d=kD k:=by
 cases d<;>first | (cases h;rfl) | cases h
theorem xJ (k:Key):aHu (kD k)=some k:=by cases k<;>rfl
theorem xS:∀ {ds:List D} {ks:List Key},vQ ds=some ks->ds=ks.map kD
 | [],_,h=>by cases h;rfl
 | d :: ds,ks,h=>by
  unfold vQ at h
  cases e:aHu d with
  | none=>rw [e] at h;cases h
  | some k =>
   rw [e] at h
   cases e2:vQ ds with
   | none=>rw [e2] at h;cases h
   | some ks' =>
    rw [e2] at h
    cases h
    rw [rH e,xS e2]
    rfl
theorem yF:∀ ks:List Key,vQ (ks.map kD)=some ks
 | []=>rfl
 | k :: ks=>by
  show (match aHu (kD k) with | none=>none | some k=>match vQ (ks.map kD) with | none=>none | some ks=>some (k :: ks))=_
  rw [xJ,yF ks]
theorem wW {d:D} {ks:List Key} (h:aLk d=some ks):d=tkD ks:=by
 cases d with
 | tuple ds=>unfold tkD;rw [<- xS h]
 | _=>cases h
theorem xU (ks:List Key):aLk (tkD ks)=some ks:=yF ks
theorem aBx {k k':List Key} (h:tkD k=tkD k'):k=k':=by
 have:=xU k
 rw [h,xU] at this
 exact (Option.some.inj this).symm
theorem aH8 {k k':Key} (h:kD k=kD k'):k=k':=by
 have:=xJ k
 rw [h,xJ] at this
 exact (Option.some.inj this).symm
theorem aDy {G:Hp}:∀ {ks:List Key} {xs:List V},Reps K G xs (ks.map kD)->xs=ks.map kV
 | [],_,.nil=>rfl
 | k :: ks,_,.cons r t=>by
  rw [aDy t]
  cases k with
  | inl i=>cases r;rfl
  | inr x=>cases r;rfl
theorem aIb {G:Hp} {v:V} {d:D} {ks:List Key} (h:Rep K G v d) (e:aLk d=some ks):∃ b,v=.ref b/\G b=some (.tup (ks.map kV)):=by
 have:=wW e
 subst this
 cases h with
 | @tup b xs _ h1 h2 =>
  rw [aDy h2] at h1
  exact ⟨b,rfl,h1⟩
theorem aBy {G:Hp} {v:V} {d:D} {k:Key} (h:Rep K G v d) (e:aHu d=some k):v=kV k:=by
 have:=rH e
 subst this
 cases k with
 | inl i=>cases h;rfl
 | inr x=>cases h;rfl
open Classical in
noncomputable def y6:List (D×D)->D->Option D
 | [],_=>none
 | p :: r,k=>if p.1=k then some p.2 else y6 r k
open Classical in
noncomputable def aIl (k v:D):List (D×D)->List (D×D)
 | []=>[]
 | p :: r=>(if p.1=k then (p.1,v) else p) :: aIl k v r
open Classical in
noncomputable def aEz (kvs:List (D×D)) (k v:D):List (D×D):=if (y6 kvs k).isSome=true then aIl k v kvs else kvs++[(k,v)]
theorem aRj {G:Hp} (ks:List Key):∀ {kv:List (List Key×V)} {kvs:List (D×D)},RepT K G kv kvs->(y6 kvs (tkD ks)=none/\tH kv ks=none)\/∃ d v,y6 kvs (tkD ks)=some d/\tH kv ks=some v/\Rep K G v d
 | _,_,.nil=>.inl ⟨rfl,rfl⟩
 | _,_,.cons (k:=k) (x:=x) (d:=d) r t=>by
  by_cases e:k=ks
  ·subst e
   refine .inr ⟨d,x,?_,lU (p:=(k,x)) rfl,r⟩
   unfold y6
   rw [if_pos rfl]
  ·have e2:tkD k≠tkD ks:=fun z=>e (aBx z)
   unfold y6
   rw [if_neg e2,lY (p:=(k,x)) e]
   exact aRj ks t
theorem aQc {G:Hp} (ks:Key):∀ {kv:List (Key×V)} {kvs:List (D×D)},RepK K G kv kvs->(y6 kvs (kD ks)=none/\tH kv ks=none)\/∃ d v,y6 kvs (kD ks)=some d/\tH kv ks=some v/\Rep K G v d
 | _,_,.nil=>.inl ⟨rfl,rfl⟩
 | _,_,.cons (k:=k) (x:=x) (d:=d) r t=>by
  by_cases e:k=ks
  ·subst e
   refine .inr ⟨d,x,?_,lU (p:=(k,x)) rfl,r⟩
   unfold y6
   rw [if_pos rfl]
  ·have e2:kD k≠kD ks:=fun z=>e (aH8 z)
   unfold y6
   rw [if_neg e2,lY (p:=(k,x)) e]
   exact aQc ks t
theorem aQt {G:Hp} {ks:List Key} {v:V} {d:D} (h:Rep K G v d):∀ {kv:List (List Key×V)} {kvs:List (D×D)},RepT K G kv kvs->RepT K G (kv.map fun p=>if p.1=ks then (p.1,v) else p) (aIl (tkD ks) d kvs)
 | _,_,.nil=>.nil
 | _,_,.cons (k:=k) (x:=x) (d:=d0) r t=>by
  unfold aIl
  rw [List.map_cons]
  by_cases e:k=ks
  ·subst e
   rw [if_pos rfl,if_pos rfl]
   exact .cons h (aQt h t)
  ·have e2:tkD k≠tkD ks:=fun z=>e (aBx z)
   rw [if_neg e,if_neg e2]
   exact .cons r (aQt h t)
theorem aRi {G:Hp} {ks:Key} {v:V} {d:D} (h:Rep K G v d):∀ {kv:List (Key×V)} {kvs:List (D×D)},RepK K G kv kvs->RepK K G (kv.map fun p=>if p.1=ks then (p.1,v) else p) (aIl (kD ks) d kvs)
 | _,_,.nil=>.nil
 | _,_,.cons (k:=k) (x:=x) (d:=d0) r t=>by
  unfold aIl
  rw [List.map_cons]
  by_cases e:k=ks
  ·subst e
   rw [if_pos rfl,if_pos rfl]
   exact .cons h (aRi h t)
  ·have e2:kD k≠kD ks:=fun z=>e (aH8 z)
   rw [if_neg e,if_neg e2]
   exact .cons r (aRi h t)
theorem RepT.app {G:Hp}:∀ {kv kv':List (List Key×V)} {kvs kvs':List (D×D)},RepT K G kv kvs->RepT K G kv' kvs'->RepT K G (kv++kv') (kvs++kvs')
 | _,_,_,_,.nil,r=>r
 | _,_,_,_,.cons h t,r=>.cons h (RepT.app t r)
theorem RepK.app {G:Hp}:∀ {kv kv':List (Key×V)} {kvs kvs':List (D×D)},RepK K G kv kvs->RepK K G kv' kvs'->RepK K G (kv++kv') (kvs++kvs')
 | _,_,_,_,.nil,r=>r
 | _,_,_,_,.cons h t,r=>.cons h (RepK.app t r)
theorem RepT.len {G:Hp}:∀ {kv:List (List Key×V)} {kvs:List (D×D)},RepT K G kv kvs->kv.length=kvs.length
 | _,_,.nil=>rfl
 | _,_,.cons _ r=>by rw [List.length_cons,List.length_cons,RepT.len r]
theorem RepK.len {G:Hp}:∀ {kv:List (Key×V)} {kvs:List (D×D)},RepK K G kv kvs->kv.length=kvs.length
 | _,_,.nil=>rfl
 | _,_,.cons _ r=>by rw [List.length_cons,List.length_cons,RepK.len r]
theorem aSa {G:Hp} {ks:List Key} {v:V} {d:D} (h:Rep K G v d) {kv:List (List Key×V)} {kvs:List (D×D)} (r:RepT K G kv kvs):RepT K G (putK kv ks v) (aEz kvs (tkD ks) d):=by
 unfold putK aEz
 rw [nY]
 rcases aRj ks r with ⟨e1,e2⟩ | ⟨d0,v0,e1,e2,_⟩
 ·rw [e1,e2,if_neg (by simp),if_neg (by simp)]
  exact r.app (.cons h .nil)
 ·rw [e1,e2,if_pos (show (some v0).isSome=true from rfl),if_pos (show (some d0).isSome=true from rfl)]
  exact aQt h r
theorem aPx {G:Hp} {ks:Key} {v:V} {d:D} (h:Rep K G v d) {kv:List (Key×V)} {kvs:List (D×D)} (r:RepK K G kv kvs):RepK K G (putK kv ks v) (aEz kvs (kD ks) d):=by
 unfold putK aEz
 rw [nY]
 rcases aQc ks r with ⟨e1,e2⟩ | ⟨d0,v0,e1,e2,_⟩
 ·rw [e1,e2,if_neg (by simp),if_neg (by simp)]
  exact r.app (.cons h .nil)
 ·rw [e1,e2,if_pos (show (some v0).isSome=true from rfl),if_pos (show (some d0).isSome=true from rfl)]
  exact aRi h r
def dsp (kvs:List (D×D)):Bool×List (D×D):=match kvs with
 | (.none,.none) :: r=>(true,r)
 | r=>(false,r)
theorem aJw {G:Hp} {kv:List (List Key×V)} {kvs:List (D×D)} (r:RepT K G kv kvs):dsp kvs=(false,kvs):=by
 cases r with
 | nil=>rfl
 | cons _ _=>rfl
def mL:Ev->Option (List (D×D))
 | .p (.dict kvs)=>some kvs
 | .b (.dict kvs)=>some kvs
 | _=>none
noncomputable def uC (kvs:List (D×D)) (k:D):Option (Option D):=match dsp kvs with
 | (true,r)=>if (aHu k).isSome=true then some (y6 r k) else none
 | (false,r)=>if (aLk k).isSome=true then some (y6 r k) else none
theorem zG {W:Addr->Option Nat} {Hs G H:Hp} {v:V} {r:Ev} {kvs:List (D×D)} (gh:Same G H) (h:EOk K W Hs G H v r) (e:mL r=some kvs) :
  ∃ a,v=.ref a/\((∃ kv,H a=some (.dT kv)/\RepT K G kv kvs)\/∃ kv r,kvs=(.none,.none) :: r/\H a=some (.dK kv)/\RepK K G kv r):=by
 cases r with
 | p d =>
  cases d with
  | dict es =>
   cases e
   cases h with
   | @dT a kv _ h1 h2=>exact ⟨a,rfl,.inl ⟨kv,gh _ _ h1,h2⟩⟩
   | @dK a kv r h1 h2=>exact ⟨a,rfl,.inr ⟨kv,r,rfl,gh _ _ h1,h2⟩⟩
  | _=>cases e
 | b d =>
  cases d with
  | dict es =>
   cases e
   obtain ⟨a,i,o,rfl,h1,h2,h3⟩:=h
   cases h3 with
   | @dT kv _ h4=>exact ⟨a,rfl,.inl ⟨kv,h2,h4⟩⟩
   | @dK kv r h4=>exact ⟨a,rfl,.inr ⟨kv,r,rfl,h2,h4⟩⟩
  | _=>cases e
 | f d=>cases e
 | x C=>cases e
def aQi (K:PySem.W.Frag) (G:Hp):Option D->Option V->Prop
 | none,w=>w=none
 | some d,w=>∃ x,w=some x/\Rep K G x d
theorem aDk {W:Addr->Option Nat} {Hs Hs' G H:Hp} {v u:V} {r:Ev} {k:D} {kvs:List (D×D)} {o:Option D} (gh:Same G H) (h:EOk K W Hs G H v r) (e:mL r=some kvs) (hk:Rep K G u k) (el:uC kvs k=some o) :
  ∃ a w,v=.ref a/\DGet H a u w/\aQi K G o w:=by
 obtain ⟨a,rfl,hh⟩:=zG gh h e
 rcases hh with ⟨kv,h1,h2⟩ | ⟨kv,r,rfl,h1,h2⟩
 ·unfold uC at el
  rw [aJw h2] at el
  dsimp only at el
  split at el
  ·rename_i z
   obtain ⟨ks,ek⟩:=Option.isSome_iff_exists.mp z
   obtain ⟨b,rfl,hb⟩:=aIb hk ek
   have:=wW ek
   subst this
   cases el
   refine ⟨a,tH kv ks,rfl,.t h1 (gh _ _ hb),?_⟩
   rcases aRj ks h2 with ⟨e1,e2⟩ | ⟨d0,v0,e1,e2,e3⟩
   ·rw [e1,e2];exact rfl
   ·rw [e1,e2];exact ⟨v0,rfl,e3⟩
  ·cases el
 ·unfold uC at el
  dsimp only [dsp] at el
  split at el
  ·rename_i z
   obtain ⟨ks,ek⟩:=Option.isSome_iff_exists.mp z
   have hb:=aBy hk ek
   subst hb
   have:=rH ek
   subst this
   cases el
   refine ⟨a,tH kv ks,rfl,.k h1,?_⟩
   rcases aQc ks h2 with ⟨e1,e2⟩ | ⟨d0,v0,e1,e2,e3⟩
   ·rw [e1,e2];exact rfl
   ·rw [e1,e2];exact ⟨v0,rfl,e3⟩
  ·cases el
noncomputable def vK (x y:Ev):Res Ev:=match y with
 | .p k=>match mL x with
  | some kvs=>match uC kvs k with
   | some (some d)=>.ok (.p d)
   | _=>.bad
  | none=>.bad
 | _=>.bad
noncomputable def aLm (ng:Bool) (y x:Ev):Res Ev:=match y with
 | .p k=>match mL x with
  | some kvs=>match uC kvs k with
   | some o=>.ok (.p (.bool (if ng then !o.isSome else o.isSome)))
   | none=>.bad
  | none=>.bad
 | _=>.bad
theorem aBr (hu:X.A.units+1 < cLine) (ha:DE X E a fa) (hb:DE X E b fb) (hs:aQh b):DE X E (.Subscript a b pos) (aE vK fa fb):=by
 obtain ⟨ta,pa,ma⟩:=ha.out
 obtain ⟨tb,pb,mb⟩:=hb.out
 refine DE.in ⟨_,aI1 hu pa pb hs,fun B G0 G W H σ en Q hh hs hw=>ma B G0 G W H σ en _ hh hs (DE.go hw fun x G1 H1 v s1 e1 h1=>?_)⟩
 refine mb B G0 G1 W H1 σ en _ (hh.step s1) (hs.step s1) (DE.go h1 fun y G2 H2 u s2 e2 h2=>?_)
 unfold vK at h2
 split at h2
 ·rename_i k ey
  rw [ey] at e2
  split at h2
  ·rename_i kvs ed
   split at h2
   ·rename_i d el
    obtain ⟨a,w,rfl,hg,x,rfl,hx⟩:=aDk (Hs':=H1) s2.gh (e1.step (Hs':=H1) s2) ed e2 el
    exact ⟨a,x,rfl,hg,h2 G2 H2 _ (Step.refl s2.gh) hx⟩
   ·exact h2.elim
  ·exact h2.elim
 ·exact h2.elim
theorem aF2 {ta tb:TE} {ng:Bool} (ma:∀ B G0 G W H σ en Q,SimH B G0 G W H->SimS X.K W G H σ en->wpR (fa en) (PostE X.K W G H Q) (PostX (E σ) G H)->ta σ H Q)
  (mb:∀ B G0 G W H σ en Q,SimH B G0 G W H->SimS X.K W G H σ en->wpR (fb en) (PostE X.K W G H Q) (PostX (E σ) G H)->tb σ H Q) :
  ∀ B G0 G W H σ en Q,SimH B G0 G W H->SimS X.K W G H σ en->wpR (aE (aLm ng) fa fb en) (PostE X.K W G H Q) (PostX (E σ) G H) ->
   ta σ H fun y H1=>tb σ H1 fun x H2=>∃ a o,x=.ref a/\DGet H2 a y o/\Q (.bl (if ng then !o.isSome else o.isSome)) H2:=by
 intro B G0 G W H σ en Q hh hs hw
 refine ma B G0 G W H σ en _ hh hs (DE.go hw fun y G1 H1 u s1 e1 h1=>?_)
 refine mb B G0 G1 W H1 σ en _ (hh.step s1) (hs.step s1) (DE.go h1 fun x G2 H2 v s2 e2 h2=>?_)
 have e1':=e1.step (Hs':=H1) s2
 unfold aLm at h2
 split at h2
 ·rename_i k ey
  rw [ey] at e1'
  split at h2
  ·rename_i kvs ed
   split at h2
   ·rename_i o el
    obtain ⟨a,w,rfl,hg,hx⟩:=aDk (Hs':=H1) s2.gh e2 ed e1' el
    refine ⟨a,w,rfl,hg,?_⟩
    have z:=h2 G2 H2 _ (Step.refl s2.gh) (.bl _)
    cases o with
    | none=>rw [show w=none from hx];exact z
    | some d=>obtain ⟨x',rfl,_⟩:=hx;exact z
   ·exact h2.elim
  ·exact h2.elim
 ·exact h2.elim
theorem aNn (hu:X.A.units+1 < cLine) (ha:DE X E a fa) (hb:DE X E b fb) (hk:behindInMarks .In b=false:=by with_unfolding_all rfl):DT X E (.Compare a [.In] [b] pos) (aZ (aE (aLm false) fa fb)):=by
 obtain ⟨ta,pa,ma⟩:=ha.out
 obtain ⟨tb,pb,mb⟩:=hb.out
 exact DT.in ⟨_,aEm (aNa hu pa pb) hk,l9 (t:=aRp ta tb) (aF2 (ng:=false) ma mb)⟩
def mDT:En->Res Ev:=fun _=>.ok (.f (.dict []))
theorem y9:DE X E (.Dict [] [] pos) mDT :=
 DE.in ⟨_,aGo,fun B G0 G W H σ en Q hh hs hw p hp=>hw _ _ _ (Step.lay hh.gh hp) ⟨p,_,rfl,hp,hh.gh.free hp,bR,.dT .nil⟩⟩
noncomputable def zZ (kvs:List (D×D)) (k v:D):Option (List (D×D)):=match dsp kvs with
 | (true,r)=>if (aHu k).isSome=true/\r.length<=100000 then some ((.none,.none) :: aEz r k v) else none
 | (false,r)=>if (aLk k).isSome=true/\r.length<=100000 then some (aEz r k v) else none
noncomputable def rN (i:Nat) (fk fv:En->Res Ev):MS:=fun en=>match en[i]? with
 | some (some (.o (.dict kvs)))=>match fv en with
  | .exc C=>some (.ex C en)
  | .bad=>none
  | .ok rv=>match fk en with
   | .exc C=>some (.ex C en)
   | .bad=>none
   | .ok rk=>match rv.c with
    | .p v=>match rk.c with
     | .p k=>match zZ kvs k v with
      | some kvs'=>some (.nx (en.set i (some (.o (.dict kvs')))))
      | none=>none
     | _=>none
    | _=>none
 | _=>none
theorem wA {i:Nat} {x:Str} {pos' np:Pos} {ek ev:Expr} {fk fv:En->Res Ev} (hu:X.A.units+1 < cLine) (hd:PE X (.Name x np) (aIm i)) (hk:DE X E ek fk) (hv:DE X E ev fv) (hs:swapsWith ev (some (.Subscript (.Name x np) ek pos')) pos.line X.env=pure false) :
  DS X E (.Assign [.Subscript (.Name x np) ek pos'] ev pos) (rN i fk fv):=by
 obtain ⟨tk,pk,mk⟩:=hk.out
 obtain ⟨tv,pv',mv⟩:=hv.out
 refine DS.in ⟨_,aJn hu hd pk pv' hs,fun B G0 G W H σ en Dn hh hs hw=>mv B G0 G W H σ en _ hh hs ?_⟩
 unfold rN at hw
 split at hw
 ·rename_i kvs ei
  obtain ⟨v0,f1,a,o,rfl,f2,f3,f4⟩:=hs.2 i _ ei
  cases ev':fv en with
  | bad=>rw [ev'] at hw;exact hw
  | exc C=>rw [ev'] at hw;exact fun G1 H1 s=>hw G1 W H1 σ (hh.step s) (hs.step s)
  | ok rv =>
   rw [ev'] at hw
   intro G1 H1 v s1 e1
   obtain ⟨G2,s2,e2⟩:=e1.c s1
   dsimp only at hw
   refine ⟨_,f1,mk B G0 G2 W H1 σ en _ (hh.step s2) (hs.step s2) ?_⟩
   cases ek':fk en with
   | bad=>rw [ek'] at hw;exact hw
   | exc C=>rw [ek'] at hw;exact fun G3 H3 s=>hw G3 W H3 σ ((hh.step s2).step s) ((hs.step s2).step s)
   | ok rk =>
    rw [ek'] at hw
    intro G3 H3 u s3 e3
    obtain ⟨G4,s4,e4⟩:=e3.c s3
    have e2':=e2.step (Hs':=H1) s4
    have s24:=s2.trans s4
    dsimp only at hw
    split at hw
    ·rename_i vd erv
     rw [erv] at e2'
     split at hw
     ·rename_i kd erk
      rw [erk] at e4
      split at hw
      ·rename_i kvs' ep
       have hx:=s24.h _ _ f3
       refine ⟨a,?_⟩
       unfold zZ at ep
       have f5:=f4.mono s24.g
       cases f5 with
       | @dT kv _ rT =>
        rw [aJw rT] at ep
        dsimp only at ep
        split at ep
        ·rename_i hz
         cases ep
         obtain ⟨ks,ek⟩:=Option.isSome_iff_exists.mp hz.1
         obtain ⟨b,rfl,hb⟩:=aIb e4 ek
         have:=wW ek
         subst this
         obtain ⟨w1,w2⟩:=nQ (o':=.dT (putK kv ks v)) (d':=.dict (aEz kvs (tkD ks) vd)) (hh.step s24) (hs.step s24) f2 f1 (.dT (aSa e2' rT))
         exact ⟨_,rfl,.t hx (s4.gh _ _ hb) (Nat.lt_of_le_of_lt (by rw [rT.len];exact hz.2) (by decide)),hw _ _ _ _ w1 w2⟩
        ·cases ep
       | @dK kv r rK =>
        dsimp only [dsp] at ep
        split at ep
        ·rename_i hz
         cases ep
         obtain ⟨ks,ek⟩:=Option.isSome_iff_exists.mp hz.1
         have hb:=aBy e4 ek
         subst hb
         have:=rH ek
         subst this
         obtain ⟨w1,w2⟩:=nQ (o':=.dK (putK kv ks v)) (d':=.dict ((.none,.none) :: aEz r (kD ks) vd)) (hh.step s24) (hs.step s24) f2 f1 (.dK (aPx e2' rK))
         exact ⟨_,rfl,.k hx (Nat.lt_of_le_of_lt (by rw [rK.len];exact hz.2) (by decide)),hw _ _ _ _ w1 w2⟩
        ·cases ep
      ·exact hw.elim
     ·exact hw.elim
    ·exact hw.elim
 ·exact hw.elim
def tZ (rs:List Ev):Res Ev:=match rs with
 | [x]=>match mL x with
  | some kvs=>.ok (.p (.int ((dsp kvs).2.length:Nat)))
  | none=>.bad
 | _=>.bad
theorem aGn:aAq tZ:=by
 intro rs C h
 unfold tZ at h
 split at h
 ·split at h<;>cases h
 ·cases h
end
end M
namespace SRT
open PySem PySem.W PyProof.Rows
structure Ord (lt:Nat->Nat->Bool):Prop where
 as:∀ i j,lt i j=true->lt j i=false
 tr:∀ i j k,lt j i=false->lt k j=false->lt k i=false
section
variable {lt:Nat->Nat->Bool} {n:Nat} {cmp:Nat->Nat->(Bool->Shared->Prop)->Shared->Prop} {s:Shared}
def le (lt:Nat->Nat->Bool) (a b:Nat):Prop:=lt b a=false
theorem Ord.rf (o:Ord lt) (i:Nat):le lt i i:=by
 cases e:lt i i with
 | false=>exact e
 | true=>have:=o.as i i e;rw [e] at this;cases this
theorem Ord.tot (o:Ord lt) {i j:Nat} (h:lt i j=true):le lt i j:=o.as i j h
def Pt (p:Array Nat) (i:Nat):Nat:=p.getD i 0
def Sd (lt:Nat->Nat->Bool) (p:Array Nat) (m:Nat):Prop:=∀ i j,i<=j->j < m->le lt (Pt p i) (Pt p j)
def NI (lt:Nat->Nat->Bool) (p:Array Nat) (m:Nat):Prop:=∀ i j,i<=j->j < m->le lt (Pt p j) (Pt p i)
def Pm (n:Nat) (p:Array Nat):Prop:=p.Perm (List.range n).toArray
theorem Pm.size {p:Array Nat} (h:Pm n p):p.size=n:=by
 have:=h.size_eq
 simpa using this
theorem Pm.bd {p:Array Nat} (h:Pm n p) (hn:0 < n) (i:Nat):Pt p i < n:=by
 unfold Pt
 by_cases hi:i < p.size
 ·have e:p.getD i 0=p[i]:=by simp [Array.getD,hi]
  rw [e]
  have:p[i]∈(List.range n).toArray:=h.mem_iff.mp (Array.getElem_mem hi)
  simpa using this
 ·have e:p.getD i 0=0:=by simp [Array.getD,hi]
  rw [e];exact hn
theorem aCw {p q:Array Nat} {i j:Nat} (h:p[i]? = q[j]?):Pt p i=Pt q j:=by
 unfold Pt
 rw [Array.getD_eq_getD_getElem?,Array.getD_eq_getD_getElem?,h]
theorem tX {p:Array Nat} (h:Pm n p) (i j:Nat):Pm n (kas_rev p i j):=(mirror_perm _ _ _ _).trans h
theorem tY {p:Array Nat} {i j:Nat} (hj:j<=p.size) (k:Nat):Pt (kas_rev p i j) k=if i<=k/\k < j then Pt p (i+j - 1 - k) else Pt p k:=by
 have e:=getElem?_mirror_all (xs:=p) (i:=i) hj k
 split
 ·rename_i h
  rw [if_pos h] at e
  exact aCw e
 ·rename_i h
  rw [if_neg h] at e
  exact aCw e
variable (hc:∀ i j C,i < n->j < n->C (lt i j) s->cmp i j C s) (hn:0 < n) (o:Ord lt)
include hc hn
theorem aBs {Q:Nat->Shared->Prop} {p:Array Nat} (hp:Pm n p):∀ (f a:Nat),(∀ m,a<=m->m<=a+f->(∀ k,a<=k->k < m->le lt (Pt p (k - 1)) (Pt p k))->(m < a+f->lt (Pt p m) (Pt p (m - 1))=true)->Q m s) ->
  (kas_asc p f a).kasWp cmp Q s
 | 0,a,h=>h a (Nat.le_refl _) (Nat.le_refl _) (fun k h1 h2=>absurd h2 (by omega)) (fun h=>absurd h (by omega))
 | f+1,a,h=>by
  refine hc _ _ _ (hp.bd hn _) (hp.bd hn _) ?_
  show KasT.kasWp cmp (if lt (Pt p a) (Pt p (a - 1))=true then .ret a else kas_asc p f (a+1)) Q s
  cases e:lt (Pt p a) (Pt p (a - 1)) with
  | true =>
   rw [if_pos rfl]
   exact h a (Nat.le_refl _) (by omega) (fun k h1 h2=>absurd h2 (by omega)) fun _=>e
  | false =>
   rw [if_neg Bool.false_ne_true]
   refine aBs hp f (a+1) fun m h1 h2 h3 h4=>h m (by omega) (by omega) (fun k k1 k2=>?_) fun z=>h4 (by omega)
   by_cases ek:k=a
   ·subst ek;exact e
   ·exact h3 k (by omega) k2
include o
omit hc hn in
theorem aLs {p:Array Nat} {a m:Nat} (h1:1<=a) (hs:Sd lt p a) (hk:∀ k,a<=k->k < m->le lt (Pt p (k - 1)) (Pt p k)):Sd lt p m:=by
 intro i j hij hj
 induction j with
 | zero =>
  have:i=0:=by omega
  subst this
  exact o.rf _
 | succ j ih =>
  by_cases e:i=j+1
  ·subst e;exact o.rf _
  ·have ih:=ih (by omega) (by omega)
   by_cases hja:j+1 < a
   ·exact hs i (j+1) hij hja
   ·have:=hk (j+1) (by omega) hj
    exact o.tr _ _ _ ih this
omit hc hn in
theorem aMm {p:Array Nat} {m:Nat} (hm:m<=p.size) (h:NI lt p m):Sd lt (kas_rev p 0 m) m:=by
 intro i j hij hj
 rw [tY hm,tY hm,if_pos ⟨Nat.zero_le _,by omega⟩,if_pos ⟨Nat.zero_le _,hj⟩]
 exact h _ _ (by omega) (by omega)
theorem aD9 {Q:Nat×Array Nat->Shared->Prop} {p:Array Nat} {a r:Nat} (hp:Pm n p) (h1:1<=a) (ha:a<=r) (hr:r<=n) (hni:NI lt p a) (h:∀ m q,1<=m->m<=r->Pm n q->Sd lt q m->Q (m,q) s):(kas_tail3 a r p).kasWp cmp Q s:=by
 unfold kas_tail3
 rw [KasT.kasWp_bind]
 have hz:a<=p.size:=by rw [hp.size];omega
 refine aBs hc hn (tX hp 0 a) _ _ fun m h2 h3 h4 _=>?_
 exact h m _ (by omega) (by omega) (tX hp 0 a) (aLs o h1 (aMm o hz hni) h4)
omit hc hn in
theorem rev_eq {p:Array Nat} {i j:Nat} (hj:j<=p.size) (he:∀ a b,i<=a->a < j->i<=b->b < j->le lt (Pt p a) (Pt p b)) (k:Nat):le lt (Pt (kas_rev p i j) k) (Pt p k)/\le lt (Pt p k) (Pt (kas_rev p i j) k):=by
 rw [tY hj]
 split
 ·rename_i h
  exact ⟨he _ _ (by omega) (by omega) h.1 h.2,he _ _ h.1 h.2 (by omega) (by omega)⟩
 ·exact ⟨o.rf _,o.rf _⟩
omit hc hn in
theorem oB {p:Array Nat} {i j m:Nat} (hj:j<=p.size) (he:∀ a b,i<=a->a < j->i<=b->b < j->le lt (Pt p a) (Pt p b)) (h:NI lt p m):NI lt (kas_rev p i j) m:=fun a b hab hb =>
 o.tr _ _ _ (rev_eq o hj he b).1 (o.tr _ _ _ (h a b hab hb) (rev_eq o hj he a).2)
theorem rS {Q:Array Nat×Nat×Nat->Shared->Prop} {r:Nat} (hr:r<=n):∀ (f:Nat) (p:Array Nat) (a q:Nat),Pm n p->a+f<=r->q+1<=a->NI lt p a->(∀ x y,a - (q+1)<=x->x < a->a - (q+1)<=y->y < a->le lt (Pt p x) (Pt p y)) ->
  (∀ p' a' q',Pm n p'->a<=a'->a'<=r->q'+1<=a'->NI lt p' a'->(∀ x y,a' - (q'+1)<=x->x < a'->a' - (q'+1)<=y->y < a'->le lt (Pt p' x) (Pt p' y))->Q (p',a',q') s)->(kas_desc f p a q).kasWp cmp Q s
 | 0,p,a,q,hp,hf,hq,hni,he,h=>h p a q hp (Nat.le_refl _) (by omega) hq hni he
 | f+1,p,a,q,hp,hf,hq,hni,he,h=>by
  have hz:a<=p.size:=by rw [hp.size];omega
  refine hc _ _ _ (hp.bd hn _) (hp.bd hn _) ?_
  show KasT.kasWp cmp (if lt (Pt p a) (Pt p (a - 1))=true then (if q > 0 then kas_desc f (kas_rev p (a - (q+1)) a) (a+1) 0 else kas_desc f p (a+1) 0)
   else .ask (Pt p (a - 1)) (Pt p a) fun d=>if d=true then .ret (p,a,q) else kas_desc f p (a+1) (q+1)) Q s
  have grow:∀ {p':Array Nat},NI lt p' a->le lt (Pt p' a) (Pt p' (a - 1))->NI lt p' (a+1):=fun {p'} h1 h2 i j hij hj=>by
   by_cases e:j=a
   ·subst e
    by_cases e2:i=j
    ·subst e2;exact o.rf _
    ·exact o.tr _ _ _ h2 (h1 i (j - 1) (by omega) (by omega))
   ·exact h1 i j hij (by omega)
  cases e:lt (Pt p a) (Pt p (a - 1)) with
  | true =>
   rw [if_pos rfl]
   by_cases hq0:q > 0
   ·rw [if_pos hq0]
    have n1:=oB o hz he hni
    have e1:Pt (kas_rev p (a - (q+1)) a) a=Pt p a:=by rw [tY hz,if_neg (by omega)]
    have le1:le lt (Pt (kas_rev p (a - (q+1)) a) a) (Pt (kas_rev p (a - (q+1)) a) (a - 1)):=by
     rw [e1]
     exact o.tr _ _ _ (o.tot e) (rev_eq o hz he (a - 1)).2
    refine rS hr f _ (a+1) 0 (tX hp _ _) (by omega) (by omega) (grow n1 le1) (fun x y h1 h2 h3 h4=>?_) fun p' a' q' k1 k2 k3 k4 k5 k6=>h p' a' q' k1 (by omega) k3 k4 k5 k6
    have:x=y:=by omega
    subst this;exact o.rf _
   ·rw [if_neg hq0]
    refine rS hr f _ (a+1) 0 hp (by omega) (by omega) (grow hni (o.tot e)) (fun x y h1 h2 h3 h4=>?_) fun p' a' q' k1 k2 k3 k4 k5 k6=>h p' a' q' k1 (by omega) k3 k4 k5 k6
    have:x=y:=by omega
    subst this;exact o.rf _
  | false =>
   rw [if_neg Bool.false_ne_true]
   refine hc _ _ _ (hp.bd hn _) (hp.bd hn _) ?_
   show KasT.kasWp cmp (if lt (Pt p (a - 1)) (Pt p a)=true then .ret (p,a,q) else kas_desc f p (a+1) (q+1)) Q s
   cases e2:lt (Pt p (a - 1)) (Pt p a) with
   | true =>
    rw [if_pos rfl]
    exact h p a q hp (Nat.le_refl _) (by omega) hq hni he
   | false =>
    rw [if_neg Bool.false_ne_true]
    have eq1:le lt (Pt p (a - 1)) (Pt p a):=e
    have eq2:le lt (Pt p a) (Pt p (a - 1)):=e2
    refine rS hr f p (a+1) (q+1) hp (by omega) (by omega) (grow hni eq2) (fun x y h1 h2 h3 h4=>?_) fun p' a' q' k1 k2 k3 k4 k5 k6=>h p' a' q' k1 (by omega) k3 k4 k5 k6
    by_cases hx:x=a
    ·subst hx
     by_cases hy:y=x
     ·subst hy;exact o.rf _
     ·exact o.tr _ _ _ eq2 (he _ _ (by omega) (by omega) (by omega) (by omega))
    ·by_cases hy:y=a
     ·subst hy
      exact o.tr _ _ _ (he _ (y - 1) (by omega) (by omega) (by omega) (by omega)) eq1
     ·exact he _ _ (by omega) (by omega) (by omega) (by omega)
theorem o9 {Q:Nat×Array Nat->Shared->Prop} {p:Array Nat} {a r:Nat} (hp:Pm n p) (h1:1<=a) (ha:a+1<=r) (hr:r<=n) (hni:NI lt p (a+1)) (h:∀ m q,1<=m->m<=r->Pm n q->Sd lt q m->Q (m,q) s):(kas_descPart a r p).kasWp cmp Q s:=by
 unfold kas_descPart
 rw [KasT.kasWp_bind]
 refine rS hc hn o hr _ p (a+1) 0 hp (by omega) (by omega) hni (fun x y h1 h2 h3 h4=>?_) fun p' a' q' k1 k2 k3 k4 k5 k6=>?_
 ·have:x=y:=by omega
  subst this;exact o.rf _
 ·have hz:a'<=p'.size:=by rw [k1.size];omega
  show KasT.kasWp cmp (if q' > 0 then kas_tail3 a' r (kas_rev p' (a' - (q'+1)) a') else kas_tail3 a' r p') Q s
  by_cases hq:q' > 0
  ·rw [if_pos hq]
   exact aD9 hc hn o (tX k1 _ _) (by omega) k3 hr (oB o hz k6 k5) h
  ·rw [if_neg hq]
   exact aD9 hc hn o k1 (by omega) k3 hr k5 h
theorem aFy {Q:Nat×Array Nat->Shared->Prop} {p:Array Nat} {r:Nat} (hp:Pm n p) (h1:1<=r) (hr:r<=n) (h:∀ m q,1<=m->m<=r->Pm n q->Sd lt q m->Q (m,q) s):(kas_count r p).kasWp cmp Q s:=by
 unfold kas_count
 rw [KasT.kasWp_bind]
 have s1:Sd lt p 1:=fun i j hij hj=>by
  have:i=j:=by omega
  subst this;exact o.rf _
 refine aBs hc hn hp _ _ fun m h2 h3 h4 h5=>?_
 have sm:=aLs o (Nat.le_refl 1) s1 h4
 show KasT.kasWp cmp (if (m == r)=true then .ret (m,p) else if m > 1 then .ask (Pt p 0) (Pt p (m - 1)) fun c=>if c=true then .ret (m,p) else kas_descPart m r (kas_rev p 0 m) else kas_descPart m r p) Q s
 by_cases em:m=r
 ·rw [if_pos (by simp [em])]
  exact h m p h2 (by omega) hp sm
 ·rw [if_neg (by simp [em])]
  have hlt:=h5 (by omega)
  have hz:m<=p.size:=by rw [hp.size];omega
  by_cases hm:m > 1
  ·rw [if_pos hm]
   refine hc _ _ _ (hp.bd hn _) (hp.bd hn _) ?_
   show KasT.kasWp cmp (if lt (Pt p 0) (Pt p (m - 1))=true then .ret (m,p) else kas_descPart m r (kas_rev p 0 m)) Q s
   cases e:lt (Pt p 0) (Pt p (m - 1)) with
   | true=>rw [if_pos rfl];exact h m p h2 (by omega) hp sm
   | false =>
    rw [if_neg Bool.false_ne_true]
    have e:le lt (Pt p (m - 1)) (Pt p 0):=e
    have he:∀ a b,0<=a->a < m->0<=b->b < m->le lt (Pt p a) (Pt p b):=fun a b _ ha _ hb =>
     o.tr _ _ _ (sm a (m - 1) (by omega) (by omega)) (o.tr _ _ _ e (sm 0 b (by omega) hb))
    have nm:NI lt p m:=fun i j hij hj=>he j i (by omega) hj (by omega) (by omega)
    have n2:=oB o hz he nm
    have em1:Pt (kas_rev p 0 m) m=Pt p m:=by rw [tY hz,if_neg (by omega)]
    refine o9 hc hn o (tX hp 0 m) (by omega) (by omega) hr (fun i j hij hj=>?_) h
    by_cases ej:j=m
    ·subst ej
     by_cases ei:i=j
     ·subst ei;exact o.rf _
     ·rw [em1]
      refine o.tr _ _ _ (o.tot hlt) (o.tr _ _ _ (rev_eq o hz he (j - 1)).2 ?_)
      exact n2 i (j - 1) (by omega) (by omega)
    ·exact n2 i j hij (by omega)
  ·rw [if_neg hm]
   have e1:m=1:=by omega
   subst e1
   refine o9 hc hn o hp (Nat.le_refl 1) (by omega) hr (fun i j hij hj=>?_) h
   by_cases ei:i=j
   ·subst ei;exact o.rf _
   ·have:i=0/\j=1:=by omega
    obtain ⟨rfl,rfl⟩:=this
    exact o.tot hlt
theorem tF {Q:Nat->Shared->Prop} {p:Array Nat} {k:Nat} (hp:Pm n p) (hs:Sd lt p k):∀ (f l r:Nat),l<=r->r<=k->r - l<=f->(∀ i,i < l->le lt (Pt p i) (Pt p k))->(∀ i,r<=i->i < k->lt (Pt p k) (Pt p i)=true) ->
  (∀ m,m<=k->(∀ i,i < m->le lt (Pt p i) (Pt p k))->(∀ i,m<=i->i < k->lt (Pt p k) (Pt p i)=true)->Q m s)->(kas_place p k f l r).kasWp cmp Q s
 | 0,l,r,h1,h2,h3,h4,h5,h=>by
  have:l=r:=by omega
  subst this
  exact h l h2 h4 h5
 | f+1,l,r,h1,h2,h3,h4,h5,h=>by
  unfold kas_place
  by_cases e:l ≥ r
  ·rw [if_pos e]
   have:l=r:=by omega
   subst this
   exact h l h2 h4 h5
  ·rw [if_neg e]
   refine hc _ _ _ (hp.bd hn _) (hp.bd hn _) ?_
   show KasT.kasWp cmp (if lt (Pt p k) (Pt p ((l+r) / 2))=true then kas_place p k f l ((l+r) / 2) else kas_place p k f ((l+r) / 2+1) r) Q s
   cases ec:lt (Pt p k) (Pt p ((l+r) / 2)) with
   | true =>
    rw [if_pos rfl]
    refine tF hp hs f l ((l+r) / 2) (by omega) (by omega) (by omega) h4 (fun i i1 i2=>?_) h
    cases ei:lt (Pt p k) (Pt p i) with
    | true=>rfl
    | false =>
     have:=o.tr _ _ _ (hs ((l+r) / 2) i i1 i2) ei
     rw [ec] at this;cases this
   | false =>
    rw [if_neg Bool.false_ne_true]
    refine tF hp hs f ((l+r) / 2+1) r (by omega) h2 (by omega) (fun i i1=>?_) h5 h
    exact o.tr _ _ _ (hs i ((l+r) / 2) (by omega) (by omega)) ec
omit hc hn in
theorem aIa {p:Array Nat} {k l:Nat} (hk:k < p.size) (hl:l<=k) (i:Nat):Pt (bubble p k (k - l)) i=if i=l then Pt p k else if l < i/\i<=k then Pt p (i - 1) else Pt p i:=by
 have e:=getElem?_bubble hk (k - l) (by omega) i
 have e1:k - (k - l)=l:=by omega
 rw [e1] at e
 repeat' split
 ·rename_i h;rw [if_pos h] at e;exact aCw e
 ·rename_i h h2;rw [if_neg h,if_pos h2] at e;exact aCw e
 ·rename_i h h2;rw [if_neg h,if_neg h2] at e;exact aCw e
theorem aH5 {Q:Array Nat->Shared->Prop}:∀ (f:Nat) (p:Array Nat) (k:Nat),Pm n p->k+f<=n->Sd lt p k->(∀ q,Pm n q->Sd lt q (k+f)->Q q s)->(kas_bin f p k).kasWp cmp Q s
 | 0,p,k,hp,_,hs,h=>h p hp hs
 | f+1,p,k,hp,hk,hs,h=>by
  unfold kas_bin
  rw [KasT.kasWp_bind]
  have hz:k < p.size:=by rw [hp.size];omega
  refine tF hc hn o hp hs k 0 k (Nat.zero_le _) (Nat.le_refl _) (by omega) (fun i h=>absurd h (by omega)) (fun i h1 h2=>absurd h2 (by omega)) fun l hl h1 h2=>?_
  refine aH5 f _ (k+1) ((bubble_perm _ _ _).trans hp) (by omega) (fun i j hij hj=>?_) fun q q1 q2=>h q q1 (by rw [show k+(f+1)=k+1+f by omega];exact q2)
  rw [aIa o hz hl,aIa o hz hl]
  by_cases ei:i=l
  ·rw [if_pos ei]
   by_cases ej:j=l
   ·rw [if_pos ej];exact o.rf _
   ·rw [if_neg ej,if_pos ⟨by omega,by omega⟩]
    exact o.tot (h2 (j - 1) (by omega) (by omega))
  ·rw [if_neg ei]
   by_cases ej:j=l
   ·rw [if_pos ej,if_neg (by omega)]
    exact h1 i (by omega)
   ·rw [if_neg ej]
    by_cases hi:l < i/\i<=k
    ·rw [if_pos hi,if_pos ⟨by omega,by omega⟩]
     exact hs _ _ (by omega) (by omega)
    ·rw [if_neg hi]
     by_cases hj2:l < j/\j<=k
     ·rw [if_pos hj2]
      exact hs _ _ (by omega) (by omega)
     ·rw [if_neg hj2]
      exact hs _ _ (by omega) (by omega)
theorem aIv {Q:Array Nat->Shared->Prop} (h:∀ q,Pm n q->Sd lt q n->Q q s):(kas_sort n).kasWp cmp Q s:=by
 unfold kas_sort
 rw [KasT.kasWp_bind]
 refine aFy hc hn o (Array.Perm.refl _) hn (Nat.le_refl n) fun m q h1 h2 h3 h4=>?_
 show KasT.kasWp cmp (if m < n then kas_bin (n - max m 1) q (max m 1) else .ret q) Q s
 have em:max m 1=m:=by omega
 by_cases e:m < n
 ·rw [if_pos e,em]
  refine aH5 hc hn o _ _ _ h3 (by omega) h4 fun q' k1 k2=>h q' k1 (by rw [show m+(n - m)=n by omega] at k2;exact k2)
 ·rw [if_neg e]
  have:m=n:=by omega
  subst this
  exact h q h3 h4
end
end SRT
namespace SRT
open PySem PySem.W PyProof.Rows L2
def TupI (h:Heap) (v:Value) (ns:List Int):Prop:=∃ t o xs c,v=.ref t/\h.get? t=some o/\o.cls=.type "tuple"/\o.data=.seq xs c/\IntsAre xs.toList ns
theorem TupI.at {h h':Heap} {v:Value} {ns:List Int} (x:TupI h v ns) (k:∀ t o,v=.ref t->h.get? t=some o->h'.get? t=some o):TupI h' v ns :=
 let ⟨t,o,xs,c,e,ho,r⟩:=x;⟨t,o,xs,c,e,k t o e ho,r⟩
theorem qX:∀ {vs:List Value} {ns:List Int},IntsAre vs ns->vs.length=ns.length
 | _,_,.nil=>rfl
 | _,_,.cons _ _ r=>by rw [List.length_cons,List.length_cons,qX r]
theorem aBq:∀ a b:List Int,HT.lexLt a b=true->HT.lexLt b a=false
 | [],[],h=>by cases h
 | [],_ :: _,_=>rfl
 | _ :: _,[],h=>by cases h
 | x :: a,y :: b,h=>by
  rw [HT.kT] at h ⊢
  by_cases e:x=y
  ·rw [if_pos e] at h;rw [if_pos e.symm];exact aBq a b h
  ·rw [if_neg e] at h;rw [if_neg (Ne.symm e)]
   have:=of_decide_eq_true h
   exact decide_eq_false (by omega)
theorem aEr:∀ a b c:List Int,HT.lexLt b a=false->HT.lexLt c b=false->HT.lexLt c a=false
 | [],_,[],_,_=>rfl
 | [],b,_ :: _,_,_=>rfl
 | _ :: _,[],_,h,_=>by cases h
 | x :: a,y :: b,[],_,h=>by cases h
 | x :: a,y :: b,z :: c,h1,h2=>by
  rw [HT.kT] at h1 h2 ⊢
  by_cases e1:y=x
  ·subst e1
   rw [if_pos rfl] at h1
   by_cases e2:z=y
   ·subst e2
    rw [if_pos rfl] at h2 ⊢
    exact aEr a b c h1 h2
   ·rw [if_neg e2] at h2 ⊢
    exact h2
  ·rw [if_neg e1] at h1
   have q1:=of_decide_eq_false h1
   by_cases e2:z=y
   ·subst e2
    rw [if_neg e1]
    exact h1
   ·rw [if_neg e2] at h2
    have q2:=of_decide_eq_false h2
    have e3:z≠x:=by omega
    rw [if_neg e3]
    exact decide_eq_false (by omega)
theorem aH3:∀ a b:List Int,HT.lexLt a b=false->HT.lexLt b a=false->a=b
 | [],[],_,_=>rfl
 | [],_ :: _,h,_=>by cases h
 | _ :: _,[],_,h=>by cases h
 | x :: a,y :: b,h1,h2=>by
  rw [HT.kT] at h1 h2
  by_cases e:x=y
  ·subst e
   rw [if_pos rfl] at h1 h2
   rw [aH3 a b h1 h2]
  ·rw [if_neg e] at h1;rw [if_neg (Ne.symm e)] at h2
   have q1:=of_decide_eq_false h1
   have q2:=of_decide_eq_false h2
   omega
theorem aCb (ks:List (List Int)):Ord fun i j=>HT.lexLt (ks.getD i []) (ks.getD j []):=⟨fun _ _=>aBq _ _,fun _ _ _=>aEr _ _ _⟩
section
variable {prog:Program} {w:World} {A:Around} {E:Value->Shared->Prop} {s:Shared}
theorem aHr {b fin:Bool} {Q:Bool->Shared->Prop}:∀ {us ws:List Value} {ns ms:List Int} (i:Nat),IntsAre us ns->IntsAre ws ms->(fin=decide (ns.length < ms.length))->Q (HT.lexLt ns ms) s->KatLex prog w A b fin Q (us.zip ws) i s
 | _,_,[],[],i,.nil,.nil,hf,q=>by
  rw [hf];exact q
 | _,_,[],m :: ms,i,.nil,.cons _ _ _,hf,q=>by
  rw [hf]
  show Q (decide (0 < ms.length+1)) s
  rw [decide_eq_true (Nat.succ_pos _)]
  exact q
 | _,_,n :: ns,[],i,.cons _ _ _,.nil,hf,q=>by
  rw [hf]
  show Q (decide (ns.length+1 < 0)) s
  rw [decide_eq_false (Nat.not_lt_zero _)]
  exact q
 | _,_,n :: ns,m :: ms,i,.cons _ t hi,.cons _ u hj,hf,q=>by
  rw [HT.kT] at q
  refine kat_cons (wpAny_eqBool_int ?_)
  by_cases e:n=m
  ·rw [if_pos e] at q
   rw [show (n == m)=true by simp [e]]
   exact kat_yes (aHr (i+1) hi hj (by rw [hf];simp) q)
  ·rw [if_neg e] at q
   rw [show (n == m)=false by simp [e]]
   refine kat_no ?_
   cases eb:(b && i == 0) with
   | true=>exact oneLt_int q
   | false=>exact kat_one _ _ (lt_int q)
theorem aF5 {x y:Value} {ns ms:List Int} {Q:Bool->Shared->Prop} (b:Bool) (hx:TupI s.heap x ns) (hy:TupI s.heap y ms) (q:Q (HT.lexLt ns ms) s):wpAny (model prog w) A (keyLt' (tuples' b) x y) Q E s:=by
 obtain ⟨t,o,xs,c,rfl,ho,hc,hd,hi⟩:=hx
 obtain ⟨t2,o2,xs2,c2,rfl,ho2,hc2,hd2,hi2⟩:=hy
 refine kat_lt ho hd ho2 hd2 (aHr 0 hi hi2 ?_ q)
 have e1:=qX hi
 have e2:=qX hi2
 rw [Array.length_toList] at e1 e2
 rw [e1,e2]
def TupsI (h:Heap) (vs:List Value) (ks:List (List Int)):Prop:=vs.length=ks.length/\∀ (i:Nat) (v:Value) (k:List Int),vs[i]? = some v->ks[i]? = some k->TupI h v k/\k≠[]
theorem TupsI.cons {h:Heap} {v:Value} {vs:List Value} {ks:List (List Int)} (x:TupsI h (v :: vs) ks):∃ k r,ks=k :: r/\TupI h v k/\k≠[]/\TupsI h vs r:=by
 obtain ⟨hl,ha⟩:=x
 cases ks with
 | nil=>simp at hl
 | cons k r =>
  obtain ⟨h1,h2⟩:=ha 0 v k rfl rfl
  exact ⟨k,r,rfl,h1,h2,by simpa using hl,fun i v k e1 e2=>ha (i+1) v k (by simpa using e1) (by simpa using e2)⟩
theorem aRt {h:Heap}:∀ {vs:List Value} {ks:List (List Int)},TupsI h vs ks->∃ fs,KatTups h vs fs/\fs.length=vs.length/\∀ f∈fs,∃ i t,f=Value.int i t
 | [],_,_=>⟨[],KatTups.nil,rfl,fun _ z=>nomatch z⟩
 | v :: vs,ks,x=>by
  obtain ⟨k,r,rfl,⟨t,o,xs,c,rfl,ho,hc,hd,hi⟩,hk,hr⟩:=x.cons
  obtain ⟨fs,h1,h2,h3⟩:=aRt hr
  cases k with
  | nil=>exact absurd rfl hk
  | cons n k =>
   cases hx:xs.toList with
   | nil=>rw [hx] at hi;cases hi
   | cons y ys =>
    rw [hx] at hi
    cases hi with
    | cons _ tt _ =>
     refine ⟨.int n tt :: fs,KatTups.cons ho hc hd ?_ h1,by simp [h2],fun f hf=>?_⟩
     ·have:xs.toList[0]? = some (Value.int n tt):=by rw [hx];rfl
      simpa using this
     ·rcases List.mem_cons.mp hf with rfl | hf
      ·exact ⟨n,tt,rfl⟩
      ·exact h3 f hf
theorem range_getD (vs:List Value):((List.range vs.length).map fun i=>vs.getD i Value.none)=vs:=by
 refine List.ext_getElem? fun i=>?_
 rw [List.getElem?_map]
 by_cases hi:i < vs.length
 ·rw [List.getElem?_range hi]
  simp [hi]
 ·rw [List.getElem?_eq_none (by rw [List.length_range];omega),List.getElem?_eq_none (by omega)]
  rfl
theorem qV {a:Addr} {vs:List Value} {n:Nat} {ks:List (List Int)} {P:PySem.Fin->Shared->Prop} (ho:s.heap.get? a=some (seqObj "list" vs.toArray n)) (ht:TupsI s.heap vs ks) (hna:∀ v∈vs,v≠.ref a) (h64:vs.length < 64)
  (h:∀ q:Array Nat,Pm vs.length q->Sd (fun i j=>HT.lexLt (ks.getD i []) (ks.getD j [])) q vs.length->P (.done (.ret .none)) { s with heap:=sortedHeap s.heap a vs (q.toList.map fun i=>vs.getD i Value.none).toArray }) :
  wpAny (model prog w) A (Builtin.«list.sort» ⟨[.ref a],[]⟩) P E s:=by
 rw [list_sort_plain]
 have ha:a < s.heap.objs.size:=Heap.lt_size ho
 refine wpAny_bind (listItems_at ho rfl ?_)
 refine wpAny_bind (listUpdate_at ho rfl ?_ (by rw [List.size_toArray,sizeLine_eq];omega) (Nat.zero_le _))
 obtain ⟨e1,ho1⟩:∃ e1,(s.heap.update a (Obj.mapSeq fun _=>(#[]:Array Value))).get? a=some (seqObj "list" #[] e1):=⟨_,get?_update_seq ho (fun _=>#[])⟩
 refine wpAny_bind (seqEpoch_at ho1 rfl ?_)
 refine wpAny_bind (wpAny_newTuple ?_ (by show vs.length<=_;rw [sizeLine_eq];omega))
 refine wpAny_bind (wpAny_newList ?_ (Nat.zero_le _))
 refine wpAny_holding ?_
 have keep:∀ b o,b≠a->s.heap.get? b=some o->(((s.heap.update a (Obj.mapSeq fun _=>(#[]:Array Value))).push (seqObj "tuple" vs.toArray 0)).push (seqObj "list" #[] 0)).get? b=some o:=fun b o hb e=>by
  refine Heap.get?_push_of_some _ (Heap.get?_push_of_some _ ?_)
  rw [Heap.get?_update_ne _ _ _ _ hb]
  exact e
 have ho6:(((s.heap.update a (Obj.mapSeq fun _=>(#[]:Array Value))).push (seqObj "tuple" vs.toArray 0)).push (seqObj "list" #[] 0)).get? a=some (seqObj "list" #[] e1):=Heap.get?_push_of_some _ (Heap.get?_push_of_some _ ho1)
 show wpAny (model prog w) A _ P E { s with heap:=((s.heap.update a (Obj.mapSeq fun _=>(#[]:Array Value))).push (seqObj "tuple" vs.toArray 0)).push (seqObj "list" #[] 0) }
 dsimp only
 by_cases h2:vs.toArray.size < 2
 ·rw [if_pos h2,if_pos h2]
  refine wpAny_bind (wpAny_pure ?_)
  rw [StateT.run_pure]
  refine wpAny_bind (wpAny_pure ?_)
  dsimp only
  have e0:(arrOf (SortSt.mk' general' (vs.toArray.zip vs.toArray) #[] 7 none)).map (·.2)=((List.range vs.length).toArray.toList.map fun i=>vs.getD i Value.none).toArray:=by
   show (vs.toArray.zip vs.toArray).map (·.2)=_
   rw [List.toList_toArray,range_getD]
   apply Array.toList_inj.mp
   simp [List.map_snd_zip]
  rw [e0]
  refine wpAny_bind (seqEpoch_at ho6 rfl ?_)
  refine wpAny_bind (listUpdate_at ho6 rfl ?_ (Nat.zero_le _) (by rw [List.toList_toArray,range_getD,List.size_toArray,sizeLine_eq];omega))
  simp only [bne_self_eq_false,Bool.false_eq_true,if_false]
  refine wpAny_pure (h (List.range vs.length).toArray (Array.Perm.refl _) fun i j hij hj=>?_)
  have:i=j:=by rw [List.size_toArray] at h2;omega
  subst this
  exact (aCb ks).rf _
 ·rw [if_neg h2,if_neg h2]
  have h2':2<=vs.length:=by rw [List.size_toArray] at h2;omega
  have ht6:TupsI (((s.heap.update a (Obj.mapSeq fun _=>(#[]:Array Value))).push (seqObj "tuple" vs.toArray 0)).push (seqObj "list" #[] 0)) vs ks:=⟨ht.1,fun i v k q1 q2=>by
   obtain ⟨z1,z2⟩:=ht.2 i v k q1 q2
   exact ⟨z1.at fun t o ev et=>keep t o (fun z=>hna v (List.mem_of_getElem? q1) (by rw [ev,z])) et,z2⟩⟩
  obtain ⟨fs,f1,f2,f3⟩:=aRt ht6
  refine wpAny_bind (kat_kind (T:=.type "int") f1 (by rw [f2];omega) (fun v hv=>?_) rfl ?_)
  ·obtain ⟨i,t,rfl⟩:=f3 v hv
   exact .now
  refine wpAny_bind (wpAny_mono (kat_run (κ:=tuples' (Value.type "int" != Value.type "tuple")) (ks:=vs) (Q:=fun st' s'=>∃ p:Array Nat,s'={ s with heap:=((s.heap.update a (Obj.mapSeq fun _=>(#[]:Array Value))).push (seqObj "tuple" vs.toArray 0)).push (seqObj "list" #[] 0) }/\p.size=vs.length/\arrOf st'=p.map (kas_item (vs.toArray.zip vs.toArray))/\failedOf st'=none/\Pm vs.length p/\Sd (fun i j=>HT.lexLt (ks.getD i []) (ks.getD j [])) p vs.length)
   (G:=fun p s'=>s'={ s with heap:=((s.heap.update a (Obj.mapSeq fun _=>(#[]:Array Value))).push (seqObj "tuple" vs.toArray 0)).push (seqObj "list" #[] 0) }/\Pm vs.length p/\Sd (fun i j=>HT.lexLt (ks.getD i []) (ks.getD j [])) p vs.length)
   rfl h2' h64 (fun p st' s' a1 a2 a3 a4=>⟨p,a4.1,a1,a2,a3,a4.2⟩) (aIv (n:=vs.length) (lt:=fun i j=>HT.lexLt (ks.getD i []) (ks.getD j [])) (fun i j C hi hj hC=>?_) (by omega) (aCb ks) fun q q1 q2=>⟨rfl,q1,q2⟩)) ?_ fun _ _ e=>e)
  ·unfold kas_ask
   have hi':vs[i]? = some vs[i]:=List.getElem?_eq_getElem hi
   have hj':vs[j]? = some vs[j]:=List.getElem?_eq_getElem hj
   have ki:i < ks.length:=by rw [<- ht.1];exact hi
   have kj:j < ks.length:=by rw [<- ht.1];exact hj
   have di:vs.getD i Value.none=vs[i]:=by simp [hi]
   have dj:vs.getD j Value.none=vs[j]:=by simp [hj]
   have ei:ks.getD i []=ks[i]:=by simp [ki]
   have ej:ks.getD j []=ks[j]:=by simp [kj]
   rw [di,dj]
   rw [ei,ej] at hC
   exact aF5 _ (ht6.2 i _ _ hi' (List.getElem?_eq_getElem ki)).1 (ht6.2 j _ _ hj' (List.getElem?_eq_getElem kj)).1 hC
  ·rintro ⟨⟨⟩,st'⟩ s' ⟨p,rfl,hp,har,hf,hpm,hsd⟩
   dsimp only
   have hout:=kat_snds (ks:=vs) (vs:=vs) rfl har
   have hsz:(List.toArray (p.toList.map fun i=>vs.getD i Value.none)).size=vs.length:=by rw [List.size_toArray,List.length_map,Array.length_toList,hp]
   rw [hout]
   refine wpAny_bind (seqEpoch_at ho6 rfl ?_)
   refine wpAny_bind (listUpdate_at ho6 rfl ?_ (Nat.zero_le _) (Nat.le_trans (Nat.le_of_eq hsz) (by rw [sizeLine_eq];omega)))
   rw [hf]
   simp only [bne_self_eq_false,Bool.false_eq_true,if_false]
   exact wpAny_pure (h p hpm hsd)
theorem v7 {h:Heap} {a:Addr} {vs:List Value} {out:Array Value} {b:Addr} {o:Obj} (hb:b≠a) (e:h.get? b=some o):(sortedHeap h a vs out).get? b=some o:=by
 unfold sortedHeap
 rw [Heap.get?_update_ne _ _ _ _ hb]
 refine Heap.get?_push_of_some _ (Heap.get?_push_of_some _ ?_)
 rw [Heap.get?_update_ne _ _ _ _ hb]
 exact e
theorem v8 {h:Heap} {a:Addr} {vs:List Value} {n:Nat} {out:Array Value} (e:h.get? a=some (seqObj "list" vs.toArray n)):∃ c,(sortedHeap h a vs out).get? a=some (seqObj "list" out c):=by
 obtain ⟨e1,ho1⟩:∃ e1,(h.update a (Obj.mapSeq fun _=>(#[]:Array Value))).get? a=some (seqObj "list" #[] e1):=⟨_,get?_update_seq e (fun _=>#[])⟩
 exact ⟨_,get?_update_seq (Heap.get?_push_of_some _ (Heap.get?_push_of_some _ ho1)) fun _=>out⟩
theorem zQ {r:Addr} {Q:Value->Shared->Prop} {Ok:List Value->Prop} (hcol:∀ R:List Value->Shared->Prop,(∀ h' tk vs,(∀ b o,s.heap.get? b=some o->h'.get? b=some o)->Ok vs->R vs { s with heap:=h',toks:=tk })->wpAny (model prog w) A.in1 (collect (.ref r)) R E s)
  (ks:List (List Int)) (hok:∀ vs,Ok vs->TupsI s.heap vs ks/\vs.length < 64)
  (h:∀ (h' hf:Heap) (tk c:Nat) (vs:List Value) (q:Array Nat),(∀ b o,s.heap.get? b=some o->h'.get? b=some o)->(∀ b o,h'.get? b=some o->hf.get? b=some o)->Ok vs->Pm vs.length q->Sd (fun i j=>HT.lexLt (ks.getD i []) (ks.getD j [])) q vs.length ->
   hf.get? h'.objs.size=some (seqObj "list" (q.toList.map fun i=>vs.getD i Value.none).toArray c)->Q (.ref h'.objs.size) { s with heap:=hf,toks:=tk }) :
  wpAny (model prog w) A (call (.builtin "sorted") [.ref r]) Q E s:=by
 refine Calls.call_function_entry kind_sorted plain_sorted entry_sorted (args_sorted1 _) ?_
 unfold Builtin.«sorted»
 refine wpAny_bind (m:=checkCount "sorted" 1 1 _) (wpAny_pure ?_)
 refine wpAny_bind (hcol _ fun h' tk vs keep ov=>?_)
 obtain ⟨ht,h64⟩:=hok vs ov
 refine wpAny_bind (wpAny_newList ?_ (by rw [sizeLine_eq];omega))
 have hoL:(h'.push (seqObj "list" vs.toArray 0)).get? h'.objs.size=some (seqObj "list" vs.toArray 0):=Heap.get?_push_size _ rfl
 have keep2:∀ b o,s.heap.get? b=some o->(h'.push (seqObj "list" vs.toArray 0)).get? b=some o:=fun b o e=>Heap.get?_push_of_some _ (keep b o e)
 have lt:∀ b o,s.heap.get? b=some o->b≠h'.objs.size:=fun b o e=>Nat.ne_of_lt (Heap.lt_size (keep b o e))
 have tat:∀ v∈vs,∃ t o,v=.ref t/\s.heap.get? t=some o:=fun v hv=>by
  obtain ⟨i,hi,e⟩:=List.mem_iff_getElem.mp hv
  have ki:i < ks.length:=by rw [<- ht.1];exact hi
  obtain ⟨⟨t,o,_,_,e1,e2,_⟩,_⟩:=ht.2 i v ks[i] (by rw [List.getElem?_eq_getElem hi,e]) (List.getElem?_eq_getElem ki)
  exact ⟨t,o,e1,e2⟩
 have ht2:TupsI (h'.push (seqObj "list" vs.toArray 0)) vs ks:=⟨ht.1,fun i v k q1 q2=>let ⟨z1,z2⟩:=ht.2 i v k q1 q2;⟨z1.at fun t o _ et=>keep2 t o et,z2⟩⟩
 refine wpAny_bind (wpAny_holding (wpAny_call_entry slot_list_sort ⟨_,hoL,rfl⟩ entry_list_sort (qV (s:={ s with heap:=h'.push (seqObj "list" vs.toArray 0),toks:=tk }) hoL ht2 (fun v hv z=>?_) h64 fun q a1 a2=>⟨_,rfl,?_⟩) (args_list_sort _)))
 ·obtain ⟨t,o,e1,e2⟩:=tat v hv
  rw [e1] at z
  injection z with z
  exact lt t o e2 z
 ·obtain ⟨c,hc⟩:=v8 (out:=(q.toList.map fun i=>vs.getD i Value.none).toArray) hoL
  exact wpAny_pure ⟨_,rfl,h h' _ tk c vs q keep (fun b o e=>v7 (Nat.ne_of_lt (Heap.lt_size e)) (Heap.get?_push_of_some _ e)) ov a1 a2 hc⟩
def aRl (H:Hp) (ts:List V) (ks:List (List Int)):Prop:=ts.length=ks.length/\∀ (i:Nat) (t:V) (k:List Int),ts[i]? = some t->ks[i]? = some k->(∃ b,t=.ref b/\H b=some (.tup (k.map V.int)))/\k≠[]
end
theorem aEx {P:Program} {w:World} {H:Hp} {h:Heap} {ts:List V} {ks:List (List Int)} {vs:List Value} (ok:HOk P w H h) (r:aRl H ts ks) (v:Vals ts vs):TupsI h vs ks:=by
 have hl:=v.length
 refine ⟨by rw [<- hl];exact r.1,fun i u k e1 e2=>?_⟩
 have hi:i < ts.length:=by
  have:=(List.getElem?_eq_some_iff.mp e1).1
  omega
 obtain ⟨⟨b,eb,hb⟩,hk⟩:=r.2 i ts[i] k (List.getElem?_eq_getElem hi) e2
 obtain ⟨u',e3,ru⟩:=v.get (i:=i) (x:=ts[i]) (List.getElem?_eq_getElem hi)
 rw [e1] at e3
 cases e3
 rw [eb] at ru
 cases (show u=Value.ref b from ru)
 obtain ⟨_,its,rv,o,ho,hc,n,hd⟩:=(show ObjOk P w H h b (.tup (k.map V.int)) from ok b _ hb)
 exact ⟨⟨b,o,_,n,rfl,ho,hc,hd,by rw [List.toList_toArray];exact intsAre_of rv⟩,hk⟩
def aI4 (ks:List (List Int)):Nat->Nat->Bool:=fun i j=>HT.lexLt (ks.getD i []) (ks.getD j [])
theorem uN {ts:List V} {vs:List Value} (v:Vals ts vs):∀ (l:List Nat),(∀ i∈l,i < ts.length)->Vals (l.map fun i=>ts.getD i .non) (l.map fun i=>vs.getD i Value.none)
 | [],_=>.nil
 | i :: l,h=>by
  have hi:=h i (.head _)
  obtain ⟨u,e,r⟩:=v.get (i:=i) (x:=ts[i]) (List.getElem?_eq_getElem hi)
  have e1:ts.getD i .non=ts[i]:=by simp [hi]
  have e2:vs.getD i Value.none=u:=by simp [e]
  refine .cons ?_ (uN v l fun j hj=>h j (.tail _ hj))
  show RelV (ts.getD i .non) (vs.getD i Value.none)
  rw [e1,e2];exact r
theorem Paired.get {α β:Type} {F:α->β->Prop}:∀ {l₁:List α} {l₂:List β} {i:Nat} {a:α},Paired F l₁ l₂->l₁[i]? = some a->∃ b,l₂[i]? = some b/\F a b
 | _,_,_,_,.nil,e=>by simp at e
 | _,_,0,_,.cons h _,e=>by simp at e;subst e;exact ⟨_,rfl,h⟩
 | _,_,i+1,_,.cons _ r,e=>by
  have:=Paired.get (i:=i) r (by simpa using e)
  simpa using this
theorem t9 {κ:Type}:∀ l:List (κ×Addr×Value),Vals (l.map fun x=>V.ref x.2.1) (l.map fun x=>Value.ref x.2.1)
 | []=>.nil
 | _ :: l=>.cons rfl (t9 l)
section
variable {X:Cx}
theorem aGp {pins:List (Addr×Obj)} {σ:L2.St} {H:Hp} {s:Shared} {Q:VK} {ts:List V} {vs:List Value} {h' hf:Heap} {tk c:Nat} {q:Array Nat} (I:Inv X pins σ H s) (v:Vals ts vs) (h64:vs.length < 64) (k1:∀ b o,s.heap.get? b=some o->h'.get? b=some o) (k2:∀ b o,h'.get? b=some o->hf.get? b=some o) (hp:Pm vs.length q)
  (hc:hf.get? h'.objs.size=some (seqObj "list" (q.toList.map fun i=>vs.getD i Value.none).toArray c)) (hq:∀ D,H D=none->Q (.ref D) (upd H D (.lst (q.toList.map fun i=>ts.getD i .non)))):EP X pins σ Q (.ref h'.objs.size) { s with heap:=hf,toks:=tk }:=by
 have I1:Inv X pins σ H { s with heap:=h',toks:=tk }:=I.kept (t':=tk) k1
 have hb:∀ i∈q.toList,i < ts.length:=fun i hi=>by
  have:i∈(List.range vs.length).toArray:=hp.mem_iff.mp (Array.mem_toList_iff.mp hi)
  rw [v.length]
  simpa using this
 have hl:q.toList.length=vs.length:=by rw [Array.length_toList];exact hp.size
 refine ⟨.ref h'.objs.size,_,I1.laid (a:=h'.objs.size) (o:=.lst (q.toList.map fun i=>ts.getD i .non)) (t':=tk) k2 (Nat.le_refl _) ⟨?_,_,c,uN v _ hb,hc⟩,rfl,hq _ (I1.hok.fresh (Nat.le_refl _))⟩
 rw [List.length_map,hl,sizeLine_eq]
 omega
def aIh:List V->Hp->VK->Prop:=fun xs H Q=>∃ a kv ks,xs=[.ref a]/\H a=some (.dT kv)/\kv.map (·.1)=ks.map (List.map Sum.inl)/\(∀ k∈ks,k≠[])/\kv.length < 64 /\
 ∀ ts D q,aRl H ts ks->H D=none->Pm ts.length q->Sd (aI4 ks) q ts.length->Q (.ref D) (upd H D (.lst (q.toList.map fun i=>ts.getD i .non)))
theorem aAg (hcm:X.calm=true):l5 X (.builtin "sorted") aIh:=by
 intro pins s σ H xs us Q I r h
 obtain ⟨a,kv,ks,rfl,ha,hk,hne,h64,q⟩:=h
 obtain ⟨u,rfl,ru⟩:=vals1 r
 cases (show u=Value.ref a from ru)
 obtain ⟨hz,hsys,es0,rel,o,es,ep,h1,h2,h3,h4,h5⟩:=(show ObjOk X.prog X.w H s.heap a (.dT kv) from I.hok a _ ha)
 have hraw:RawD s.heap a es ep:=⟨o,h1,h2,h3⟩
 have len1:kv.length=es0.length:=rel.length
 have len2:es.size=es0.length:=by rw [<- Array.length_toList,h4,List.length_map]
 have len3:ks.length=kv.length:=by
  have:=congrArg List.length hk
  simpa using this.symm
 have hts:aRl H (es0.map fun x=>V.ref x.2.1) ks:=by
  refine ⟨by rw [List.length_map];omega,fun i t k e1 e2=>?_⟩
  rw [List.getElem?_map] at e1
  cases ex:es0[i]? with
  | none=>rw [ex] at e1;cases e1
  | some x =>
   rw [ex] at e1
   cases e1
   have hi:i < kv.length:=by rw [len1];exact (List.getElem?_eq_some_iff.mp ex).1
   obtain ⟨y,ey,hy1,hy2,_⟩:=Paired.get rel (List.getElem?_eq_getElem hi)
   rw [ex] at ey
   cases ey
   refine ⟨⟨x.2.1,rfl,?_⟩,hne k (List.mem_of_getElem? e2)⟩
   have hkk:(kv.map (·.1))[i]? = (ks.map (List.map Sum.inl))[i]?:=by rw [hk]
   rw [List.getElem?_map,List.getElem?_map,List.getElem?_eq_getElem hi,e2] at hkk
   have hkk:kv[i].1=k.map Sum.inl:=Option.some.inj hkk
   rw [hkk,List.map_map] at hy2
   exact hy2
 have hvs:∀ vs:List Value,vs.length=es.size->(∀ (j:Nat) v,vs[j]? = some v->∃ e,es[j]? = some e/\v=e.key)->Vals (es0.map fun x=>V.ref x.2.1) vs:=fun vs hl hv=>by
  have ev:vs=es0.map fun x=>Value.ref x.2.1:=by
   refine List.ext_getElem? fun i=>?_
   rw [List.getElem?_map]
   by_cases hi:i < vs.length
   ·have hi2:i < es0.length:=by omega
    obtain ⟨e,e1,e2⟩:=hv i vs[i] (List.getElem?_eq_getElem hi)
    have e3:es.toList[i]? = some e:=by simpa using e1
    rw [h4,List.getElem?_map,List.getElem?_eq_getElem hi2] at e3
    have e3:=Option.some.inj e3
    rw [List.getElem?_eq_getElem hi,List.getElem?_eq_getElem hi2,e2,<- e3]
    rfl
   ·rw [List.getElem?_eq_none (by omega),List.getElem?_eq_none (by omega)]
    rfl
  rw [ev]
  exact t9 _
 refine zQ (Ok:=fun vs=>vs.length=es.size/\∀ (j:Nat) v,vs[j]? = some v->∃ e,es[j]? = some e/\v=e.key) (fun R hR=>?_) ks (fun vs e=>⟨aEx I.hok hts (hvs vs e.1 e.2),by omega⟩) fun h' hf tk c vs q' k1 k2 e p1 p2 hc=>?_
 ·refine kdu_collect (A:=X.A.in1) (aJp (prog:=X.prog) (w:=X.w) (ep:=ep) (es:=es) hsys) (I.ok.hd hcm) hraw (by omega) fun h' tk acc hk hacc=>hR h' tk _ hk ⟨by rw [Array.length_toList];exact hacc.1,fun j v e=>hacc.2 j v (by simpa using e)⟩
 ·have rv:=hvs vs e.1 e.2
  have hlen:=rv.length
  exact aGp I rv (by omega) k1 k2 p1 hc fun D hD=>q _ D q' hts hD (hlen▸p1) (hlen▸p2)
end
end SRT
namespace M
open PySem PySem.Spec PyProof.Rows L2 SRT
def tJ (k:List Int):D:=.tuple (k.map .int)
def w6:List D->Option (List Int)
 | []=>some []
 | .int i :: ds=>match w6 ds with
  | some r=>some (i :: r)
  | none=>none
 | _=>none
def aDq:D->Option (List Int)
 | .tuple ds=>w6 ds
 | _=>none
def wG:List D->Option (List (List Int))
 | []=>some []
 | d :: ds=>match aDq d with
  | none=>none
  | some k=>match wG ds with
   | none=>none
   | some ks=>some (k :: ks)
theorem yB:∀ {ds:List D} {k:List Int},w6 ds=some k->ds=k.map .int
 | [],_,h=>by cases h;rfl
 | d :: ds,k,h=>by
  cases d with
  | int i =>
   unfold w6 at h
   cases e:w6 ds with
   | none=>rw [e] at h;cases h
   | some r=>rw [e] at h;cases h;rw [yB e];rfl
  | _=>cases h
theorem uZ:∀ k:List Int,w6 (k.map .int)=some k
 | []=>rfl
 | i :: k=>by
  show (match w6 (k.map .int) with | some r=>some (i :: r) | none=>none)=_
  rw [uZ k]
theorem aEc (k:List Int):aDq (tJ k)=some k:=uZ k
theorem aGx {d:D} {k:List Int} (h:aDq d=some k):d=tJ k:=by
 cases d with
 | tuple ds=>unfold tJ;rw [<- yB h]
 | _=>cases h
theorem yJ:∀ {ds:List D} {ks:List (List Int)},wG ds=some ks->ds=ks.map tJ
 | [],_,h=>by cases h;rfl
 | d :: ds,ks,h=>by
  unfold wG at h
  cases e:aDq d with
  | none=>rw [e] at h;cases h
  | some k =>
   rw [e] at h
   cases e2:wG ds with
   | none=>rw [e2] at h;cases h
   | some ks'=>rw [e2] at h;cases h;rw [aGx e,yJ e2];rfl
theorem uE:∀ ks:List (List Int),wG (ks.map tJ)=some ks
 | []=>rfl
 | k :: ks=>by
  show (match aDq (tJ k) with | none=>none | some k=>match wG (ks.map tJ) with | none=>none | some ks=>some (k :: ks))=_
  rw [aEc,uE ks]
def aI0 (k:List Int):List (List Int)->List (List Int)
 | []=>[k]
 | x :: r=>if HT.lexLt k x=true then k :: x :: r else x :: aI0 k r
def nL:List (List Int)->List (List Int)
 | []=>[]
 | k :: ks=>aI0 k (nL ks)
def leK (a b:List Int):Prop:=HT.lexLt b a=false
theorem pN (k:List Int):∀ l,(aI0 k l).Perm (k :: l)
 | []=>.refl _
 | x :: r=>by
  unfold aI0
  split
  ·exact .refl _
  ·exact ((pN k r).cons x).trans (List.Perm.swap k x r)
theorem iC:∀ l,(nL l).Perm l
 | []=>.refl _
 | k :: ks=>(pN k _).trans ((iC ks).cons k)
theorem aF1 {k y:List Int} {l:List (List Int)} (h:y∈aI0 k l):y=k\/y∈l:=by
 have:=(pN k l).mem_iff.mp h
 exact List.mem_cons.mp this
theorem pB (k:List Int):∀ l,l.Pairwise leK->(aI0 k l).Pairwise leK
 | [],_=>List.pairwise_singleton _ _
 | x :: r,h=>by
  unfold aI0
  obtain ⟨h1,h2⟩:=List.pairwise_cons.mp h
  split
  ·rename_i e
   have e1:=aBq _ _ e
   exact List.pairwise_cons.mpr ⟨fun y hy=>by
    rcases List.mem_cons.mp hy with rfl | hy
    ·exact e1
    ·exact aEr _ _ _ e1 (h1 y hy),h⟩
  ·rename_i e
   refine List.pairwise_cons.mpr ⟨fun y hy=>?_,pB k r h2⟩
   rcases aF1 hy with rfl | hy
   ·exact Bool.eq_false_iff.mpr e
   ·exact h1 y hy
theorem nE:∀ l,(nL l).Pairwise leK
 | []=>.nil
 | k :: ks=>pB k _ (nE ks)
theorem oC:∀ {a b:List (List Int)},a.Perm b->a.Pairwise leK->b.Pairwise leK->a=b
 | [],b,p,_,_=>(List.Perm.nil_eq p)
 | x :: a,[],p,_,_=>absurd p.length_eq (by simp)
 | x :: a,y :: b,p,ha,hb=>by
  obtain ⟨a1,a2⟩:=List.pairwise_cons.mp ha
  obtain ⟨b1,b2⟩:=List.pairwise_cons.mp hb
  have hx:x∈y :: b:=p.mem_iff.mp (.head _)
  have hy:y∈x :: a:=p.mem_iff.mpr (.head _)
  have e:x=y:=by
   rcases List.mem_cons.mp hx with e | hx
   ·exact e
   ·rcases List.mem_cons.mp hy with e | hy
    ·exact e.symm
    ·exact aH3 _ _ (b1 x hx) (a1 y hy)
  subst e
  rw [oC (List.Perm.cons_inv p) a2 b2]
theorem picked {ks:List (List Int)} {q:Array Nat} {n:Nat} (hn:n=ks.length) (hp:Pm n q) (hs:Sd (aI4 ks) q n):(q.toList.map fun i=>ks.getD i [])=nL ks:=by
 subst hn
 have e0:((List.range ks.length).map fun i=>ks.getD i [])=ks:=by
  refine List.ext_getElem? fun i=>?_
  rw [List.getElem?_map]
  by_cases hi:i < ks.length
  ·rw [List.getElem?_range hi];simp [hi]
  ·rw [List.getElem?_eq_none (by rw [List.length_range];omega),List.getElem?_eq_none (by omega)];rfl
 have p1:q.toList.Perm (List.range ks.length):=by
  have:=hp.toList
  simpa using this
 have p2:(q.toList.map fun i=>ks.getD i []).Perm ks:=by
  have:=p1.map (fun i=>ks.getD i [])
  rwa [e0] at this
 refine oC (p2.trans (iC ks).symm) ?_ (nE ks)
 rw [List.pairwise_iff_getElem]
 intro i j hi hj hij
 rw [List.length_map] at hi hj
 rw [List.getElem_map,List.getElem_map]
 have sz:q.toList.length=ks.length:=by rw [Array.length_toList];exact hp.size
 have:=hs i j (Nat.le_of_lt hij) (by omega)
 unfold SRT.le aI4 Pt at this
 have e1:q.getD i 0=q.toList[i]:=by
  have:i < q.size:=by rw [<- Array.length_toList];exact hi
  simp [Array.getD,this]
 have e2:q.getD j 0=q.toList[j]:=by
  have:j < q.size:=by rw [<- Array.length_toList];exact hj
  simp [Array.getD,this]
 rw [e1,e2] at this
 exact this
section
variable {X:Cx} {K:PySem.W.Frag}
theorem aF6 {G:Hp} {b:Addr} {k:List Int} (h:G b=some (.tup (k.map V.int))):Rep K G (.ref b) (tJ k):=by
 refine .tup h ?_
 clear h
 induction k with
 | nil=>exact .nil
 | cons i k ih=>exact .cons (.int i) ih
theorem uS {G:Hp} {ts:List V} {ks:List (List Int)} (h:∀ (i:Nat),i < ks.length->Rep K G (ts.getD i .non) (tJ (ks.getD i []))):∀ l:List Nat,(∀ i∈l,i < ks.length)->Reps K G (l.map fun i=>ts.getD i .non) ((l.map fun i=>ks.getD i []).map tJ)
 | [],_=>.nil
 | i :: l,hl=>.cons (h i (hl i (.head _))) (uS h l fun j hj=>hl j (.tail _ hj))
theorem aP3 {n:Nat} {q:Array Nat} (hp:Pm n q):∀ i∈q.toList,i < n:=fun i hi=>by
 have:i∈(List.range n).toArray:=hp.mem_iff.mp (Array.mem_toList_iff.mp hi)
 simpa using this
theorem aBi {ks:List (List Int)} (h:(ks.all fun k=>!k.isEmpty)=true):∀ k∈ks,k≠[]:=fun k hk z=>by
 have:=List.all_eq_true.mp h k hk
 rw [z] at this
 cases this
def wt (G H:Hp):Hp:=fun b=>match G b with
 | some o=>some o
 | none=>match H b with
  | some (.tup xs)=>some (.tup xs)
  | _=>none
theorem aIt {G H:Hp}:Same G (wt G H):=fun b o e=>by unfold wt;rw [e]
theorem aJm {G H:Hp} (gh:Same G H):Same (wt G H) H:=fun b o e=>by
 unfold wt at e
 cases eg:G b with
 | some u=>rw [eg] at e;cases e;exact gh _ _ eg
 | none =>
  rw [eg] at e
  dsimp only at e
  split at e
  ·rename_i xs eh
   cases e;exact eh
  ·cases e
theorem aOc {G H:Hp} (gh:Same G H) {b:Addr} {xs:List V} (e:H b=some (.tup xs)):wt G H b=some (.tup xs):=by
 unfold wt
 cases eg:G b with
 | some u =>
  have:=gh _ _ eg
  rw [e] at this
  exact this.symm
 | none=>dsimp only;rw [e]
theorem aI7 {G H:Hp} (gh:Same G H):Step G H (wt G H) H:=⟨aIt,Same.refl _,aJm gh,fun b hb hg=>by
 unfold wt
 rw [hg]
 dsimp only
 split
 ·rename_i xs eh;exact .inr ⟨xs,eh⟩
 ·exact .inl rfl⟩
def iB (rs:List Ev):Res Ev:=match rs with
 | [x]=>match mL x with
  | some kvs=>if (dsp kvs).1=false then match wG (kvs.map (·.1)) with
    | some ks=>if (ks.all fun k=>!k.isEmpty)=true/\ks.length < 64 then .ok (.f (.list ((nL ks).map tJ))) else .bad
    | none=>.bad
   else .bad
  | none=>.bad
 | _=>.bad
theorem wJ:aAq iB:=by
 intro rs C h
 unfold iB at h
 split at h
 ·split at h
  ·split at h
   ·split at h
    ·split at h<;>cases h
    ·cases h
   ·cases h
  ·cases h
 ·cases h
theorem aGm {k:List Key} {n:List Int} (h:tkD k=tJ n):k=n.map Sum.inl:=by
 unfold tkD tJ at h
 injection h with h
 induction k generalizing n with
 | nil=>cases n with
  | nil=>rfl
  | cons _ _=>cases h
 | cons x k ih =>
  cases n with
  | nil=>cases h
  | cons y n =>
   rw [List.map_cons,List.map_cons] at h
   injection h with h1 h2
   cases x with
   | inl i=>cases h1;rw [ih h2];rfl
   | inr i=>cases h1
theorem uM {G:Hp}:∀ {kv:List (List Key×V)} {kvs:List (D×D)} {ks:List (List Int)},RepT K G kv kvs->kvs.map (·.1)=ks.map tJ->kv.map (·.1)=ks.map (List.map Sum.inl)
 | _,_,[],.nil,_=>rfl
 | _,_,_ :: _,.nil,h=>by cases h
 | _,_,[],.cons _ _,h=>by cases h
 | _,_,k :: ks,.cons _ t,h=>by
  rw [List.map_cons,List.map_cons] at h
  injection h with h1 h2
  rw [List.map_cons,List.map_cons,uM t h2,aGm h1]
theorem zM:nO K aIh iB:=by
 intro W Hs G H vs rs Q gh he hw
 unfold iB at hw
 split at hw
 ·rename_i x
  match vs,he with
  | [v],⟨h1,_⟩ =>
   split at hw
   ·rename_i kvs ed
    obtain ⟨a,rfl,hd⟩:=zG gh h1 ed
    split at hw
    ·rename_i hk
     rcases hd with ⟨kv,k1,k2⟩ | ⟨kv,r,rfl,k1,k2⟩
     ·split at hw
      ·rename_i ks ek
       split at hw
       ·rename_i hz
        have ek:=yJ ek
        have hne:=aBi hz.1
        have hl:kv.length=ks.length:=by rw [k2.len,<- List.length_map (f:=(·.1)),ek,List.length_map]
        refine ⟨a,kv,ks,rfl,k1,uM k2 ek,hne,by omega,fun ts D q rI hD hp hs=>?_⟩
        have hl2:ts.length=ks.length:=rI.1
        have ep:=picked hl2 hp hs
        have st:=(aI7 gh).trans (Step.lay (o:=.lst (q.toList.map fun i=>ts.getD i .non)) (aJm gh) hD)
        refine hw _ _ _ st ⟨D,_,rfl,hD,(aJm gh).free hD,bR,.lst ?_⟩
        rw [<- ep]
        refine uS (fun i hi=>?_) _ fun i hi=>by rw [<- hl2];exact aP3 hp i hi
        have hi':i < ts.length:=by omega
        obtain ⟨⟨b,eb,hb⟩,_⟩:=rI.2 i ts[i] ks[i] (List.getElem?_eq_getElem hi') (List.getElem?_eq_getElem hi)
        have e1:ts.getD i .non=ts[i]:=by simp [hi']
        have e2:ks.getD i []=ks[i]:=by simp [hi]
        rw [e1,e2,eb]
        exact aF6 (aOc gh hb)
       ·exact hw.elim
      ·exact hw.elim
     ·cases hk
    ·exact hw.elim
   ·exact hw.elim
 ·exact hw.elim
theorem aLd {prog:Program} {w:World} {A:Around} {E:Value->Shared->Prop} {s:Shared} {d:Addr} {es:Array DictEntry} {ep:Nat} {Q:Value->Shared->Prop} (hd:(d == sysModules)=false) (hm:RawD s.heap d es ep) (hfit:(es.size:Int) < 2 ^ 63)
  (h:Q (.int es.size (s.toks+1)) { s with toks:=s.toks+1+1 }):wpAny (model prog w) A (call (.builtin "len") [.ref d]) Q E s:=by
 refine Calls.call_function_entry kind_len plain_len entry_len (args_len1 _) ?_
 unfold Builtin.«len»
 refine wpAny_bind (m:=oneArg "len" _) (wpAny_pure ?_)
 have meets:MeetsIn prog w (Builtin.«dict.__len__» ⟨[.ref d],[]⟩) (fun _ R s=>RawD s.heap d es ep/\R (.ok (.ret (.int es.size s.toks))) { s with toks:=s.toks+1 }) :=
  .of_wp fun A R s ⟨hm,h⟩=>by
   obtain ⟨o,ho,hc,hdat⟩:=hm
   show wpAny _ _ (dictSize d >>= _) _ _ s
   unfold dictSize
   refine wpAny_bind (wpAny_bind (wpAny_dictEntries ho hdat (wpAny_pure ?_)))
   show wpAny _ _ (Builtin.Dict.pendingCount d >>= _) _ _ s
   refine wpAny_bind (wpAny_pendingCount_other hd ?_)
   refine wpAny_ret_mkInt ?_
   rw [Nat.add_zero];exact h
 refine wpAny_bind (m:=callSpecial? (.ref d) (Str.ofString "__len__")) (wpAny_callSpecial?_slot (name:=Str.ofString "__len__") hm.ty F.slot_dict_len
  (call_meetsIn F.slot_dict_len hm.ty F.entry_dict_len (F.args_dict_len_1 _) meets ⟨hm,?_⟩))
 show wpAny _ _ _ _ _ { s with toks:=s.toks+1 }
 refine wpAny_bind (wpAny_holding (wpAny_pure ?_))
 refine wpAny_bind (wpAny_letGo ?_)
 show wpAny _ _ (if ((es.size:Nat):Int) < 0 then _ else _) _ _ _
 rw [if_neg (by omega)]
 show wpAny _ _ (if ((es.size:Nat):Int) ≥ 2 ^ 63 then _ else _) _ _ _
 rw [if_neg (by omega)]
 exact wpAny_bind (wpAny_mkInt (wpAny_pure ⟨_,rfl,h⟩))
def aNv:List V->Hp->VK->Prop:=fun xs H Q=>∃ a,xs=[.ref a]/\((∃ kv,H a=some (.dT kv)/\Q (.int kv.length) H)\/∃ kv,H a=some (.dK kv)/\Q (.int kv.length) H)
theorem aAf:l5 X (.builtin "len") aNv:=by
 intro pins s σ H xs us Q I r h
 obtain ⟨a,rfl,h⟩:=h
 obtain ⟨u,rfl,ru⟩:=vals1 r
 cases (show u=Value.ref a from ru)
 rcases h with ⟨kv,ha,q⟩ | ⟨kv,ha,q⟩
 ·obtain ⟨hz,hsys,es0,rel,o,es,ep,h1,h2,h3,h4,h5⟩:=(show ObjOk X.prog X.w H s.heap a (.dT kv) from I.hok a _ ha)
  have len1:kv.length=es0.length:=rel.length
  have len2:es.size=es0.length:=by rw [<- Array.length_toList,h4,List.length_map]
  rw [sizeLine_eq] at hz
  refine aLd hsys ⟨o,h1,h2,h3⟩ (by omega) ⟨.int kv.length,H,I.tok _,⟨s.toks+1,by rw [len2,len1]⟩,q⟩
 ·exact aRf I (.inl ha) fun t s' I'=>⟨.int kv.length,H,I',⟨t,rfl⟩,q⟩
theorem aK2:nO K aNv tZ:=by
 intro W Hs G H vs rs Q gh he hw
 unfold tZ at hw
 split at hw
 ·rename_i x
  match vs,he with
  | [v],⟨h1,_⟩ =>
   split at hw
   ·rename_i kvs ed
    obtain ⟨a,rfl,hd⟩:=zG gh h1 ed
    refine ⟨a,rfl,?_⟩
    rcases hd with ⟨kv,k1,k2⟩ | ⟨kv,r,rfl,k1,k2⟩
    ·refine .inl ⟨kv,k1,?_⟩
     rw [aJw k2] at hw
     rw [k2.len]
     exact hw G H _ (Step.refl gh) (.int _)
    ·refine .inr ⟨kv,k1,?_⟩
     rw [k2.len]
     exact hw G H _ (Step.refl gh) (.int _)
   ·exact hw.elim
 ·exact hw.elim
end
end M
namespace L2
open PySem PySem.Spec PyProof.Rows
def Ite (K:PySem.W.Frag) (a:Addr):It :=
 ⟨fun i H=>∃ xs x,SqL K H a xs/\xs[i]? = some x,fun i H v H'=>∃ p x,H p=none/\v=.ref p/\(∀ xs,SqL K H a xs->xs[i]? = some x)/\H'=upd H p (.tup [.int i,x]),fun i H=>∃ xs,SqL K H a xs/\xs.length<=i⟩
theorem aC6 {P:Program} {w:World} {K:PySem.W.Frag} {elts:List Expr} {x1} {tp:Pos} (a e it:Addr) (hne:e≠it):Turn P w K (.Tuple elts x1 tp) (Ite K a) [e,it] e (fun i h=>(∃ old,IsEnum h e it ((i:Nat):Int) old)/\h.IsListIter it a i) where
 mem:=by simp
 obj:=fun i h st b hb=>by
  rcases List.mem_cons.mp hb with rfl | hb
  ·obtain ⟨⟨old,q⟩,_⟩:=st
   exact ⟨_,q,fun v z=>nomatch z⟩
  ·have:b=it:=by simpa using hb
   subst this
   obtain ⟨_,o,q,c,d⟩:=st
   exact ⟨o,q,fun v z=>by rw [d] at z;cases z⟩
 keep:=fun i h h' st k=>⟨let ⟨old,q⟩:=st.1;⟨old,k e (by simp) _ q⟩,st.2.at fun o q=>k it (by simp) o q⟩
 item:=by
  intro X hP hw hK hc i pins s σ H E I hf st hg
  subst hP hw hK
  obtain ⟨⟨old,he⟩,hit⟩:=st
  obtain ⟨xs,x,hq,hx⟩:=hg
  obtain ⟨its,rv,p,hz⟩:=I.list hq
  obtain ⟨u,hu,ru⟩:=rv.get hx
  obtain ⟨f0,f1,f2,f3,f4,f5⟩:=hf e (by simp)
  obtain ⟨g0,g1,g2,g3,g4,g5⟩:=hf it (by simp)
  refine wpAny_pyNext_enum_item he hit p.isList (x:=u) (by simpa using hu) hne fun h₁ heo hit₁ ht₁ hz₁ hk₁=>?_
  refine ⟨_,rfl,wpAny_letOwnedTupleGo_enum heo fun h₂ he₂ hs₂=>?_⟩
  have hs₂:Heap.SameBut e h₁ h₂:=hs₂
  have hn:H s.heap.objs.size=none:=I.fresh
  have nn:∀ b o,H b=some o->b≠s.heap.objs.size:=fun b o q=>cU q hn
  have eE:e < s.heap.objs.size:=Heap.lt_size he
  have keep:∀ b o,b∉[e,it]->s.heap.get? b=some o->h₂.get? b=some o:=fun b o hb q=>by
   have b1:b≠e:=fun z=>hb (by simp [z])
   have b2:b≠it:=fun z=>hb (by simp [z])
   exact (hs₂.2 b b1).trans (hk₁ b o b1 b2 q)
  have trk:∀ b o,H b=some o->b∉[e,it]:=fun b o q hb=>by
   rcases List.mem_cons.mp hb with z | hb
   ·rw [z,f0] at q;cases q
   ·rw [List.mem_singleton.mp hb,g0] at q;cases q
  refine ⟨.ref s.heap.objs.size,upd H s.heap.objs.size (.tup [.int i,x]),?_,rfl,⟨_,x,hn,rfl,fun ys hy=>by rw [I.list_inj hy hq];exact hx,rfl⟩,⟨⟨u,?_⟩,?_⟩,fun b hb=>?_⟩
  ·refine Inv.step (X:=X) (pins:=pins) (σ:=σ) (H:=H) (s:=s) (H':=upd H s.heap.objs.size (.tup [.int i,x])) (h':=h₂) (g':=s.gens) (d':=s.drawn) (t':=s.toks+1) (ch:=[e,it]) I (fun b hb=>?_) (fun b o _ _ hb q _=>keep b o hb q) (fun b o _ _ hb q _=>⟨o.slots,keep b o hb q⟩) (fun b o _ q n=>?_) (fun b o hb q=>⟨o,keep b o hb q⟩)
    (fun b ys q=>?_) (fun b o v q=>?_) (fun b ps q=>⟨#[],?_⟩) (fun m hm=>?_) (fun b v q=>?_) I.bare
   ·rcases List.mem_cons.mp hb with z | hb
    ·subst z;exact ⟨f3,f1,f4,f5⟩
    ·have z:=List.mem_singleton.mp hb
     subst z;exact ⟨g3,g1,g4,g5⟩
   ·rw [a9 (Nat.ne_of_lt (Heap.lt_size q))];exact n
   ·rw [a9 (nn b _ q)];exact q
   ·rw [a9 (nn b _ q)];exact q
   ·rw [a9 (nn b _ q),q];simp
   ·obtain ⟨o,es,ep,ho,r⟩:=hm
    exact ⟨o,es,ep,keep _ o (fun z=>by
     rcases List.mem_cons.mp z with y | y
     ·exact f1 y.symm
     ·exact g1 (List.mem_singleton.mp y).symm) ho,r⟩
   ·by_cases hb:b=s.heap.objs.size
    ·subst hb
     rw [bR] at q
     cases q
     refine ⟨by show 2<=sizeLine;decide,[.int i s.toks,u],.cons ⟨_,rfl⟩ (.cons ru .nil),_,(hs₂.2 _ (Nat.ne_of_gt eE)).trans ht₁,rfl,_,rfl⟩
    ·rw [a9 hb] at q
     refine (I.hok b v q).stay (fun c w' hc q'=>keep c w' ?_ q') (fun c q'=>?_) fun c ys q'=>?_
     ·rcases hc with z | z
      ·rw [z];exact trk b v q
      ·exact trk c _ z
     ·rw [a9 (nn c _ q')];exact q'
     ·rw [a9 (nn c _ q')];exact q'
  ·have:(((i+1:Nat)):Int)=(i:Int)+1:=by push_cast;rfl
   rw [this];exact he₂
  ·exact hit₁.at fun o q=>(hs₂.2 it (Ne.symm hne)).trans q
  ·have hb':=(hf b hb).1
   have:b≠s.heap.objs.size:=by
    rcases List.mem_cons.mp hb with z | z
    ·rw [z];exact Nat.ne_of_lt eE
    ·rw [List.mem_singleton.mp z]
     obtain ⟨o,q,_⟩:=id hit
     exact Nat.ne_of_lt (Heap.lt_size q)
   rw [a9 this];exact hb'
 done:=by
  intro X hP hw hK hc i pins s σ H E I hf st hg
  subst hP hw hK
  obtain ⟨⟨old,he⟩,hit⟩:=st
  obtain ⟨xs,hq,hx⟩:=hg
  obtain ⟨its,rv,p,hz⟩:=I.list hq
  obtain ⟨g0,g1,g2,g3,g4,g5⟩:=hf it (by simp)
  have hl:=rv.length
  exact wpAny_pyNext_enum_end (I.ok.hd hc) he hit p.isList (by simp;omega) fun h' eb=>⟨rfl,I.turned (t':=s.toks) (fun b o hb q=>eb b o hb q) g0 g1 g3 g4 g5⟩
 self:=fun _ _ _ _ _ st h=>let ⟨_,q⟩:=st.1;wpAny_pyIter_enum q h
section
variable {X:Cx}
def aQe (K:PySem.W.Frag) (ta:TA):TI:=fun σ H R=>ta σ H fun vs H1=>∃ a xs,vs=[.ref a]/\Rd H1 a (.lst xs)/\R (Ite K a) H1
theorem aD6:bootBuiltins "enumerate" = some (.type "enumerate"):=by decide +kernel
theorem aJ4 {a:Expr} {ta:TA} {p pos tp:Pos} {elts:List Expr} {x1} (hg:Gl X "enumerate") (hm:X.mg "enumerate" = none) (ha:PA X [a] ta) (hs:starEach [a] X.env=[(false,eval a X.env)]:=by rfl):PI X (.Tuple elts x1 tp) (.Call (.Name "enumerate" p) [a] [] pos) (aQe X.K ta):=by
 intro pins s σ H R I h
 refine Call_ (oZ I hg hm aD6 (PyProof.Rows.callWith_type1 (thn (ha pos pins s σ H _ I h) fun us s1 ⟨vs,H1,I1,r1,q1⟩=>?_) hs rfl))
 obtain ⟨a,xs,rfl,hr,q⟩:=q1
 obtain ⟨u,rfl,ru⟩:=vals1 r1
 cases (show u=Value.ref a from ru)
 obtain ⟨_,its,n,rv,ho⟩:=hr.ok I1.hok
 refine call_enumerate_1 ho fun h' he hit hz hk=>?_
 refine wpAny_pyIter_enum (s:={ s1 with heap:=h' }) he ?_
 refine ⟨s1.heap.objs.size+1,[s1.heap.objs.size+1,s1.heap.objs.size],_,_,H1,rfl,I1.kept (t':=s1.toks) hk,aC6 a _ _ (Nat.ne_of_gt (Nat.lt_succ_self _)),⟨⟨_,he⟩,hit⟩,fun b hb=>?_,q⟩
 have hle:s1.heap.objs.size<=b:=by
  rcases List.mem_cons.mp hb with z | z
  ·rw [z];exact Nat.le_succ _
  ·rw [List.mem_singleton.mp z];exact Nat.le_refl _
 exact I1.fpOk hle (I1.hok.fresh hle)
end
end L2
namespace M
open PySem PySem.Spec PyProof.Rows L2
def pI (k:Nat):List D->List D
 | []=>[]
 | d :: ds=>.tuple [.int (k:Int),d] :: pI (k+1) ds
theorem uX:∀ (ds:List D) (k:Nat),(pI k ds).length=ds.length
 | [],_=>rfl
 | _ :: ds,k=>by unfold pI;rw [List.length_cons,List.length_cons,uX ds]
theorem vE:∀ (ds:List D) (k i:Nat),(pI k ds)[i]? = (ds[i]?).map fun d=>.tuple [.int ((k+i:Nat):Int),d]
 | [],_,_=>by simp [pI]
 | d :: ds,k,0=>by simp [pI]
 | d :: ds,k,i+1=>by
  unfold pI
  rw [List.getElem?_cons_succ,List.getElem?_cons_succ,vE ds (k+1) i]
  have:k+1+i=k+(i+1):=by omega
  rw [this]
def aE9 (rs:List Ev):Res (List D):=match rs with
 | [.p (.list ds)]=>.ok (pI 0 ds)
 | _=>.bad
theorem aKp {X:Cx} {E:L2.St->XK} {a:Expr} {fr:En->Res (List Ev)} {p pos tp:Pos} {elts:List Expr} {x1} (hg:Gl X "enumerate") (hm:X.mg "enumerate" = none) (ha:DA X E [a] fr) (hs:starEach [a] X.env=[(false,eval a X.env)]:=by rfl) :
  DI X E (.Tuple elts x1 tp) (.Call (.Name "enumerate" p) [a] [] pos) (lS aE9 fr):=by
 obtain ⟨t,q,m⟩:=ha.out
 refine DI.in ⟨_,aJ4 hg hm q hs,fun B G0 G W H σ en R hh hs hw=>m B G0 G W H σ en _ hh hs ?_⟩
 have hw:wpR ((fr en).bind _) _ _:=hw
 rw [b6] at hw
 refine bF hw (fun rs hr G1 H1 vs s e=>?_) fun C h=>h
 unfold aE9 at hr
 split at hr
 ·rename_i ds
  match vs,e with
  | [v],⟨e1,_⟩ =>
   cases e1 with
   | @lst a xs _ h1 h2 =>
    refine ⟨a,xs,rfl,eY s.gh h1,hr G1 H1 _ s fun G3 H3 k1 k2=>⟨fun i d ed=>?_,?_⟩⟩
    ·rw [vE,Option.map_eq_some_iff] at ed
     obtain ⟨d',ed,rfl⟩:=ed
     obtain ⟨x,ex,rx⟩:=h2.get' ed
     have sq:SqL X.K H3 a xs:=.inl (eY (k1.trans k2) h1)
     refine ⟨⟨xs,x,sq,ex⟩,fun v H' hy=>?_⟩
     obtain ⟨p,x',hp,rfl,hy,rfl⟩:=hy
     have:=hy xs sq
     rw [ex] at this
     cases this
     have st:=Step.put (o:=.tup [.int i,x]) k2 hp
     refine ⟨_,st,.tup bR (.cons ?_ (.cons (rx.mono (k1.trans st.g)) .nil))⟩
     have:((0+i:Nat):Int)=(i:Int):=by simp
     rw [this]
     exact .int _
    ·refine ⟨xs,.inl (eY (k1.trans k2) h1),?_⟩
     rw [uX,h2.length]
     exact Nat.le_refl _
 ·exact hr.elim
section
variable {X:Cx} {E:L2.St->XK}
def cutD (ds:List D) (lo hi:Option Int):List D:=(ds.drop (HT.sIx ds.length 0 lo)).take (HT.sIx ds.length ds.length hi - HT.sIx ds.length 0 lo)
theorem Reps.cut {K:PySem.W.Frag} {G:Hp} {xs:List V} {ds:List D} (r:Reps K G xs ds) (lo hi:Option Int):Reps K G (aLl xs lo hi) (cutD ds lo hi):=by
 unfold aLl cutD
 rw [r.length]
 exact (r.drop _).take _
def aPk:En->Res (Option Int):=fun _=>.ok none
def mPt (fe:En->Res Ev):En->Res (Option Int):=fun en=>(fe en).bind fun x=>match x.c with
 | .p (.int i)=>.ok (some i)
 | _=>.bad
def tP (K:PySem.W.Frag) (E:L2.St->XK) (f:En->Res (Option Int)):TO:=fun σ H R=>∃ B G0 G W en,SimH B G0 G W H/\SimS K W G H σ en/\wpR (f en) (fun k=>∀ G' H',Step G H G' H'->R k H') (PostX (E σ) G H)
def DP (X:Cx) (E:L2.St->XK) (o:Option Expr) (f:En->Res (Option Int)):Prop:=PO X o (tP X.K E f)
theorem aKj:DP X E none aPk:=fun pins s σ H R I ⟨B,G0,G,W,en,hh,hs,hw⟩=>aI2 pins s σ H R I (hw G H (Step.refl hh.gh))
theorem vV {e:Expr} {fe:En->Res Ev} (he:DE X E e fe):DP X E (some e) (mPt fe):=fun pins s σ H R I ⟨B,G0,G,W,en,hh,hs,hw⟩=>by
 obtain ⟨t,p,m⟩:=he.out
 refine aJ0 p pins s σ H R I (m B G0 G W H σ en _ hh hs ?_)
 unfold mPt at hw
 rw [b6] at hw
 refine bF hw (fun x hx G1 H1 v s1 e1=>?_) fun C h=>h
 obtain ⟨G2,s2,e2⟩:=e1.c s1
 cases ex:x.c with
 | p d =>
  rw [ex] at hx e2
  cases d with
  | int i=>cases e2;exact ⟨i,rfl,hx G2 H1 s2⟩
  | _=>exact hx.elim
 | f d=>rw [ex] at hx;exact hx.elim
 | b d=>rw [ex] at hx;exact hx.elim
 | x C=>rw [ex] at hx;exact hx.elim
def mSl (fe:En->Res Ev) (fl fh:En->Res (Option Int)):En->Res Ev:=fun en=>(fe en).bind fun x=>(fl en).bind fun l=>(fh en).bind fun u=>match iS x.c with
 | some ds=>.ok (.f (.list (cutD ds l u)))
 | none=>.bad
theorem aOu {e:Expr} {lo hi:Option Expr} {fe:En->Res Ev} {fl fh:En->Res (Option Int)} {p2 pos:Pos} (he:DE X E e fe) (hl:DP X E lo fl) (hu:DP X E hi fh):DE X E (.Subscript e (.Slice lo hi none p2) pos) (mSl fe fl fh):=by
 obtain ⟨t,p,m⟩:=he.out
 refine DE.in ⟨_,aFh aI9 p hl hu,fun B G0 G W H σ en Q hh hs hw=>?_⟩
 unfold mSl at hw
 refine m B G0 G W H σ en _ hh hs (DE.go hw fun x G1 H1 v s1 e1 h1=>?_)
 refine ⟨B,G0,G1,W,en,hh.step s1,hs.step s1,?_⟩
 rw [b6] at h1
 refine bF h1 (fun l hx G2 H2 s2=>?_) fun C h=>h
 refine ⟨B,G0,G2,W,en,(hh.step s1).step s2,(hs.step s1).step s2,?_⟩
 have hx':=bF hx (fun r h=>h.step s2) (fun C h=>h.step s2)
 rw [b6] at hx'
 refine bF hx' (fun u hy G3 H3 s3=>?_) fun C h=>h
 cases ex:iS x.c with
 | none=>rw [ex] at hy;exact hy.elim
 | some ds =>
  rw [ex] at hy
  obtain ⟨a,xs,rfl,rd,rp⟩:=qN (Hs:=H) s3.gh (e1.step (s2.trans s3)) ex
  exact ⟨a,xs,rfl,.inl rd,fun p hp=>hy _ _ _ (s3.trans (Step.lay s3.gh hp)) ⟨p,_,rfl,s3.h.free hp,s3.gh.free hp,bR,.lst (rp.cut l u)⟩⟩
def aPl (i j:Nat) (fr:En->Res (List Ev)):MS:=fun en=>match fr en with
 | .ok rs=>match rs with
  | [.p d,.p e]=>some (.nx ((en.set i (some (.p d))).set j (some (.p e))))
  | _=>none
 | .exc C=>some (.ex C en)
 | .bad=>none
theorem aNk {i j:Nat} {x y:Str} {a b:Expr} {fr:En->Res (List Ev)} {px py pt pos:Pos} {kt k2 pt2} (hc:X.calm=true) (hN:X.N.Nodup) (hi:X.N[i]? = some x) (hj:X.N[j]? = some y) (hij:i≠j)
  (hx:X.env.scope.names.lookup x=some .local) (hy:X.env.scope.names.lookup y=some .local) (ha:DA X E [a,b] fr)
  (hw:swappedStores [.Tuple [.Name x px,.Name y py] kt pt] (.Tuple [a,b] k2 pt2) X.env=pure (some [x,y]):=by rfl)
  (hs:swapsWithSole [.Tuple [.Name x px,.Name y py] kt pt] (.Tuple [a,b] k2 pt2) pos.line X.env=pure false:=by rfl) :
  DS X E (.Assign [.Tuple [.Name x px,.Name y py] kt pt] (.Tuple [a,b] k2 pt2) pos) (aPl i j fr):=by
 obtain ⟨t,p,m⟩:=ha.out
 refine DS.in ⟨_,aMf hc hN hi hj hij hx hy p hw hs,fun B G0 G W H σ en Dn hh hs hw=>m B G0 G W H σ en _ hh hs ?_⟩
 unfold aPl at hw
 cases ef:fr en with
 | bad=>rw [ef] at hw;exact hw
 | exc C=>rw [ef] at hw;exact fun G1 H1 s=>hw G1 W H1 σ (hh.step s) (hs.step s)
 | ok rs =>
  rw [ef] at hw
  dsimp only at hw
  split at hw
  ·rename_i d e
   intro G1 H1 vs s ev
   match vs,ev with
   | [v,w],⟨e1,e2,_⟩=>exact ⟨v,w,rfl,hw G1 W H1 _ (hh.step s) (((hs.step s).set (i:=i) (l:=.p d) e1).set (i:=j) (l:=.p e) e2)⟩
  ·exact hw.elim
end
end M
namespace L2
open PySem PySem.Spec PyProof.Rows
def Itz (K:PySem.W.Frag) (a b:Addr):It :=
 ⟨fun i H=>∃ xs ys x y,SqL K H a xs/\xs[i]? = some x/\SqL K H b ys/\ys[i]? = some y,
   fun i H v H'=>∃ p x y,H p=none/\v=.ref p/\(∀ xs,SqL K H a xs->xs[i]? = some x)/\(∀ ys,SqL K H b ys->ys[i]? = some y)/\H'=upd H p (.tup [x,y]),
   fun i H=>∃ xs ys,SqL K H a xs/\SqL K H b ys/\(xs.length<=i\/ys.length<=i)⟩
theorem aFp {P:Program} {w:World} {K:PySem.W.Frag} {elts:List Expr} {x1} {tp:Pos} {l1 l2 z TI TO i1 i2:Addr} (D:ZipApart z TI TO i1 i2 l1 l2):Turn P w K (.Tuple elts x1 tp) (Itz K l1 l2) [z,TI,TO,i1,i2] z
  (fun i h=>IsZip h z TI TO Value.none/\IsPair h TI (.ref i1) (.ref i2)/\(∃ a b,IsPair h TO a b)/\h.IsListIter i1 l1 i/\h.IsListIter i2 l2 i) where
 mem:=by simp
 obj:=fun i h st b hb=>by
  obtain ⟨s1,s2,⟨_,_,s3⟩,⟨o4,q4,_,d4⟩,⟨o5,q5,_,d5⟩⟩:=st
  simp only [List.mem_cons,List.not_mem_nil,or_false] at hb
  rcases hb with rfl | rfl | rfl | rfl | rfl
  ·exact ⟨_,s1,fun v z=>nomatch z⟩
  ·exact ⟨_,s2,fun v z=>nomatch z⟩
  ·exact ⟨_,s3,fun v z=>nomatch z⟩
  ·exact ⟨o4,q4,fun v z=>by rw [d4] at z;cases z⟩
  ·exact ⟨o5,q5,fun v z=>by rw [d5] at z;cases z⟩
 keep:=fun i h h' st k=>by
  obtain ⟨s1,s2,⟨a,b,s3⟩,s4,s5⟩:=st
  exact ⟨k _ (by simp) _ s1,k _ (by simp) _ s2,⟨a,b,k _ (by simp) _ s3⟩,s4.at fun o q=>k _ (by simp) o q,s5.at fun o q=>k _ (by simp) o q⟩
 item:=by
  intro X hP hw hK hc i pins s σ H E I hf st hg
  subst hP hw hK
  obtain ⟨s1,s2,⟨a0,b0,s3⟩,s4,s5⟩:=st
  obtain ⟨xs,ys,x,y,hq,hx,hq2,hy⟩:=hg
  obtain ⟨its,rv,p,hz⟩:=I.list hq
  obtain ⟨its2,rv2,p2,hz2⟩:=I.list hq2
  obtain ⟨u,hu,ru⟩:=rv.get hx
  obtain ⟨u2,hu2,ru2⟩:=rv2.get hy
  have hfz:=hf z (by simp)
  have hfT:=hf TO (by simp)
  have hf1:=hf i1 (by simp)
  have hf2:=hf i2 (by simp)
  refine wpAny_pyNext_zip_item D s1 s2 s3 s4 s5 p.isList p2.isList (x:=u) (y:=u2) (by simpa using hu) (by simpa using hu2) fun h₁ z1 to1 it1 it2 tt1 hz₁ hk₁=>?_
  refine ⟨_,rfl,wpAny_letOwnedTupleGo_zip z1 fun h₂ z2 hs₂=>?_⟩
  have hs₂:Heap.SameBut z h₁ h₂:=hs₂
  have hn:H s.heap.objs.size=none:=I.fresh
  have nn:∀ b o,H b=some o->b≠s.heap.objs.size:=fun b o q=>cU q hn
  have eE:z < s.heap.objs.size:=Heap.lt_size s1
  have keep:∀ b o,b∉[z,TO,i1,i2]->s.heap.get? b=some o->h₂.get? b=some o:=fun b o hb q=>by
   simp only [List.mem_cons,List.not_mem_nil,or_false,not_or] at hb
   exact (hs₂.2 b hb.1).trans (hk₁ b o hb.1 hb.2.1 hb.2.2.1 hb.2.2.2 q)
  have trk:∀ b o,H b=some o->b∉[z,TO,i1,i2]:=fun b o q hb=>by
   have hm:b∈[z,TI,TO,i1,i2]:=by
    simp only [List.mem_cons,List.not_mem_nil,or_false] at hb ⊢
    rcases hb with h | h | h | h<;>simp [h]
   rw [(hf b hm).1] at q;cases q
  refine ⟨.ref s.heap.objs.size,upd H s.heap.objs.size (.tup [x,y]),?_,rfl,⟨_,x,y,hn,rfl,fun zs hz'=>by rw [I.list_inj hz' hq];exact hx,fun zs hz'=>by rw [I.list_inj hz' hq2];exact hy,rfl⟩,⟨z2,keep _ _ ?_ s2,⟨_,_,(hs₂.2 _ D.TOz).trans to1⟩,it1.at fun o q=>(hs₂.2 _ D.i1z).trans q,it2.at fun o q=>(hs₂.2 _ D.i2z).trans q⟩,fun b hb=>?_⟩
  ·refine Inv.step (X:=X) (pins:=pins) (σ:=σ) (H:=H) (s:=s) (H':=upd H s.heap.objs.size (.tup [x,y])) (h':=h₂) (g':=s.gens) (d':=s.drawn) (t':=s.toks) (ch:=[z,TO,i1,i2]) I (fun b hb=>?_) (fun b o _ _ hb q _=>keep b o hb q) (fun b o _ _ hb q _=>⟨o.slots,keep b o hb q⟩) (fun b o _ q n=>?_) (fun b o hb q=>⟨o,keep b o hb q⟩)
    (fun b ys q=>?_) (fun b o v q=>?_) (fun b ps q=>⟨#[],?_⟩) (fun m hm=>?_) (fun b v q=>?_) I.bare
   ·have hm:b∈[z,TI,TO,i1,i2]:=by
     simp only [List.mem_cons,List.not_mem_nil,or_false] at hb ⊢
     rcases hb with h | h | h | h<;>simp [h]
    obtain ⟨f0,f1,f2,f3,f4,f5⟩:=hf b hm
    exact ⟨f3,f1,f4,f5⟩
   ·rw [a9 (Nat.ne_of_lt (Heap.lt_size q))];exact n
   ·rw [a9 (nn b _ q)];exact q
   ·rw [a9 (nn b _ q)];exact q
   ·rw [a9 (nn b _ q),q];simp
   ·obtain ⟨o,es,ep,ho,r⟩:=hm
    refine ⟨o,es,ep,keep _ o (fun zz=>?_) ho,r⟩
    simp only [List.mem_cons,List.not_mem_nil,or_false] at zz
    rcases zz with h | h | h | h
    ·exact hfz.2.1 h.symm
    ·exact hfT.2.1 h.symm
    ·exact hf1.2.1 h.symm
    ·exact hf2.2.1 h.symm
   ·by_cases hb:b=s.heap.objs.size
    ·subst hb
     rw [bR] at q
     cases q
     refine ⟨by show 2<=sizeLine;decide,[u,u2],.cons ru (.cons ru2 .nil),_,(hs₂.2 _ (Nat.ne_of_gt eE)).trans tt1,rfl,_,rfl⟩
    ·rw [a9 hb] at q
     refine (I.hok b v q).stay (fun c w' hc q'=>keep c w' ?_ q') (fun c q'=>?_) fun c ys q'=>?_
     ·rcases hc with zz | zz
      ·rw [zz];exact trk b v q
      ·exact trk c _ zz
     ·rw [a9 (nn c _ q')];exact q'
     ·rw [a9 (nn c _ q')];exact q'
  ·simp only [List.mem_cons,List.not_mem_nil,or_false,not_or]
   exact ⟨D.TIz,D.TITO,D.TIi1,D.TIi2⟩
  ·have hb':=(hf b hb).1
   have:b≠s.heap.objs.size:=by
    simp only [List.mem_cons,List.not_mem_nil,or_false] at hb
    obtain ⟨o4,q4,_⟩:=id s4
    obtain ⟨o5,q5,_⟩:=id s5
    rcases hb with h | h | h | h | h<;>rw [h]
    ·exact Nat.ne_of_lt eE
    ·exact Nat.ne_of_lt (Heap.lt_size s2)
    ·exact Nat.ne_of_lt (Heap.lt_size s3)
    ·exact Nat.ne_of_lt (Heap.lt_size q4)
    ·exact Nat.ne_of_lt (Heap.lt_size q5)
   rw [a9 this];exact hb'
 done:=by
  intro X hP hw hK hc i pins s σ H E I hf st hg
  subst hP hw hK
  obtain ⟨s1,s2,⟨a0,b0,s3⟩,s4,s5⟩:=st
  obtain ⟨xs,ys,hq,hq2,hx⟩:=hg
  obtain ⟨its,rv,p,hz⟩:=I.list hq
  obtain ⟨its2,rv2,p2,hz2⟩:=I.list hq2
  have hl:=rv.length
  have hl2:=rv2.length
  refine wpAny_pyNext_zip_end (I.ok.hd hc) D s1 s2 s3 s4 s5 p.isList p2.isList (hx.imp (fun h=>by simp;omega) fun h=>by simp;omega) fun h' hk=>⟨rfl,?_⟩
  have keep:∀ b o,b∉[z,TO,i1,i2]->s.heap.get? b=some o->h'.get? b=some o:=fun b o hb q=>by
   simp only [List.mem_cons,List.not_mem_nil,or_false,not_or] at hb
   exact hk b o hb.1 hb.2.1 hb.2.2.1 hb.2.2.2 q
  have hin:∀ b,b∈[z,TO,i1,i2]->b∈[z,TI,TO,i1,i2]:=fun b hb=>by
   simp only [List.mem_cons,List.not_mem_nil,or_false] at hb ⊢
   rcases hb with h | h | h | h<;>simp [h]
  have trk:∀ b o,H b=some o->b∉[z,TO,i1,i2]:=fun b o q hb=>by rw [(hf b (hin b hb)).1] at q;cases q
  refine Inv.step (X:=X) (pins:=pins) (σ:=σ) (H:=H) (s:=s) (H':=H) (h':=h') (g':=s.gens) (d':=s.drawn) (t':=s.toks) (ch:=[z,TO,i1,i2]) I (fun b hb=>?_) (fun b o _ _ hb q _=>keep b o hb q) (fun b o _ _ hb q _=>⟨o.slots,keep b o hb q⟩) (fun b o _ q n=>n) (fun b o hb q=>⟨o,keep b o hb q⟩)
   (fun _ _ q=>q) (fun _ _ _ q=>q) (fun b ps q=>⟨#[],by rw [q];simp⟩) (fun m hm=>?_) (fun b v q=>?_) I.bare
  ·obtain ⟨f0,f1,f2,f3,f4,f5⟩:=hf b (hin b hb)
   exact ⟨f3,f1,f4,f5⟩
  ·obtain ⟨o,es,ep,ho,r⟩:=hm
   exact ⟨o,es,ep,keep _ o (fun zz=>(hf _ (hin _ zz)).2.1 rfl) ho,r⟩
  ·refine (I.hok b v q).stay (fun c w' hc q'=>keep c w' ?_ q') (fun _ q'=>q') fun _ _ q'=>q'
   rcases hc with zz | zz
   ·rw [zz];exact trk b v q
   ·exact trk c _ zz
 self:=fun _ _ _ _ _ st h=>wpAny_pyIter_zip st.1 h
section
variable {X:Cx}
def aSd (K:PySem.W.Frag) (ta:TA):TI:=fun σ H R=>ta σ H fun vs H1=>∃ a b xs ys,vs=[.ref a,.ref b]/\Rd H1 a (.lst xs)/\Rd H1 b (.lst ys)/\R (Itz K a b) H1
theorem aJu:bootBuiltins "zip" = some (.type "zip"):=by decide +kernel
theorem aL5 {a b:Expr} {ta:TA} {p pos tp:Pos} {elts:List Expr} {x1} (hg:Gl X "zip") (hm:X.mg "zip" = none) (ha:PA X [a,b] ta) (hs:starEach [a,b] X.env=[(false,eval a X.env),(false,eval b X.env)]:=by rfl) (hs2:starEach [b] X.env=[(false,eval b X.env)]:=by rfl):PI X (.Tuple elts x1 tp) (.Call (.Name "zip" p) [a,b] [] pos) (aSd X.K ta):=by
 intro pins s σ H R I h
 refine Call_ (oZ I hg hm aJu (PyProof.Rows.callWith_type1 (thn (ha pos pins s σ H _ I h) fun us s1 ⟨vs,H1,I1,r1,q1⟩=>?_) (by rw [hs,hs2]) (by rw [hs2];rfl)))
 obtain ⟨a,b,xs,ys,rfl,hr,hr2,q⟩:=q1
 obtain ⟨u,u2,rfl,ru,ru2⟩:=vals2 r1
 cases (show u=Value.ref a from ru)
 cases (show u2=Value.ref b from ru2)
 obtain ⟨_,its,n,rv,ho⟩:=hr.ok I1.hok
 obtain ⟨_,its2,n2,rv2,ho2⟩:=hr2.ok I1.hok
 refine call_zip_2 ⟨_,ho,rfl,_,rfl⟩ ⟨_,ho2,rfl,_,rfl⟩ fun h' he hp1 hp2 hit hit2 hz hk=>?_
 refine wpAny_pyIter_zip (s:={ s1 with heap:=h' }) he ?_
 refine ⟨s1.heap.objs.size+4,[s1.heap.objs.size+4,s1.heap.objs.size+2,s1.heap.objs.size+3,s1.heap.objs.size,s1.heap.objs.size+1],_,_,H1,rfl,I1.kept (t':=s1.toks) hk,aFp (zipApart_new (Heap.lt_size ho) (Heap.lt_size ho2)),⟨he,hp1,⟨_,_,hp2⟩,hit,hit2⟩,fun b hb=>?_,q⟩
 have hle:s1.heap.objs.size<=b:=by
  simp only [List.mem_cons,List.not_mem_nil,or_false] at hb
  rcases hb with h | h | h | h | h<;>rw [h]
  ·exact Nat.le_add_right _ _
  ·exact Nat.le_add_right _ _
  ·exact Nat.le_add_right _ _
  ·exact Nat.le_refl _
  ·exact Nat.le_add_right _ _
 exact I1.fpOk hle (I1.hok.fresh hle)
end
end L2
namespace M
open PySem PySem.Spec PyProof.Rows L2
def vI:List D->List D->List D
 | x :: xs,y :: ys=>.tuple [x,y] :: vI xs ys
 | _,_=>[]
theorem yW:∀ (xs ys:List D) (i:Nat),(vI xs ys)[i]? = match xs[i]?,ys[i]? with
  | some x,some y=>some (.tuple [x,y])
  | _,_=>none
 | [],_,i=>by simp [vI]
 | _ :: _,[],i=>by cases i<;>simp [vI]
 | x :: xs,y :: ys,0=>by simp [vI]
 | x :: xs,y :: ys,i+1=>by
  unfold vI
  rw [List.getElem?_cons_succ,List.getElem?_cons_succ,List.getElem?_cons_succ,yW xs ys i]
theorem x3:∀ (xs ys:List D),xs.length<=(vI xs ys).length\/ys.length<=(vI xs ys).length
 | [],_=>.inl (Nat.zero_le _)
 | _ :: _,[]=>.inr (Nat.zero_le _)
 | x :: xs,y :: ys=>by
  unfold vI
  rcases x3 xs ys with h | h
  ·exact .inl (Nat.succ_le_succ h)
  ·exact .inr (Nat.succ_le_succ h)
def zL (rs:List Ev):Res (List D):=match rs with
 | [.p (.list xs),.p (.list ys)]=>.ok (vI xs ys)
 | _=>.bad
theorem aD8 {X:Cx} {E:L2.St->XK} {a b:Expr} {fr:En->Res (List Ev)} {p pos tp:Pos} {elts:List Expr} {x1} (hg:Gl X "zip") (hm:X.mg "zip" = none) (ha:DA X E [a,b] fr) (hs:starEach [a,b] X.env=[(false,eval a X.env),(false,eval b X.env)]:=by rfl) (hs2:starEach [b] X.env=[(false,eval b X.env)]:=by rfl) :
  DI X E (.Tuple elts x1 tp) (.Call (.Name "zip" p) [a,b] [] pos) (lS zL fr):=by
 obtain ⟨t,q,m⟩:=ha.out
 refine DI.in ⟨_,aL5 hg hm q hs hs2,fun B G0 G W H σ en R hh hs hw=>m B G0 G W H σ en _ hh hs ?_⟩
 have hw:wpR ((fr en).bind _) _ _:=hw
 rw [b6] at hw
 refine bF hw (fun rs hr G1 H1 vs s e=>?_) fun C h=>h
 unfold zL at hr
 split at hr
 ·rename_i ds es
  match vs,e with
  | [v,v2],⟨e1,e2,_⟩ =>
   cases e1 with
   | @lst a xs _ h1 h2 =>
    cases e2 with
    | @lst b ys _ g1 g2 =>
     refine ⟨a,b,xs,ys,rfl,eY s.gh h1,eY s.gh g1,hr G1 H1 _ s fun G3 H3 k1 k2=>⟨fun i d ed=>?_,?_⟩⟩
     ·rw [yW] at ed
      cases ex0:ds[i]? with
      | none=>rw [ex0] at ed;cases ed
      | some d1 =>
       cases ey0:es[i]? with
       | none=>rw [ex0,ey0] at ed;cases ed
       | some d2 =>
        rw [ex0,ey0] at ed
        cases ed
        obtain ⟨x,ex,rx⟩:=h2.get' ex0
        obtain ⟨y,ey,ry⟩:=g2.get' ey0
        have sq:SqL X.K H3 a xs:=.inl (eY (k1.trans k2) h1)
        have sq2:SqL X.K H3 b ys:=.inl (eY (k1.trans k2) g1)
        refine ⟨⟨xs,ys,x,y,sq,ex,sq2,ey⟩,fun v H' hy=>?_⟩
        obtain ⟨p,x',y',hp,rfl,hx',hy',rfl⟩:=hy
        have e1:=hx' xs sq
        have e2:=hy' ys sq2
        rw [ex] at e1
        rw [ey] at e2
        cases e1
        cases e2
        have st:=Step.put (o:=.tup [x,y]) k2 hp
        exact ⟨_,st,.tup bR (.cons (rx.mono (k1.trans st.g)) (.cons (ry.mono (k1.trans st.g)) .nil))⟩
     ·refine ⟨xs,ys,.inl (eY (k1.trans k2) h1),.inl (eY (k1.trans k2) g1),?_⟩
      rw [h2.length,g2.length]
      exact x3 ds es
 ·exact hr.elim
end M
namespace L2
open PySem PySem.Spec PyProof.Rows
theorem zS {prog:Program} {w:World} {A:Around} {E:Value->Shared->Prop} {s:Shared} {nm:String} {a b:Addr} {oa ob:Obj} {ea:Array DictEntry} {pa pb:Nat} {Q:Bool->Shared->Prop}
  (ma:(a == sysModules)=false) (mb:(b == sysModules)=false) (ha:s.heap.get? a=some oa) (da:oa.data=.dict ea pa) (hb:s.heap.get? b=some ob) (db:ob.data=.dict #[] pb) (q:Q (ea.size == 0) s) :
  wpAny (model prog w) A (Builtin.Dict.samePairs nm a b) Q E s:=by
 unfold Builtin.Dict.samePairs
 refine wpAny_bind ?_
 unfold Builtin.Dict.showsAll
 rw [ma]
 refine wpAny_pure ?_
 refine wpAny_bind ?_
 rw [mb]
 refine wpAny_pure ?_
 refine wpAny_bind (wpAny_dictEntries ha da ?_)
 dsimp only
 refine wpAny_bind (wpAny_dictEntries hb db ?_)
 by_cases h0:ea.size=0
 ·rw [h0]
  rw [h0] at q
  refine wpAny_bind (wpAny_dictEpoch ha da ?_)
  refine wpAny_bind ?_
  rw [Std.Legacy.Range.forIn_eq_forIn_range']
  simp only [Std.Legacy.Range.size]
  refine wpAny_pure ?_
  exact wpAny_pure q
 ·have:(ea.size != (#[]:Array DictEntry).size)=true:=by simp [h0]
  rw [if_pos this]
  refine wpAny_bind (wpAny_rule ?_)
  refine wpAny_pure ?_
  have e:(ea.size == 0)=false:=by simp [h0]
  rw [e] at q
  exact q
theorem aB6 (a b:Addr):Builtin.«dict.__eq__» ⟨[.ref a,.ref b],[]⟩=(do
   let x <- Builtin.Dict.dictSlotArgs "__eq__" ⟨[.ref a,.ref b],[]⟩
   match x with
   | (self,other)=>do
    let i <- PySem.isInstance other (Value.type "dict")
    if (!i)=true then do
     rule (toString "dict."++toString "__eq__"++toString ".not-a-dict")
     ret Value.notImplemented
    else do
     let p <- Builtin.Dict.addrOf self
     let q <- Builtin.Dict.addrOf other
     let r <- Builtin.Dict.samePairs (toString "dict."++toString "__eq__") p q
     ret (Value.bool (r == true))):=by
 unfold Builtin.«dict.__eq__»
 rfl
theorem aA4 {prog:Program} {w:World} {A:Around} {E:Value->Shared->Prop} {s:Shared} {a b:Addr} {oa ob:Obj} {Q:Value->Shared->Prop}
  (ha:s.heap.get? a=some oa) (xa:oa.ExactDict) (hb:s.heap.get? b=some ob) (xb:ob.ExactDict)
  (hu:A.units < cLine) (q:wpAny (model prog w) A.in1 (Builtin.«dict.__eq__» ⟨[.ref a,.ref b],[]⟩) (fun fin s'=>∃ v,fin=Fin.done (Flow.ret v)/\v≠Value.notImplemented/\Q v s') E s):wpAny (model prog w) A (compareOp .Eq (.ref a) (.ref b)) Q E s:=by
 have t1:s.TypeIs (.ref a) "dict":=⟨oa,ha,xa.1⟩
 have t2:s.TypeIs (.ref b) "dict":=⟨ob,hb,xb.1⟩
 show wpAny (model prog w) A (richCompare .Eq (.ref a) (.ref b)) Q E s
 refine wpAny_richCompare_same_room (op:=.Eq) t1 t2 F.slot_dict_eq ?_ hu
 exact wpAny_call_entry F.slot_dict_eq t1 F.entry_dict_eq q (F.args_dict_eq_2 _ _)
theorem zT {prog:Program} {w:World} {A:Around} {E:Value->Shared->Prop} {s:Shared} {a b:Addr} {n:Nat} {Q:Fin->Shared->Prop} (t1:s.TypeIs (.ref a) "dict") (t2:s.TypeIs (.ref b) "dict")
 (hs:∀ {R:Bool->Shared->Prop},R (n == 0) s->wpAny (model prog w) A (Builtin.Dict.samePairs (toString "dict."++toString "__eq__") a b) R E s) (q:Q (Fin.done (Flow.ret (.bool ((n == 0) == true)))) s):wpAny (model prog w) A (do
   let x <- Builtin.Dict.dictSlotArgs "__eq__" ⟨[.ref a,.ref b],[]⟩
   match x with
   | (self,other)=>do
    let i <- PySem.isInstance other (Value.type "dict")
    if (!i)=true then do
     rule (toString "dict."++toString "__eq__"++toString ".not-a-dict")
     ret Value.notImplemented
    else do
     let p <- Builtin.Dict.addrOf self
     let q <- Builtin.Dict.addrOf other
     let r <- Builtin.Dict.samePairs (toString "dict."++toString "__eq__") p q
     ret (Value.bool (r == true))) Q E s:=by
 refine wpAny_bind ?_
 unfold Builtin.Dict.dictSlotArgs
 refine wpAny_bind (wpAny_notOrdered_dict t1 (wpAny_bind ?_))
 unfold slotArgs
 dsimp only
 rw [if_neg (by decide),if_neg (by simp)]
 refine wpAny_pure ?_
 dsimp only
 refine wpAny_pure ?_
 dsimp only
 refine wpAny_bind (wpAny_isInstance t2 F.sub_dict_dict ?_)
 rw [if_neg (by decide)]
 refine wpAny_bind ?_
 unfold Builtin.Dict.addrOf
 dsimp only
 refine wpAny_pure ?_
 refine wpAny_bind (wpAny_pure ?_)
 refine wpAny_bind (hs ?_)
 exact wpAny_pure q
theorem eq_empty {prog:Program} {w:World} {A:Around} {E:Value->Shared->Prop} {s:Shared} {a b:Addr} {oa ob:Obj} {ea:Array DictEntry} {pa pb:Nat} {Q:Value->Shared->Prop}
  (ma:(a == sysModules)=false) (mb:(b == sysModules)=false) (ha:s.heap.get? a=some oa) (xa:oa.ExactDict) (da:oa.data=.dict ea pa) (hb:s.heap.get? b=some ob) (xb:ob.ExactDict) (db:ob.data=.dict #[] pb)
  (hu:A.units < cLine) (q:Q (.bool (ea.size == 0)) s):wpAny (model prog w) A (compareOp .Eq (.ref a) (.ref b)) Q E s:=by
 refine aA4 ha xa hb xb hu ?_
 rw [aB6]
 refine zT ⟨oa,ha,xa.1⟩ ⟨ob,hb,xb.1⟩ (n:=ea.size) (fun q=>zS ma mb ha da hb db q) ⟨_,rfl,(fun z=>nomatch z),?_⟩
 have:(((ea.size == 0) == true))=(ea.size == 0):=by cases (ea.size == 0)<;>rfl
 rw [this]
 exact q
section
variable {X:Cx}
def aRy:R2:=fun x y H Q=>∃ a b kv,x=.ref a/\y=.ref b/\H a=some (.dT kv)/\H b=some (.dT [])/\Q (.bl (kv.isEmpty)) H
theorem aNb (hu:X.A.units < cLine):OpR X (compareOp .Eq) aRy:=by
 intro pins s σ H x y v u Q I rx ry h
 obtain ⟨a,b,kv,rfl,rfl,ha,hb,q⟩:=h
 cases rx
 cases ry
 obtain ⟨_,ma,xs,r,oa,ea,pa,h1,h2,h3,h4,h5⟩:=(show ObjOk X.prog X.w H s.heap a (.dT kv) from I.hok a _ ha)
 obtain ⟨_,mb,ys,r2,ob,eb,pb,g1,g2,g3,g4,g5⟩:=(show ObjOk X.prog X.w H s.heap b (.dT []) from I.hok b _ hb)
 cases r2
 have eb0:eb=#[]:=by
  have:eb.toList=[]:=g4
  exact Array.toList_eq_nil_iff.mp this
 subst eb0
 refine eq_empty ma mb h1 h2 h3 g1 g2 g3 hu ⟨.bl kv.isEmpty,H,I,?_,q⟩
 have hl:ea.size=kv.length:=by
  have e1:ea.toList.length=xs.length:=by rw [h4,List.length_map]
  rw [Array.length_toList] at e1
  rw [e1]
  exact (Paired.length r).symm
 show Value.bool _=Value.bool _
 rw [hl]
 cases kv<;>rfl
end
end L2
namespace M
open PySem PySem.Spec PyProof.Rows L2
variable {K:PySem.W.Frag}
def aG2 (x y:Ev):Res Ev:=match mL x,y with
 | some kvs,.p (.dict [])=>if (dsp kvs).1=false then .ok (.p (.bool kvs.isEmpty)) else .bad
 | _,_=>.bad
theorem aKg:NoX aG2:=by
 intro x y A h
 unfold aG2 at h
 split at h
 ·split at h<;>cases h
 ·cases h
theorem aLr:OpM K aRy aG2:=by
 intro W G H v u x y Q gh hx hy hw
 unfold aG2 at hw
 split at hw
 ·rename_i kvs e1 e2
  split at hw
  ·rename_i hd
   obtain ⟨a,rfl,hh⟩:=zG gh hx e1
   rw [e2] at hy
   have hy:Rep K G u (.dict []):=hy
   rcases hh with ⟨kv,h1,h2⟩ | ⟨kv,r,rfl,h1,h2⟩
   ·cases hy with
    | @dT b kv2 _ g1 g2 =>
     cases g2
     refine ⟨a,b,kv,rfl,rfl,h1,gh _ _ g1,?_⟩
     have e:kv.isEmpty=kvs.isEmpty:=by cases h2<;>rfl
     rw [e]
     exact hw G H _ (Step.refl gh) (.bl _)
   ·cases hd
  ·exact hw.elim
 ·exact hw.elim
section
variable {X:Cx} {E:L2.St->XK} {e:Expr}
def lQ (i:Nat) (fe:En->Res Ev):MS:=fun en=>match en[i]? with
 | some (some (.o (.list ds)))=>match fe en with
  | .ok (.f (.list es))=>if ds.length+es.length<=100000 then some (.nx (en.set i (some (.o (.list (ds++es)))))) else none
  | .exc C=>some (.ex C en)
  | _=>none
 | _=>none
theorem tN {i:Nat} {fe:En->Res Ev} {st:Stmt} (he:DE X E e fe) (hp:∀ t,PE X e t->PS X st (aBw (tBM X.K "list" aA1 (aIm i) (aHa t aPn)))):DS X E st (lQ i fe):=by
 obtain ⟨t,q,mm⟩:=he.out
 refine DS.in ⟨_,hp t q,fun B G0 G W H σ en Dn hh hs hw=>?_⟩
 unfold lQ at hw
 split at hw
 ·rename_i ds ei
  obtain ⟨v,e1,a,o,rfl,e2,e3,e4⟩:=hs.2 i _ ei
  cases e4 with
  | @lst xs _ rp =>
  refine ⟨_,e1,.inl ⟨rfl,_,SqL.of e3⟩,mm B G0 G W H σ en _ hh hs ?_⟩
  cases ef:fe en with
  | bad=>rw [ef] at hw;exact hw
  | exc C=>rw [ef] at hw;exact fun G1 H1 s=>hw G1 W H1 σ (hh.step s) (hs.step s)
  | ok r =>
   rw [ef] at hw
   cases r with
   | p d=>exact hw.elim
   | b d=>exact hw.elim
   | x C=>exact hw.elim
   | f d =>
    cases d with
    | list es =>
     dsimp only at hw
     split at hw
     ·rename_i hl
      rintro G1 H1 y s ⟨b,ob,rfl,k1,k2,k3,k4⟩
      cases k4 with
      | @lst zs _ rz =>
      have hx:=s.h _ _ e3
      refine ⟨a,b,xs,zs,rfl,rfl,hx,k3,Nat.le_trans (by rw [rp.length,rz.length];exact hl) (by decide),?_⟩
      obtain ⟨w1,w2⟩:=nQ (o':=.lst (xs++zs)) (d':=.list (ds++es)) (hh.step s) (hs.step s) e2 e1 (.lst ((rp.mono s.g).append rz))
      exact hw _ _ _ _ w1 w2
     ·exact hw.elim
    | _=>exact hw.elim
 ·exact hw.elim
end
section
variable {X:Cx} {K:PySem.W.Frag}
def aRg (K:PySem.W.Frag) (ng:Bool):R2:=fun x y H Q=>∃ d ds,Rep K H x d/\Rep K H y (.list ds)/\SeqAt.shaped d=true/\SeqAt.shaped (.list ds)=true/\(∀ z∈ds,SeqAt.noMix z d=true)/\Q (.bl (if ng then !decide (countIn d ds≠0) else decide (countIn d ds≠0))) H
theorem aMq {K:PySem.W.Frag} (hu:X.A.units+65 < cLine):OpR X (compareOp .In) (aRg K false):=by
 intro pins s σ H x y v u Q I rx ry h
 obtain ⟨d,ds,h1,h2,o1,o2,hm,q⟩:=h
 obtain ⟨as,r1⟩:=h1.reads I.hok (Bool.and_eq_true_iff.mp o1).1 rx
 obtain ⟨bs,r2⟩:=h2.reads I.hok (Bool.and_eq_true_iff.mp o2).1 ry
 exact in_list_dataH r2 r1 o2 o1 hu hm ⟨.bl _,H,I,rfl,q⟩
theorem wV {K:PySem.W.Frag} (hu:X.A.units+65 < cLine):OpR X (compareOp .NotIn) (aRg K true):=by
 intro pins s σ H x y v u Q I rx ry h
 obtain ⟨d,ds,h1,h2,o1,o2,hm,q⟩:=h
 obtain ⟨as,r1⟩:=h1.reads I.hok (Bool.and_eq_true_iff.mp o1).1 rx
 obtain ⟨bs,r2⟩:=h2.reads I.hok (Bool.and_eq_true_iff.mp o2).1 ry
 exact notIn_list_dataH r2 r1 o2 o1 hu hm ⟨.bl _,H,I,rfl,q⟩
open Classical in
noncomputable def pT (ng:Bool) (x y:Ev):Res Ev:=match dat x,dat y with
 | some d,some (.list ds)=>if SeqAt.shaped d=true/\SeqAt.shaped (.list ds)=true/\∀ z∈ds,SeqAt.noMix z d=true then .ok (.p (.bool (if ng then !decide (countIn d ds≠0) else decide (countIn d ds≠0)))) else .bad
 | _,_=>.bad
theorem rL {ng:Bool}:NoX (pT ng):=by
 intro x y A h
 unfold pT at h
 split at h
 ·split at h<;>cases h
 ·cases h
theorem zJ {ng:Bool}:OpM K (aRg K ng) (pT ng):=by
 intro W G H v u x y Q gh hx hy hw
 unfold pT at hw
 split at hw
 ·rename_i d ds e1 e2
  split at hw
  ·rename_i hs
   exact ⟨d,ds,hx.read gh e1,hy.read gh e2,hs.1,hs.2.1,hs.2.2,hw G H _ (Step.refl gh) (.bl _)⟩
  ·exact hw.elim
 ·exact hw.elim
end
theorem u65 {k:Nat} {A:Around} (hr:Room k A):A.units+65 < cLine:=by have:=hr.un;omega
end M
namespace L2
open PySem PySem.Spec PyProof.Rows
section
variable {X:Cx}
theorem mG:∀ {is:List Int} {us:List Value},Vals (is.map V.int) us->∃ ts:List (Int×Tok),us=ts.map (fun p=>Value.int p.1 p.2)/\ts.map (·.1)=is
 | [],_,.nil=>⟨[],rfl,rfl⟩
 | i :: is,_,.cons r t=>by
  obtain ⟨tk,e⟩:=r
  obtain ⟨ts,e1,e2⟩:=mG t
  refine ⟨(i,tk) :: ts,?_,?_⟩
  ·rw [e,e1];rfl
  ·rw [List.map_cons,e2]
end
end L2
namespace M
open PySem PySem.Spec PyProof.Rows L2
variable {K:PySem.W.Frag}
def intsOf:List D->Option (List Int)
 | []=>some []
 | .int b :: ds=>match intsOf ds with
  | some bs=>some (b :: bs)
  | none=>none
 | _=>none
theorem kR:∀ is:List Int,intsOf (is.map .int)=some is
 | []=>rfl
 | i :: is=>by
  show (match intsOf (is.map .int) with | some bs=>some (i :: bs) | none=>none)=_
  rw [kR is]
theorem n9 {G:Hp}:∀ {ds:List D} {bs:List Int} {xs:List V},intsOf ds=some bs->Reps K G xs ds->xs=bs.map V.int
 | [],_,_,h,.nil=>by cases h;rfl
 | d :: ds,bs,_,h,.cons r t=>by
  cases d with
  | int b =>
   unfold intsOf at h
   cases e:intsOf ds with
   | none=>rw [e] at h;cases h
   | some bs' =>
    rw [e] at h
    cases h
    cases r
    rw [n9 e t]
    rfl
  | _=>cases h
end M
namespace L2
open PySem PySem.Spec PyProof.Rows
section
variable {X:Cx}
def aRv (K:PySem.W.Frag):List V->Hp->VK->Prop:=fun xs H Q=>∃ (a:Addr) (is:List Int),xs=[.ref a]/\SqL K H a (is.map V.int)/\Q (.int is.sum) H
theorem aAm (f:Nat->Int):∀ (is:List Int),(∀ j,j < is.length->f j=(is[j]?).getD 0)->preSum f is.length=is.sum:=by
 have gen:∀ (n:Nat) (is:List Int),is.length=n->(∀ j,j < is.length->f j=(is[j]?).getD 0)->preSum f n=is.sum:=by
  intro n
  induction n with
  | zero =>
   intro is h _
   rw [List.length_eq_zero_iff.mp h]
   rfl
  | succ n ih =>
   intro is h hj
   have hne:is≠[]:=fun z=>by rw [z] at h;cases h
   have e:is=is.dropLast++[is.getLast hne]:=(List.dropLast_concat_getLast hne).symm
   have hl:is.dropLast.length=n:=by rw [List.length_dropLast];omega
   have h1:=ih is.dropLast hl fun j hj'=>by
    rw [hj j (by omega)]
    conv=>lhs;rw [e]
    rw [List.getElem?_append_left hj']
   show preSum f n+f n=is.sum
   rw [h1,hj n (by omega)]
   conv=>rhs;rw [e,List.sum_append]
   conv=>lhs;rw [e]
   rw [List.getElem?_append_right (by omega),hl]
   simp
 exact fun is hj=>gen _ is rfl hj
theorem u6 (hc:X.calm=true) {K:PySem.W.Frag} (hK:X.K=K):l5 X (.builtin "sum") (aRv K):=by
 subst hK
 intro pins s σ H xs us Q I r h
 obtain ⟨a,is,rfl,hq,q⟩:=h
 obtain ⟨u,rfl,ru⟩:=vals1 r
 cases ru
 obtain ⟨its,rv,p,hz⟩:=I.list hq
 obtain ⟨ts,e1,e2⟩:=mG rv
 have hl:s.heap.IsList a (intItems ts.toArray):=by
  have h:=p.isList
  rw [e1] at h
  simpa [intItems] using h
 have hn:ts.length=is.length:=by
  have:=congrArg List.length e2
  rw [List.length_map] at this
  exact this
 have num:∀ j,numAt ts.toArray j=(is[j]?).getD 0:=fun j=>by
  rw [<- e2]
  simp [numAt]
 refine sum_intListG (A:=X.A) (I.ok.hd hc) hl fun h' tk t' hk=>⟨.int is.sum,H,I.kept hk,?_,q⟩
 refine ⟨t',?_⟩
 rw [List.size_toArray,hn,aAm _ is fun j _=>num j]
end
end L2
namespace M
open PySem PySem.Spec PyProof.Rows L2
section
variable {K:PySem.W.Frag}
def aBl (rs:List Ev):Res Ev:=match rs with
 | [x]=>match iS x with
  | some ds=>match intsOf ds with
   | some is=>.ok (.p (.int is.sum))
   | none=>.bad
  | none=>.bad
 | _=>.bad
theorem aCs:aAq aBl:=by
 intro rs C h
 unfold aBl at h
 split at h
 ·split at h
  ·split at h<;>cases h
  ·cases h
 ·cases h
theorem aHj:nO K (aRv K) aBl:=by
 intro W Hs G H vs rs Q gh he hw
 unfold aBl at hw
 split at hw
 ·rename_i x
  match vs,he with
  | [v],⟨h1,_⟩ =>
   split at hw
   ·rename_i ds ed
    obtain ⟨a,xs,rfl,k1,k2⟩:=qN gh h1 ed
    split at hw
    ·rename_i is eb
     have:=n9 eb k2
     subst this
     exact ⟨a,is,rfl,.inl k1,hw G H _ (Step.refl gh) (.int _)⟩
    ·exact hw.elim
   ·exact hw.elim
 ·exact hw.elim
end
end M
namespace L2
open PySem PySem.Spec PyProof.Rows
section
variable {X:Cx}
end
end L2
namespace M
open PySem PySem.Spec PyProof.Rows L2
end M
namespace L2
open PySem PySem.Spec PyProof.Rows
section
variable {X:Cx}
def aEi (i:Int) (is:List Int):Int:=is.foldl (fun a b=>if b < a then b else a) i
def aO9 (K:PySem.W.Frag):List V->Hp->VK->Prop:=fun xs H Q=>∃ a i is,xs=[.ref a]/\SqL K H a ((i :: is).map V.int)/\Q (.int (aEi i is)) H
theorem nA (f:Nat->Int):∀ k,f (argBest (fun i j=>decide (f i < f j)) k)=aEi (f 0) ((List.range k).map fun j=>f (j+1))
 | 0=>rfl
 | k+1=>by
  have ih:=nA f k
  unfold aEi at ih ⊢
  rw [List.range_succ,List.map_append,List.foldl_append,<- ih]
  show f (if decide (f (k+1) < f (argBest (fun i j=>decide (f i < f j)) k))=true then k+1 else argBest (fun i j=>decide (f i < f j)) k)=if f (k+1) < f (argBest (fun i j=>decide (f i < f j)) k) then f (k+1) else f (argBest (fun i j=>decide (f i < f j)) k)
  by_cases h:f (k+1) < f (argBest (fun i j=>decide (f i < f j)) k)
  ·rw [if_pos h,if_pos (decide_eq_true h)]
  ·rw [if_neg h,if_neg (by simpa using h)]
theorem aCr (hc:X.calm=true) {K:PySem.W.Frag} (hK:X.K=K):l5 X (.builtin "min") (aO9 K):=by
 subst hK
 intro pins s σ H xs us Q I r h
 obtain ⟨a,i,is,rfl,hq,q⟩:=h
 obtain ⟨u,rfl,ru⟩:=vals1 r
 cases ru
 obtain ⟨its,rv,p,hz⟩:=I.list hq
 obtain ⟨ts,e1,e2⟩:=mG rv
 have hn:ts.length=is.length+1:=by
  have:=congrArg List.length e2
  rw [List.length_map,List.length_cons] at this
  exact this
 have hl:s.heap.IsList a (intItems ts.toArray):=by
  have h:=p.isList
  rw [e1] at h
  simpa [intItems] using h
 have num:∀ j,numAt ts.toArray j=((i :: is)[j]?).getD 0:=fun j=>by
  rw [<- e2]
  simp [numAt]
 refine min_intList (A:=X.A) (I.ok.hd hc) hl (by simp;omega) fun v h' tk hP hk=>⟨.int (aEi i is),H,I.kept hk,?_,q⟩
 obtain ⟨t,rfl⟩:=intItems_at hP
 refine ⟨t,?_⟩
 rw [nA (numAt ts.toArray)]
 have e0:numAt ts.toArray 0=i:=by rw [num];rfl
 have e3:((List.range (ts.toArray.size - 1)).map fun j=>numAt ts.toArray (j+1))=is:=by
  rw [List.size_toArray,hn,Nat.add_sub_cancel]
  apply List.ext_getElem
  ·simp
  ·intro j h1 h2
   simp [num,h2]
 rw [e0,e3]
end
end L2
namespace M
open PySem PySem.Spec PyProof.Rows L2
variable {K:PySem.W.Frag}
def aIo (rs:List Ev):Res Ev:=match rs with
 | [x]=>match iS x with
  | some ds=>match intsOf ds with
   | some (i :: is)=>.ok (.p (.int (aEi i is)))
   | _=>.bad
  | none=>.bad
 | _=>.bad
theorem aFj:aAq aIo:=by
 intro rs C h
 unfold aIo at h
 split at h
 ·split at h
  ·split at h<;>cases h
  ·cases h
 ·cases h
theorem aJj:nO K (aO9 K) aIo:=by
 intro W Hs G H vs rs Q gh he hw
 unfold aIo at hw
 split at hw
 ·rename_i x
  match vs,he with
  | [v],⟨h1,_⟩ =>
   split at hw
   ·rename_i ds ed
    obtain ⟨a,xs,rfl,k1,k2⟩:=qN gh h1 ed
    split at hw
    ·rename_i i is eb
     have:=n9 eb k2
     subst this
     exact ⟨a,i,is,rfl,.inl k1,hw G H _ (Step.refl gh) (.int _)⟩
    ·exact hw.elim
   ·exact hw.elim
 ·exact hw.elim
end M
namespace L2
open PySem PySem.Spec PyProof.Rows
section
variable {X:Cx}
def aDa (X:Cx):V->List V->Hp->VK->Prop:=fun x vs H Q=>∃ l xs,x=.ref l/\vs=[]/\Rd H l (.lst xs)/\(∀ o u,X.H₀ l≠some (.frz o u))/\Q .non (upd H l (.lst []))
theorem Inv.thaw {pins:List (Addr×Obj)} {σ:St} {H:Hp} {s:Shared} {l:Addr} {o:Obj} {xs:List V} (I:Inv X pins σ H s) (h:H l=some (.frz o (.lst xs))) (hn:∀ o u,X.H₀ l≠some (.frz o u)):Inv X pins σ (upd H l (.lst xs)) s:=by
 have n0:∀ b,H b=none->upd H l (.lst xs) b=none:=fun b e=>by
  rw [a9 (by rintro rfl;rw [h] at e;cases e)];exact e
 refine ⟨I.ok,I.os,I.bare,⟨I.base.keep,I.base.slot,fun b ob q n hx=>n0 b (I.base.free b ob q n hx),I.base.there,fun b ys q=>?_,fun b ob u q=>?_,fun b ps q=>?_⟩,I.loc,I.cell,n0 _ I.free,fun x c e=>n0 _ (I.freeC x c e),fun p hp=>?_,fun b u q=>?_,I.len⟩
 ·have e:=I.base.tups b ys q
  rw [a9 (by rintro rfl;rw [h] at e;cases e)];exact e
 ·have e:=I.base.frzs b ob u q
  rw [a9 (by rintro rfl;exact hn _ _ q)];exact e
 ·obtain ⟨more,e⟩:=I.base.tbls b ps q
  exact ⟨more,by rw [a9 (by rintro rfl;rw [h] at e;cases e)];exact e⟩
 ·obtain ⟨p1,p2,p3⟩:=I.pin p hp
  exact ⟨p1,n0 _ p2,p3⟩
 ·by_cases z:b=l
  ·subst z
   rw [bR] at q
   cases q
   exact (I.hok b _ h).2
  ·rw [a9 z] at q
   refine (I.hok b u q).stay (fun c v _ q=>q) (fun c q=>?_) fun c ys q=>?_
   ·rw [a9 (by rintro rfl;rw [h] at q;cases q)];exact q
   ·rw [a9 (by rintro rfl;rw [h] at q;cases q)];exact q
theorem aCk:MtM X "list.clear" (aDa X):=by
 intro pins s σ H x vs v us Q I rx rv h
 obtain ⟨l,xs,rfl,rfl,hr,hn,q⟩:=h
 rcases hr with hr | ⟨o,hr⟩
 ·exact xZ pins s σ H _ _ v us Q I rx rv ⟨l,xs,rfl,rfl,hr,q⟩
 ·exact xZ pins s σ _ _ _ v us Q (I.thaw hr hn) rx rv ⟨l,xs,rfl,rfl,bR,by rw [aKf];exact q⟩
end
end L2
namespace M
open PySem PySem.Spec PyProof.Rows L2
def aAw (k:Nat) (d:D) (en:En):En:=(List.replicate en.length none).set k (some (.p d))
section
variable {X:Cx} {E:L2.St->XK} {sts rest A:List Stmt} {st:Stmt} {fA g:MS} {fe:En->Res Ev} {fc:En->Res Bool} {e c:Expr} {pos pos2:Pos}
end
def aRs (xs es:List D):Prop:=xs.length≠es.length\/∃ a r b r',xs=.tuple a :: r/\es=.tuple b :: r'/\a.length≠b.length
def aRx (es:List D) (d:D):Prop:=∃ a xs,d=.tuple [a,.list xs]/\aRs xs es
structure aB9 (i:Nat) (fc:En->Res Bool) (en:En) (es rows:List D):Prop where
 e:lfA es=true
 u:∀ d∈rows,aRx es d
 l:rows.length<=100000
 c:fc (en.set i (some (.p (.list rows))))=.ok false
open Classical in
noncomputable def aC5 (i k r:Nat) (fe:En->Res Ev) (fc:En->Res Bool) (g:MS):MS:=fun en=>match en[k]? with
 | some (some (.p (.list es)))=>match fe (aAw k (.list es) en) with
  | .ok (.f (.list rows))=>if aB9 i fc en es rows then g ((en.set i none).set r none) else none
  | _=>none
 | _=>none
theorem aKv {i k r:Nat} {fe:En->Res Ev} {fc:En->Res Bool} {g:MS} {en:En} {es rows:List D} (h1:en[k]? = some (some (.p (.list es)))) (h2:fe (aAw k (.list es) en)=.ok (.f (.list rows))) (h3:aB9 i fc en es rows):aC5 i k r fe fc g en=g ((en.set i none).set r none):=by
 unfold aC5
 rw [h1]
 dsimp only
 rw [h2]
 exact if_pos h3
section
variable {X:Cx} {E:L2.St->XK} {rest A:List Stmt} {s1 s2:Stmt} {fA g:MS} {fe:En->Res Ev} {fc:En->Res Bool} {e c:Expr} {pos pos2 pos3:Pos}
theorem aGa {i k r:Nat} {x y:Str} {pos' p4 p5:Pos} (hik:i≠k) (hri:r≠i) (hN:X.N.Nodup) (hi:X.N[i]? = some x) (hx:Loc X.env.scope x) (hr:X.N[r]? = some y) (hy:Loc X.env.scope y) (he:DE X E e fe) (hc:DT X E c fc) (hA:DSs X E A fA)
  (hp:PassesOwn (model X.prog X.w) X.A X.env X.xe) (hcalm:X.calm=true) (hv:PE X (.Name x p5) (aIm i))
  (h1:PS X s1 (aBw (aRw X.K "list" (aDa X) (tOp (aPv X.K) (aIm r) (tC (.int 1)))))) (h2:PS X s2 (aBw (tBM X.K "list" vW (aIm i) (aHa (tC .non) aPn)))) (h4:DSs X E rest g)
  (hsw:swapsWith e (some (.Name x pos')) pos.line X.env=pure false:=by rfl) (hf:X.fn x=true\/X.env.scope.names.lookup x=some .local:=by first | exact .inl rfl | exact .inr rfl | assumption)
  (hfy:X.fn y=true\/X.env.scope.names.lookup y=some .local:=by first | exact .inl rfl | exact .inr rfl | assumption) (hs':∀ x',foldedSetIterable (.Name x p5) X.env x'=pure x':=by intro _;rfl) :
  DSs X E (.Assign [.Name x pos'] e pos :: .If c A [] pos2 :: .For (.Name y p4) (.Name x p5) [s1] [] pos3 :: s2 :: rest) (aC5 i k r fe fc g):=by
 obtain ⟨te,pe,me⟩:=he.out
 obtain ⟨tc,pc,mc⟩:=hc.out
 obtain ⟨tA,pA,_⟩:=hA.out
 obtain ⟨t4,p4',m4⟩:=h4.out
 rintro pins s σ H Dn I ⟨B,G0,G,W,en,hh,hs,hw⟩
 refine l6 (aIq hN hi hx pe hsw hf) (l6 (aMw pc pA aDt) (l6 (aH9 hp hcalm (aCn hv) (vP hN hr hy hfy) (aC7 h1) hs') (l6 h2 p4'))) pins s σ H Dn I ?_
 have iσ:i < σ.length:=by
  rw [I.len]
  exact (List.getElem?_eq_some_iff.mp hi).1
 have rσ:r < σ.length:=by
  rw [I.len]
  exact (List.getElem?_eq_some_iff.mp hr).1
 unfold aC5 at hw
 split at hw
 case h_2=>exact hw.elim
 rename_i es ek
 split at hw
 case h_2=>exact hw.elim
 rename_i rows ef
 by_cases ok:aB9 i fc en es rows
 case neg=>rw [if_neg ok] at hw;exact hw.elim
 rw [if_pos ok] at hw
 obtain ⟨lfe,hrow,hlen,ec⟩:=ok
 obtain ⟨v0,eσ,rk⟩:=hs.2 k _ ek
 have rk:Rep X.K G v0 (.list es):=rk
 cases rk with
 | @lst ak vs _ hak rp =>
 obtain ⟨G',hG'⟩:∃ G':Hp,(∀ b o,G' b=some o->G b=some o/\((∃ ts,o=.tup ts)\/b=ak))/\(∀ b ts,G b=some (.tup ts)->G' b=some (.tup ts))/\Rd G' ak (.lst vs):=by
  classical
  refine ⟨fun b=>if (∃ ts,G b=some (.tup ts))\/b=ak then G b else none,fun b o q=>?_,fun b ts q=>(if_pos (.inl ⟨ts,q⟩)).trans q,?_⟩
  ·dsimp only at q
   split at q
   ·rename_i z
    refine ⟨q,z.imp (fun ⟨ts,w⟩=>⟨ts,?_⟩) id⟩
    rw [q] at w
    exact Option.some.inj w
   ·cases q
  ·rcases hak with hak | ⟨o,hak⟩
   ·exact .inl ((if_pos (.inr rfl)).trans hak)
   ·exact .inr ⟨o,(if_pos (.inr rfl)).trans hak⟩
 obtain ⟨gs,gt,ga⟩:=hG'
 have gh':Same G' H:=fun b o q=>hh.gh _ _ (gs b o q).1
 have rk:Rep X.K G' (.ref ak) (.list es):=.lst ga (rO gt lfe rp)
 refine me (fun _=>none) (fun _=>none) G' (fun _=>none) H σ (aAw k (.list es) en) _ ⟨gh',fun _ _ z=>(nomatch z),fun _ _ z=>(nomatch z),fun _ _=>.inr (.inl rfl),fun _ _ z=>(nomatch z)⟩ ⟨?_,fun n l q=>?_⟩ ?_
 ·unfold aAw
  rw [List.length_set,List.length_replicate]
  exact hs.1
 ·unfold aAw at q
  rw [List.getElem?_set] at q
  by_cases z:k=n
  ·subst z
   rw [if_pos rfl] at q
   split at q
   ·cases q
    exact ⟨_,eσ,rk⟩
   ·cases q
  ·rw [if_neg z,List.getElem?_replicate] at q
   split at q<;>cases q
 rw [ef]
 rintro G1 H1 _ st1 ⟨D0,o,rfl,d1,d2,d3,d4⟩
 cases d4 with
 | @lst rvs _ rr =>
 have gg:∀ b o o',G b=some o->G1 b=some o'->o=o':=fun b o o' q q'=>by
  have a1:=st1.h _ _ (hh.gh _ _ q)
  have a2:=st1.gh _ _ q'
  rw [a1] at a2
  exact Option.some.inj a2
 have fresh:∀ c0 zs xs,Rd G1 c0 (.lst zs)->Reps X.K G1 zs xs->aRs xs es->H c0=none:=fun c0 zs xs hcl rz un=>by
  refine Classical.byContradiction fun hz=>?_
  have hg':G' c0≠none:=fun z=>by
   rcases st1.new c0 hz z with w | ⟨ts,w⟩
   ·rcases hcl with u | ⟨_,u⟩
    ·rw [w] at u;cases u
    ·rw [w] at u;cases u
   ·have w:=st1.h _ _ w
    rcases hcl with u | ⟨_,u⟩
    ·have:=st1.gh _ _ u;rw [w] at this;cases this
    ·have:=st1.gh _ _ u;rw [w] at this;cases this
  cases q:G' c0 with
  | none=>exact hg' q
  | some o =>
   obtain ⟨q1,q2⟩:=gs c0 o q
   have w:=st1.g _ _ q
   rcases q2 with ⟨ts,rfl⟩ | rfl
   ·rcases hcl with u | ⟨_,u⟩
    ·rw [w] at u;cases u
    ·rw [w] at u;cases u
   ·have ez:zs=vs:=by
     rcases ga with u | ⟨o1,u⟩
     ·have:=st1.g _ _ u
      rcases hcl with t | ⟨o2,t⟩
      ·rw [this] at t;cases t;rfl
      ·rw [this] at t;cases t
     ·have:=st1.g _ _ u
      rcases hcl with t | ⟨o2,t⟩
      ·rw [this] at t;cases t
      ·rw [this] at t;cases t;rfl
    subst ez
    rcases un with un | ⟨a,r,b,r',rfl,rfl,n⟩
    ·exact un (rz.length.symm.trans rp.length)
    ·cases rz with
     | cons z1 _ =>
      cases rp with
      | cons z2 _ =>
       cases z1 with
       | tup t1 r1 =>
        cases z2 with
        | tup t2 r2 =>
         have:=gg _ _ _ t2 t1
         cases this
         exact n (r1.length.symm.trans r2.length)
 obtain ⟨G2,hG2⟩:∃ G2:Hp,∀ b,G2 b=if b=D0 then some (.lst rvs) else (G b).or (G1 b):=⟨_,fun _=>rfl⟩
 have gD:G D0=none:=hh.gh.free d1
 have s2:Same G G2:=fun b o q=>by rw [hG2,if_neg (fun z=>by rw [z,gD] at q;cases q),q];rfl
 have s12:Same G1 G2:=fun b o q=>by
  rw [hG2,if_neg (fun z=>by rw [z,d2] at q;cases q)]
  cases z:G b with
  | none=>exact q
  | some o'=>rw [gg b _ _ z q];rfl
 have T2:Step G H G2 H1:=by
  refine ⟨s2,st1.h,fun b o q=>?_,fun b hb hg=>?_⟩
  ·rw [hG2] at q
   split at q
   ·rename_i z
    rw [z,d3]
    exact q
   ·cases z:G b with
    | none=>rw [z] at q;exact st1.gh _ _ q
    | some o'=>rw [z] at q;exact st1.h _ _ (hh.gh _ _ (by rw [z];exact q))
  ·have z:G' b=none:=by
    cases z:G' b with
    | none=>rfl
    | some o'=>rw [(gs b o' z).1] at hg;cases hg
   rcases st1.new b hb z with w | w
   ·left
    rw [hG2,if_neg (fun z=>hb (by rw [z];exact d1)),hg,w]
    rfl
   ·exact .inr w
 have rD:Rep X.K G2 (.ref D0) (.list rows):=.lst (.inl (by rw [hG2,if_pos rfl])) (rr.mono s12)
 refine mc B G0 G2 W H1 _ _ _ (hh.step T2) ((hs.step T2).set (i:=i) (l:=.p (.list rows)) rD) ?_
 rw [ec]
 intro G3 H3 st3
 have T3:Same H H3:=st1.h.trans st3.h
 have k3:Same G1 H3:=st1.gh.trans st3.h
 have hD3:H3 D0=some (.lst rvs):=st3.h _ _ d3
 obtain ⟨Cl,hCl⟩:∃ Cl:Addr->Prop,∀ x,Cl x↔H x=none/\∃ zs,Rd G1 x (.lst zs):=⟨_,fun _=>Iff.rfl⟩
 obtain ⟨J,hJ⟩:∃ J:Hp->Prop,∀ H',J H'↔∀ x o,H3 x=some o->(¬ Cl x->H' x=some o)/\(Cl x->∃ ys,Rd H' x (.lst ys)):=⟨_,fun _=>Iff.rfl⟩
 have nD:¬ Cl D0:=fun z=>by
  obtain ⟨_,zs,w⟩:=(hCl D0).mp z
  rcases w with w | ⟨_,w⟩
  ·rw [d2] at w;cases w
  ·rw [d2] at w;cases w
 have keep:∀ H',J H'->Same H H':=fun H' j x o q=>((hJ H').mp j x o (T3 _ _ q)).1 fun z=>by rw [((hCl x).mp z).1] at q;cases q
 refine ⟨.ref D0,List.getElem?_set_self iσ,D0,rfl,⟨rvs,SqL.of hD3⟩,fun n l σ' H'=>l=rvs.length - n/\n<=rvs.length/\σ'.length=σ.length/\(∀ j,j≠r->σ'[j]? = (σ.set i (some (.ref D0)))[j]?)/\J H',⟨rvs.length,rfl,Nat.zero_le _,List.length_set,fun _ _=>rfl,(hJ H3).mpr fun x o q=>⟨fun _=>q,fun z=>?_⟩⟩,?_⟩
 ·obtain ⟨_,zs,w⟩:=(hCl x).mp z
  exact ⟨zs,eY k3 w⟩
 rintro n l σ' H' ⟨rfl,hn,hσl,hσ,j⟩
 have hD':=((hJ H').mp j D0 _ hD3).1 nD
 have hsq:SqL X.K H' D0 rvs:=SqL.of hD'
 by_cases hlt:n < rvs.length
 ·refine .inr ?_
  have ex:rvs[n]? = some rvs[n]:=List.getElem?_eq_getElem hlt
  obtain ⟨d,ed,rd⟩:=rr.get ex
  obtain ⟨a,xs,rfl,un⟩:=hrow d (List.mem_of_getElem? ed)
  generalize rvs[n]=rv at ex rd
  refine ⟨⟨rvs,rv,hsq,ex⟩,fun σ'' H''=>σ''.length=σ.length/\(∀ j,j≠r->σ''[j]? = (σ.set i (some (.ref D0)))[j]?)/\J H'',fun σ'' H'' ⟨q1,q2,q3⟩=>⟨rvs.length - (n+1),by omega,rfl,hlt,q1,q2,q3⟩,fun v H'' hyl=>?_⟩
  obtain ⟨rfl,hyl⟩:=hyl
  have:=hyl rvs hsq
  rw [ex] at this
  cases this
  cases rd with
  | @tup t ys _ ht r1 =>
  cases r1 with
  | @cons u _ _ _ _ r2 =>
  cases r2 with
  | @cons w _ _ _ rw' r3 =>
  cases r3
  cases rw' with
  | @lst c0 zs _ hcl rz =>
  have hc0:=fresh c0 zs xs hcl rz un
  have cc:Cl c0:=(hCl c0).mpr ⟨hc0,zs,hcl⟩
  have nt:¬ Cl t:=fun z=>by
   obtain ⟨_,zs',w⟩:=(hCl t).mp z
   rcases w with w | ⟨_,w⟩
   ·rw [ht] at w;cases w
   ·rw [ht] at w;cases w
  have ht':=((hJ H'').mp j t _ (k3 _ _ ht)).1 nt
  obtain ⟨o3,ho3⟩:∃ o,H3 c0=some o:=by
   rcases hcl with w | ⟨_,w⟩
   ·exact ⟨_,k3 _ _ w⟩
   ·exact ⟨_,k3 _ _ w⟩
  obtain ⟨ws,hrd⟩:=((hJ H'').mp j c0 _ ho3).2 cc
  refine ⟨.ref t,List.getElem?_set_self (by rw [hσl];exact rσ),.inr ⟨t,[u,.ref c0],1,.ref c0,rfl,rfl,SqT.of ht',rfl,.inl ⟨rfl,ws,.inl hrd⟩,c0,ws,rfl,rfl,hrd,fun o u q=>?_,?_⟩⟩
  ·have q:=I.base.frzs _ _ _ q
   rw [hc0] at q
   cases q
  ·refine ⟨by rw [List.length_set];exact hσl,fun m hm=>by rw [List.getElem?_set_ne (Ne.symm hm)];exact hσ m hm,(hJ _).mpr fun z o q=>?_⟩
   by_cases ez:z=c0
   ·subst ez
    exact ⟨fun nz=>absurd cc nz,fun _=>⟨[],.inl bR⟩⟩
   ·obtain ⟨a1,a2⟩:=(hJ H'').mp j z o q
    refine ⟨fun nz=>by rw [a9 ez];exact a1 nz,fun nz=>?_⟩
    obtain ⟨ys',b1⟩:=a2 nz
    refine ⟨ys',?_⟩
    unfold Rd at b1 ⊢
    rw [a9 ez]
    exact b1
 ·refine .inl ⟨⟨rvs,hsq,by omega⟩,?_⟩
  have hσi:σ'[i]? = some (some (.ref D0)):=by
   rw [hσ i (Ne.symm hri)]
   exact List.getElem?_set_self iσ
  refine ⟨.ref D0,hσi,.inl ⟨rfl,rvs,hsq⟩,D0,rvs,.non,rfl,rfl,hD',Nat.lt_of_le_of_lt (by rw [rr.length];exact hlen) (by decide),?_⟩
  have kp:Same H (upd H' D0 (.lst (rvs++[.non]))):=fun b o q=>by
   rw [a9 (fun z=>by rw [z,d1] at q;cases q)]
   exact keep H' j _ _ q
  refine m4 B G0 G W _ _ ((en.set i none).set r none) Dn ⟨hh.gh.trans kp,hh.bh.trans kp,hh.g0,hh.gb,fun b m q=>?_⟩ ⟨by rw [List.length_set,List.length_set,hσl];exact hs.1,fun m l q=>?_⟩ hw
  ·obtain ⟨k1,k2,o,k3,k4⟩:=hh.wf b m q
   exact ⟨k1,k2,o,kp _ _ k3,k4⟩
  ·rw [List.getElem?_set] at q
   by_cases zr:r=m
   ·subst zr
    rw [if_pos rfl] at q
    split at q<;>cases q
   ·rw [if_neg zr,List.getElem?_set] at q
    by_cases zi:i=m
    ·subst zi
     rw [if_pos rfl] at q
     split at q<;>cases q
    ·rw [if_neg zi] at q
     obtain ⟨v,f1,f2⟩:=hs.2 m l q
     refine ⟨v,by rw [hσ m (Ne.symm zr),List.getElem?_set_ne zi];exact f1,?_⟩
     cases l with
     | p d=>exact f2
     | x C=>exact f2
     | h a=>exact f2
     | o d =>
      obtain ⟨b,ob,g1,g2,g3,g4⟩:=f2
      exact ⟨b,ob,g1,g2,kp _ _ g3,g4⟩
end
end M
namespace N
open PySem PySem.Spec PyProof.Rows L2 M
def frD (x:Int×Int):D:=.tuple [.int x.1,.int x.2]
abbrev Pl:=Int×Int×(Int×Int)
def plD (p:Pl):D:=.tuple [.int p.1,.int p.2.1,frD p.2.2]
def slD (p:Int×Int):D:=.tuple [.int p.1,.int p.2]
theorem at0 {α:Type} (x:α) (r:List α):atI (x :: r) 0=some x:=nZ (j:=0) rfl
theorem at1 {α:Type} (x y:α) (r:List α):atI (x :: y :: r) 1=some y:=nZ (j:=1) rfl
theorem at2 {α:Type} (x y z:α) (r:List α):atI (x :: y :: z :: r) 2=some z:=nZ (j:=2) rfl
theorem gR (i j:Int):PyData.eqv (.int i) (.int j)=(i == j):=by simp [PyData.eqv]
theorem fP (i:Int):SeqAt.shaped (.int i)=true:=by simp [SeqAt.shaped,PyData.canLay0,PyData.depth]
def aN4 {α:Type} (f:D->Option α):List D->Option (List α)
 | []=>some []
 | d :: r=>match f d with
  | none=>none
  | some a=>match aN4 f r with
   | none=>none
   | some as=>some (a :: as)
theorem lZ {α:Type} {f:D->Option α} {enc:α->D} (h:∀ a,f (enc a)=some a):∀ xs:List α,aN4 f (xs.map enc)=some xs
 | []=>rfl
 | x :: xs=>by
  show (match f (enc x) with | none=>none | some a=>match aN4 f (xs.map enc) with | none=>none | some as=>some (a :: as))=_
  rw [h x,lZ h xs]
def aRc:D->Option (Int×Int)
 | .tuple [.int a,.int b]=>some (a,b)
 | _=>none
def aP7:D->Option Pl
 | .tuple [.int i,.int j,.tuple [.int a,.int b]]=>some (i,j,(a,b))
 | _=>none
theorem xQ (x:Int×Int):aRc (frD x)=some x:=rfl
theorem yI (x:Pl):aP7 (plD x)=some x:=rfl
theorem dW {α:Type} {g:D->Option (Option D)} {enc:α->D} {out:α->D}:∀ xs:List α,(∀ x∈xs,g (enc x)=some (some (out x)))->kH g (xs.map enc)=some (xs.map out)
 | [],_=>rfl
 | x :: xs,h=>by
  show (match g (enc x) with | none=>none | some o=>match kH g (xs.map enc) with | none=>none | some r=>some (match o with | some y=>y :: r | none=>r))=_
  rw [h x (.head _),dW xs fun y hy=>h y (.tail _ hy)]
  rfl
def ltF (x y:Int×Int):Bool:=decide (x.1*y.2 < y.1*x.2)
def best (b:Int×Int):List (Int×Int)->Int×Int
 | []=>b
 | x :: r=>best (if ltF b x=true then x else b) r
def FSz (n:Nat) (x:Int×Int):Prop:=Sz n x.1/\Sz n x.2
def Good (n:Nat) (x:Int×Int):Prop:=1<=x.2/\Sz n x.1/\Sz n x.2
theorem Good.fsz {n:Nat} {x:Int×Int} (h:Good n x):FSz n x:=h.2
theorem Good.mono {m n:Nat} {x:Int×Int} (h:Good m x) (l:m<=n):Good n x:=⟨h.1,h.2.1.mono l,h.2.2.mono l⟩
theorem mW {n:Nat} {t b:Int} (ht:Sz n t) (hb:Sz n b) (h0:b≠0):Good n (FR.mk t b):=⟨(FR.nM h0).1.pos,Sz.le ht (natAbs_fdiv_le _ _),Sz.le hb (natAbs_fdiv_le _ _)⟩
def hT (i:Int) (x:Int×Int):Int×Int:=FR.mk (i*x.1) (1*x.2)
def hP (x y:Int×Int):Int×Int:=FR.mk (x.1*y.2+y.1*x.2) (x.2*y.2)
theorem aEj {m n:Nat} {i:Int} {x:Int×Int} (hi:Sz m i) (hx:Good n x):Good (m+n) (hT i x) :=
 mW (Sz.mul hi hx.2.1) (by rw [Int.one_mul];exact hx.2.2.mono (Nat.le_add_left _ _)) (by have:=hx.1;omega)
theorem aCm {m n:Nat} {x y:Int×Int} (hx:Good m x) (hy:Good n y):Good (m+n+1) (hP x y) :=
 mW (Sz.add (Sz.mul hx.2.1 hy.2.2) ((Sz.mul hy.2.1 hx.2.2).mono (by omega))) ((Sz.mul hx.2.2 hy.2.2).mono (by omega)) (fun z=>by
  rcases Int.mul_eq_zero.mp z with q | q
  ·have:=hx.1;omega
  ·have:=hy.1;omega)
theorem Good.ne {m n:Nat} {x y:Int×Int} (hx:Good m x) (hy:Good n y):x.2*y.2≠0:=fun z=>by
 rcases Int.mul_eq_zero.mp z with q | q
 ·have:=hx.1;omega
 ·have:=hy.1;omega
theorem aL7:Sz 2000 (1:Int):=by unfold Sz;exact Nat.one_lt_two_pow (by decide)
open Classical in
noncomputable def mOf {α:Type} (enc:α->List L) (P:α->Prop) (g:α->Res L) (ls:List L):Res L:=if h:∃ a,enc a=ls/\P a then g h.choose else .bad
theorem cR {α:Type} {enc:α->List L} {P:α->Prop} {g:α->Res L} (inj:∀ a b,enc a=enc b->a=b) {a:α} (h:P a):mOf enc P g (enc a)=g a:=by
 have hx:∃ b,enc b=enc a/\P b:=⟨a,rfl,h⟩
 unfold mOf
 rw [dif_pos hx,inj _ _ hx.choose_spec.1]
theorem cQ {α:Type} {enc:α->List L} {P:α->Prop} {g:α->Res L} {n:Nat} {f:MS} (h:∀ a,P a->dX n f (enc a)=g a):∀ ls,mOf enc P g ls=.bad\/dX n f ls=mOf enc P g ls:=by
 intro ls
 unfold mOf
 by_cases hx:∃ a,enc a=ls/\P a
 ·rw [dif_pos hx]
  exact .inr ((congrArg _ hx.choose_spec.1.symm).trans (h _ hx.choose_spec.2))
 ·exact .inl (dif_neg hx)
theorem frI {a b:Int×Int} (h:frD a=frD b):a=b:=Option.some.inj (congrArg aRc h)
theorem plI {a b:Pl} (h:plD a=plD b):a=b:=Option.some.inj (congrArg aP7 h)
theorem aQq {a b:List Pl} (h:a.map plD=b.map plD):a=b:=by
 have e:=congrArg (aN4 aP7) h
 rw [lZ yI,lZ yI] at e
 exact Option.some.inj e
theorem ptI {x y:(Int×Int)×(Int×Int)} (h:PyData.tuple [frD x.1,frD x.2]=.tuple [frD y.1,frD y.2]):x=y:=by
 injection h with h
 injection h with h1 h2
 injection h2 with h2 _
 exact Prod.ext (frI h1) (frI h2)
theorem mF (a:D) (r:List D):ixE (.p (.tuple (a :: r))) (.p (.int 0))=.ok (.p a):=by simp [ixE,j6,at0]
theorem mM (a b:D) (r:List D):ixE (.p (.tuple (a :: b :: r))) (.p (.int 1))=.ok (.p b):=by simp [ixE,j6,at1]
theorem pP (a b d:D) (r:List D):ixE (.p (.tuple (a :: b :: d :: r))) (.p (.int 2))=.ok (.p d):=by simp [ixE,j6,at2]
theorem nF (p:Pl):ixE (.p (plD p)) (.p (.int 0))=.ok (.p (.int p.1)):=mF _ _
theorem nB (p:Pl):ixE (.p (plD p)) (.p (.int 1))=.ok (.p (.int p.2.1)):=mM _ _ _
theorem lD (p:Pl):ixE (.p (plD p)) (.p (.int 2))=.ok (.p (frD p.2.2)):=pP _ _ _ _
theorem j4 (p:Int×Int):ixE (.p (frD p)) (.p (.int 0))=.ok (.p (.int p.1)):=mF _ _
theorem kB (p:Int×Int):ixE (.p (frD p)) (.p (.int 1))=.ok (.p (.int p.2)):=mM _ _ _
section
variable {κ α:Type} [DecidableEq κ]
def jZ:List (κ×α)->κ->Option α
 | [],_=>none
 | p :: r,k=>if p.1=k then some p.2 else jZ r k
def aB0 (k:κ) (v:α):List (κ×α)->List (κ×α)
 | []=>[]
 | p :: r=>(if p.1=k then (p.1,v) else p) :: aB0 k v r
def tD (m:List (κ×α)) (k:κ) (v:α):List (κ×α):=if (jZ m k).isSome=true then aB0 k v m else m++[(k,v)]
def encM (ek:κ->D) (ev:α->D) (m:List (κ×α)):List (D×D):=m.map fun p=>(ek p.1,ev p.2)
variable {ek:κ->D} {ev:α->D} (inj:∀ a b,ek a=ek b->a=b)
include inj
theorem sY (k:κ):∀ m:List (κ×α),y6 (encM ek ev m) (ek k)=(jZ m k).map ev
 | []=>rfl
 | p :: r=>by
  unfold encM
  rw [List.map_cons]
  unfold y6 jZ
  by_cases e:p.1=k
  ·rw [if_pos (by rw [e]),if_pos e];rfl
  ·rw [if_neg (fun z=>e (inj _ _ z)),if_neg e]
   exact sY k r
theorem yQ (k:κ) (v:α):∀ m:List (κ×α),aIl (ek k) (ev v) (encM ek ev m)=encM ek ev (aB0 k v m)
 | []=>rfl
 | p :: r=>by
  have ih:=yQ k v r
  unfold encM at ih ⊢
  rw [List.map_cons]
  unfold aIl aB0
  rw [List.map_cons,ih]
  by_cases e:p.1=k
  ·rw [if_pos (by rw [e]),if_pos e]
  ·rw [if_neg (fun z=>e (inj _ _ z)),if_neg e]
theorem aFs (k:κ) (v:α) (m:List (κ×α)):aEz (encM ek ev m) (ek k) (ev v)=encM ek ev (tD m k v):=by
 unfold aEz tD
 rw [sY inj]
 cases e:jZ m k with
 | none =>
  rw [if_neg (by simp),if_neg (by simp)]
  unfold encM
  rw [List.map_append]
  rfl
 | some x =>
  rw [if_pos (by rfl),if_pos (by rfl)]
  exact yQ inj k v m
end
theorem aBt (a b:Int×Int) (h:slD a=slD b):a=b:=by
 unfold slD at h
 injection h with h
 injection h with h1 h2
 injection h2 with h2 _
 injection h1 with h1
 injection h2 with h2
 exact Prod.ext h1 h2
theorem uV {α:Type} {ev:α->D} (m:List ((Int×Int)×α)):dsp (encM slD ev m)=(false,encM slD ev m):=by
 cases m<;>rfl
theorem aA7 (s:Int×Int):(aLk (slD s)).isSome=true:=rfl
theorem yL {α:Type} {ev:α->D} (m:List ((Int×Int)×α)) (s:Int×Int):uC (encM slD ev m) (slD s)=some ((jZ m s).map ev):=by
 unfold uC
 rw [uV]
 dsimp only
 rw [if_pos (aA7 s),sY aBt]
theorem aBz {α:Type} {ev:α->D} (m:List ((Int×Int)×α)) (s:Int×Int) (v:α) (h:m.length<=100000):zZ (encM slD ev m) (slD s) (ev v)=some (encM slD ev (tD m s v)):=by
 unfold zZ
 rw [uV]
 dsimp only
 rw [if_pos ⟨aA7 s,by unfold encM;rw [List.length_map];exact h⟩,aFs aBt]
theorem rQ {α κ:Type} [DecidableEq κ] (k:κ) (v:α):∀ m:List (κ×α),(aB0 k v m).length=m.length
 | []=>rfl
 | _ :: r=>by unfold aB0;rw [List.length_cons,List.length_cons,rQ k v r]
theorem s9 {α κ:Type} [DecidableEq κ] (m:List (κ×α)) (k:κ) (v:α):(tD m k v).length<=m.length+1:=by
 unfold tD
 split
 ·rw [rQ];exact Nat.le_succ _
 ·rw [List.length_append];exact Nat.le_refl _
theorem uO {α κ:Type} [DecidableEq κ] (k:κ) (v:α) (j:κ):∀ m:List (κ×α),jZ (aB0 k v m) j=if j=k then (jZ m k).map (fun _=>v) else jZ m j
 | []=>by unfold aB0 jZ;split<;>rfl
 | p :: r=>by
  have ih:=uO k v j r
  unfold aB0 jZ
  by_cases e:p.1=k
  ·rw [if_pos e]
   by_cases e2:p.1=j
   ·have:j=k:=by rw [<- e2,e]
    rw [if_pos e2,if_pos this,if_pos e];rfl
   ·have:j≠k:=fun z=>e2 (by rw [e,z])
    rw [if_neg e2,if_neg this,if_neg e2]
    rw [if_neg this] at ih
    exact ih
  ·rw [if_neg e]
   by_cases e2:p.1=j
   ·have:j≠k:=fun z=>e (by rw [e2,z])
    rw [if_pos e2,if_neg this,if_pos e2]
   ·rw [if_neg e2,ih]
    by_cases e3:j=k
    ·rw [if_pos e3,if_pos e3,if_neg e]
    ·rw [if_neg e3,if_neg e3,if_neg e2]
theorem xN {α κ:Type} [DecidableEq κ] (j:κ) (l:List (κ×α)):∀ m:List (κ×α),jZ (m++l) j=match jZ m j with
  | some x=>some x
  | none=>jZ l j
 | []=>rfl
 | p :: r=>by
  have ih:=xN j l r
  rw [List.cons_append]
  show (if p.1=j then some p.2 else jZ (r++l) j)=match (if p.1=j then some p.2 else jZ r j) with
   | some x=>some x
   | none=>jZ l j
  by_cases e:p.1=j
  ·rw [if_pos e,if_pos e]
  ·rw [if_neg e,if_neg e];exact ih
theorem uI {α κ:Type} [DecidableEq κ] (m:List (κ×α)) (k:κ) (v:α) (j:κ):jZ (tD m k v) j=if j=k then some v else jZ m j:=by
 unfold tD
 cases e:jZ m k with
 | none =>
  rw [if_neg (by simp),xN]
  by_cases ej:j=k
  ·subst ej;rw [e,if_pos rfl];unfold jZ;rw [if_pos rfl]
  ·rw [if_neg ej]
   cases e2:jZ m j with
   | some x=>rfl
   | none=>unfold jZ;rw [if_neg (fun z=>ej z.symm)];rfl
 | some x =>
  rw [if_pos (by rfl),uO]
  by_cases ej:j=k
  ·rw [if_pos ej,if_pos ej,e];rfl
  ·rw [if_neg ej,if_neg ej]
def slp (p:Pl):Int×Int:=(p.1,p.2.1)
def kys {α:Type} (m:List ((Int×Int)×α)):List (List Int):=m.map fun e=>[e.1.1,e.1.2]
def un2 (k:List Int):Int×Int:=(k.getD 0 0,k.getD 1 0)
def aNp {α:Type} (m:List ((Int×Int)×α)) (d:α) (k:List Int):α:=(jZ m (un2 k)).getD d
theorem aFl {α:Type} {ev:α->D} (m:List ((Int×Int)×α)):(encM slD ev m).map (·.1)=(kys m).map tJ:=by
 unfold encM kys
 rw [List.map_map,List.map_map]
 rfl
theorem aOf {α:Type} (m:List ((Int×Int)×α)):((kys m).all fun k=>!k.isEmpty)=true:=by
 unfold kys
 rw [List.all_map]
 exact List.all_eq_true.mpr fun _ _=>rfl
theorem aB8 {α:Type} {ev:α->D} (m:List ((Int×Int)×α)) (h:m.length < 64):iB [.p (.dict (encM slD ev m))]=.ok (.f (.list ((nL (kys m)).map tJ))):=by
 unfold iB
 simp only [mL,uV,aFl,uE]
 rw [if_pos trivial,if_pos ⟨aOf m,by unfold kys;rw [List.length_map];exact h⟩]
theorem zI {α κ:Type} [DecidableEq κ]:∀ {m:List (κ×α)} {e:κ×α},e∈m->∃ v,jZ m e.1=some v
 | p :: r,e,h=>by
  unfold jZ
  by_cases q:p.1=e.1
  ·rw [if_pos q];exact ⟨_,rfl⟩
  ·rw [if_neg q]
   rcases List.mem_cons.mp h with z | z
   ·exact absurd (by rw [z]) q
   ·exact zI z
theorem aHz {α:Type} {m:List ((Int×Int)×α)} {k:List Int} (h:k∈nL (kys m)) (d:α):tJ k=slD (un2 k)/\k=[(un2 k).1,(un2 k).2]/\jZ m (un2 k)=some (aNp m d k):=by
 have h1:=(iC (kys m)).mem_iff.mp h
 obtain ⟨e,he,rfl⟩:=List.mem_map.mp h1
 obtain ⟨v,hv⟩:=zI he
 have hu:un2 [e.1.1,e.1.2]=e.1:=rfl
 refine ⟨rfl,rfl,?_⟩
 unfold aNp
 rw [hu,hv]
 rfl
theorem aBv {α:Type} (f:α->Bool):∀ xs:List α,wB (xs.map fun x=>PyData.bool (f x))=some (xs.map f)
 | []=>rfl
 | x :: xs=>by
  show (match wB (xs.map fun x=>PyData.bool (f x)) with | some bs=>some (f x :: bs) | none=>none)=_
  rw [aBv f xs]
  rfl
theorem any_map {α:Type} (f:α->Bool) (xs:List α):(xs.map f).any id=xs.any f:=by rw [List.any_map];rfl
theorem vG {x:Int} (n:Nat) (h:x.natAbs < 2 ^ n):Sz n x:=h
theorem fO {a b:Int} (hb:0 < b):0<=a.fmod b/\a.fmod b < b:=by
 rw [Int.fmod_eq_emod_of_nonneg a (Int.le_of_lt hb)]
 exact ⟨Int.emod_nonneg a (by omega),Int.emod_lt_of_pos a hb⟩
theorem aR {f g:MS} {en e1:En} (h:f en=some (.nx e1)):cB f g en=g e1:=by unfold cB;rw [h]
theorem kG {f g:MS} {en:En} {l:L} (h:f en=some (.rt l)):cB f g en=some (.rt l):=by unfold cB;rw [h]
theorem hZ {i:Nat} {fe:En->Res Ev} {en:En} {d:D} (h:fe en=.ok (.p d)):cW i fe en=some (.nx (en.set i (some (.p d)))):=by unfold cW;rw [h]
theorem gY {i:Nat} {fe:En->Res Ev} {en:En} {d:D} (h:fe en=.ok (.f d)):cW i fe en=some (.nx (en.set i (some (.o d)))):=by unfold cW;rw [h]
theorem pR {ft:En->Res Bool} {f g:MS} {en:En} (h:ft en=.ok true):gS ft f g en=f en:=by unfold gS;rw [h];rfl
theorem j3 {ft:En->Res Bool} {f g:MS} {en:En} (h:ft en=.ok false):gS ft f g en=g en:=by unfold gS;rw [h];rfl
theorem bI {n:Nat} {f:MS} {ls:List L} {l:L} (h:f (a7 n ls)=some (.rt l)):dX n f ls=.ok l:=by unfold dX;rw [h]
theorem aEg {α:Type} (f:α->D) (h:∀ a,PyData.canLay0 (f a)=true):∀ xs:List α,PyData.canLayAll0 (xs.map f)=true
 | []=>rfl
 | x :: xs=>by rw [List.map_cons,PyData.canLayAll0,h x,aEg f h xs];rfl
theorem aEh {α:Type} (f:α->D) (n:Nat) (h:∀ a,PyData.depth (f a)<=n):∀ xs:List α,PyData.depthAll (xs.map f)<=n
 | []=>Nat.zero_le _
 | x :: xs=>by
  rw [List.map_cons,PyData.depthAll]
  exact Nat.max_le.mpr ⟨h x,aEh f n h xs⟩
theorem aOd (p:Pl):PyData.canLay0 (plD p)=true:=by simp [plD,frD,PyData.canLay0,PyData.canLayAll0]
theorem aM6 (p:Pl):PyData.depth (plD p)<=9:=by simp [plD,frD,PyData.depth,PyData.depthAll]
theorem aJg {α:Type} (f:α->D) (h1:∀ a,PyData.canLay0 (f a)=true) (h2:∀ a,PyData.depth (f a)<=9) (xs:List α):SeqAt.shaped (.list (xs.map f))=true:=by
 have a:PyData.canLay0 (.list (xs.map f))=true:=by rw [PyData.canLay0];exact aEg f h1 xs
 have b:PyData.depth (.list (xs.map f))<=64:=by
  rw [PyData.depth]
  have:=aEh f 9 h2 xs
  omega
 unfold SeqAt.shaped
 rw [a,decide_eq_true b]
 rfl
theorem jQ {x y:Ev} {d:D} (h1:dat x=some d) (h2:dat y=some d) (hs:SeqAt.shaped d=true) (ng:Bool):eqE ng x y=.ok (.p (.bool (!ng))):=by
 have hc:PyData.canLay0 d=true:=by
  unfold SeqAt.shaped at hs
  exact (Bool.and_eq_true_iff.mp hs).1
 unfold eqE
 rw [h1,h2]
 dsimp only
 rw [if_pos ⟨hs,hs⟩,SeqAt.eqv_refl d hc]
 cases ng<;>rfl
theorem yE (ps:List Pl):SeqAt.shaped (.list (ps.map plD))=true:=aJg plD aOd aM6 ps
theorem aN2 (x:Int×Int):SeqAt.shaped (frD x)=true:=by simp [SeqAt.shaped,frD,PyData.canLay0,PyData.canLayAll0,PyData.depth,PyData.depthAll]
theorem nP {fi:En->Res (List D)} {tg:D->En->Option En} {f:MS} {en:En} {ds:List D} (h:fi en=.ok ds):vJ fi tg f en=fB tg f ds en:=by unfold vJ;rw [h]
theorem fK {α:Type} {g:D->Option (Option D)} {enc:α->D} {out:α->D} {p:α->Bool}:∀ xs:List α,(∀ x∈xs,g (enc x)=some (if p x=true then some (out x) else none))->kH g (xs.map enc)=some ((xs.filter p).map out)
 | [],_=>rfl
 | x :: xs,h=>by
  show (match g (enc x) with | none=>none | some o=>match kH g (xs.map enc) with | none=>none | some r=>some (match o with | some y=>y :: r | none=>r))=_
  rw [h x (.head _),fK xs fun y hy=>h y (.tail _ hy),List.filter_cons]
  cases p x<;>rfl
theorem sF {α:Type} (f g:α->D):∀ xs:List α,vI (xs.map f) (xs.map g)=xs.map fun x=>.tuple [f x,g x]
 | []=>rfl
 | x :: xs=>by
  show PyData.tuple [f x,g x] :: vI (xs.map f) (xs.map g)=_
  rw [sF f g xs]
  rfl
theorem aPf (x y:Int×Int):PyData.eqv (frD x) (frD y)=decide (x=y):=by
 have:PyData.eqv (frD x) (frD y)=(x.1 == y.1 && (x.2 == y.2 && true)):=by simp [frD,PyData.eqv,PyData.eqvAll]
 rw [this]
 by_cases h:x=y
 ·subst h;simp
 ·rw [decide_eq_false h]
  by_cases h1:x.1=y.1
  ·have h2:¬ x.2=y.2:=fun h2=>h (Prod.ext h1 h2)
   simp [h1,h2]
  ·simp [h1]
theorem aCg {α:Type} (f:α->D) (h:∀ a,lfD (f a)=true):∀ xs:List α,lfA (xs.map f)=true
 | []=>by simp [lfA]
 | x :: xs=>by rw [List.map_cons];unfold lfA;rw [h x,aCg f h xs];rfl
theorem aLz (x:Int×Int):lfD (frD x)=true:=by simp [frD,lfD,lfA]
theorem aOi (x:Int):lfD (.int x)=true:=by simp [lfD]
theorem Sz.addM {m n:Nat} {x y:Int} (hx:Sz m x) (hy:Sz n y):Sz (max m n+1) (x+y):=Sz.add (hx.mono (Nat.le_max_left _ _)) (hy.mono (Nat.le_max_right _ _))
theorem Sz.subM {m n:Nat} {x y:Int} (hx:Sz m x) (hy:Sz n y):Sz (max m n+1) (x - y):=Sz.sub (hx.mono (Nat.le_max_left _ _)) (hy.mono (Nat.le_max_right _ _))
theorem vN {x:Int} (h:x.natAbs < 2 ^ 4):Sz 4 x:=h
theorem xO {x:Int} (h:x.natAbs < 2 ^ 70):Sz 70 x:=h
theorem aHp {x:Int} (h:x.natAbs < 2 ^ 20):Sz 20 x:=h
theorem aHk {x:Int} (h:x.natAbs < 2 ^ 200):Sz 200 x:=h
theorem n6 {n:Nat} {a b:Int} (h:0 < b) (hb:Sz n b):Sz n (a.fmod b):=by
 have:=fO (a:=a) h
 exact Sz.le hb (by omega)
theorem rP {n:Nat} {a b:Int} (ha:Sz n a):Sz n (a.fdiv b):=Sz.le ha (natAbs_fdiv_le _ _)
theorem cm2 {m n:Nat} {i j:Int} (h1:Sz m i) (h2:Sz n j) (hm:m<=60000) (hn:n<=60000):CMulW i j:=⟨h1.mono hm,h2.mono hn⟩
theorem cd2 {m:Nat} {j:Int} (i:Int) (h0:j≠0) (h1:Sz m j) (hm:m<=8000):nI i j:=⟨h0,h1.mono hm⟩
theorem t7 {i j:Int} (h:CMulW i j):fU (.p (.int i)) (.p (.int j))=.ok (.p (.int (i*j))):=by simp [fU,uP,h]
theorem pK {i j:Int} (h:nI i j):gZ (.p (.int i)) (.p (.int j))=.ok (.p (.int (i.fdiv j))):=by simp [gZ,uP,h]
theorem qM {i j:Int} (h:j≠0):jT (.p (.int i)) (.p (.int j))=.ok (.p (.int (i.fmod j))):=by simp [jT,uP,h]
theorem uU {i j:Int} (h:aNc i j):aOs (.p (.int i)) (.p (.int j))=.ok (.p (.int (i ^ j.toNat))):=by simp [aOs,uP,h]
def eII (a:Int×Int):List L:=[.p (.int a.1),.p (.int a.2)]
theorem aC9 (a b:Int×Int) (h:eII a=eII b):a=b:=by
 unfold eII at h
 injection h with h1 h2
 injection h2 with h2 _
 injection h1 with h1
 injection h2 with h2
 injection h1 with h1
 injection h2 with h2
 exact Prod.ext h1 h2
theorem aQd {a b:List (Int×Int)} (h:a.map frD=b.map frD):a=b:=by
 have e:=congrArg (aN4 aRc) h
 rw [lZ xQ,lZ xQ] at e
 exact Option.some.inj e
def eFs (hs:List (Int×Int)):List L:=[.p (.list (hs.map frD))]
theorem sC (a b:List (Int×Int)) (h:eFs a=eFs b):a=b:=by
 unfold eFs at h
 injection h with h _
 injection h with h
 injection h with h
 exact aQd h
def eFF (a:(Int×Int)×(Int×Int)):List L:=[.p (frD a.1),.p (frD a.2)]
theorem j9 (a b:(Int×Int)×(Int×Int)) (h:eFF a=eFF b):a=b:=by
 unfold eFF at h
 injection h with h1 h2
 injection h2 with h2 _
 injection h1 with h1
 injection h2 with h2
 exact Prod.ext (frI h1) (frI h2)
abbrev Pt:=(Int×Int)×(Int×Int)
theorem aK8 {α β:Type} (a:α) (f:α->Res β):(Res.ok a).bind f=f a:=rfl
theorem oH {fe:En->Res Ev} {en:En} {d:D} (h:fe en=.ok (.f d)):cY fe en=some (.rt (.o d)):=by unfold cY;rw [h];rfl
theorem gW {fe:En->Res Ev} {en:En} {d:D} (h:fe en=.ok (.p d)):cY fe en=some (.rt (.p d)):=by unfold cY;rw [h];rfl
theorem dO {n:Nat} {js:List Nat} {fi:En->Res (List D)} {tg:D->En->Option En} {ft:En->Res Bool} {fe:En->Res Ev} {en:En} {ds es:List D} (h1:fi en=.ok ds) (h2:ds.length<=100000) (h3:kH (aQ n js tg ft fe en) ds=some es):dG n js fi tg ft fe en=.ok (.f (.list es)):=by
 unfold dG
 rw [h1,aK8]
 unfold aG4
 rw [if_pos h2,h3]
theorem yA {tg:D->En->Option En} {f:MS} (I:Nat->En->Prop):∀ (ds:List D) (k:Nat) (en:En),I k en->(∀ j d e,ds[j]? = some d->I (k+j) e->∃ e1 e2,tg d e=some e1/\f e1=some (.nx e2)/\I (k+j+1) e2)->∃ e',I (k+ds.length) e'/\fB tg f ds en=some (.nx e')
 | [],k,en,h,_=>⟨en,h,rfl⟩
 | d :: ds,k,en,h,st=>by
  obtain ⟨e1,e2,h1,h2,h3⟩:=st 0 d en rfl h
  obtain ⟨e',g1,g2⟩:=yA I ds (k+1) e2 h3 fun j d' e hd hi=>by
   have:=st (j+1) d' e hd (by rw [show k+(j+1)=k+1+j by omega];exact hi)
   rw [show k+(j+1)+1=k+1+j+1 by omega] at this
   exact this
  refine ⟨e',by rw [show k+(d :: ds).length=k+1+ds.length by rw [List.length_cons];omega];exact g1,?_⟩
  unfold fB
  rw [h1]
  dsimp only
  rw [h2]
  exact g2
theorem yH {α:Type} {enc:α->D} {tg:D->En->Option En} {f:MS} (I:List α->En->Prop):∀ (xs ys:List α) (en:En),I ys en->(∀ x∈xs,∀ zs e,zs.length < ys.length+xs.length->I zs e->∃ e1 e2,tg (enc x) e=some e1/\f e1=some (.nx e2)/\I (zs++[x]) e2)->∃ e',I (ys++xs) e'/\fB tg f (xs.map enc) en=some (.nx e')
 | [],ys,en,h,_=>⟨en,by rw [List.append_nil];exact h,rfl⟩
 | x :: xs,ys,en,h,st=>by
  obtain ⟨e1,e2,h1,h2,h3⟩:=st x (.head _) ys en (by rw [List.length_cons];omega) h
  obtain ⟨e',g1,g2⟩:=yH I xs (ys++[x]) e2 h3 fun y hy zs e hl hi=>st y (.tail _ hy) zs e (by rw [List.length_append] at hl;rw [List.length_cons];simp at hl;omega) hi
  refine ⟨e',by rw [List.append_assoc] at g1;exact g1,?_⟩
  rw [List.map_cons]
  unfold fB
  rw [h1]
  dsimp only
  rw [h2]
  exact g2
theorem aJ9 (lo:Int) (n j:Nat) (d:D) (h:(zU lo n)[j]? = some d):j < n/\d=.int (lo+(j:Int)):=by
 unfold zU at h
 rw [List.getElem?_map,Option.map_eq_some_iff] at h
 obtain ⟨a,h1,h2⟩:=h
 have q:j < n:=by
  by_cases q:j < n
  ·exact q
  ·rw [List.getElem?_eq_none (by simp;omega)] at h1;cases h1
 rw [List.getElem?_range q] at h1
 cases h1
 exact ⟨q,h2.symm⟩
end N
local macro_rules | `(tactic| walk_at "z") => `(tactic| repeat (first | assumption | apply L2.Sz.mul | apply N.Sz.addM | apply N.Sz.subM | apply L2.Sz.neg | apply N.rP | (apply N.n6; (first | decide | omega)) | exact N.vN (by decide) | exact N.aHp (by decide) | exact N.xO (by decide) | exact N.aHk (by decide)))
local macro_rules | `(tactic| walk_at "d") => `(tactic| first | assumption | (first | apply N.cm2 | apply N.cd2) <;> (first | decide | omega | (walk_at "z")) | decide | omega)
namespace N
open PySem PySem.Spec PyProof.Rows L2 M
def leF (x y:Int×Int):Prop:=x.1*y.2<=y.1*x.2
theorem kN (x:Int×Int):leF x x:=Int.le_refl _
theorem zA {x y:Int×Int} (h:ltF y x=false):leF x y:=by
 unfold ltF at h
 have:=of_decide_eq_false h
 unfold leF
 omega
theorem aHy {x y:Int×Int} (h:ltF x y=true):leF x y:=by
 unfold ltF at h
 have:=of_decide_eq_true h
 unfold leF
 omega
theorem jN {x y z:Int×Int} (hx:1<=x.2) (hy:1<=y.2) (hz:1<=z.2) (h1:leF x y) (h2:leF y z):leF x z:=by
 unfold leF at *
 have a:=Int.mul_le_mul_of_nonneg_right h1 (show 0<=z.2 by omega)
 have b:=Int.mul_le_mul_of_nonneg_right h2 (show 0<=x.2 by omega)
 refine Int.le_of_mul_le_mul_right (a:=y.2) ?_ (by omega)
 have e1:x.1*z.2*y.2=x.1*y.2*z.2:=by ac_rfl
 have e2:z.1*x.2*y.2=z.1*y.2*x.2:=by ac_rfl
 have e3:y.1*x.2*z.2=y.1*z.2*x.2:=by ac_rfl
 omega
theorem aCc {a b d:Int} (h:d∣a*b) (g:Int.gcd a d=1):d∣b:=by
 have h1:d.natAbs∣a.natAbs*b.natAbs:=by
  rw [<- Int.natAbs_mul]
  exact Int.natAbs_dvd_natAbs.mpr h
 have c:Nat.Coprime d.natAbs a.natAbs:=by
  show Nat.gcd d.natAbs a.natAbs=1
  rw [Nat.gcd_comm]
  exact g
 exact Int.natAbs_dvd_natAbs.mp (Nat.Coprime.dvd_of_dvd_mul_left c h1)
theorem aIe {x y:Int×Int} (hx:FR.Fr x) (hy:FR.Fr y) (h1:leF x y) (h2:leF y x):x=y:=by
 have e:x.1*y.2=y.1*x.2:=Int.le_antisymm h1 h2
 have p1:=hx.pos
 have p2:=hy.pos
 have d1:x.2∣y.2:=by
  have:x.2∣x.1*y.2:=⟨y.1,by rw [e];ac_rfl⟩
  exact aCc this hx.low
 have d2:y.2∣x.2:=by
  have:y.2∣y.1*x.2:=⟨x.1,by rw [<- e];ac_rfl⟩
  exact aCc this hy.low
 have eb:x.2=y.2:=Int.dvd_antisymm (by omega) (by omega) d1 d2
 have et:x.1=y.1:=by
  rw [eb] at e
  exact Int.eq_of_mul_eq_mul_right (by omega) e
 exact Prod.ext et eb
theorem xX:∀ (xs:List (Int×Int)) (b:Int×Int),best b xs=b\/best b xs∈xs
 | [],b=>.inl rfl
 | x :: xs,b=>by
  show best (if ltF b x=true then x else b) xs=b\/best (if ltF b x=true then x else b) xs∈x :: xs
  rcases xX xs (if ltF b x=true then x else b) with h | h
  ·rw [h]
   split
   ·exact .inr (.head _)
   ·exact .inl rfl
  ·exact .inr (.tail _ h)
theorem aD1:∀ (xs:List (Int×Int)) (b:Int×Int),1<=b.2->(∀ x∈xs,1<=x.2)->leF b (best b xs)/\(∀ x∈xs,leF x (best b xs))/\1<=(best b xs).2
 | [],b,h,_=>⟨kN b,(fun _ z=>nomatch z),h⟩
 | x :: xs,b,h,hx=>by
  have hx0:=hx x (.head _)
  have hb2:1<=(if ltF b x=true then x else b).2:=by split<;>assumption
  have g:best b (x :: xs)=best (if ltF b x=true then x else b) xs:=rfl
  obtain ⟨i1,i2,i3⟩:=aD1 xs (if ltF b x=true then x else b) hb2 fun y hy=>hx y (.tail _ hy)
  rw [g]
  have l1:leF b (if ltF b x=true then x else b):=by
   split
   ·rename_i z;exact aHy z
   ·exact kN b
  have l2:leF x (if ltF b x=true then x else b):=by
   split
   ·exact kN x
   ·rename_i z;exact zA (by simpa using z)
  refine ⟨jN h hb2 i3 l1 i1,fun y hy=>?_,i3⟩
  rcases List.mem_cons.mp hy with z | z
  ·rw [z];exact jN hx0 hb2 i3 l2 i1
  ·exact i2 y z
structure AF (x y:Int×Int):Prop where
 a:1<=x.2
 b:1<=y.2
 e:x.1*y.2=y.1*x.2
theorem AF.refl {x:Int×Int} (h:1<=x.2):AF x x:=⟨h,h,rfl⟩
theorem cN {x y:Int} (hx:1<=x) (hy:1<=y):1<=x*y:=by
 have:=Int.mul_pos (show 0 < x by omega) (show 0 < y by omega)
 omega
theorem aGt {t b:Int} {y:Int×Int} (hb:1<=b) (hy:1<=y.2) (h:t*y.2=y.1*b):AF (FR.mk t b) y:=by
 obtain ⟨f1,e1⟩:=FR.nM (t:=t) (b:=b) (by omega)
 refine ⟨f1.pos,hy,?_⟩
 have h2:(FR.mk t b).1*y.2*b=y.1*(FR.mk t b).2*b:=by
  have e3:(FR.mk t b).1*y.2*b=(FR.mk t b).1*b*y.2:=by ac_rfl
  rw [e3,e1]
  have e4:t*(FR.mk t b).2*y.2=t*y.2*(FR.mk t b).2:=by ac_rfl
  rw [e4,h]
  ac_rfl
 exact Int.eq_of_mul_eq_mul_right (by omega) h2
theorem aSm {x x' y y':Int×Int} (h:AF x x') (g:AF y y'):AF (hP x y) (x'.1*y'.2+y'.1*x'.2,x'.2*y'.2):=by
 obtain ⟨a,b,e⟩:=h
 obtain ⟨a2,b2,e2⟩:=g
 refine aGt (cN a a2) (cN b b2) ?_
 show (x.1*y.2+y.1*x.2)*(x'.2*y'.2)=(x'.1*y'.2+y'.1*x'.2)*(x.2*y.2)
 rw [Int.add_mul,Int.add_mul]
 have e3:x.1*y.2*(x'.2*y'.2)=x.1*x'.2*(y.2*y'.2):=by ac_rfl
 have e4:y.1*x.2*(x'.2*y'.2)=y.1*y'.2*(x.2*x'.2):=by ac_rfl
 rw [e3,e4,e,e2]
 have e5:x'.1*x.2*(y.2*y'.2)=x'.1*y'.2*(x.2*y.2):=by ac_rfl
 have e6:y'.1*y.2*(x.2*x'.2)=y'.1*x'.2*(x.2*y.2):=by ac_rfl
 rw [e5,e6]
theorem aGg {x x' y y':Int×Int} (h:AF x x') (g:AF y y'):ltF x y=ltF x' y':=by
 obtain ⟨a,b,e⟩:=h
 obtain ⟨a2,b2,e2⟩:=g
 unfold ltF
 have k:(y.1*x.2 - x.1*y.2)*(x'.2*y'.2)=(y'.1*x'.2 - x'.1*y'.2)*(x.2*y.2):=by
  rw [Int.sub_mul,Int.sub_mul]
  have e3:y.1*x.2*(x'.2*y'.2)=y.1*y'.2*(x.2*x'.2):=by ac_rfl
  have e4:x.1*y.2*(x'.2*y'.2)=x.1*x'.2*(y.2*y'.2):=by ac_rfl
  rw [e3,e4,e,e2]
  have e5:y'.1*y.2*(x.2*x'.2)=y'.1*x'.2*(x.2*y.2):=by ac_rfl
  have e6:x'.1*x.2*(y.2*y'.2)=x'.1*y'.2*(x.2*y.2):=by ac_rfl
  rw [e5,e6]
 have p1:=cN b b2
 have p2:=cN a a2
 have iff:0 < (y.1*x.2 - x.1*y.2)↔0 < (y'.1*x'.2 - x'.1*y'.2):=by
  constructor
  ·intro q
   have:=Int.mul_pos q (show 0 < x'.2*y'.2 by omega)
   rw [k] at this
   exact Int.pos_of_mul_pos_left this (by omega)
  ·intro q
   have:=Int.mul_pos q (show 0 < x.2*y.2 by omega)
   rw [<- k] at this
   exact Int.pos_of_mul_pos_left this (by omega)
 rw [decide_eq_decide]
 constructor
 ·intro q;have:=iff.mp (by omega);omega
 ·intro q;have:=iff.mpr (by omega);omega
abbrev R2:=Int×Int
abbrev R3:=Int×Int×Int
def hM (x y:Int×Int):Int×Int:=FR.mk (x.1*y.2 - y.1*x.2) (x.2*y.2)
def hO (x y:Int×Int):Int×Int:=FR.mk (x.1*y.2) (x.2*y.1)
def worst (b:Int×Int):List (Int×Int)->Int×Int
 | []=>b
 | x :: r=>worst (if ltF x b=true then x else b) r
theorem u7:∀ (xs:List (Int×Int)) (b:Int×Int),worst b xs=b\/worst b xs∈xs
 | [],b=>.inl rfl
 | x :: xs,b=>by
  show worst (if ltF x b=true then x else b) xs=b\/worst (if ltF x b=true then x else b) xs∈x :: xs
  rcases u7 xs (if ltF x b=true then x else b) with h | h
  ·rw [h]
   split
   ·exact .inr (.head _)
   ·exact .inl rfl
  ·exact .inr (.tail _ h)
theorem xY:∀ (xs:List (Int×Int)) (b:Int×Int),1<=b.2->(∀ x∈xs,1<=x.2)->leF (worst b xs) b/\(∀ x∈xs,leF (worst b xs) x)/\1<=(worst b xs).2
 | [],b,h,_=>⟨kN b,(fun _ z=>nomatch z),h⟩
 | x :: xs,b,h,hx=>by
  have hx0:=hx x (.head _)
  have hb2:1<=(if ltF x b=true then x else b).2:=by split<;>assumption
  have g:worst b (x :: xs)=worst (if ltF x b=true then x else b) xs:=rfl
  obtain ⟨i1,i2,i3⟩:=xY xs (if ltF x b=true then x else b) hb2 fun y hy=>hx y (.tail _ hy)
  rw [g]
  have l1:leF (if ltF x b=true then x else b) b:=by
   split
   ·rename_i z;exact aHy z
   ·exact kN b
  have l2:leF (if ltF x b=true then x else b) x:=by
   split
   ·exact kN x
   ·rename_i z;exact zA (by simpa using z)
  refine ⟨jN i3 hb2 h i1 l1,fun y hy=>?_,i3⟩
  rcases List.mem_cons.mp hy with z | z
  ·rw [z];exact jN i3 hb2 hx0 i1 l2
  ·exact i2 y z
theorem aOz {x y z:Int×Int} (hx:1<=x.2) (hy:1<=y.2) (hz:1<=z.2) (h1:ltF x y=true) (h2:leF y z):ltF x z=true:=by
 cases e:ltF x z with
 | true=>rfl
 | false =>
  have:=jN hy hz hx h2 (zA e)
  unfold ltF at h1
  have:=of_decide_eq_true h1
  unfold leF at *
  omega
theorem aNi {x y z:Int×Int} (hx:1<=x.2) (hy:1<=y.2) (hz:1<=z.2) (h1:leF x y) (h2:ltF y z=true):ltF x z=true:=by
 cases e:ltF x z with
 | true=>rfl
 | false =>
  have:=jN hz hx hy (zA e) h1
  unfold ltF at h2
  have:=of_decide_eq_true h2
  unfold leF at *
  omega
theorem wD {p q a b:Int} (hp:0 < p) (hq:0 < q) (e:p*a=q*b):0 < a↔0 < b:=by
 constructor
 ·intro h
  have:=Int.mul_pos hp h
  rw [e] at this
  exact Int.pos_of_mul_pos_right this (by omega)
 ·intro h
  have:=Int.mul_pos hq h
  rw [<- e] at this
  exact Int.pos_of_mul_pos_right this (by omega)
def Sat (rows:List R2) (x:Int×Int):Prop:=1<=x.2/\∀ r∈rows,0 < r.1*x.1+r.2*x.2
def C2 (rows:List R2):Prop:=(∀ r∈rows,r.1=0->0 < r.2)/\∀ r∈rows,∀ s∈rows,0 < r.1->s.1 < 0->0 < r.1*s.2 - s.1*r.2
theorem aRa {rows:List R2} {x:Int×Int} (h:Sat rows x):C2 rows:=by
 obtain ⟨h1,h2⟩:=h
 refine ⟨fun r hr e=>?_,fun r hr s hs hr0 hs0=>?_⟩
 ·have:=h2 r hr
  rw [e,Int.zero_mul,Int.zero_add] at this
  exact Int.pos_of_mul_pos_left this (by omega)
 ·have a:=Int.mul_pos hr0 (h2 s hs)
  have b:=Int.mul_pos (show 0 < -s.1 by omega) (h2 r hr)
  have e:x.2*(r.1*s.2 - s.1*r.2)=r.1*(s.1*x.1+s.2*x.2)+-s.1*(r.1*x.1+r.2*x.2):=by grind
  have:0 < x.2*(r.1*s.2 - s.1*r.2):=by rw [e];omega
  exact Int.pos_of_mul_pos_right this (by omega)
def l4 (r:R2):Int×Int:=FR.mk (-r.2) r.1
theorem qQ {r:R2} (h:r.1≠0):1<=(l4 r).2/\(l4 r).1*r.1 = -r.2*(l4 r).2:=by
 obtain ⟨f,e⟩:=FR.nM (t:=-r.2) h
 exact ⟨f.pos,e⟩
theorem aIx {r:R2} (h:0 < r.1) (x:Int×Int):ltF (l4 r) x=true↔0 < r.1*x.1+r.2*x.2:=by
 obtain ⟨p,e⟩:=qQ (r:=r) (by omega)
 have k:=wD (p:=r.1) (q:=(l4 r).2) (a:=x.1*(l4 r).2 - (l4 r).1*x.2) (b:=r.1*x.1+r.2*x.2) h (by omega) (by grind)
 unfold ltF
 rw [decide_eq_true_iff,<- k]
 omega
theorem aHg {r:R2} (h:r.1 < 0) (x:Int×Int):ltF x (l4 r)=true↔0 < r.1*x.1+r.2*x.2:=by
 obtain ⟨p,e⟩:=qQ (r:=r) (by omega)
 have k:=wD (p:=-r.1) (q:=(l4 r).2) (a:=(l4 r).1*x.2 - x.1*(l4 r).2) (b:=r.1*x.1+r.2*x.2) (by omega) (by omega) (by grind)
 unfold ltF
 rw [decide_eq_true_iff,<- k]
 omega
theorem aE4 {r s:R2} (hr:0 < r.1) (hs:s.1 < 0):ltF (l4 r) (l4 s)=true↔0 < r.1*s.2 - s.1*r.2:=by
 obtain ⟨p,e⟩:=qQ (r:=r) (by omega)
 obtain ⟨p2,e2⟩:=qQ (r:=s) (by omega)
 have k:=wD (p:=-s.1*r.1) (q:=(l4 r).2*(l4 s).2) (a:=(l4 s).1*(l4 r).2 - (l4 r).1*(l4 s).2) (b:=r.1*s.2 - s.1*r.2) (Int.mul_pos (by omega) hr) (Int.mul_pos (by omega) (by omega)) (by grind)
 unfold ltF
 rw [decide_eq_true_iff,<- k]
 omega
def i8 (rows:List R2):List (Int×Int):=(rows.filter fun r=>decide (0 < r.1)).map l4
def fN (rows:List R2):List (Int×Int):=(rows.filter fun r=>decide (r.1 < 0)).map l4
def btw (lows highs:List (Int×Int)):Option (Int×Int) :=
 if lows=[]/\highs=[] then some (0,1)
 else if highs=[] then some (hP (best (lows.headD (0,1)) lows) (1,1))
 else if lows=[] then some (hM (worst (highs.headD (0,1)) highs) (1,1))
 else if ltF (best (lows.headD (0,1)) lows) (worst (highs.headD (0,1)) highs)=true then some (hO (hP (best (lows.headD (0,1)) lows) (worst (highs.headD (0,1)) highs)) (2,1)) else none
def solve (rows:List R2):Option (Int×Int):=if rows.any (fun r=>decide (r.1=0) && decide (r.2<=0))=true then none else btw (i8 rows) (fN rows)
theorem head_mem {α:Type} {xs:List α} (d:α) (h:xs≠[]):xs.headD d∈xs:=by
 cases xs with
 | nil=>exact absurd rfl h
 | cons p r=>exact .head _
theorem mT {xs:List (Int×Int)} (h:xs≠[]) (hp:∀ x∈xs,1<=x.2):best (xs.headD (0,1)) xs∈xs/\(∀ x∈xs,leF x (best (xs.headD (0,1)) xs))/\1<=(best (xs.headD (0,1)) xs).2:=by
 have hm:=head_mem (0,1) h
 obtain ⟨a,b,c⟩:=aD1 xs (xs.headD (0,1)) (hp _ hm) hp
 refine ⟨?_,b,c⟩
 rcases xX xs (xs.headD (0,1)) with z | z
 ·rw [z];exact hm
 ·exact z
theorem kP {xs:List (Int×Int)} (h:xs≠[]) (hp:∀ x∈xs,1<=x.2):worst (xs.headD (0,1)) xs∈xs/\(∀ x∈xs,leF (worst (xs.headD (0,1)) xs) x)/\1<=(worst (xs.headD (0,1)) xs).2:=by
 have hm:=head_mem (0,1) h
 obtain ⟨a,b,c⟩:=xY xs (xs.headD (0,1)) (hp _ hm) hp
 refine ⟨?_,b,c⟩
 rcases u7 xs (xs.headD (0,1)) with z | z
 ·rw [z];exact hm
 ·exact z
theorem aRh {x:Int×Int} (h:1<=x.2):AF (hM x (1,1)) (x.1 - x.2,x.2):=by
 refine aGt (by show 1<=x.2*1;omega) h ?_
 show (x.1*1 - 1*x.2)*x.2=(x.1 - x.2)*(x.2*1)
 grind
theorem aQs {x:Int×Int} (h:1<=x.2):AF (hP x (1,1)) (x.1+x.2,x.2):=by
 refine aGt (by show 1<=x.2*1;omega) h ?_
 show (x.1*1+1*x.2)*x.2=(x.1+x.2)*(x.2*1)
 grind
theorem aRk {x x':Int×Int} (h:AF x x'):AF (hO x (2,1)) (x'.1,x'.2*2):=by
 obtain ⟨a,b,e⟩:=h
 refine aGt (by show 1<=x.2*2;omega) (by show 1<=x'.2*2;omega) ?_
 show x.1*1*(x'.2*2)=x'.1*(x.2*2)
 grind
theorem mem_lows {rows:List R2} {x:Int×Int}:x∈i8 rows↔∃ r∈rows,0 < r.1/\l4 r=x:=by
 unfold i8
 rw [List.mem_map]
 constructor
 ·rintro ⟨r,hr,e⟩
  obtain ⟨h1,h2⟩:=List.mem_filter.mp hr
  exact ⟨r,h1,of_decide_eq_true h2,e⟩
 ·rintro ⟨r,h1,h2,e⟩
  exact ⟨r,List.mem_filter.mpr ⟨h1,decide_eq_true h2⟩,e⟩
theorem mem_highs {rows:List R2} {x:Int×Int}:x∈fN rows↔∃ r∈rows,r.1 < 0/\l4 r=x:=by
 unfold fN
 rw [List.mem_map]
 constructor
 ·rintro ⟨r,hr,e⟩
  obtain ⟨h1,h2⟩:=List.mem_filter.mp hr
  exact ⟨r,h1,of_decide_eq_true h2,e⟩
 ·rintro ⟨r,h1,h2,e⟩
  exact ⟨r,List.mem_filter.mpr ⟨h1,decide_eq_true h2⟩,e⟩
theorem aNf {lows highs:List (Int×Int)} {x:Int×Int} (hl:∀ x∈lows,1<=x.2) (hh:∀ x∈highs,1<=x.2) (e:btw lows highs=some x):1<=x.2/\(∀ l∈lows,ltF l x=true)/\∀ h∈highs,ltF x h=true:=by
 unfold btw at e
 split at e
 ·rename_i z
  cases e
  rw [z.1,z.2]
  exact ⟨by decide,(fun _ h=>nomatch h),(fun _ h=>nomatch h)⟩
 ·rename_i z
  split at e
  ·rename_i z2
   cases e
   obtain ⟨b1,b2,b3⟩:=mT (fun q=>z ⟨q,z2⟩) hl
   have af:=aQs b3
   refine ⟨af.a,fun l h=>?_,fun h q=>by rw [z2] at q;cases q⟩
   refine aNi (hl l h) b3 af.a (b2 l h) ?_
   rw [aGg (AF.refl b3) af]
   exact decide_eq_true (by show _*_ < (_+_)*_;have:=cN b3 b3;grind)
  ·rename_i z2
   split at e
   ·rename_i z3
    cases e
    obtain ⟨b1,b2,b3⟩:=kP z2 hh
    have af:=aRh b3
    refine ⟨af.a,fun l q=>(by rw [z3] at q;cases q),fun h q=>?_⟩
    refine aOz af.a b3 (hh h q) ?_ (b2 h q)
    rw [aGg af (AF.refl b3)]
    exact decide_eq_true (by show (_ - _)*_ < _*_;have:=cN b3 b3;grind)
   ·rename_i z3
    split at e
    ·rename_i z4
     cases e
     obtain ⟨b1,b2,b3⟩:=mT z3 hl
     obtain ⟨c1,c2,c3⟩:=kP z2 hh
     have af:=aRk (aSm (AF.refl b3) (AF.refl c3))
     unfold ltF at z4
     have z4:=of_decide_eq_true z4
     generalize best (lows.headD (0,1)) lows=l at *
     generalize worst (highs.headD (0,1)) highs=h at *
     refine ⟨af.a,fun y q=>aNi (hl y q) b3 af.a (b2 y q) ?_,fun y q=>aOz af.a c3 (hh y q) ?_ (c2 y q)⟩
     ·rw [aGg (AF.refl b3) af]
      refine decide_eq_true ?_
      show l.1*(l.2*h.2*2) < (l.1*h.2+h.1*l.2)*l.2
      have:=Int.mul_pos (show 0 < h.1*l.2 - l.1*h.2 by omega) (show 0 < l.2 by omega)
      grind
     ·rw [aGg af (AF.refl c3)]
      refine decide_eq_true ?_
      show (l.1*h.2+h.1*l.2)*h.2 < h.1*(l.2*h.2*2)
      have:=Int.mul_pos (show 0 < h.1*l.2 - l.1*h.2 by omega) (show 0 < h.2 by omega)
      grind
    ·cases e
theorem rR {rows:List R2}:∀ x∈i8 rows,1<=x.2:=fun x hx=>by
 obtain ⟨r,_,h,rfl⟩:=mem_lows.mp hx
 exact (qQ (by omega)).1
theorem nX {rows:List R2}:∀ x∈fN rows,1<=x.2:=fun x hx=>by
 obtain ⟨r,_,h,rfl⟩:=mem_highs.mp hx
 exact (qQ (by omega)).1
theorem oS {rows:List R2} {x:Int×Int} (e:solve rows=some x):Sat rows x:=by
 unfold solve at e
 split at e
 ·cases e
 ·rename_i z
  obtain ⟨h1,h2,h3⟩:=aNf rR nX e
  refine ⟨h1,fun r hr=>?_⟩
  rcases Int.lt_trichotomy r.1 0 with q | q | q
  ·exact (aHg q x).mp (h3 _ (mem_highs.mpr ⟨r,hr,q,rfl⟩))
  ·rw [q,Int.zero_mul,Int.zero_add]
   refine Int.mul_pos ?_ (by omega)
   by_cases y:0 < r.2
   ·exact y
   ·exfalso
    refine z (List.any_eq_true.mpr ⟨r,hr,?_⟩)
    simp only [Bool.and_eq_true,decide_eq_true_eq]
    exact ⟨q,by omega⟩
  ·exact (aIx q x).mp (h2 _ (mem_lows.mpr ⟨r,hr,q,rfl⟩))
theorem mU {rows:List R2} (h:C2 rows):∃ x,solve rows=some x:=by
 unfold solve
 have:¬ rows.any (fun r=>decide (r.1=0) && decide (r.2<=0))=true:=fun z=>by
  obtain ⟨r,hr,q⟩:=List.any_eq_true.mp z
  simp only [Bool.and_eq_true,decide_eq_true_eq] at q
  have:=h.1 r hr q.1
  omega
 rw [if_neg this]
 unfold btw
 split
 ·exact ⟨_,rfl⟩
 ·split
  ·exact ⟨_,rfl⟩
  ·split
   ·exact ⟨_,rfl⟩
   ·rename_i z1 z2 z3
    obtain ⟨b1,_,_⟩:=mT z3 rR
    obtain ⟨c1,_,_⟩:=kP z2 nX
    obtain ⟨r,hr,q,er⟩:=mem_lows.mp b1
    obtain ⟨s,hs,q2,es⟩:=mem_highs.mp c1
    rw [if_pos (by rw [<- er,<- es];exact (aE4 q q2).mpr (h.2 r hr s hs q q2))]
    exact ⟨_,rfl⟩
def j5 (l h:R3):R2:=(l.2.1*h.1 - h.2.1*l.1,l.2.1*h.2.2 - h.2.1*l.2.2)
def o8 (rows:List R3):List R2:=(rows.filter fun r=>decide (r.2.1=0)).map fun r=>(r.1,r.2.2)
def gU (rows:List R3):List R3:=rows.filter fun r=>decide (r.2.1 < 0)
def mI (highs:List R3) (k:List R2) (l:R3):List R2:=if 0 < l.2.1 then k++highs.map (j5 l) else k
def elim (rows:List R3):List R2:=rows.foldl (mI (gU rows)) (o8 rows)
theorem uY {highs:List R3} {x:R2}:∀ (rows:List R3) (k:List R2),x∈rows.foldl (mI highs) k↔x∈k\/∃ l∈rows,0 < l.2.1/\∃ h∈highs,j5 l h=x
 | [],k=>by simp
 | l :: rows,k=>by
  rw [List.foldl_cons,uY rows]
  unfold mI
  constructor
  ·rintro (h | ⟨m,h1,h2⟩)
   ·split at h
    ·rename_i z
     rcases List.mem_append.mp h with q | q
     ·exact .inl q
     ·obtain ⟨y,hy,e⟩:=List.mem_map.mp q
      exact .inr ⟨l,.head _,z,y,hy,e⟩
    ·exact .inl h
   ·exact .inr ⟨m,.tail _ h1,h2⟩
  ·rintro (h | ⟨m,h1,h2,y,hy,e⟩)
   ·left
    split
    ·exact List.mem_append_left _ h
    ·exact h
   ·rcases List.mem_cons.mp h1 with z | z
    ·left
     subst z
     rw [if_pos h2]
     exact List.mem_append_right _ (List.mem_map.mpr ⟨y,hy,e⟩)
    ·exact .inr ⟨m,z,h2,y,hy,e⟩
theorem mem_elim {rows:List R3} {x:R2}:x∈elim rows↔(∃ r∈rows,r.2.1=0/\(r.1,r.2.2)=x)\/∃ l∈rows,0 < l.2.1/\∃ h∈rows,h.2.1 < 0/\j5 l h=x:=by
 unfold elim
 rw [uY]
 have k:x∈o8 rows↔∃ r∈rows,r.2.1=0/\(r.1,r.2.2)=x:=by
  unfold o8
  rw [List.mem_map]
  constructor
  ·rintro ⟨r,hr,e⟩
   obtain ⟨h1,h2⟩:=List.mem_filter.mp hr
   exact ⟨r,h1,of_decide_eq_true h2,e⟩
  ·rintro ⟨r,h1,h2,e⟩
   exact ⟨r,List.mem_filter.mpr ⟨h1,decide_eq_true h2⟩,e⟩
 have hh:∀ h,h∈gU rows↔h∈rows/\h.2.1 < 0:=fun h=>by
  unfold gU
  rw [List.mem_filter,decide_eq_true_iff]
 rw [k]
 constructor
 ·rintro (h | ⟨l,h1,h2,h,h3,e⟩)
  ·exact .inl h
  ·exact .inr ⟨l,h1,h2,h,((hh h).mp h3).1,((hh h).mp h3).2,e⟩
 ·rintro (h | ⟨l,h1,h2,h,h3,h4,e⟩)
  ·exact .inl h
  ·exact .inr ⟨l,h1,h2,h,(hh h).mpr ⟨h3,h4⟩,e⟩
def aO1 (rows:List R3) (X Y D:Int):Prop:=1<=D/\∀ r∈rows,0 < r.1*X+r.2.1*Y+r.2.2*D
theorem aJa {rows:List R3} {X Y D:Int} (h:aO1 rows X Y D):Sat (elim rows) (X,D):=by
 refine ⟨h.1,fun x hx=>?_⟩
 rcases mem_elim.mp hx with ⟨r,hr,e0,rfl⟩ | ⟨l,hl,l0,g,hg,g0,rfl⟩
 ·have:=h.2 r hr
  rw [e0,Int.zero_mul,Int.add_zero] at this
  exact this
 ·have a:=Int.mul_pos l0 (h.2 g hg)
  have b:=Int.mul_pos (show 0 < -g.2.1 by omega) (h.2 l hl)
  show 0 < (l.2.1*g.1 - g.2.1*l.1)*X+(l.2.1*g.2.2 - g.2.1*l.2.2)*D
  have e:(l.2.1*g.1 - g.2.1*l.1)*X+(l.2.1*g.2.2 - g.2.1*l.2.2)*D=l.2.1*(g.1*X+g.2.1*Y+g.2.2*D)+-g.2.1*(l.1*X+l.2.1*Y+l.2.2*D):=by grind
  rw [e]
  omega
def aE0 (x:Int×Int) (r:R3):R2:=(r.2.1*x.2,r.1*x.1+r.2.2*x.2)
theorem aPq {rows:List R3} {x:Int×Int} (h:Sat (elim rows) x):C2 (rows.map (aE0 x)):=by
 have x0:=h.1
 refine ⟨fun y hy e=>?_,fun y hy z hz y0 z0=>?_⟩
 ·obtain ⟨r,hr,rfl⟩:=List.mem_map.mp hy
  have:r.2.1=0:=by
   rcases Int.mul_eq_zero.mp e with q | q
   ·exact q
   ·omega
  exact h.2 _ (mem_elim.mpr (.inl ⟨r,hr,this,rfl⟩))
 ·obtain ⟨r,hr,rfl⟩:=List.mem_map.mp hy
  obtain ⟨s,hs,rfl⟩:=List.mem_map.mp hz
  have r0:0 < r.2.1:=Int.pos_of_mul_pos_left y0 (by omega)
  have s0:s.2.1 < 0:=by
   have z0:s.2.1*x.2 < 0:=z0
   by_cases q:s.2.1 < 0
   ·exact q
   ·have:=Int.mul_nonneg (show 0<=s.2.1 by omega) (show 0<=x.2 by omega)
    omega
  have k:=h.2 _ (mem_elim.mpr (.inr ⟨r,hr,r0,s,hs,s0,rfl⟩))
  have k:0 < (r.2.1*s.1 - s.2.1*r.1)*x.1+(r.2.1*s.2.2 - s.2.1*r.2.2)*x.2:=k
  have m:=Int.mul_pos (show 0 < x.2 by omega) k
  show 0 < r.2.1*x.2*(s.1*x.1+s.2.2*x.2) - s.2.1*x.2*(r.1*x.1+r.2.2*x.2)
  have e:r.2.1*x.2*(s.1*x.1+s.2.2*x.2) - s.2.1*x.2*(r.1*x.1+r.2.2*x.2)=x.2*((r.2.1*s.1 - s.2.1*r.1)*x.1+(r.2.1*s.2.2 - s.2.1*r.2.2)*x.2):=by grind
  rw [e]
  exact m
def mX (rows:List R3):Option ((Int×Int)×(Int×Int)):=match solve (elim rows) with
 | none=>none
 | some x=>match solve (rows.map (aE0 x)) with
  | none=>none
  | some y=>some (x,y)
theorem vR {rows:List R3} {x:Int×Int} (e:solve (elim rows)=some x):∃ y,solve (rows.map (aE0 x))=some y/\mX rows=some (x,y):=by
 obtain ⟨y,hy⟩:=mU (aPq (oS e))
 refine ⟨y,hy,?_⟩
 unfold mX
 rw [e]
 dsimp only
 rw [hy]
theorem zP {rows:List R3} {pt:(Int×Int)×(Int×Int)} (e:mX rows=some pt):1<=pt.1.2/\1<=pt.2.2/\∀ r∈rows,0 < r.1*pt.1.1*pt.2.2+r.2.1*pt.2.1*pt.1.2+r.2.2*pt.1.2*pt.2.2:=by
 unfold mX at e
 cases ex:solve (elim rows) with
 | none=>rw [ex] at e;cases e
 | some x =>
  rw [ex] at e
  dsimp only at e
  cases ey:solve (rows.map (aE0 x)) with
  | none=>rw [ey] at e;cases e
  | some y =>
   rw [ey] at e
   cases e
   have sx:=oS ex
   have sy:=oS ey
   refine ⟨sx.1,sy.1,fun r hr=>?_⟩
   have k:=sy.2 _ (List.mem_map.mpr ⟨r,hr,rfl⟩)
   have k:0 < r.2.1*x.2*y.1+(r.1*x.1+r.2.2*x.2)*y.2:=k
   have e:r.1*x.1*y.2+r.2.1*y.1*x.2+r.2.2*x.2*y.2=r.2.1*x.2*y.1+(r.1*x.1+r.2.2*x.2)*y.2:=by grind
   show 0 < r.1*x.1*y.2+r.2.1*y.1*x.2+r.2.2*x.2*y.2
   rw [e]
   exact k
theorem aEd {rows:List R3} {X Y D:Int} (h:aO1 rows X Y D):∃ pt,mX rows=some pt:=by
 obtain ⟨x,hx⟩:=mU (aRa (aJa h))
 obtain ⟨y,_,e⟩:=vR hx
 exact ⟨_,e⟩
end N
namespace N
abbrev Q2:=Int×Int
theorem aNr {t b:Int} (h:1<=b):FR.Fr (FR.mk t b):=(FR.nM (by omega)).1
theorem aQn {x y:Int×Int} (hx:1<=x.2) (hy:1<=y.2):FR.Fr (hP x y):=aNr (cN hx hy)
def ng (x:Int×Int):Int×Int:=hM (0,1) x
end N
namespace N
theorem rF {α:Type} (D:Int) {f g:α->Int}:∀ {l:List α},(∀ e∈l,f e=D*g e)->(l.map f).sum=D*(l.map g).sum
 | [],_=>by simp
 | x :: l,h=>by
  rw [List.map_cons,List.map_cons,List.sum_cons,List.sum_cons,rF D (l:=l) fun y hy=>h y (.tail _ hy),h x (.head _),Int.mul_add]
end N
namespace N
def cr (a b:Q2):Int:=a.1*b.2 - a.2*b.1
def dt (a b:Q2):Int:=a.1*b.1+a.2*b.2
def ad (a b:Q2):Q2:=(a.1+b.1,a.2+b.2)
def sb (a b:Q2):Q2:=(a.1 - b.1,a.2 - b.2)
theorem aOk (x:Int):0<=x*x:=by
 rw [<- Int.natAbs_mul_self]
 exact Int.natCast_nonneg _
theorem xT {f:Q2} (h:f≠(0,0)):0 < dt f f:=by
 unfold dt
 have a:=aOk f.1
 have b:=aOk f.2
 refine Int.not_le.mp fun z=>h ?_
 have a0:f.1*f.1=0:=by omega
 have b0:f.2*f.2=0:=by omega
 exact Prod.ext (by rcases Int.mul_eq_zero.mp a0 with q | q<;>exact q) (by rcases Int.mul_eq_zero.mp b0 with q | q<;>exact q)
structure Fc (P:List Q2) (f p:Q2):Prop where
 m:p∈P
 r:∀ q∈P,cr q f<=cr p f
structure Fst (P:List Q2) (f p:Q2):Prop where
 c:Fc P f p
 d:∀ q,Fc P f q->dt f p<=dt f q
structure Lst (P:List Q2) (f p:Q2):Prop where
 c:Fc P f p
 d:∀ q,Fc P f q->dt f q<=dt f p
section
variable {P Q S:List Q2} {f g p q u v:Q2}
end
noncomputable def fs (P:List Q2) (f:Q2):Q2:=Classical.epsilon (Fst P f)
noncomputable def ls (P:List Q2) (f:Q2):Q2:=Classical.epsilon (Lst P f)
section
variable {P Q S:List Q2} {f g p q u v:Q2} (sm0:∀ s,s∈S↔∃ p∈P,∃ q∈Q,s=ad p q)
include sm0
end
noncomputable def pe (P:List Q2) (e:Q2×Q2):Q2×Q2:=(fs P (sb e.2 e.1),ls P (sb e.2 e.1))
theorem aAx {α:Type} {F:α->Int} {p:α->Bool}:∀ {l:List α},(∀ x∈l,p x=false->F x=0)->(l.map F).sum=((l.filter p).map F).sum
 | [],_=>rfl
 | x :: l,h=>by
  have ih:=aAx (F:=F) (p:=p) (l:=l) fun y hy=>h y (.tail _ hy)
  rw [List.filter_cons]
  cases e:p x with
  | true=>rw [if_pos rfl,List.map_cons,List.map_cons,List.sum_cons,List.sum_cons,ih]
  | false=>rw [if_neg (by decide),List.map_cons,List.sum_cons,ih,h x (.head _) e,Int.zero_add]
section
variable {P Q S:List Q2} (sm0:∀ s,s∈S↔∃ p∈P,∃ q∈Q,s=ad p q) (pn0:P≠[]) (qn0:Q≠[])
include sm0 pn0 qn0
end
end N
namespace N
theorem aMy {α:Type} {F G:α->Int}:∀ {l:List α},(∀ e∈l,F e=G e)->(l.map F).sum=(l.map G).sum:=fun {l} h=>by rw [List.map_congr_left h]
end N
namespace N
structure Mix (rs:List R3) (cs:List (Int×R3)):Prop where
 n:cs≠[]
 p:∀ x∈cs,0 < x.1/\x.2∈rs
 a:(cs.map fun x=>x.1*x.2.1).sum=0
 b:(cs.map fun x=>x.1*x.2.2.1).sum=0
 c:(cs.map fun x=>x.1*x.2.2.2).sum<=0
structure Mad (rs:List R3) (e:R2) (cs:List (Int×R3)):Prop where
 n:cs≠[]
 p:∀ x∈cs,0 < x.1/\x.2∈rs
 a:(cs.map fun x=>x.1*x.2.1).sum=e.1
 b:(cs.map fun x=>x.1*x.2.2.1).sum=0
 c:(cs.map fun x=>x.1*x.2.2.2).sum=e.2
theorem made {rs:List R3} {e:R2} (he:e∈elim rs):∃ cs,Mad rs e cs:=by
 rcases mem_elim.mp he with ⟨r,hr,h0,rfl⟩ | ⟨l,hl,lp,h,hh,hn,rfl⟩
 ·refine ⟨[(1,r)],List.cons_ne_nil _ _,fun x hx=>?_,?_,?_,?_⟩
  ·rw [List.mem_singleton.mp hx];exact ⟨(by decide:(0:Int) < 1),hr⟩
  ·simp
  ·simp [h0]
  ·simp
 ·refine ⟨[(l.2.1,h),(-h.2.1,l)],List.cons_ne_nil _ _,fun x hx=>?_,?_,?_,?_⟩
  ·rcases List.mem_cons.mp hx with e | e
   ·rw [e];exact ⟨lp,hh⟩
   ·rw [List.mem_singleton.mp e];exact ⟨by show 0 < -h.2.1;omega,hl⟩
  ·simp only [List.map_cons,List.map_nil,List.sum_cons,List.sum_nil,j5];grind
  ·simp only [List.map_cons,List.map_nil,List.sum_cons,List.sum_nil];grind
  ·simp only [List.map_cons,List.map_nil,List.sum_cons,List.sum_nil,j5];grind
def scs (k:Int) (cs:List (Int×R3)):List (Int×R3):=cs.map fun x=>(k*x.1,x.2)
theorem aEk (k:Int) (g:R3->Int) (cs:List (Int×R3)):((scs k cs).map fun x=>x.1*g x.2).sum=k*(cs.map fun x=>x.1*g x.2).sum:=by
 unfold scs
 rw [List.map_map]
 exact rF k fun e _=>by show k*e.1*g e.2=k*(e.1*g e.2);grind
theorem aOh {rs:List R3} (h:¬ C2 (elim rs)):∃ cs,Mix rs cs:=by
 by_cases z:∃ e∈elim rs,e.1=0/\e.2<=0
 ·obtain ⟨e,he,e1,e2⟩:=z
  obtain ⟨cs,m⟩:=made he
  exact ⟨cs,m.n,m.p,m.a.trans e1,m.b,by rw [m.c];exact e2⟩
 ·by_cases w:∃ r∈elim rs,∃ s∈elim rs,0 < r.1/\s.1 < 0/\r.1*s.2 - s.1*r.2<=0
  ·obtain ⟨r,hr,s,hs,rp,sn,le⟩:=w
   obtain ⟨c1,m1⟩:=made hr
   obtain ⟨c2,m2⟩:=made hs
   have sm:∀ g:R3->Int,((scs (-s.1) c1++scs r.1 c2).map fun x=>x.1*g x.2).sum = -s.1*(c1.map fun x=>x.1*g x.2).sum+r.1*(c2.map fun x=>x.1*g x.2).sum:=fun g=>by
    rw [List.map_append,List.sum_append,aEk,aEk]
   refine ⟨scs (-s.1) c1++scs r.1 c2,fun z=>?_,fun x hx=>?_,?_,?_,?_⟩
   ·have:=(List.append_eq_nil_iff.mp z).1
    unfold scs at this
    exact m1.n (List.map_eq_nil_iff.mp this)
   ·rcases List.mem_append.mp hx with k | k
    ·obtain ⟨y,hy,rfl⟩:=List.mem_map.mp k
     exact ⟨Int.mul_pos (by omega) (m1.p y hy).1,(m1.p y hy).2⟩
    ·obtain ⟨y,hy,rfl⟩:=List.mem_map.mp k
     exact ⟨Int.mul_pos rp (m2.p y hy).1,(m2.p y hy).2⟩
   ·rw [sm fun r=>r.1,m1.a,m2.a];grind
   ·rw [sm fun r=>r.2.1,m1.b,m2.b];grind
   ·rw [sm fun r=>r.2.2,m1.c,m2.c];grind
  ·refine absurd ⟨fun e he e0=>?_,fun r hr s hs rp sn=>?_⟩ h
   ·exact Int.not_le.mp fun k=>z ⟨e,he,e0,k⟩
   ·have:=Int.not_le.mp fun k=>w ⟨r,hr,s,hs,rp,sn,k⟩
    grind
theorem aMl {rs:List R3} (h:¬ ∃ X Y D,aO1 rs X Y D):¬ C2 (elim rs):=fun k=>by
 obtain ⟨x,e⟩:=mU k
 obtain ⟨y,_,e2⟩:=vR e
 obtain ⟨p1,p2,p3⟩:=zP e2
 refine h ⟨x.1*y.2,y.1*x.2,x.2*y.2,cN p1 p2,fun r hr=>?_⟩
 have:=p3 r hr
 dsimp only at this
 grind
structure Rel (rs:List R3) (es:List (Int×Int×R3)):Prop where
 p:∀ x∈es,0 < x.1/\x.2.2∈rs
 a:(es.map fun x=>x.1*x.2.2.1).sum=0
 b:(es.map fun x=>x.1*x.2.2.2.1).sum=0
 c:(es.map fun x=>x.1*x.2.2.2.2).sum<=0
 a':(es.map fun x=>x.2.1*x.2.2.1).sum=0
 b':(es.map fun x=>x.2.1*x.2.2.2.1).sum=0
 z:∃ x∈es,x.2.1=0
 nz:∃ x∈es,x.2.1≠0
theorem aBa {α:Type} (k m:Int) (f g:α->Int):∀ l:List α,(l.map fun x=>k*f x - m*g x).sum=k*(l.map f).sum - m*(l.map g).sum
 | []=>by simp
 | x :: l=>by
  simp only [List.map_cons,List.sum_cons]
  rw [aBa k m f g l]
  grind
theorem aHx {α:Type} {p:α->Bool}:∀ {l:List α} {x:α},x∈l->p x=false->(l.filter p).length < l.length
 | y :: l,x,h,e=>by
  rw [List.filter_cons]
  have le:=List.length_filter_le p l
  rcases List.mem_cons.mp h with rfl | h
  ·rw [if_neg (by rw [e];decide),List.length_cons];omega
  ·have:=aHx h e
   split
   ·rw [List.length_cons,List.length_cons];omega
   ·rw [List.length_cons];omega
theorem keep {rs:List R3} {es:List (Int×Int×R3)} (f:Int×Int×R3->Int) (hp:∀ x∈es,x.2.2∈rs) (nn:∀ x∈es,0<=f x) (a:(es.map fun x=>f x*x.2.2.1).sum=0) (b:(es.map fun x=>f x*x.2.2.2.1).sum=0) (c:(es.map fun x=>f x*x.2.2.2.2).sum<=0) (y:∃ x∈es,0 < f x) (w:∃ x∈es,f x=0):∃ cs,Mix rs cs/\cs.length < es.length:=by
 obtain ⟨y,hy,py⟩:=y
 obtain ⟨w,hw,zw⟩:=w
 have sm:∀ g:R3->Int,(((es.filter fun x=>decide (0 < f x)).map fun x=>(f x,x.2.2)).map fun x:Int×R3=>x.1*g x.2).sum=(es.map fun x=>f x*g x.2.2).sum:=fun g=>by
  rw [List.map_map]
  symm
  exact aAx (F:=fun x=>f x*g x.2.2) (p:=fun x=>decide (0 < f x)) fun x hx h=>by
   have h:=of_decide_eq_false h
   have:=nn x hx
   rw [show f x=0 by omega,Int.zero_mul]
 refine ⟨(es.filter fun x=>decide (0 < f x)).map fun x=>(f x,x.2.2),⟨fun z=>?_,fun x hx=>?_,?_,?_,?_⟩,?_⟩
 ·have:y∈es.filter fun x=>decide (0 < f x):=List.mem_filter.mpr ⟨hy,decide_eq_true py⟩
  rw [List.map_eq_nil_iff.mp z] at this
  cases this
 ·obtain ⟨v,hv,rfl⟩:=List.mem_map.mp hx
  obtain ⟨v1,v2⟩:=List.mem_filter.mp hv
  exact ⟨of_decide_eq_true v2,hp v v1⟩
 ·rw [sm fun r=>r.1];exact a
 ·rw [sm fun r=>r.2.1];exact b
 ·rw [sm fun r=>r.2.2];exact c
 ·rw [List.length_map]
  exact aHx hw (decide_eq_false (by omega))
theorem aB3 {α:Type} (le:α->α->Prop):∀ (l:List α),(∀ a b,le a b\/le b a)->(∀ a∈l,∀ b∈l,∀ c∈l,le a b->le b c->le a c)->l≠[]->∃ m∈l,∀ x∈l,le x m
 | [],_,_,h=>absurd rfl h
 | [a],tot,_,_=>⟨a,.head _,fun x hx=>by
  rw [List.mem_singleton.mp hx]
  rcases tot a a with h | h<;>exact h⟩
 | a :: b :: l,tot,tr,_=>by
  obtain ⟨m,hm,h⟩:=aB3 le (b :: l) tot (fun x hx y hy z hz=>tr x (.tail _ hx) y (.tail _ hy) z (.tail _ hz)) (List.cons_ne_nil _ _)
  rcases tot a m with k | k
  ·refine ⟨m,.tail _ hm,fun x hx=>?_⟩
   rcases List.mem_cons.mp hx with e | e
   ·rw [e];exact k
   ·exact h x e
  ·refine ⟨a,.head _,fun x hx=>?_⟩
   rcases List.mem_cons.mp hx with e | e
   ·rw [e];rcases tot a a with z | z<;>exact z
   ·exact tr x (.tail _ e) m (.tail _ hm) a (.head _) (h x e) k
theorem aIg {rs:List R3} {es:List (Int×Int×R3)} (h:Rel rs es) (c':0<=(es.map fun x=>x.2.1*x.2.2.2.2).sum):∃ cs,Mix rs cs/\cs.length < es.length:=by
 obtain ⟨z,hz,z0⟩:=h.z
 by_cases q:es.filter (fun x=>decide (0 < x.2.1))=[]
 ·have np:∀ x∈es,x.2.1<=0:=fun x hx=>Int.not_lt.mp fun k=>by
   have:x∈es.filter (fun x=>decide (0 < x.2.1)):=List.mem_filter.mpr ⟨hx,decide_eq_true k⟩
   rw [q] at this;cases this
  obtain ⟨y,hy,y0⟩:=h.nz
  have sg:∀ g:R3->Int,(es.map fun x=>-x.2.1*g x.2.2).sum = -(es.map fun x=>x.2.1*g x.2.2).sum:=fun g=>by
   have:=rF (-1) (f:=fun x:Int×Int×R3=>-x.2.1*g x.2.2) (g:=fun x=>x.2.1*g x.2.2) (l:=es) fun x _=>by grind
   omega
  refine keep (fun x=>-x.2.1) (fun x hx=>(h.p x hx).2) (fun x hx=>by have:=np x hx;omega) ?_ ?_ ?_ ⟨y,hy,by have:=np y hy;omega⟩ ⟨z,hz,by omega⟩
  ·rw [sg fun r=>r.1,h.a'];rfl
  ·rw [sg fun r=>r.2.1,h.b'];rfl
  ·rw [sg fun r=>r.2.2];omega
 ·obtain ⟨m,hm,ht⟩:=aB3 (fun x y:Int×Int×R3=>y.1*x.2.1<=x.1*y.2.1) (es.filter fun x=>decide (0 < x.2.1)) (fun a b=>by omega) (fun x hx y hy w hw h1 h2=>by
   have px:=of_decide_eq_true (List.mem_filter.mp hx).2
   have py:=of_decide_eq_true (List.mem_filter.mp hy).2
   have pw:=of_decide_eq_true (List.mem_filter.mp hw).2
   have k1:=Int.mul_le_mul_of_nonneg_right h1 (Int.le_of_lt pw)
   have k2:=Int.mul_le_mul_of_nonneg_right h2 (Int.le_of_lt px)
   refine Int.le_of_mul_le_mul_left (a:=y.2.1) ?_ py
   grind) q
  obtain ⟨m1,m2⟩:=List.mem_filter.mp hm
  have mp:=of_decide_eq_true m2
  have ml:=(h.p m m1).1
  have sg:∀ g:R3->Int,(es.map fun x=>(m.2.1*x.1 - m.1*x.2.1)*g x.2.2).sum=m.2.1*(es.map fun x=>x.1*g x.2.2).sum - m.1*(es.map fun x=>x.2.1*g x.2.2).sum:=fun g=>by
   rw [<- aBa]
   exact aMy fun x _=>by grind
  refine keep (fun x=>m.2.1*x.1 - m.1*x.2.1) (fun x hx=>(h.p x hx).2) (fun x hx=>?_) ?_ ?_ ?_ ⟨z,hz,?_⟩ ⟨m,m1,by grind⟩
  ·by_cases k:0 < x.2.1
   ·have:=ht x (List.mem_filter.mpr ⟨hx,decide_eq_true k⟩)
    grind
   ·have k1:=Int.mul_nonneg (Int.le_of_lt mp) (Int.le_of_lt (h.p x hx).1)
    have k2:=Int.mul_nonneg (Int.le_of_lt ml) (show 0<=-x.2.1 by omega)
    rw [Int.mul_neg] at k2
    omega
  ·rw [sg fun r=>r.1,h.a,h.a'];grind
  ·rw [sg fun r=>r.2.1,h.b,h.b'];grind
  ·rw [sg fun r=>r.2.2]
   have k1:=Int.mul_nonneg (Int.le_of_lt ml) c'
   have k2:=Int.mul_nonneg (Int.le_of_lt mp) (show 0<=-(es.map fun x=>x.1*x.2.2.2.2).sum by have:=h.c;omega)
   rw [Int.mul_neg] at k2
   omega
  ·have:=Int.mul_pos mp (h.p z hz).1
   show 0 < m.2.1*z.1 - m.1*z.2.1
   rw [z0]
   omega
theorem aMt {rs:List R3} {es:List (Int×Int×R3)} (h:Rel rs es):∃ cs,Mix rs cs/\cs.length < es.length:=by
 by_cases c':0<=(es.map fun x=>x.2.1*x.2.2.2.2).sum
 ·exact aIg h c'
 ·have sg:∀ g:R3->Int,(es.map fun x=>-x.2.1*g x.2.2).sum = -(es.map fun x=>x.2.1*g x.2.2).sum:=fun g=>by
   have:=rF (-1) (f:=fun x:Int×Int×R3=>-x.2.1*g x.2.2) (g:=fun x=>x.2.1*g x.2.2) (l:=es) fun x _=>by grind
   omega
  have sa:∀ g:R3->Int,((es.map fun x=>(x.1,-x.2.1,x.2.2)).map fun x:Int×Int×R3=>x.1*g x.2.2).sum=(es.map fun x=>x.1*g x.2.2).sum:=fun g=>by rw [List.map_map];rfl
  have sn:∀ g:R3->Int,((es.map fun x=>(x.1,-x.2.1,x.2.2)).map fun x:Int×Int×R3=>x.2.1*g x.2.2).sum = -(es.map fun x=>x.2.1*g x.2.2).sum:=fun g=>by rw [List.map_map,<- sg g];rfl
  obtain ⟨z,hz,z0⟩:=h.z
  obtain ⟨y,hy,y0⟩:=h.nz
  obtain ⟨cs,m,l⟩:=aIg (es:=es.map fun x=>(x.1,-x.2.1,x.2.2)) (rs:=rs) ⟨fun x hx=>by
   obtain ⟨v,hv,rfl⟩:=List.mem_map.mp hx
   exact h.p v hv,by rw [sa fun r=>r.1];exact h.a,by rw [sa fun r=>r.2.1];exact h.b,by rw [sa fun r=>r.2.2];exact h.c,by rw [sn fun r=>r.1,h.a'];rfl,by rw [sn fun r=>r.2.1,h.b'];rfl,⟨_,List.mem_map.mpr ⟨z,hz,rfl⟩,by show -z.2.1=0;omega⟩,⟨_,List.mem_map.mpr ⟨y,hy,rfl⟩,by show -y.2.1≠0;omega⟩⟩ (by rw [sn fun r=>r.2.2];omega)
  rw [List.length_map] at l
  exact ⟨cs,m,l⟩
def uv (r:R3):Q2:=(r.1,r.2.1)
def aF7 (rs:List R3):Prop:=∃ r∈rs,∃ s∈rs,cr (uv r) (uv s)=0/\dt (uv r) (uv s) < 0/\dt (uv s) (uv s)*r.2.2 - dt (uv r) (uv s)*s.2.2<=0
def aPo (rs:List R3):Prop:=∃ r∈rs,∃ s∈rs,∃ t∈rs,0 < cr (uv s) (uv t)/\0 < cr (uv t) (uv r)/\0 < cr (uv r) (uv s)/\cr (uv s) (uv t)*r.2.2+cr (uv t) (uv r)*s.2.2+cr (uv r) (uv s)*t.2.2<=0
def zr (l:List (Int×R3)):List (Int×Int×R3):=l.map fun e=>(e.1,0,e.2)
theorem aNm (g:R3->Int):∀ l:List (Int×R3),((zr l).map fun x=>x.2.1*g x.2.2).sum=0
 | []=>rfl
 | x :: l=>by
  have:=aNm g l
  unfold zr at this ⊢
  rw [List.map_cons,List.map_cons,List.sum_cons,this]
  simp
theorem aLo (g:R3->Int) (l:List (Int×R3)):((zr l).map fun x=>x.1*g x.2.2).sum=(l.map fun x=>x.1*g x.2).sum:=by unfold zr;rw [List.map_map];rfl
theorem aKx {rs:List R3} {x y:Int×R3} (m:Mix rs [x,y]) (nx:uv x.2≠(0,0)):aF7 rs:=by
 obtain ⟨x0,hx⟩:=m.p x (.head _)
 obtain ⟨y0,hy⟩:=m.p y (.tail _ (.head _))
 have a:=m.a
 have b:=m.b
 have c:=m.c
 simp only [List.map_cons,List.map_nil,List.sum_cons,List.sum_nil,Int.add_zero] at a b c
 have pu:=xT nx
 have c0:cr (uv x.2) (uv y.2)=0:=by
  have:y.1*cr (uv x.2) (uv y.2)=0:=by unfold cr uv;grind
  rcases Int.mul_eq_zero.mp this with z | z<;>omega
 have d1:y.1*dt (uv x.2) (uv y.2) = -(x.1*dt (uv x.2) (uv x.2)):=by unfold dt uv;grind
 have d0:dt (uv x.2) (uv y.2) < 0:=by
  have:=Int.mul_pos x0 pu
  refine Int.not_le.mp fun k=>?_
  have:=Int.mul_nonneg (Int.le_of_lt y0) k
  omega
 refine ⟨x.2,hx,y.2,hy,c0,d0,?_⟩
 have i:y.1*(dt (uv y.2) (uv y.2)*x.2.2.2 - dt (uv x.2) (uv y.2)*y.2.2.2) = -dt (uv x.2) (uv y.2)*(x.1*x.2.2.2+y.1*y.2.2.2):=by
  have e:y.1*dt (uv y.2) (uv y.2) = -(x.1*dt (uv x.2) (uv y.2)):=by unfold dt uv;grind
  grind
 have k:=Int.mul_nonneg (show 0<=-dt (uv x.2) (uv y.2) by omega) (show 0<=-(x.1*x.2.2.2+y.1*y.2.2.2) by omega)
 refine Int.not_lt.mp fun z=>?_
 have:=Int.mul_pos y0 z
 rw [Int.mul_neg] at k
 omega
theorem aO5 {rs:List R3} {x y z:Int×R3} (m:Mix rs [x,y,z]) (h0:cr (uv x.2) (uv y.2)≠0):aPo rs:=by
 obtain ⟨x0,hx⟩:=m.p x (.head _)
 obtain ⟨y0,hy⟩:=m.p y (.tail _ (.head _))
 obtain ⟨z0,hz⟩:=m.p z (.tail _ (.tail _ (.head _)))
 have a:=m.a
 have b:=m.b
 have c:=m.c
 simp only [List.map_cons,List.map_nil,List.sum_cons,List.sum_nil,Int.add_zero] at a b c
 have e1:z.1*cr (uv z.2) (uv x.2)=y.1*cr (uv x.2) (uv y.2):=by unfold cr uv;grind
 have e2:z.1*cr (uv y.2) (uv z.2)=x.1*cr (uv x.2) (uv y.2):=by unfold cr uv;grind
 have i:z.1*(cr (uv y.2) (uv z.2)*x.2.2.2+cr (uv z.2) (uv x.2)*y.2.2.2+cr (uv x.2) (uv y.2)*z.2.2.2)=cr (uv x.2) (uv y.2)*(x.1*x.2.2.2+(y.1*y.2.2.2+z.1*z.2.2.2)):=by grind
 have n1:cr (uv z.2) (uv y.2) = -cr (uv y.2) (uv z.2):=by unfold cr;grind
 have n2:cr (uv x.2) (uv z.2) = -cr (uv z.2) (uv x.2):=by unfold cr;grind
 have n3:cr (uv y.2) (uv x.2) = -cr (uv x.2) (uv y.2):=by unfold cr;grind
 have sg:∀ {A B C:Int},0 < A->0 < C->A*B=C->0 < B:=fun {A B C} h1 h2 h3=>by
  refine Int.not_le.mp fun k=>?_
  have:=Int.mul_nonneg (Int.le_of_lt h1) (show 0<=-B by omega)
  rw [Int.mul_neg] at this
  omega
 rcases Int.lt_or_gt_of_ne h0 with w | w
 ·refine ⟨y.2,hy,x.2,hx,z.2,hz,?_,?_,by omega,?_⟩
  ·have:=sg z0 (Int.mul_pos y0 (show 0 < -cr (uv x.2) (uv y.2) by omega)) (B:=cr (uv x.2) (uv z.2)) (by rw [n2,Int.mul_neg,Int.mul_neg,e1])
   exact this
  ·have:=sg z0 (Int.mul_pos x0 (show 0 < -cr (uv x.2) (uv y.2) by omega)) (B:=cr (uv z.2) (uv y.2)) (by rw [n1,Int.mul_neg,Int.mul_neg,e2])
   exact this
  ·rw [n1,n2,n3]
   have k:=Int.mul_nonneg (show 0<=-cr (uv x.2) (uv y.2) by omega) (show 0<=-(x.1*x.2.2.2+(y.1*y.2.2.2+z.1*z.2.2.2)) by omega)
   refine Int.not_lt.mp fun q=>?_
   have:=Int.mul_pos z0 q
   grind
 ·refine ⟨x.2,hx,y.2,hy,z.2,hz,sg z0 (Int.mul_pos x0 w) e2,sg z0 (Int.mul_pos y0 w) e1,w,?_⟩
  have k:=Int.mul_nonneg (Int.le_of_lt w) (show 0<=-(x.1*x.2.2.2+(y.1*y.2.2.2+z.1*z.2.2.2)) by omega)
  refine Int.not_lt.mp fun q=>?_
  have:=Int.mul_pos z0 q
  rw [Int.mul_neg] at k
  omega
theorem aQj {rs:List R3} {x y w:Int×R3} {l:List (Int×R3)} (m:Mix rs (x :: y :: w :: l)) (nx:uv x.2≠(0,0)) (h0:cr (uv x.2) (uv y.2)=0):Rel rs ((x.1,dt (uv x.2) (uv y.2),x.2) :: (y.1,-dt (uv x.2) (uv x.2),y.2) :: zr (w :: l)):=by
 have a:=m.a
 have b:=m.b
 have c:=m.c
 rw [List.map_cons,List.map_cons,List.sum_cons,List.sum_cons] at a b c
 have pu:=xT nx
 refine ⟨fun v hv=>?_,?_,?_,?_,?_,?_,⟨(w.1,0,w.2),.tail _ (.tail _ (.head _)),rfl⟩,⟨_,.tail _ (.head _),by show -dt (uv x.2) (uv x.2)≠0;omega⟩⟩
 ·rcases List.mem_cons.mp hv with e | hv
  ·rw [e];exact m.p x (.head _)
  ·rcases List.mem_cons.mp hv with e | hv
   ·rw [e];exact m.p y (.tail _ (.head _))
   ·obtain ⟨q,hq,rfl⟩:=List.mem_map.mp hv
    exact m.p q (.tail _ (.tail _ hq))
 ·rw [List.map_cons,List.map_cons,List.sum_cons,List.sum_cons,aLo fun r=>r.1];exact a
 ·rw [List.map_cons,List.map_cons,List.sum_cons,List.sum_cons,aLo fun r=>r.2.1];exact b
 ·rw [List.map_cons,List.map_cons,List.sum_cons,List.sum_cons,aLo fun r=>r.2.2];exact c
 ·rw [List.map_cons,List.map_cons,List.sum_cons,List.sum_cons,aNm fun r=>r.1];unfold dt uv;unfold cr uv at h0;grind
 ·rw [List.map_cons,List.map_cons,List.sum_cons,List.sum_cons,aNm fun r=>r.2.1];unfold dt uv;unfold cr uv at h0;grind
theorem aQo {rs:List R3} {x y z w:Int×R3} {l:List (Int×R3)} (m:Mix rs (x :: y :: z :: w :: l)) (h0:cr (uv x.2) (uv y.2)≠0):Rel rs ((x.1,cr (uv y.2) (uv z.2),x.2) :: (y.1,cr (uv z.2) (uv x.2),y.2) :: (z.1,cr (uv x.2) (uv y.2),z.2) :: zr (w :: l)):=by
 have a:=m.a
 have b:=m.b
 have c:=m.c
 rw [List.map_cons,List.map_cons,List.map_cons,List.sum_cons,List.sum_cons,List.sum_cons] at a b c
 refine ⟨fun v hv=>?_,?_,?_,?_,?_,?_,⟨(w.1,0,w.2),.tail _ (.tail _ (.tail _ (.head _))),rfl⟩,⟨_,.tail _ (.tail _ (.head _)),h0⟩⟩
 ·rcases List.mem_cons.mp hv with e | hv
  ·rw [e];exact m.p x (.head _)
  ·rcases List.mem_cons.mp hv with e | hv
   ·rw [e];exact m.p y (.tail _ (.head _))
   ·rcases List.mem_cons.mp hv with e | hv
    ·rw [e];exact m.p z (.tail _ (.tail _ (.head _)))
    ·obtain ⟨q,hq,rfl⟩:=List.mem_map.mp hv
     exact m.p q (.tail _ (.tail _ (.tail _ hq)))
 ·rw [List.map_cons,List.map_cons,List.map_cons,List.sum_cons,List.sum_cons,List.sum_cons,aLo fun r=>r.1];exact a
 ·rw [List.map_cons,List.map_cons,List.map_cons,List.sum_cons,List.sum_cons,List.sum_cons,aLo fun r=>r.2.1];exact b
 ·rw [List.map_cons,List.map_cons,List.map_cons,List.sum_cons,List.sum_cons,List.sum_cons,aLo fun r=>r.2.2];exact c
 ·rw [List.map_cons,List.map_cons,List.map_cons,List.sum_cons,List.sum_cons,List.sum_cons,aNm fun r=>r.1];unfold cr uv;grind
 ·rw [List.map_cons,List.map_cons,List.map_cons,List.sum_cons,List.sum_cons,List.sum_cons,aNm fun r=>r.2.1];unfold cr uv;grind
theorem oA {rs:List R3} (nz:∀ r∈rs,uv r≠(0,0)):∀ (n:Nat) (cs:List (Int×R3)),cs.length<=n->Mix rs cs->aF7 rs\/aPo rs
 | 0,cs,hl,m=>absurd (List.length_eq_zero_iff.mp (by omega)) m.n
 | n+1,cs,hl,m=>by
  match cs,hl,m with
  | [],_,m=>exact absurd rfl m.n
  | [x],_,m =>
   obtain ⟨x0,hx⟩:=m.p x (.head _)
   have a:=m.a
   have b:=m.b
   simp only [List.map_cons,List.map_nil,List.sum_cons,List.sum_nil,Int.add_zero] at a b
   refine absurd (Prod.ext ?_ ?_) (nz x.2 hx)
   ·show x.2.1=0
    rcases Int.mul_eq_zero.mp a with z | z<;>omega
   ·show x.2.2.1=0
    rcases Int.mul_eq_zero.mp b with z | z<;>omega
  | [x,y],_,m=>exact .inl (aKx m (nz x.2 (m.p x (.head _)).2))
  | x :: y :: z :: l,hl,m =>
   by_cases h0:cr (uv x.2) (uv y.2)=0
   ·obtain ⟨cs,m',l'⟩:=aMt (aQj m (nz x.2 (m.p x (.head _)).2) h0)
    refine oA nz n cs ?_ m'
    unfold zr at l'
    simp only [List.length_cons,List.length_map] at l' hl
    omega
   ·cases l with
    | nil=>exact .inr (aO5 m h0)
    | cons w l =>
     obtain ⟨cs,m',l'⟩:=aMt (aQo m h0)
     refine oA nz n cs ?_ m'
     unfold zr at l'
     simp only [List.length_cons,List.length_map] at l' hl
     omega
theorem aFd {rs:List R3} (nz:∀ r∈rs,uv r≠(0,0)) (h:¬ ∃ X Y D,aO1 rs X Y D):aF7 rs\/aPo rs:=by
 obtain ⟨cs,m⟩:=aOh (aMl h)
 exact oA nz cs.length cs (Nat.le_refl _) m
end N
namespace My
open PySem PySem.Spec PyProof.Rows L2 M N
local macro_rules | `(tactic| walk_at "z") => `(tactic| repeat (first | assumption | apply L2.Sz.mul | apply N.Sz.addM | apply N.Sz.subM | apply L2.Sz.neg | apply N.rP | (apply N.n6; (first | decide | omega)) | exact N.vN (by decide) | exact N.aHp (by decide) | exact N.xO (by decide) | exact N.aHk (by decide)))
local macro_rules | `(tactic| walk_at "d") => `(tactic| first | assumption | (first | apply N.cm2 | apply N.cd2) <;> (first | decide | omega | (walk_at "z")) | decide | omega)
local macro_rules | `(tactic| walk_at "1") => `(tactic| simp only [cB, cW, cY, gS, aD, mC, aE, mUn, aB, aN, aM, cH, bY, gP, wK, Res.bind, Ev.c, aAp, gT, aH, bH, gB, hV, aZ, bE, aAr, mOr, jR, k8, aH4, nK, j8, cS, lA, eP, tK, iS, dat, gF, eqE, fP, gR, lD, nF, nB, j4, kB, mF, mM, pP, t7, pK, qM, uU, List.getElem?_cons_zero, List.getElem?_cons_succ, List.set_cons_zero, List.set_cons_succ, List.length_cons, List.length_nil, List.length_map, List.length_append, if_true, if_false, ite_true, ite_false, decide_true, decide_false, Bool.false_eq_true, Nat.zero_add, Nat.reduceAdd, Nat.reduceEqDiff, Nat.reduceLeDiff, reduceIte, List.map_append, List.map_cons, List.map_nil])
local macro_rules | `(tactic| walk_at "1a") => `(tactic| simp (disch := assumption) only [cB, cW, cY, gS, aD, mC, aE, mUn, aB, aN, aM, cH, bY, gP, wK, Res.bind, Ev.c, aAp, gT, aH, bH, gB, hV, aZ, bE, aAr, mOr, jR, k8, aH4, nK, j8, cS, lA, eP, tK, iS, dat, gF, eqE, fP, gR, lD, nF, nB, j4, kB, mF, mM, pP, t7, pK, qM, uU, List.getElem?_cons_zero, List.getElem?_cons_succ, List.set_cons_zero, List.set_cons_succ, List.length_cons, List.length_nil, List.length_map, List.length_append, if_true, if_false, ite_true, ite_false, decide_true, decide_false, Bool.false_eq_true, Nat.zero_add, Nat.reduceAdd, Nat.reduceEqDiff, Nat.reduceLeDiff, reduceIte, List.map_append, List.map_cons, List.map_nil])
local macro_rules | `(tactic| ktr_call 11 ⟨$xs,*⟩) => `(tactic| simp (disch := assumption) only [cB, cW, cY, gS, aD, mC, aE, mUn, aB, aN, aM, cH, bY, gP, wK, Res.bind, Ev.c, aAp, gT, aH, bH, gB, hV, aZ, bE, aAr, mOr, jR, k8, aH4, nK, j8, cS, lA, eP, tK, iS, dat, gF, eqE, fP, gR, lD, nF, nB, j4, kB, mF, mM, pP, t7, pK, qM, uU, List.getElem?_cons_zero, List.getElem?_cons_succ, List.set_cons_zero, List.set_cons_succ, List.length_cons, List.length_nil, List.length_map, List.length_append, if_true, if_false, ite_true, ite_false, decide_true, decide_false, Bool.false_eq_true, Nat.zero_add, Nat.reduceAdd, Nat.reduceEqDiff, Nat.reduceLeDiff, reduceIte, List.map_append, List.map_cons, List.map_nil, $[$xs:term],*])
local macro_rules | `(tactic| walk_at "1d") => `(tactic| simp (disch := (walk_at "d")) only [cB, cW, cY, gS, aD, mC, aE, mUn, aB, aN, aM, cH, bY, gP, wK, Res.bind, Ev.c, aAp, gT, aH, bH, gB, hV, aZ, bE, aAr, mOr, jR, k8, aH4, nK, j8, cS, lA, eP, tK, iS, dat, gF, eqE, fP, gR, lD, nF, nB, j4, kB, mF, mM, pP, t7, pK, qM, uU, List.getElem?_cons_zero, List.getElem?_cons_succ, List.set_cons_zero, List.set_cons_succ, List.length_cons, List.length_nil, List.length_map, List.length_append, if_true, if_false, ite_true, ite_false, decide_true, decide_false, Bool.false_eq_true, Nat.zero_add, Nat.reduceAdd, Nat.reduceEqDiff, Nat.reduceLeDiff, reduceIte, List.map_append, List.map_cons, List.map_nil])
local macro_rules | `(tactic| ktr_call 21 ⟨$xs,*⟩) => `(tactic| simp (disch := (walk_at "d")) only [cB, cW, cY, gS, aD, mC, aE, mUn, aB, aN, aM, cH, bY, gP, wK, Res.bind, Ev.c, aAp, gT, aH, bH, gB, hV, aZ, bE, aAr, mOr, jR, k8, aH4, nK, j8, cS, lA, eP, tK, iS, dat, gF, eqE, fP, gR, lD, nF, nB, j4, kB, mF, mM, pP, t7, pK, qM, uU, List.getElem?_cons_zero, List.getElem?_cons_succ, List.set_cons_zero, List.set_cons_succ, List.length_cons, List.length_nil, List.length_map, List.length_append, if_true, if_false, ite_true, ite_false, decide_true, decide_false, Bool.false_eq_true, Nat.zero_add, Nat.reduceAdd, Nat.reduceEqDiff, Nat.reduceLeDiff, reduceIte, List.map_append, List.map_cons, List.map_nil, $[$xs:term],*])
local macro_rules | `(tactic| walk_at "2") => `(tactic| simp only [cB, cW, cY, gS, aD, mC, aE, mUn, aB, aN, aM, cH, bY, gP, wK, Res.bind, Ev.c, aAp, gT, aH, bH, gB, hV, aZ, bE, aAr, mOr, jR, k8, aH4, nK, j8, cS, lA, eP, tK, iS, dat, gF, eqE, fP, gR, lD, nF, nB, j4, kB, mF, mM, pP, List.getElem?_cons_zero, List.getElem?_cons_succ, List.set_cons_zero, List.set_cons_succ, List.length_cons, List.length_nil, List.length_map, List.length_append, if_true, if_false, ite_true, ite_false, decide_true, decide_false, Bool.false_eq_true, Nat.zero_add, Nat.reduceAdd, Nat.reduceEqDiff, Nat.reduceLeDiff, reduceIte, List.map_append, List.map_cons, List.map_nil])
local macro_rules | `(tactic| ktr_call 2 ⟨$xs,*⟩) => `(tactic| simp only [cB, cW, cY, gS, aD, mC, aE, mUn, aB, aN, aM, cH, bY, gP, wK, Res.bind, Ev.c, aAp, gT, aH, bH, gB, hV, aZ, bE, aAr, mOr, jR, k8, aH4, nK, j8, cS, lA, eP, tK, iS, dat, gF, eqE, fP, gR, lD, nF, nB, j4, kB, mF, mM, pP, List.getElem?_cons_zero, List.getElem?_cons_succ, List.set_cons_zero, List.set_cons_succ, List.length_cons, List.length_nil, List.length_map, List.length_append, if_true, if_false, ite_true, ite_false, decide_true, decide_false, Bool.false_eq_true, Nat.zero_add, Nat.reduceAdd, Nat.reduceEqDiff, Nat.reduceLeDiff, reduceIte, List.map_append, List.map_cons, List.map_nil, $[$xs:term],*])
local macro_rules | `(tactic| ktr_call 3 ⟨$xs,*⟩) => `(tactic| simp only [List.getElem?_cons_zero, List.getElem?_cons_succ, List.set_cons_zero, List.set_cons_succ, List.length_cons, List.length_nil, List.length_map, List.length_append, if_true, if_false, ite_true, ite_false, decide_true, decide_false, Bool.false_eq_true, Nat.zero_add, Nat.reduceAdd, Nat.reduceEqDiff, Nat.reduceLeDiff, reduceIte, List.map_append, List.map_cons, List.map_nil, $[$xs:term],*])
local macro_rules | `(tactic| ktr_call 13 ⟨$xs,*⟩) => `(tactic| simp (disch := assumption) only [List.getElem?_cons_zero, List.getElem?_cons_succ, List.set_cons_zero, List.set_cons_succ, List.length_cons, List.length_nil, List.length_map, List.length_append, if_true, if_false, ite_true, ite_false, decide_true, decide_false, Bool.false_eq_true, Nat.zero_add, Nat.reduceAdd, Nat.reduceEqDiff, Nat.reduceLeDiff, reduceIte, List.map_append, List.map_cons, List.map_nil, $[$xs:term],*])
def top (i:Nat):Stmt:=PySem.Challenge.pw_creasecurve_k09_planes_struck_out.main.body.getD i (.Pass ⟨0,0,0,0⟩)
abbrev dN:Stmt:=top 4
abbrev kS:Stmt:=top 5
abbrev xM:Stmt:=top 6
abbrev s8:Stmt:=top 7
abbrev rM:Stmt:=top 8
abbrev zF:Stmt:=top 9
abbrev yT:Stmt:=top 10
abbrev kO:Stmt:=top 11
abbrev qW:Stmt:=top 12
abbrev fJ:Stmt:=top 13
abbrev rW:Stmt:=top 14
abbrev yG:Stmt:=top 16
abbrev gI:Stmt:=top 18
abbrev kW:Stmt:=top 19
abbrev nV:Stmt:=top 20
abbrev l8:Stmt:=top 22
abbrev nT:Stmt:=top 23
abbrev jO:Stmt:=top 24
abbrev aHe:Stmt:=top 25
abbrev i6:Stmt:=top 26
abbrev hX:Stmt:=top 27
abbrev mB:Stmt:=top 28
abbrev lV:Stmt:=top 29
abbrev dC:Stmt:=top 30
abbrev aFg:Stmt:=top 31
abbrev gK:Stmt:=top 32
abbrev eT:Stmt:=top 33
abbrev i4:Stmt:=top 34
abbrev i7:Stmt:=top 35
abbrev eV:Stmt:=top 36
abbrev iW:Stmt:=top 37
abbrev nW:Stmt:=top 38
abbrev gM:Stmt:=top 40
abbrev gN:Stmt:=top 41
abbrev iY:Stmt:=top 42
abbrev kU:Stmt:=top 43
abbrev eW:Stmt:=top 44
abbrev gJ:Stmt:=top 45
abbrev dS:Stmt:=top 46
abbrev i5:Stmt:=top 47
abbrev kQ:Stmt:=top 48
abbrev gG:Stmt:=top 49
abbrev dQ:Stmt:=top 50
abbrev i9:Stmt:=top 51
abbrev u3:Stmt:=top 52
theorem yU:bootBuiltins "abs" = some (.builtin "abs"):=by decide +kernel
theorem aOr:bootBuiltins "any" = some (.builtin "any"):=by decide +kernel
theorem aIz:bootBuiltins "bool" = some (.type "bool"):=by decide +kernel
theorem aLy:bootBuiltins "int" = some (.type "int"):=by decide +kernel
theorem vY:bootBuiltins "list" = some (.type "list"):=by decide +kernel
theorem aOl:bootBuiltins "max" = some (.builtin "max"):=by decide +kernel
theorem aNj:bootBuiltins "min" = some (.builtin "min"):=by decide +kernel
theorem aCu:bootBuiltins "sorted" = some (.builtin "sorted"):=by decide +kernel
theorem aIi:bootBuiltins "sum" = some (.builtin "sum"):=by decide +kernel
theorem rZ:bootBuiltins "tuple" = some (.type "tuple"):=by decide +kernel
structure Blt (mg:Str->Option Value):Prop where
 abs_:mg "abs" = none
 any_:mg "any" = none
 bool_:mg "bool" = none
 enumerate_:mg "enumerate" = none
 int_:mg "int" = none
 isinstance_:mg "isinstance" = none
 len_:mg "len" = none
 list_:mg "list" = none
 max_:mg "max" = none
 min_:mg "min" = none
 range_:mg "range" = none
 sorted_:mg "sorted" = none
 sum_:mg "sum" = none
 tuple_:mg "tuple" = none
 zip_:mg "zip" = none
structure Cls where
 RoofError:Addr
 NoFraction:Addr
structure iR (mg:Str->Option Value) (c:Cls):Prop where
 mRoofError:mg "RoofError" = some (.ref c.RoofError)
 mNoFraction:mg "NoFraction" = some (.ref c.NoFraction)
structure iQ (mg:Str->Option Value) (base:Heap) (c:Cls):Prop where
 NoFraction:PyProof.Rows.OwnCls "NoFraction" c.NoFraction [.type "ValueError",.type "Exception",.type "BaseException",.type "object"] "ValueError.__new__" mg base
noncomputable def bA (K:PySem.W.Frag) (c:Cls):List L->Res L:=mOf eII (fun _=>True) fun a=>.ok (.p (.int (Int.gcd a.1 a.2:Nat)))
noncomputable def bT (K:PySem.W.Frag) (c:Cls):En->Res Bool:=(aZ (aE (eqE true) (aD 3) (mC (.int 0))))
noncomputable def cD (K:PySem.W.Frag) (c:Cls):MS:=(cB (cW 4 (aE jT (aD 2) (aD 3))) (cB (cW 2 (aD 3)) (cW 3 (aD 4))))
noncomputable def iX (K:PySem.W.Frag) (c:Cls):MS:=(cB (cW 2 (aH aIj (aB (aD 0) aN))) (cB (cW 3 (aH aIj (aB (aD 1) aN))) (cB (pM (bT K c) (cD K c)) (cY (aD 2)))))
theorem aQv (K:PySem.W.Frag) (c:Cls) (A B:Option L):∀ (n:Nat) (l s:Int) (r:Option L),0<=l->0<=s->s.toNat<=n->∃ r',mWh (bT K c) (cD K c) (n+1) [A,B,some (.p (.int l)),some (.p (.int s)),r]=some (.nx [A,B,some (.p (.int (Int.gcd l s:Nat))),some (.p (.int 0)),r']):=by
 intro n
 have hc:∀ (l s:Int) (r:Option L),bT K c [A,B,some (.p (.int l)),some (.p (.int s)),r]=.ok (!(s == 0)):=fun l s r=>by
  ktr_call 3 ⟨bT,aZ,aE,aD,mC,Res.bind,Ev.c,eqE,dat,fP,gR,bE⟩
  rfl
 have done:∀ (n:Nat) (l:Int) (r:Option L),0<=l->mWh (bT K c) (cD K c) (n+1) [A,B,some (.p (.int l)),some (.p (.int 0)),r]=some (.nx [A,B,some (.p (.int (Int.gcd l 0:Nat))),some (.p (.int 0)),r]):=fun n l r hl=>by
  unfold mWh
  rw [hc,FR.aDi hl]
  rfl
 induction n with
 | zero =>
  intro l s r hl hs hn
  have:s=0:=by omega
  subst this
  exact ⟨r,done 0 l r hl⟩
 | succ n ih =>
  intro l s r hl hs hn
  by_cases h0:s=0
  ·subst h0
   exact ⟨r,done _ l r hl⟩
  ·have em:l.fmod s=l % s:=Int.fmod_eq_emod_of_nonneg l hs
   have m0:=Int.emod_nonneg l h0
   have m1:=Int.emod_lt_of_pos l (show 0 < s by omega)
   obtain ⟨r',ih⟩:=ih s (l.fmod s) (some (.p (.int (l.fmod s)))) hs (by omega) (by omega)
   refine ⟨r',?_⟩
   rw [em,FR.zC hl hs] at ih
   have hb:cD K c [A,B,some (.p (.int l)),some (.p (.int s)),r]=some (.nx [A,B,some (.p (.int s)),some (.p (.int (l % s))),some (.p (.int (l % s)))]):=by
    ktr_call 13 ⟨cD,aE,aD,mC,cB,cW,Res.bind,Ev.c,qM,em⟩
   have ht:bT K c [A,B,some (.p (.int l)),some (.p (.int s)),r]=.ok true:=by rw [hc,beq_false_of_ne h0];rfl
   unfold mWh
   rw [ht]
   dsimp only
   rw [hb]
   exact ih
theorem lM (K:PySem.W.Frag) (c:Cls):∀ ls,bA K c ls=.bad\/dX 5 (iX K c) ls=bA K c ls:=cQ fun x _=>by
 obtain ⟨a,b⟩:=x
 obtain ⟨r',h⟩:=aQv K c (some (.p (.int a))) (some (.p (.int b))) _ (if a < 0 then -a else a) (if b < 0 then -b else b) none (by split<;>omega) (by split<;>omega) (Nat.le_refl _)
 have h:=uJ h
 rw [FR.aEu] at h
 refine bI ?_
 rw [show a7 5 (eII (a,b))=[some (.p (.int a)),some (.p (.int b)),none,none,none] from rfl]
 refine (aR (hZ (d:=.int (if a < 0 then -a else a)) rfl)).trans ((aR (hZ (d:=.int (if b < 0 then -b else b)) rfl)).trans ((aR h).trans ?_))
 rfl
theorem yV (K:PySem.W.Frag) (c:Cls) (a b:Int):bA K c [.p (.int a),.p (.int b)]=.ok (.p (.int (Int.gcd a b:Nat))):=cR (a:=(a,b)) aC9 trivial
theorem aNd {b:Int} (t:Int) (hb:b≠0) (hz:Sz 8000 b):nI t ((Int.gcd t b:Nat):Int)/\nI t (-((Int.gcd t b:Nat):Int)):=by
 have g0:=FR.wC (t:=t) hb
 have gle:Int.gcd t b<=b.natAbs:=Nat.le_of_dvd (by omega) (Int.gcd_dvd_natAbs_right t b)
 refine ⟨⟨by omega,Sz.le hz (by rw [Int.natAbs_natCast];exact gle)⟩,by omega,Sz.le hz (by rw [Int.natAbs_neg,Int.natAbs_natCast];exact gle)⟩
open Classical in
noncomputable def bB (K:PySem.W.Frag) (c:Cls):List L->Res L:=mOf eII (fun a=>Sz 8000 a.2) fun a=>if a.2=0 then .exc c.NoFraction else .ok (.p (frD (FR.mk a.1 a.2)))
noncomputable def iE (K:PySem.W.Frag) (c:Cls):MS:=(cB (gS (aZ (aE (eqE false) (aD 1) (mC (.int 0)))) (j8 c.NoFraction (aB (mC (.str "nothing is divided by 0")) aN)) cS) (cB (cW 2 (aM 2 (bA K c) (aB (aD 0) (aB (aD 1) aN)))) (cB (gS (aZ (aE ltE (aD 1) (mC (.int 0)))) (cW 2 (mUn tK (aD 2))) cS) (cY (aH bH (aB (aE gZ (aD 0) (aD 2)) (aB (aE gZ (aD 1) (aD 2)) aN)))))))
theorem wY (K:PySem.W.Frag) (c:Cls):∀ ls,bB K c ls=.bad\/dX 3 (iE K c) ls=bB K c ls:=cQ fun x hz=>by
 obtain ⟨t,b⟩:=x
 have hz:Sz 8000 b:=hz
 show dX 3 (iE K c) (eII (t,b))=if b=0 then .exc c.NoFraction else .ok (.p (frD (FR.mk t b)))
 have t0:aZ (aE (eqE false) (aD 1) (mC (.int 0))) [some (.p (.int t)),some (.p (.int b)),none]=.ok (b == 0):=by
  ktr_call 3 ⟨aZ,aE,aD,mC,Res.bind,Ev.c,eqE,dat,fP,gR,bE⟩
  rfl
 by_cases hb:b=0
 ·rw [if_pos hb]
  have t0:aZ (aE (eqE false) (aD 1) (mC (.int 0))) [some (.p (.int t)),some (.p (.int b)),none]=.ok true:=by rw [t0,hb];rfl
  have e:iE K c (a7 3 (eII (t,b)))=some (.ex c.NoFraction [some (.p (.int t)),some (.p (.int b)),none]):=by
   unfold iE cB
   rw [show a7 3 (eII (t,b))=[some (.p (.int t)),some (.p (.int b)),none] from rfl,pR t0]
   rfl
  unfold dX
  rw [e]
 ·rw [if_neg hb]
  rw [beq_false_of_ne hb] at t0
  obtain ⟨q1,q2⟩:=aNd t hb hz
  have q1':nI b ((Int.gcd t b:Nat):Int):=q1
  have q2':nI b (-((Int.gcd t b:Nat):Int)):=q2
  have g:=yV K c t b
  have e1:(aM 2 (bA K c) (aB (aD 0) (aB (aD 1) aN))) [some (.p (.int t)),some (.p (.int b)),none]=.ok (.p (.int (Int.gcd t b:Nat))):=by
   ktr_call 3 ⟨aM,aB,aN,aD,Res.bind,Ev.c,cH,bY,gP,g,gT⟩
  refine bI ?_
  rw [show a7 3 (eII (t,b))=[some (.p (.int t)),some (.p (.int b)),none] from rfl]
  unfold iE
  refine (aR (j3 t0)).trans ((aR (hZ e1)).trans ?_)
  have t1:aZ (aE ltE (aD 1) (mC (.int 0))) [some (.p (.int t)),some (.p (.int b)),some (.p (.int (Int.gcd t b:Nat)))]=.ok (decide (b < 0)):=by
   ktr_call 3 ⟨aZ,aE,aD,mC,Res.bind,Ev.c,eP,bE⟩
  by_cases hn:b < 0
  ·rw [decide_eq_true hn] at t1
   have es:FR.mk t b=(t.fdiv (-((Int.gcd t b:Nat):Int)),b.fdiv (-((Int.gcd t b:Nat):Int))):=by unfold FR.mk FR.sgn;rw [if_pos hn]
   refine (aR ((pR t1).trans (hZ (d:=.int (-((Int.gcd t b:Nat):Int))) rfl))).trans (gW ?_)
   rw [es]
   ktr_call 11 ⟨frD⟩
  ·rw [decide_eq_false hn] at t1
   have es:FR.mk t b=(t.fdiv ((Int.gcd t b:Nat):Int),b.fdiv ((Int.gcd t b:Nat):Int)):=by unfold FR.mk FR.sgn;rw [if_neg hn]
   refine (aR (j3 t1)).trans (gW ?_)
   rw [es]
   ktr_call 11 ⟨frD⟩
theorem kC (K:PySem.W.Frag) (c:Cls) {t b:Int} (h0:b≠0) (h1:Sz 8000 b):bB K c [.p (.int t),.p (.int b)]=.ok (.p (frD (FR.mk t b))):=(cR (a:=(t,b)) aC9 h1).trans (if_neg h0)
noncomputable def jY (K:PySem.W.Frag) (c:Cls):List L->Res L:=mOf eFF (fun a=>FSz 2000 a.1/\FSz 2000 a.2/\a.1.2*a.2.2≠0) fun a=>.ok (.p (frD (FR.mk (a.1.1*a.2.2+a.2.1*a.1.2) (a.1.2*a.2.2))))
noncomputable def aDz (K:PySem.W.Frag) (c:Cls):MS:=(cY (aM 2 (bB K c) (aB (aE lA (aE fU (aE ixE (aD 0) (mC (.int 0))) (aE ixE (aD 1) (mC (.int 1)))) (aE fU (aE ixE (aD 1) (mC (.int 0))) (aE ixE (aD 0) (mC (.int 1))))) (aB (aE fU (aE ixE (aD 0) (mC (.int 1))) (aE ixE (aD 1) (mC (.int 1)))) aN))))
theorem aJ2 (K:PySem.W.Frag) (c:Cls):∀ ls,jY K c ls=.bad\/dX 2 (aDz K c) ls=jY K c ls:=cQ fun a h=>by
 obtain ⟨x,y⟩:=a
 obtain ⟨⟨x1,x2⟩,⟨y1,y2⟩,hb⟩:=h
 dsimp only at x1 x2 y1 y2 hb ⊢
 have f:=kC K c (t:=x.1*y.2+y.1*x.2) hb ((Sz.mul x2 y2).mono (by decide))
 refine bI ?_
 rw [show a7 2 (eFF (x,y))=[some (.p (frD x)),some (.p (frD y))] from rfl]
 unfold aDz
 refine gW ?_
 ktr_call 21 ⟨f⟩
theorem aGs (K:PySem.W.Frag) (c:Cls) {x y:Int×Int} (h1:FSz 2000 x) (h2:FSz 2000 y) (h3:x.2*y.2≠0):jY K c [.p (frD x),.p (frD y)]=.ok (.p (frD (FR.mk (x.1*y.2+y.1*x.2) (x.2*y.2)))):=cR (a:=(x,y)) j9 ⟨h1,h2,h3⟩
theorem oX (K:PySem.W.Frag) (c:Cls) {m n:Nat} {x y:Int×Int} (hx:Good m x) (hy:Good n y) (hm:m<=2000) (hn:n<=2000):jY K c [.p (frD x),.p (frD y)]=.ok (.p (frD (hP x y))):=aGs K c (hx.mono hm).fsz (hy.mono hn).fsz (hx.ne hy)
noncomputable def jV (K:PySem.W.Frag) (c:Cls):List L->Res L:=mOf eFF (fun a=>FSz 2000 a.1/\FSz 2000 a.2/\a.1.2*a.2.2≠0) fun a=>.ok (.p (frD (FR.mk (a.1.1*a.2.2 - a.2.1*a.1.2) (a.1.2*a.2.2))))
noncomputable def vU (K:PySem.W.Frag) (c:Cls):MS:=(cY (aM 2 (bB K c) (aB (aE pW (aE fU (aE ixE (aD 0) (mC (.int 0))) (aE ixE (aD 1) (mC (.int 1)))) (aE fU (aE ixE (aD 1) (mC (.int 0))) (aE ixE (aD 0) (mC (.int 1))))) (aB (aE fU (aE ixE (aD 0) (mC (.int 1))) (aE ixE (aD 1) (mC (.int 1)))) aN))))
theorem aHh (K:PySem.W.Frag) (c:Cls):∀ ls,jV K c ls=.bad\/dX 2 (vU K c) ls=jV K c ls:=cQ fun a h=>by
 obtain ⟨x,y⟩:=a
 obtain ⟨⟨x1,x2⟩,⟨y1,y2⟩,hb⟩:=h
 dsimp only at x1 x2 y1 y2 hb ⊢
 have f:=kC K c (t:=x.1*y.2 - y.1*x.2) hb ((Sz.mul x2 y2).mono (by decide))
 refine bI ?_
 rw [show a7 2 (eFF (x,y))=[some (.p (frD x)),some (.p (frD y))] from rfl]
 unfold vU
 refine gW ?_
 ktr_call 21 ⟨f⟩
theorem aC8 (K:PySem.W.Frag) (c:Cls) {x y:Int×Int} (h1:FSz 2000 x) (h2:FSz 2000 y) (h3:x.2*y.2≠0):jV K c [.p (frD x),.p (frD y)]=.ok (.p (frD (FR.mk (x.1*y.2 - y.1*x.2) (x.2*y.2)))):=cR (a:=(x,y)) j9 ⟨h1,h2,h3⟩
theorem aAa (K:PySem.W.Frag) (c:Cls) {m n:Nat} {x y:Int×Int} (hx:Good m x) (hy:Good n y) (hm:m<=2000) (hn:n<=2000):jV K c [.p (frD x),.p (frD y)]=.ok (.p (frD (hM x y))):=aC8 K c (hx.mono hm).fsz (hy.mono hn).fsz (hx.ne hy)
noncomputable def lL (K:PySem.W.Frag) (c:Cls):List L->Res L:=mOf eFF (fun a=>FSz 2000 a.1/\FSz 2000 a.2/\a.1.2*a.2.2≠0) fun a=>.ok (.p (frD (FR.mk (a.1.1*a.2.1) (a.1.2*a.2.2))))
noncomputable def w4 (K:PySem.W.Frag) (c:Cls):MS:=(cY (aM 2 (bB K c) (aB (aE fU (aE ixE (aD 0) (mC (.int 0))) (aE ixE (aD 1) (mC (.int 0)))) (aB (aE fU (aE ixE (aD 0) (mC (.int 1))) (aE ixE (aD 1) (mC (.int 1)))) aN))))
theorem aE6 (K:PySem.W.Frag) (c:Cls):∀ ls,lL K c ls=.bad\/dX 2 (w4 K c) ls=lL K c ls:=cQ fun a h=>by
 obtain ⟨x,y⟩:=a
 obtain ⟨⟨x1,x2⟩,⟨y1,y2⟩,hb⟩:=h
 dsimp only at x1 x2 y1 y2 hb ⊢
 have f:=kC K c (t:=x.1*y.1) hb ((Sz.mul x2 y2).mono (by decide))
 refine bI ?_
 rw [show a7 2 (eFF (x,y))=[some (.p (frD x)),some (.p (frD y))] from rfl]
 unfold w4
 refine gW ?_
 ktr_call 21 ⟨f⟩
theorem aCl (K:PySem.W.Frag) (c:Cls) {x y:Int×Int} (h1:FSz 2000 x) (h2:FSz 2000 y) (h3:x.2*y.2≠0):lL K c [.p (frD x),.p (frD y)]=.ok (.p (frD (FR.mk (x.1*y.1) (x.2*y.2)))):=cR (a:=(x,y)) j9 ⟨h1,h2,h3⟩
noncomputable def nG (K:PySem.W.Frag) (c:Cls):List L->Res L:=mOf eFF (fun a=>FSz 2000 a.1/\FSz 2000 a.2/\a.1.2*a.2.1≠0) fun a=>.ok (.p (frD (FR.mk (a.1.1*a.2.2) (a.1.2*a.2.1))))
noncomputable def aC3 (K:PySem.W.Frag) (c:Cls):MS:=(cY (aM 2 (bB K c) (aB (aE fU (aE ixE (aD 0) (mC (.int 0))) (aE ixE (aD 1) (mC (.int 1)))) (aB (aE fU (aE ixE (aD 0) (mC (.int 1))) (aE ixE (aD 1) (mC (.int 0)))) aN))))
theorem aKc (K:PySem.W.Frag) (c:Cls):∀ ls,nG K c ls=.bad\/dX 2 (aC3 K c) ls=nG K c ls:=cQ fun a h=>by
 obtain ⟨x,y⟩:=a
 obtain ⟨⟨x1,x2⟩,⟨y1,y2⟩,hb⟩:=h
 dsimp only at x1 x2 y1 y2 hb ⊢
 have f:=kC K c (t:=x.1*y.2) hb ((Sz.mul x2 y1).mono (by decide))
 refine bI ?_
 rw [show a7 2 (eFF (x,y))=[some (.p (frD x)),some (.p (frD y))] from rfl]
 unfold aC3
 refine gW ?_
 ktr_call 21 ⟨f⟩
theorem aGq (K:PySem.W.Frag) (c:Cls) {x y:Int×Int} (h1:FSz 2000 x) (h2:FSz 2000 y) (h3:x.2*y.1≠0):nG K c [.p (frD x),.p (frD y)]=.ok (.p (frD (FR.mk (x.1*y.2) (x.2*y.1)))):=cR (a:=(x,y)) j9 ⟨h1,h2,h3⟩
theorem aBf (K:PySem.W.Frag) (c:Cls) {m:Nat} {x:Int×Int} (hx:Good m x) (hm:m<=2000):nG K c [.p (frD x),.p (.tuple [.int 2,.int 1])]=.ok (.p (frD (hO x (2,1)))):=aGq K c (y:=(2,1)) (hx.mono hm).fsz ⟨vG _ (Nat.lt_of_lt_of_le (show (2:Int).natAbs < 2 ^ 4 by decide) (Nat.pow_le_pow_right (by decide) (by decide))),aL7⟩ (by have:=hx.1;show x.2*2≠0;omega)
noncomputable def iH (K:PySem.W.Frag) (c:Cls):List L->Res L:=mOf eFF (fun a=>FSz 2000 a.1/\FSz 2000 a.2) fun a=>.ok (.p (.bool (ltF a.1 a.2)))
noncomputable def aDw (K:PySem.W.Frag) (c:Cls):MS:=(cY (aE ltE (aE fU (aE ixE (aD 0) (mC (.int 0))) (aE ixE (aD 1) (mC (.int 1)))) (aE fU (aE ixE (aD 1) (mC (.int 0))) (aE ixE (aD 0) (mC (.int 1))))))
theorem aKl (K:PySem.W.Frag) (c:Cls):∀ ls,iH K c ls=.bad\/dX 2 (aDw K c) ls=iH K c ls:=cQ fun a h=>by
 obtain ⟨x,y⟩:=a
 obtain ⟨⟨x1,x2⟩,⟨y1,y2⟩⟩:=h
 dsimp only at x1 x2 y1 y2 ⊢
 refine bI ?_
 rw [show a7 2 (eFF (x,y))=[some (.p (frD x)),some (.p (frD y))] from rfl]
 unfold aDw
 refine gW ?_
 walk_at "1d"
 rfl
theorem lW (K:PySem.W.Frag) (c:Cls) {x y:Int×Int} (hx:FSz 2000 x) (hy:FSz 2000 y):iH K c [.p (frD x),.p (frD y)]=.ok (.p (.bool (ltF x y))):=cR (a:=(x,y)) j9 ⟨hx,hy⟩
noncomputable def eI (K:PySem.W.Frag) (c:Cls):List L->Res L:=mOf eFs (fun xs=>xs≠[]/\∀ y∈xs,FSz 2000 y) fun xs=>.ok (.p (frD (best (xs.headD (0,1)) xs)))
noncomputable def iA (K:PySem.W.Frag) (c:Cls):MS:=(gS (aZ (aM 2 (iH K c) (aB (aD 1) (aB (aD 2) aN)))) (cW 1 (aD 2)) cS)
noncomputable def qJ (K:PySem.W.Frag) (c:Cls):MS:=(cB (cW 1 (aE ixE (aD 0) (mC (.int 0)))) (cB (vJ (fT (aD 0)) (aG 2) (iA K c)) (cY (aD 1))))
theorem lT (K:PySem.W.Frag) (c:Cls) (Z:Option L):∀ (xs:List (Int×Int)) (b:Int×Int) (r:Option L),FSz 2000 b->(∀ y∈xs,FSz 2000 y)->∃ r',fB (aG 2) (iA K c) (xs.map frD) [Z,some (.p (frD b)),r]=some (.nx [Z,some (.p (frD (best b xs))),r'])
 | [],b,r,_,_=>⟨r,rfl⟩
 | x :: xs,b,r,hb,h=>by
  have hx:=h x (.head _)
  have hl:=lW K c hb hx
  have hb1:iA K c [Z,some (.p (frD b)),some (.p (frD x))]=some (.nx [Z,some (.p (frD (if ltF b x=true then x else b))),some (.p (frD x))]):=by
   unfold iA
   cases e:ltF b x<;>rw [e] at hl<;>ktr_call 2 ⟨hl⟩
  obtain ⟨r',ih⟩:=lT K c Z xs (if ltF b x=true then x else b) (some (.p (frD x))) (by split;exact hx;exact hb) fun y hy=>h y (.tail _ hy)
  refine ⟨r',?_⟩
  rw [List.map_cons]
  unfold fB
  simp only [aG,List.set_cons_succ,List.set_cons_zero]
  rw [hb1]
  exact ih
theorem vZ (K:PySem.W.Frag) (c:Cls):∀ ls,eI K c ls=.bad\/dX 3 (qJ K c) ls=eI K c ls:=cQ fun xs h=>by
 obtain ⟨h0,hz⟩:=h
 obtain ⟨r',h⟩:=lT K c (some (.p (.list (xs.map frD)))) xs (xs.headD (0,1)) none (hz _ (head_mem _ h0)) hz
 have e1:(aE ixE (aD 0) (mC (.int 0))) [some (.p (.list (xs.map frD))),none,none]=.ok (.p (frD (xs.headD (0,1)))):=by
  cases xs with
  | nil=>exact absurd rfl h0
  | cons x r=>ktr_call 3 ⟨aE,aD,mC,Res.bind,Ev.c,ixE,j6,at0,List.headD_cons⟩
 refine bI ?_
 rw [show a7 3 (eFs xs)=[some (.p (.list (xs.map frD))),none,none] from rfl]
 refine (aR (hZ e1)).trans ((aR ((nP (ds:=xs.map frD) rfl).trans h)).trans ?_)
 rfl
theorem l7 (K:PySem.W.Frag) (c:Cls) (xs:List (Int×Int)) (h0:xs≠[]) (h:∀ y∈xs,FSz 2000 y):eI K c [.p (.list (xs.map frD))]=.ok (.p (frD (best (xs.headD (0,1)) xs))):=cR (a:=xs) sC ⟨h0,h⟩
noncomputable def jU (K:PySem.W.Frag) (c:Cls):List L->Res L:=mOf eFs (fun xs=>xs≠[]/\∀ y∈xs,FSz 2000 y) fun xs=>.ok (.p (frD (worst (xs.headD (0,1)) xs)))
noncomputable def kX (K:PySem.W.Frag) (c:Cls):MS:=(gS (aZ (aM 2 (iH K c) (aB (aD 2) (aB (aD 1) aN)))) (cW 1 (aD 2)) cS)
noncomputable def aCt (K:PySem.W.Frag) (c:Cls):MS:=(cB (cW 1 (aE ixE (aD 0) (mC (.int 0)))) (cB (vJ (fT (aD 0)) (aG 2) (kX K c)) (cY (aD 1))))
theorem qD (K:PySem.W.Frag) (c:Cls) (Z:Option L):∀ (xs:List (Int×Int)) (b:Int×Int) (r:Option L),FSz 2000 b->(∀ y∈xs,FSz 2000 y)->∃ r',fB (aG 2) (kX K c) (xs.map frD) [Z,some (.p (frD b)),r]=some (.nx [Z,some (.p (frD (worst b xs))),r'])
 | [],b,r,_,_=>⟨r,rfl⟩
 | x :: xs,b,r,hb,h=>by
  have hx:=h x (.head _)
  have hl:=lW K c hx hb
  have hb1:kX K c [Z,some (.p (frD b)),some (.p (frD x))]=some (.nx [Z,some (.p (frD (if ltF x b=true then x else b))),some (.p (frD x))]):=by
   unfold kX
   cases e:ltF x b<;>rw [e] at hl<;>ktr_call 2 ⟨hl⟩
  obtain ⟨r',ih⟩:=qD K c Z xs (if ltF x b=true then x else b) (some (.p (frD x))) (by split;exact hx;exact hb) fun y hy=>h y (.tail _ hy)
  refine ⟨r',?_⟩
  rw [List.map_cons]
  unfold fB
  simp only [aG,List.set_cons_succ,List.set_cons_zero]
  rw [hb1]
  exact ih
theorem aFf (K:PySem.W.Frag) (c:Cls):∀ ls,jU K c ls=.bad\/dX 3 (aCt K c) ls=jU K c ls:=cQ fun xs h=>by
 obtain ⟨h0,hz⟩:=h
 obtain ⟨r',h⟩:=qD K c (some (.p (.list (xs.map frD)))) xs (xs.headD (0,1)) none (hz _ (head_mem _ h0)) hz
 have e1:(aE ixE (aD 0) (mC (.int 0))) [some (.p (.list (xs.map frD))),none,none]=.ok (.p (frD (xs.headD (0,1)))):=by
  cases xs with
  | nil=>exact absurd rfl h0
  | cons x r=>ktr_call 3 ⟨aE,aD,mC,Res.bind,Ev.c,ixE,j6,at0,List.headD_cons⟩
 refine bI ?_
 rw [show a7 3 (eFs xs)=[some (.p (.list (xs.map frD))),none,none] from rfl]
 refine (aR (hZ e1)).trans ((aR ((nP (ds:=xs.map frD) rfl).trans h)).trans ?_)
 rfl
theorem qP (K:PySem.W.Frag) (c:Cls) (xs:List (Int×Int)) (h0:xs≠[]) (h:∀ y∈xs,FSz 2000 y):jU K c [.p (.list (xs.map frD))]=.ok (.p (frD (worst (xs.headD (0,1)) xs))):=cR (a:=xs) sC ⟨h0,h⟩
def cbS (c b:Int):Int:=(c*b).fdiv (Int.gcd c b:Nat)
def cb (hs:List (Int×Int)):Int:=hs.foldl (fun c h=>cbS c h.2) 1
theorem aIp {c b:Int} (hc:1<=c) (hb:1<=b):1<=cbS c b/\c∣cbS c b/\b∣cbS c b:=by
 have g0:0 < Int.gcd c b:=Int.gcd_pos_of_ne_zero_right c (by omega)
 obtain ⟨k,hk⟩:=Int.gcd_dvd_right c b
 obtain ⟨j,hj⟩:=Int.gcd_dvd_left c b
 have e1:cbS c b=c*k:=by
  unfold cbS
  have:c*b=((Int.gcd c b:Nat):Int)*(c*k):=by
   conv=>lhs;rw [hk]
   ac_rfl
  rw [this]
  exact Int.mul_fdiv_cancel_left _ (by omega)
 have e2:cbS c b=b*j:=by
  unfold cbS
  have:c*b=((Int.gcd c b:Nat):Int)*(b*j):=by
   conv=>lhs;rw [hj]
   ac_rfl
  rw [this]
  exact Int.mul_fdiv_cancel_left _ (by omega)
 have k0:0 < k:=Int.pos_of_mul_pos_right (show 0 < ((Int.gcd c b:Nat):Int)*k by rw [<- hk];omega) (by omega)
 refine ⟨?_,⟨k,e1⟩,⟨j,e2⟩⟩
 rw [e1]
 exact cN hc k0
def GB (h:Int×Int):Prop:=1<=h.2/\Sz 80 h.1/\Sz 6 h.2
theorem aMo:∀ (hs:List (Int×Int)) (c:Int) (k:Nat),1<=c->Sz (6*k+1) c->(∀ h∈hs,GB h)->1<=hs.foldl (fun c h=>cbS c h.2) c/\c∣hs.foldl (fun c h=>cbS c h.2) c/\(∀ h∈hs,h.2∣hs.foldl (fun c h=>cbS c h.2) c)/\Sz (6*(k+hs.length)+1) (hs.foldl (fun c h=>cbS c h.2) c)
 | [],c,k,h1,h2,_=>⟨h1,Int.dvd_refl _,(fun _ h=>nomatch h),h2⟩
 | h :: hs,c,k,h1,h2,hg=>by
  have g:=hg h (.head _)
  obtain ⟨a1,a2,a3⟩:=aIp h1 g.1
  have sz:Sz (6*(k+1)+1) (cbS c h.2):=by
   have:=Sz.mul h2 g.2.2
   exact (Sz.le this (natAbs_fdiv_le _ _)).mono (by omega)
  obtain ⟨b1,b2,b3,b4⟩:=aMo hs (cbS c h.2) (k+1) a1 sz fun x hx=>hg x (.tail _ hx)
  rw [List.foldl_cons]
  refine ⟨b1,Int.dvd_trans a2 b2,fun x hx=>?_,b4.mono (by rw [List.length_cons];omega)⟩
  rcases List.mem_cons.mp hx with z | z
  ·rw [z];exact Int.dvd_trans a3 b2
  ·exact b3 x z
noncomputable def cM (K:PySem.W.Frag) (c:Cls):List L->Res L:=mOf eFs (fun hs=>hs.length<=100/\∀ h∈hs,GB h) fun hs=>.ok (.p (.int (cb hs)))
noncomputable def dU (K:PySem.W.Frag) (c:Cls):MS:=(cW 1 (aE gZ (aE fU (aD 1) (aE ixE (aD 2) (mC (.int 1)))) (aM 2 (bA K c) (aB (aD 1) (aB (aE ixE (aD 2) (mC (.int 1))) aN)))))
noncomputable def kL (K:PySem.W.Frag) (c:Cls):MS:=(cB (cW 1 (mC (.int 1))) (cB (vJ (fT (aD 0)) (aG 2) (dU K c)) (cY (aD 1))))
theorem nH (K:PySem.W.Frag) (c:Cls):∀ ls,cM K c ls=.bad\/dX 3 (kL K c) ls=cM K c ls:=cQ fun hs h=>by
 obtain ⟨hl,hg⟩:=h
 have gen:∀ (xs:List (Int×Int)) (x:Int) (k:Nat) (r:Option L),1<=x->Sz (6*k+1) x->k+xs.length<=100->(∀ h∈xs,GB h)->∃ r',fB (aG 2) (dU K c) (xs.map frD) [some (.p (.list (hs.map frD))),some (.p (.int x)),r]=some (.nx [some (.p (.list (hs.map frD))),some (.p (.int (xs.foldl (fun c h=>cbS c h.2) x))),r']):=by
  intro xs
  induction xs with
  | nil=>intro x k r _ _ _ _;exact ⟨r,rfl⟩
  | cons h xs ih =>
   intro x k r x1 x2 hk hxs
   have g:=hxs h (.head _)
   have hk':k+(xs.length+1)<=100:=hk
   obtain ⟨a1,a2,a3⟩:=aIp x1 g.1
   have sz:Sz (6*(k+1)+1) (cbS x h.2):=by
    have:=Sz.mul x2 g.2.2
    exact (Sz.le this (natAbs_fdiv_le _ _)).mono (by omega)
   obtain ⟨r',ih⟩:=ih (cbS x h.2) (k+1) (some (.p (frD h))) a1 sz (by omega) fun y hy=>hxs y (.tail _ hy)
   refine ⟨r',?_⟩
   have g0:0 < Int.gcd x h.2:=Int.gcd_pos_of_ne_zero_right x (by have:=g.1;omega)
   have q1:CMulW x h.2:=⟨x2.mono (by omega),g.2.2.mono (by decide)⟩
   have q2:nI (x*h.2) ((Int.gcd x h.2:Nat):Int):=⟨by omega,(Sz.le g.2.2 (by rw [Int.natAbs_natCast];exact Nat.le_of_dvd (by have:=g.1;omega) (Int.gcd_dvd_natAbs_right x h.2))).mono (by decide)⟩
   have hb:dU K c [some (.p (.list (hs.map frD))),some (.p (.int x)),some (.p (frD h))]=some (.nx [some (.p (.list (hs.map frD))),some (.p (.int (cbS x h.2))),some (.p (frD h))]):=by
    ktr_call 11 ⟨dU,yV⟩
    rfl
   rw [List.map_cons]
   unfold fB
   simp only [aG,List.set_cons_succ,List.set_cons_zero]
   rw [hb]
   exact ih
 obtain ⟨r',h⟩:=gen hs 1 0 none (Int.le_refl 1) (vG _ (by decide)) (by omega) hg
 refine bI ?_
 rw [show a7 3 (eFs hs)=[some (.p (.list (hs.map frD))),none,none] from rfl]
 refine (aR (hZ (d:=.int 1) rfl)).trans ?_
 refine (aR ((nP (ds:=hs.map frD) rfl).trans h)).trans (gW rfl)
theorem aK7 (K:PySem.W.Frag) (c:Cls) {hs:List (Int×Int)} (h1:hs.length<=100) (h2:∀ h∈hs,GB h):cM K c [.p (.list (hs.map frD))]=.ok (.p (.int (cb hs))):=cR (a:=hs) sC ⟨h1,h2⟩
def eHI (a:(Int×Int)×Int):List L:=[.p (frD a.1),.p (.int a.2)]
theorem aLe (a b:(Int×Int)×Int) (h:eHI a=eHI b):a=b:=by
 unfold eHI at h
 injection h with h1 h2
 injection h2 with h2 _
 injection h1 with h1
 injection h2 with h2
 injection h2 with h2
 exact Prod.ext (frI h1) h2
noncomputable def lJ (K:PySem.W.Frag) (c:Cls):List L->Res L:=mOf eHI (fun a=>GB a.1/\Sz 1000 a.2) fun a=>.ok (.p (.int (a.1.1*a.2.fdiv a.1.2)))
noncomputable def wH (K:PySem.W.Frag) (c:Cls):MS:=(cY (aE fU (aE ixE (aD 0) (mC (.int 0))) (aE gZ (aD 1) (aE ixE (aD 0) (mC (.int 1))))))
theorem aFa (K:PySem.W.Frag) (c:Cls):∀ ls,lJ K c ls=.bad\/dX 2 (wH K c) ls=lJ K c ls:=cQ fun a h=>by
 obtain ⟨x,F⟩:=a
 obtain ⟨⟨p,t,b⟩,hF⟩:=h
 dsimp only at p t b hF ⊢
 have bn:x.2≠0:=by omega
 refine bI ?_
 rw [show a7 2 (eHI (x,F))=[some (.p (frD x)),some (.p (.int F))] from rfl]
 unfold wH
 refine gW ?_
 walk_at "1d"
theorem zX (K:PySem.W.Frag) (c:Cls) {x:Int×Int} {F:Int} (h1:GB x) (h2:Sz 1000 F):lJ K c [.p (frD x),.p (.int F)]=.ok (.p (.int (x.1*F.fdiv x.2))):=cR (a:=(x,F)) aLe ⟨h1,h2⟩
def ePs (ps:List Pl):List L:=[.p (.list (ps.map plD))]
theorem xA (a b:List Pl) (h:ePs a=ePs b):a=b:=by
 unfold ePs at h
 injection h with h _
 injection h with h
 injection h with h
 exact aQq h
def wf (ps:List Pl):Int:=cb (ps.map fun p=>p.2.2)
def GBs (ps:List Pl):Prop:=ps.length<=100/\∀ p∈ps,GB p.2.2
noncomputable def bP (K:PySem.W.Frag) (c:Cls):List L->Res L:=mOf ePs GBs fun ps=>.ok (.p (.int (wf ps)))
noncomputable def eF (K:PySem.W.Frag) (c:Cls):En->Res Ev:=(aE ixE (aD 0) (mC (.int 2)))
noncomputable def jG (K:PySem.W.Frag) (c:Cls):MS:=(cY (aM 1 (cM K c) (aB (dG 1 [] (fT (aD 0)) (aG 0) e9 (eF K c)) aN)))
theorem oP (K:PySem.W.Frag) (c:Cls):∀ ls,bP K c ls=.bad\/dX 1 (jG K c) ls=bP K c ls:=cQ fun ps h=>by
 obtain ⟨hl,hg⟩:=h
 refine bI ?_
 rw [show a7 1 (ePs ps)=[some (.p (.list (ps.map plD)))] from rfl]
 unfold jG
 have hm:kH (aQ 1 [] (aG 0) e9 (eF K c) [some (.p (.list (ps.map plD)))]) (ps.map plD)=some (ps.map fun p=>frD p.2.2):=by
  refine dW _ fun p hp=>?_
  simp [aQ,aG,kF,e9,eF,aE,aD,mC,Res.bind,Ev.c,lD]
 have hc:=dO (n:=1) (js:=[]) (fi:=fT (aD 0)) (tg:=aG 0) (ft:=e9) (fe:=eF K c) (en:=[some (.p (.list (ps.map plD)))]) (ds:=ps.map plD) rfl (by rw [List.length_map];omega) hm
 have e1:(ps.map fun p=>frD p.2.2)=(ps.map fun p=>p.2.2).map frD:=by rw [List.map_map];rfl
 have hcb:=aK7 K c (hs:=ps.map fun p=>p.2.2) (by rw [List.length_map];exact hl) (fun h hh=>by obtain ⟨p,hp,rfl⟩:=List.mem_map.mp hh;exact hg p hp)
 rw [<- e1] at hcb
 refine gW ?_
 ktr_call 3 ⟨aM,aB,aN,hc,Res.bind,Ev.c,cH,bY,gP,hcb,gT⟩
 rfl
theorem aBm (K:PySem.W.Frag) (c:Cls) {ps:List Pl} (h:GBs ps):bP K c [.p (.list (ps.map plD))]=.ok (.p (.int (wf ps))):=cR (a:=ps) xA h
theorem aQl {ps:List Pl} (h:GBs ps):1<=wf ps/\(∀ p∈ps,p.2.2.2∣wf ps)/\Sz (6*ps.length+1) (wf ps):=by
 obtain ⟨a,b,c,d⟩:=aMo (ps.map fun p=>p.2.2) 1 0 (Int.le_refl 1) (vG _ (by decide)) (fun h' hh=>by obtain ⟨p,hp,rfl⟩:=List.mem_map.mp hh;exact h.2 p hp)
 refine ⟨a,fun p hp=>c _ (List.mem_map.mpr ⟨p,hp,rfl⟩),?_⟩
 rw [List.length_map,Nat.zero_add] at d
 exact d
def blow (F:Int) (p:Pl):Pl:=(p.1,p.2.1,(p.2.2.1*F.fdiv p.2.2.2,1))
def ePI (a:List Pl×Int):List L:=[.p (.list (a.1.map plD)),.p (.int a.2)]
theorem aDh (a b:List Pl×Int) (h:ePI a=ePI b):a=b:=by
 unfold ePI at h
 injection h with h1 h2
 injection h2 with h2 _
 injection h1 with h1
 injection h1 with h1
 injection h2 with h2
 injection h2 with h2
 exact Prod.ext (aQq h1) h2
noncomputable def fD (K:PySem.W.Frag) (c:Cls):List L->Res L:=mOf ePI (fun a=>GBs a.1/\Sz 1000 a.2) fun a=>.ok (.o (.list ((a.1.map (blow a.2)).map plD)))
noncomputable def hU (K:PySem.W.Frag) (c:Cls):En->Res Ev:=(aH bH (aB (aE ixE (aD 0) (mC (.int 0))) (aB (aE ixE (aD 0) (mC (.int 1))) (aB (aH bH (aB (aM 2 (lJ K c) (aB (aE ixE (aD 0) (mC (.int 2))) (aB (aD 1) aN))) (aB (mC (.int 1)) aN))) aN))))
noncomputable def mQ (K:PySem.W.Frag) (c:Cls):MS:=(cY (dG 1 [1] (fT (aD 0)) (aG 0) e9 (hU K c)))
theorem wN (K:PySem.W.Frag) (c:Cls):∀ ls,fD K c ls=.bad\/dX 2 (mQ K c) ls=fD K c ls:=cQ fun a h=>by
 obtain ⟨ps,F⟩:=a
 obtain ⟨⟨hl,hg⟩,hF⟩:=h
 dsimp only at hl hg hF ⊢
 refine bI ?_
 rw [show a7 2 (ePI (ps,F))=[some (.p (.list (ps.map plD))),some (.p (.int F))] from rfl]
 unfold mQ
 have hm:kH (aQ 1 [1] (aG 0) e9 (hU K c) [some (.p (.list (ps.map plD))),some (.p (.int F))]) (ps.map plD)=some (ps.map fun p=>plD (blow F p)):=by
  refine dW _ fun p hp=>?_
  have hw:=zX K c (hg p hp) hF
  unfold aQ
  ktr_call 2 ⟨aG,kF,pQ,e9,hU,List.replicate,List.cons_append,List.nil_append,hw⟩
  rfl
 have hc:=dO (n:=1) (js:=[1]) (fi:=fT (aD 0)) (tg:=aG 0) (ft:=e9) (fe:=hU K c) (en:=[some (.p (.list (ps.map plD))),some (.p (.int F))]) (ds:=ps.map plD) rfl (by rw [List.length_map];omega) hm
 refine (oH hc).trans ?_
 rw [List.map_map]
 rfl
theorem aD3 (K:PySem.W.Frag) (c:Cls) {ps:List Pl} {F:Int} (h:GBs ps) (hF:Sz 1000 F):fD K c [.p (.list (ps.map plD)),.p (.int F)]=.ok (.o (.list ((ps.map (blow F)).map plD))):=cR (a:=(ps,F)) aDh ⟨h,hF⟩
def aL3 (a:Pt×Int):List L:=[.p (.tuple [frD a.1.1,frD a.1.2]),.p (.int a.2)]
theorem aF8 (a b:Pt×Int) (h:aL3 a=aL3 b):a=b:=by
 unfold aL3 at h
 injection h with h1 h2
 injection h2 with h2 _
 injection h1 with h1
 injection h2 with h2
 injection h2 with h2
 exact Prod.ext (ptI h1) h2
def shr (F:Int) (pt:Pt):Pt:=(FR.mk pt.1.1 (pt.1.2*F),FR.mk pt.2.1 (pt.2.2*F))
noncomputable def jS (K:PySem.W.Frag) (c:Cls):List L->Res L:=mOf aL3 (fun a=>1<=a.1.1.2/\1<=a.1.2.2/\Sz 3000 a.1.1.2/\Sz 3000 a.1.2.2/\1<=a.2/\Sz 1000 a.2) fun a=>.ok (.p (.tuple [frD (shr a.2 a.1).1,frD (shr a.2 a.1).2]))
noncomputable def sV (K:PySem.W.Frag) (c:Cls):MS:=(cY (aH bH (aB (aM 2 (bB K c) (aB (aE ixE (aE ixE (aD 0) (mC (.int 0))) (mC (.int 0))) (aB (aE fU (aE ixE (aE ixE (aD 0) (mC (.int 0))) (mC (.int 1))) (aD 1)) aN))) (aB (aM 2 (bB K c) (aB (aE ixE (aE ixE (aD 0) (mC (.int 1))) (mC (.int 0))) (aB (aE fU (aE ixE (aE ixE (aD 0) (mC (.int 1))) (mC (.int 1))) (aD 1)) aN))) aN))))
theorem aBo (K:PySem.W.Frag) (c:Cls):∀ ls,jS K c ls=.bad\/dX 2 (sV K c) ls=jS K c ls:=cQ fun a h=>by
 obtain ⟨pt,F⟩:=a
 obtain ⟨x0,y0,x1,y1,f0,f1⟩:=h
 dsimp only at x0 y0 x1 y1 f0 f1 ⊢
 have p1:=cN x0 f0
 have p2:=cN y0 f0
 have a1:=kC K c (t:=pt.1.1) (b:=pt.1.2*F) (by omega) ((Sz.mul x1 f1).mono (by decide))
 have a2:=kC K c (t:=pt.2.1) (b:=pt.2.2*F) (by omega) ((Sz.mul y1 f1).mono (by decide))
 refine bI ?_
 rw [show a7 2 (aL3 (pt,F))=[some (.p (.tuple [frD pt.1,frD pt.2])),some (.p (.int F))] from rfl]
 unfold sV
 refine gW ?_
 ktr_call 21 ⟨a1,a2⟩
 rfl
theorem aF9 (K:PySem.W.Frag) (c:Cls) {pt:Pt} {F:Int} (h1:1<=pt.1.2) (h2:1<=pt.2.2) (h3:Sz 3000 pt.1.2) (h4:Sz 3000 pt.2.2) (h5:1<=F) (h6:Sz 1000 F):jS K c [.p (.tuple [frD pt.1,frD pt.2]),.p (.int F)]=.ok (.p (.tuple [frD (shr F pt).1,frD (shr F pt).2])):=cR (a:=(pt,F)) aF8 ⟨h1,h2,h3,h4,h5,h6⟩
def aAs:Option (Int×Int)->D
 | none=>.none
 | some x=>frD x
def eLH (a:List (Int×Int)×List (Int×Int)):List L:=[.p (.list (a.1.map frD)),.p (.list (a.2.map frD))]
theorem aJf (a b:List (Int×Int)×List (Int×Int)) (h:eLH a=eLH b):a=b:=by
 unfold eLH at h
 injection h with h1 h2
 injection h2 with h2 _
 injection h1 with h1
 injection h1 with h1
 injection h2 with h2
 injection h2 with h2
 exact Prod.ext (aQd h1) (aQd h2)
def Gs (n:Nat) (xs:List (Int×Int)):Prop:=∀ x∈xs,Good n x
theorem Gs.best {n:Nat} {xs:List (Int×Int)} (h:Gs n xs) (h0:xs≠[]):Good n (best (xs.headD (0,1)) xs):=h _ (mT h0 fun x hx=>(h x hx).1).1
theorem Gs.worst {n:Nat} {xs:List (Int×Int)} (h:Gs n xs) (h0:xs≠[]):Good n (worst (xs.headD (0,1)) xs):=h _ (kP h0 fun x hx=>(h x hx).1).1
theorem y4:Good 10 (1,1):=⟨Int.le_refl 1,vG _ (by decide),vG _ (by decide)⟩
noncomputable def iO (K:PySem.W.Frag) (c:Cls):List L->Res L:=mOf eLH (fun a=>Gs 900 a.1/\Gs 900 a.2) fun a=>.ok (.p (aAs (btw a.1 a.2)))
noncomputable def oU (K:PySem.W.Frag) (c:Cls):MS:=(cB (gS (aAr (aZ (aE (eqE false) (aH gF (aB (aD 0) aN)) (mC (.int 0)))) (aZ (aE (eqE false) (aH gF (aB (aD 1) aN)) (mC (.int 0))))) (cY (aH bH (aB (mC (.int 0)) (aB (mC (.int 1)) aN)))) cS) (cB (gS (aZ (aE (eqE false) (aH gF (aB (aD 1) aN)) (mC (.int 0)))) (cY (aM 2 (jY K c) (aB (aM 1 (eI K c) (aB (aD 0) aN)) (aB (aH bH (aB (mC (.int 1)) (aB (mC (.int 1)) aN))) aN)))) cS) (cB (gS (aZ (aE (eqE false) (aH gF (aB (aD 0) aN)) (mC (.int 0)))) (cY (aM 2 (jV K c) (aB (aM 1 (jU K c) (aB (aD 1) aN)) (aB (aH bH (aB (mC (.int 1)) (aB (mC (.int 1)) aN))) aN)))) cS) (cB (cW 2 (aM 1 (eI K c) (aB (aD 0) aN))) (cB (cW 3 (aM 1 (jU K c) (aB (aD 1) aN))) (cY (mIf (aZ (aM 2 (iH K c) (aB (aD 2) (aB (aD 3) aN)))) (aM 2 (nG K c) (aB (aM 2 (jY K c) (aB (aD 2) (aB (aD 3) aN))) (aB (aH bH (aB (mC (.int 2)) (aB (mC (.int 1)) aN))) aN))) (mC (.none)))))))))
theorem aOp (n:Nat):eqE false (.p (.int (n:Int))) (.p (.int 0))=.ok (.p (.bool (decide (n=0)))):=by
 simp [eqE,dat,fP,gR]
 by_cases h:n=0
 ·subst h;rfl
 ·simp [h]
theorem zY (K:PySem.W.Frag) (c:Cls):∀ ls,iO K c ls=.bad\/dX 4 (oU K c) ls=iO K c ls:=cQ fun a h=>by
 obtain ⟨lo,hi⟩:=a
 obtain ⟨hl,hh⟩:=h
 dsimp only at hl hh ⊢
 have L0:∀ xs:List (Int×Int),gF [.p (.list (xs.map frD))]=.ok (.p (.int (xs.length:Nat))):=fun xs=>by simp [gF,j6]
 refine bI ?_
 rw [show a7 4 (eLH (lo,hi))=[some (.p (.list (lo.map frD))),some (.p (.list (hi.map frD))),none,none] from rfl]
 unfold oU btw
 have t0:∀ r2 r3,aZ (aE (eqE false) (aH gF (aB (aD 0) aN)) (mC (.int 0))) [some (.p (.list (lo.map frD))),some (.p (.list (hi.map frD))),r2,r3]=.ok (decide (lo.length=0)):=fun r2 r3=>by
  ktr_call 3 ⟨aZ,aE,aH,aB,aN,aD,mC,Res.bind,Ev.c,L0,aOp,bE⟩
 have t1:∀ r2 r3,aZ (aE (eqE false) (aH gF (aB (aD 1) aN)) (mC (.int 0))) [some (.p (.list (lo.map frD))),some (.p (.list (hi.map frD))),r2,r3]=.ok (decide (hi.length=0)):=fun r2 r3=>by
  ktr_call 3 ⟨aZ,aE,aH,aB,aN,aD,mC,Res.bind,Ev.c,L0,aOp,bE⟩
 have t01:∀ r2 r3,(aAr (aZ (aE (eqE false) (aH gF (aB (aD 0) aN)) (mC (.int 0)))) (aZ (aE (eqE false) (aH gF (aB (aD 1) aN)) (mC (.int 0))))) [some (.p (.list (lo.map frD))),some (.p (.list (hi.map frD))),r2,r3]=.ok (decide (lo.length=0) && decide (hi.length=0)):=fun r2 r3=>by
  unfold aAr
  rw [t0,t1]
  cases decide (lo.length=0)<;>rfl
 have zl:∀ xs:List (Int×Int),xs.length=0↔xs=[]:=fun xs=>List.length_eq_zero_iff
 by_cases c1:lo=[]
 ·by_cases c2:hi=[]
  ·rw [if_pos ⟨c1,c2⟩]
   have t:=t01 none none
   rw [decide_eq_true ((zl lo).mpr c1),decide_eq_true ((zl hi).mpr c2)] at t
   exact kG ((pR t).trans rfl)
  ·rw [if_neg (fun z=>c2 z.2),if_neg c2,if_pos c1]
   have t:=t01 none none
   have u1:=t1 none none
   have u0:=t0 none none
   rw [decide_eq_true ((zl lo).mpr c1)] at u0
   rw [decide_eq_false (fun z=>c2 ((zl hi).mp z))] at u1
   rw [decide_eq_true ((zl lo).mpr c1),decide_eq_false (fun z=>c2 ((zl hi).mp z))] at t
   have w:=hh.worst c2
   have hw:=qP K c hi c2 fun y hy=>((hh y hy).mono (show 900<=2000 by decide)).fsz
   have hm:=aAa K c w y4 (by decide) (by decide)
   have hm:jV K c [.p (frD (worst (hi.headD (0,1)) hi)),.p (.tuple [.int 1,.int 1])]=.ok (.p (frD (hM (worst (hi.headD (0,1)) hi) (1,1)))):=hm
   refine (aR (j3 t)).trans ((aR (j3 u1)).trans (kG ((pR u0).trans (gW ?_))))
   ktr_call 2 ⟨hw,hm,aAs⟩
 ·by_cases c2:hi=[]
  ·rw [if_neg (fun z=>c1 z.1),if_pos c2]
   have t:=t01 none none
   have u1:=t1 none none
   rw [decide_eq_true ((zl hi).mpr c2)] at u1
   rw [decide_eq_false (fun z=>c1 ((zl lo).mp z)),decide_eq_true ((zl hi).mpr c2)] at t
   have w:=hl.best c1
   have hw:=l7 K c lo c1 fun y hy=>((hl y hy).mono (show 900<=2000 by decide)).fsz
   have hm:=oX K c w y4 (by decide) (by decide)
   have hm:jY K c [.p (frD (best (lo.headD (0,1)) lo)),.p (.tuple [.int 1,.int 1])]=.ok (.p (frD (hP (best (lo.headD (0,1)) lo) (1,1)))):=hm
   refine (aR (j3 t)).trans (kG ((pR u1).trans (gW ?_)))
   ktr_call 2 ⟨hw,hm,aAs⟩
  ·rw [if_neg (fun z=>c1 z.1),if_neg c2,if_neg c1]
   have t:=t01 none none
   have u1:=t1 none none
   have u0:=t0 none none
   rw [decide_eq_false (fun z=>c1 ((zl lo).mp z))] at u0
   rw [decide_eq_false (fun z=>c2 ((zl hi).mp z))] at u1
   rw [decide_eq_false (fun z=>c1 ((zl lo).mp z)),decide_eq_false (fun z=>c2 ((zl hi).mp z))] at t
   have w1:=hl.best c1
   have w2:=hh.worst c2
   have h1:=l7 K c lo c1 fun y hy=>((hl y hy).mono (show 900<=2000 by decide)).fsz
   have h2:=qP K c hi c2 fun y hy=>((hh y hy).mono (show 900<=2000 by decide)).fsz
   generalize best (lo.headD (0,1)) lo=l at *
   generalize worst (hi.headD (0,1)) hi=h at *
   have hp:=oX K c w1 w2 (by decide) (by decide)
   have ho:=aBf K c (aCm w1 w2) (by decide)
   have hlt:=lW K c ((w1.mono (show 900<=2000 by decide)).fsz) ((w2.mono (show 900<=2000 by decide)).fsz)
   have e1:(aM 1 (eI K c) (aB (aD 0) aN)) [some (.p (.list (lo.map frD))),some (.p (.list (hi.map frD))),none,none]=.ok (.p (frD l)):=by
    ktr_call 3 ⟨aM,aB,aN,aD,Res.bind,Ev.c,cH,bY,gP,h1,gT⟩
   have e2:(aM 1 (jU K c) (aB (aD 1) aN)) [some (.p (.list (lo.map frD))),some (.p (.list (hi.map frD))),some (.p (frD l)),none]=.ok (.p (frD h)):=by
    ktr_call 3 ⟨aM,aB,aN,aD,Res.bind,Ev.c,cH,bY,gP,h2,gT⟩
   refine (aR (j3 t)).trans ((aR (j3 u1)).trans ((aR (j3 u0)).trans ((aR (hZ e1)).trans ((aR (hZ e2)).trans (gW ?_)))))
   cases hb:ltF l h with
   | true =>
    rw [hb] at hlt
    ktr_call 2 ⟨mIf,hlt,hp,ho,aAs⟩
   | false =>
    rw [hb] at hlt
    ktr_call 2 ⟨mIf,hlt,aAs⟩
theorem aGh (K:PySem.W.Frag) (c:Cls) {lo hi:List (Int×Int)} (h1:Gs 900 lo) (h2:Gs 900 hi):iO K c [.p (.list (lo.map frD)),.p (.list (hi.map frD))]=.ok (.p (aAs (btw lo hi))):=cR (a:=(lo,hi)) aJf ⟨h1,h2⟩
noncomputable def gL (K:PySem.W.Frag) (c:Cls):List L->Res L:=mOf eFs (fun rows=>rows.length<=10000/\∀ r∈rows,Sz 900 r.1/\Sz 900 r.2) fun rows=>.ok (.p (aAs (solve rows)))
noncomputable def iI (K:PySem.W.Frag) (c:Cls):En->Res Ev:=(aM 2 (bB K c) (aB (mUn tK (aE ixE (aD 0) (mC (.int 1)))) (aB (aE ixE (aD 0) (mC (.int 0))) aN)))
noncomputable def iL (K:PySem.W.Frag) (c:Cls):En->Res Ev:=(aM 2 (bB K c) (aB (mUn tK (aE ixE (aD 0) (mC (.int 1)))) (aB (aE ixE (aD 0) (mC (.int 0))) aN)))
noncomputable def iP (K:PySem.W.Frag) (c:Cls):En->Res Ev:=(k8 (aE (eqE false) (aE ixE (aD 0) (mC (.int 0))) (mC (.int 0))) (aE leE (aE ixE (aD 0) (mC (.int 1))) (mC (.int 0))))
noncomputable def sS (K:PySem.W.Frag) (c:Cls):MS:=(cB (gS (aZ (aH aHv (aB (dG 1 [] (fT (aD 0)) (aG 0) e9 (iP K c)) aN))) (cY (mC (.none))) cS) (cB (cW 1 (dG 1 [] (fT (aD 0)) (aG 0) (aZ (aE gtE (aE ixE (aD 0) (mC (.int 0))) (mC (.int 0)))) (iL K c))) (cB (cW 2 (dG 1 [] (fT (aD 0)) (aG 0) (aZ (aE ltE (aE ixE (aD 0) (mC (.int 0))) (mC (.int 0)))) (iI K c))) (cY (aM 2 (iO K c) (aB (aD 1) (aB (aD 2) aN)))))))
theorem tL {n:Nat} {r:N.R2} (h:r.1≠0) (h1:Sz n r.1) (h2:Sz n r.2):Good n (l4 r):=mW h2.neg h1 h
theorem aBn (K:PySem.W.Frag) (c:Cls):∀ ls,gL K c ls=.bad\/dX 3 (sS K c) ls=gL K c ls:=cQ fun rows h=>by
 obtain ⟨hl,hz⟩:=h
 refine bI ?_
 rw [show a7 3 (eFs rows)=[some (.p (.list (rows.map frD))),none,none] from rfl]
 unfold sS solve
 have hlen:(rows.map frD).length<=100000:=by rw [List.length_map];omega
 have fr:∀ r∈rows,r.1≠0->bB K c [.p (.int (-r.2)),.p (.int r.1)]=.ok (.p (frD (l4 r))):=fun r hr h0=>kC K c h0 ((hz r hr).1.mono (by decide))
 have m1:kH (aQ 1 [] (aG 0) e9 (iP K c) [some (.p (.list (rows.map frD))),none,none]) (rows.map frD)=some (rows.map fun r=>PyData.bool (decide (r.1=0) && decide (r.2<=0))):=by
  refine dW _ fun r hr=>?_
  have q:eqE false (.p (.int r.1)) (.p (.int 0))=.ok (.p (.bool (decide (r.1=0)))):=by
   simp [eqE,dat,fP,gR]
   by_cases h:r.1=0
   ·simp [h]
   ·simp [h]
  unfold aQ
  ktr_call 3 ⟨aG,kF,e9,iP,k8,aE,aD,mC,List.replicate,List.cons_append,List.nil_append,Res.bind,Ev.c,j4,kB,q,eP⟩
  by_cases h:r.1=0
  ·simp [h]
  ·simp [h]
 have c1:=dO (n:=1) (js:=[]) (fi:=fT (aD 0)) (tg:=aG 0) (ft:=e9) (fe:=iP K c) (en:=[some (.p (.list (rows.map frD))),none,none]) (ds:=rows.map frD) rfl hlen m1
 have ta:aZ (aH aHv (aB (dG 1 [] (fT (aD 0)) (aG 0) e9 (iP K c)) aN)) [some (.p (.list (rows.map frD))),none,none]=.ok (rows.any fun r=>decide (r.1=0) && decide (r.2<=0)):=by
  have:aHv [.p (.list (rows.map fun r=>PyData.bool (decide (r.1=0) && decide (r.2<=0))))]=.ok (.p (.bool (rows.any fun r=>decide (r.1=0) && decide (r.2<=0)))):=by
   simp only [aHv,iS,aBv]
   rw [any_map]
  simp only [aZ,aH,aB,aN,c1,Res.bind,Ev.c,this,bE]
 cases hb:(rows.any fun r=>decide (r.1=0) && decide (r.2<=0)) with
 | true =>
  rw [hb] at ta
  rw [if_pos rfl]
  exact kG ((pR ta).trans rfl)
 | false =>
  rw [hb] at ta
  rw [if_neg (by decide)]
  have m2:kH (aQ 1 [] (aG 0) (aZ (aE gtE (aE ixE (aD 0) (mC (.int 0))) (mC (.int 0)))) (iL K c) [some (.p (.list (rows.map frD))),none,none]) (rows.map frD)=some (((rows.filter fun r=>decide (0 < r.1))).map fun r=>frD (l4 r)):=by
   refine fK _ fun r hr=>?_
   unfold aQ
   by_cases h:0 < r.1
   ·have f:=fr r hr (by omega)
    rw [decide_eq_true h]
    ktr_call 2 ⟨aG,kF,iL,List.replicate,List.cons_append,List.nil_append,decide_eq_true h,f⟩
   ·rw [decide_eq_false h]
    ktr_call 2 ⟨aG,kF,iL,List.replicate,List.cons_append,List.nil_append,decide_eq_false h⟩
  have c2:=dO (n:=1) (js:=[]) (fi:=fT (aD 0)) (tg:=aG 0) (ft:=aZ (aE gtE (aE ixE (aD 0) (mC (.int 0))) (mC (.int 0)))) (fe:=iL K c) (en:=[some (.p (.list (rows.map frD))),none,none]) (ds:=rows.map frD) rfl hlen m2
  have m3:∀ x,kH (aQ 1 [] (aG 0) (aZ (aE ltE (aE ixE (aD 0) (mC (.int 0))) (mC (.int 0)))) (iI K c) [some (.p (.list (rows.map frD))),x,none]) (rows.map frD)=some (((rows.filter fun r=>decide (r.1 < 0))).map fun r=>frD (l4 r)):=fun x=>by
   refine fK _ fun r hr=>?_
   unfold aQ
   by_cases h:r.1 < 0
   ·have f:=fr r hr (by omega)
    rw [decide_eq_true h]
    ktr_call 2 ⟨aG,kF,iI,List.replicate,List.cons_append,List.nil_append,decide_eq_true h,f⟩
   ·rw [decide_eq_false h]
    ktr_call 2 ⟨aG,kF,iI,List.replicate,List.cons_append,List.nil_append,decide_eq_false h⟩
  have c3:=fun x=>dO (n:=1) (js:=[]) (fi:=fT (aD 0)) (tg:=aG 0) (ft:=aZ (aE ltE (aE ixE (aD 0) (mC (.int 0))) (mC (.int 0)))) (fe:=iI K c) (en:=[some (.p (.list (rows.map frD))),x,none]) (ds:=rows.map frD) rfl hlen (m3 x)
  have el:((rows.filter fun r=>decide (0 < r.1)).map fun r=>frD (l4 r))=(i8 rows).map frD:=by unfold i8;rw [List.map_map];rfl
  have eh:((rows.filter fun r=>decide (r.1 < 0)).map fun r=>frD (l4 r))=(fN rows).map frD:=by unfold fN;rw [List.map_map];rfl
  rw [el] at c2
  simp only [eh] at c3
  have gl:Gs 900 (i8 rows):=fun x hx=>by
   obtain ⟨r,hr,h0,rfl⟩:=mem_lows.mp hx
   exact tL (by omega) (hz r hr).1 (hz r hr).2
  have gh:Gs 900 (fN rows):=fun x hx=>by
   obtain ⟨r,hr,h0,rfl⟩:=mem_highs.mp hx
   exact tL (by omega) (hz r hr).1 (hz r hr).2
  have hbt:=aGh K c gl gh
  have hfl:uQ (.p (aAs (btw (i8 rows) (fN rows))))=true:=by
   unfold uQ
   cases btw (i8 rows) (fN rows) with
   | none=>simp [aAs,lfD]
   | some x=>exact aLz x
  refine (aR (j3 ta)).trans ((aR (gY c2)).trans ((aR (gY (c3 _))).trans (gW ?_)))
  ktr_call 3 ⟨aM,aB,aN,aD,Res.bind,Ev.c,cH,bY,gP,wK,hbt,hfl,gT⟩
theorem qL (K:PySem.W.Frag) (c:Cls) {rows:List N.R2} (h1:rows.length<=10000) (h2:∀ r∈rows,Sz 900 r.1/\Sz 900 r.2):gL K c [.p (.list (rows.map frD))]=.ok (.p (aAs (solve rows))):=cR (a:=rows) sC ⟨h1,h2⟩
def r3D (r:R3):D:=.tuple [.int r.1,.int r.2.1,.int r.2.2]
theorem r3I {a b:R3} (h:r3D a=r3D b):a=b:=by
 unfold r3D at h
 injection h with h
 injection h with h1 h
 injection h with h2 h
 injection h with h3 _
 injection h1 with h1
 injection h2 with h2
 injection h3 with h3
 exact Prod.ext h1 (Prod.ext h2 h3)
theorem aR5 {α:Type} {f:α->D} (hf:∀ a b,f a=f b->a=b):∀ {xs ys:List α},xs.map f=ys.map f->xs=ys
 | [],[],_=>rfl
 | [],_ :: _,h=>by cases h
 | _ :: _,[],h=>by cases h
 | x :: xs,y :: ys,h=>by
  injection h with h1 h2
  rw [hf x y h1,aR5 hf h2]
theorem aJ6 (p:R3):ixE (.p (r3D p)) (.p (.int 0))=.ok (.p (.int p.1)):=mF _ _
theorem v3 (p:R3):ixE (.p (r3D p)) (.p (.int 1))=.ok (.p (.int p.2.1)):=mM _ _ _
theorem aJb (p:R3):ixE (.p (r3D p)) (.p (.int 2))=.ok (.p (.int p.2.2)):=pP _ _ _ _
def eRs (rows:List R3):List L:=[.p (.list (rows.map r3D))]
theorem aJ5 (a b:List R3) (h:eRs a=eRs b):a=b:=by
 unfold eRs at h
 injection h with h _
 injection h with h
 injection h with h
 exact aR5 (fun _ _=>r3I) h
def G3 (n:Nat) (r:R3):Prop:=Sz n r.1/\Sz n r.2.1/\Sz n r.2.2
noncomputable def dZ (K:PySem.W.Frag) (c:Cls):List L->Res L:=mOf eRs (fun rows=>rows.length<=100/\∀ r∈rows,G3 400 r) fun rows=>.ok (.o (.list ((elim rows).map frD)))
noncomputable def gE (K:PySem.W.Frag) (c:Cls):En->Res Ev:=(aH bH (aB (aE pW (aE fU (aE ixE (aD 1) (mC (.int 1))) (aE ixE (aD 0) (mC (.int 0)))) (aE fU (aE ixE (aD 0) (mC (.int 1))) (aE ixE (aD 1) (mC (.int 0))))) (aB (aE pW (aE fU (aE ixE (aD 1) (mC (.int 1))) (aE ixE (aD 0) (mC (.int 2)))) (aE fU (aE ixE (aD 0) (mC (.int 1))) (aE ixE (aD 1) (mC (.int 2))))) aN)))
noncomputable def gH (K:PySem.W.Frag) (c:Cls):MS:=(gS (aZ (aE gtE (aE ixE (aD 3) (mC (.int 1))) (mC (.int 0)))) (lQ 1 (dG 1 [3] (fT (aD 2)) (aG 0) e9 (gE K c))) cS)
noncomputable def eO (K:PySem.W.Frag) (c:Cls):En->Res Ev:=(aD 0)
noncomputable def eQ (K:PySem.W.Frag) (c:Cls):En->Res Ev:=(aH bH (aB (aE ixE (aD 0) (mC (.int 0))) (aB (aE ixE (aD 0) (mC (.int 2))) aN)))
noncomputable def lN (K:PySem.W.Frag) (c:Cls):MS:=(cB (cW 1 (dG 1 [] (fT (aD 0)) (aG 0) (aZ (aE (eqE false) (aE ixE (aD 0) (mC (.int 1))) (mC (.int 0)))) (eQ K c))) (cB (cW 2 (dG 1 [] (fT (aD 0)) (aG 0) (aZ (aE ltE (aE ixE (aD 0) (mC (.int 1))) (mC (.int 0)))) (eO K c))) (fun en=>(cB (vJ (fT (aD 0)) (aG 3) (gH K c)) (cY (aD 1))) (frz 2 en))))
theorem tV (highs:List R3):∀ (rows:List R3) (k:List N.R2),(rows.foldl (mI highs) k).length<=k.length+rows.length*highs.length
 | [],k=>by simp
 | l :: rows,k=>by
  rw [List.foldl_cons]
  have h:=tV highs rows (mI highs k l)
  have h2:(mI highs k l).length<=k.length+highs.length:=by
   unfold mI
   split
   ·rw [List.length_append,List.length_map];exact Nat.le_refl _
   ·omega
  have e:(l :: rows).length*highs.length=highs.length+rows.length*highs.length:=by rw [List.length_cons,Nat.add_mul,Nat.one_mul,Nat.add_comm]
  omega
theorem aFw (rows:List R3):(elim rows).length<=rows.length+rows.length*rows.length:=by
 unfold elim
 have h:=tV (gU rows) rows (o8 rows)
 have h1:(o8 rows).length<=rows.length:=by unfold o8;rw [List.length_map];exact List.length_filter_le _ _
 have h2:(gU rows).length<=rows.length:=by unfold gU;exact List.length_filter_le _ _
 have h3:=Nat.mul_le_mul_left rows.length h2
 omega
theorem u5 (K:PySem.W.Frag) (c:Cls):∀ ls,dZ K c ls=.bad\/dX 4 (lN K c) ls=dZ K c ls:=cQ fun rows h=>by
 obtain ⟨hl,hz⟩:=h
 refine bI ?_
 rw [show a7 4 (eRs rows)=[some (.p (.list (rows.map r3D))),none,none,none] from rfl]
 unfold lN
 have hlen:(rows.map r3D).length<=100000:=by rw [List.length_map];omega
 have q0:∀ x:Int,eqE false (.p (.int x)) (.p (.int 0))=.ok (.p (.bool (decide (x=0)))):=fun x=>by
  simp [eqE,dat,fP,gR]
  by_cases h:x=0
  ·simp [h]
  ·simp [h]
 have m1:kH (aQ 1 [] (aG 0) (aZ (aE (eqE false) (aE ixE (aD 0) (mC (.int 1))) (mC (.int 0)))) (eQ K c) [some (.p (.list (rows.map r3D))),none,none,none]) (rows.map r3D)=some ((rows.filter fun r=>decide (r.2.1=0)).map fun r=>frD (r.1,r.2.2)):=by
  refine fK _ fun r hr=>?_
  unfold aQ
  by_cases h:r.2.1=0
  ·rw [decide_eq_true h]
   ktr_call 3 ⟨aG,kF,eQ,aZ,aE,aD,mC,aH,aB,aN,bH,hV,bE,List.replicate,List.cons_append,List.nil_append,Res.bind,Ev.c,aJ6,v3,aJb,q0,decide_eq_true h⟩
   rfl
  ·rw [decide_eq_false h]
   ktr_call 3 ⟨aG,kF,eQ,aZ,aE,aD,mC,bE,List.replicate,List.cons_append,List.nil_append,Res.bind,Ev.c,v3,q0,decide_eq_false h⟩
 have c1:=dO (n:=1) (js:=[]) (fi:=fT (aD 0)) (tg:=aG 0) (ft:=aZ (aE (eqE false) (aE ixE (aD 0) (mC (.int 1))) (mC (.int 0)))) (fe:=eQ K c) (en:=[some (.p (.list (rows.map r3D))),none,none,none]) (ds:=rows.map r3D) rfl hlen m1
 have m2:∀ x,kH (aQ 1 [] (aG 0) (aZ (aE ltE (aE ixE (aD 0) (mC (.int 1))) (mC (.int 0)))) (eO K c) [some (.p (.list (rows.map r3D))),x,none,none]) (rows.map r3D)=some ((rows.filter fun r=>decide (r.2.1 < 0)).map r3D):=fun x=>by
  refine fK _ fun r hr=>?_
  unfold aQ
  by_cases h:r.2.1 < 0
  ·rw [decide_eq_true h]
   ktr_call 3 ⟨aG,kF,eO,aZ,aE,aD,mC,eP,bE,List.replicate,List.cons_append,List.nil_append,Res.bind,Ev.c,v3,decide_eq_true h⟩
  ·rw [decide_eq_false h]
   ktr_call 3 ⟨aG,kF,eO,aZ,aE,aD,mC,eP,bE,List.replicate,List.cons_append,List.nil_append,Res.bind,Ev.c,v3,decide_eq_false h⟩
 have c2:=fun x=>dO (n:=1) (js:=[]) (fi:=fT (aD 0)) (tg:=aG 0) (ft:=aZ (aE ltE (aE ixE (aD 0) (mC (.int 1))) (mC (.int 0)))) (fe:=eO K c) (en:=[some (.p (.list (rows.map r3D))),x,none,none]) (ds:=rows.map r3D) rfl hlen (m2 x)
 have ek:((rows.filter fun r=>decide (r.2.1=0)).map fun r=>frD (r.1,r.2.2))=(o8 rows).map frD:=by unfold o8;rw [List.map_map];rfl
 rw [ek] at c1
 have eh:((rows.filter fun r=>decide (r.2.1 < 0)).map r3D)=(gU rows).map r3D:=rfl
 simp only [eh] at c2
 have hz2:∀ r∈gU rows,G3 400 r:=fun r hr=>hz r (List.mem_filter.mp hr).1
 have hl2:(gU rows).length<=100:=Nat.le_trans (List.length_filter_le _ _) hl
 have gen:∀ (xs:List R3) (k:List N.R2) (r3:Option L),(∀ r∈xs,G3 400 r)->k.length+xs.length*100<=50000->∃ r',fB (aG 3) (gH K c) (xs.map r3D) [some (.p (.list (rows.map r3D))),some (.o (.list (k.map frD))),some (.p (.list ((gU rows).map r3D))),r3]=some (.nx [some (.p (.list (rows.map r3D))),some (.o (.list ((xs.foldl (mI (gU rows)) k).map frD))),some (.p (.list ((gU rows).map r3D))),r']):=by
  intro xs
  induction xs with
  | nil=>intro k r3 _ _;exact ⟨r3,rfl⟩
  | cons l xs ih =>
   intro k r3 hx hk
   have gl:=hx l (.head _)
   have hk':k.length+(xs.length+1)*100<=50000:=hk
   have tl:aZ (aE gtE (aE ixE (aD 3) (mC (.int 1))) (mC (.int 0))) [some (.p (.list (rows.map r3D))),some (.o (.list (k.map frD))),some (.p (.list ((gU rows).map r3D))),some (.p (r3D l))]=.ok (decide (0 < l.2.1)):=by
    ktr_call 3 ⟨aZ,aE,aD,mC,eP,bE,Res.bind,Ev.c,v3⟩
   have hb:gH K c [some (.p (.list (rows.map r3D))),some (.o (.list (k.map frD))),some (.p (.list ((gU rows).map r3D))),some (.p (r3D l))]=some (.nx [some (.p (.list (rows.map r3D))),some (.o (.list ((mI (gU rows) k l).map frD))),some (.p (.list ((gU rows).map r3D))),some (.p (r3D l))]):=by
    unfold gH mI
    by_cases h:0 < l.2.1
    ·rw [decide_eq_true h] at tl
     rw [if_pos h]
     refine (pR tl).trans ?_
     have m3:kH (aQ 1 [3] (aG 0) e9 (gE K c) [some (.p (.list (rows.map r3D))),some (.o (.list (k.map frD))),some (.p (.list ((gU rows).map r3D))),some (.p (r3D l))]) ((gU rows).map r3D)=some ((gU rows).map fun h=>frD (j5 l h)):=by
      refine dW _ fun g hg=>?_
      obtain ⟨a1,a2,a3⟩:=gl
      obtain ⟨b1,b2,b3⟩:=hz2 g hg
      unfold aQ
      ktr_call 21 ⟨aG,kF,pQ,e9,gE,List.replicate,List.cons_append,List.nil_append,aJ6,v3,aJb⟩
      rfl
     have c3:=dO (n:=1) (js:=[3]) (fi:=fT (aD 2)) (tg:=aG 0) (ft:=e9) (fe:=gE K c) (en:=[some (.p (.list (rows.map r3D))),some (.o (.list (k.map frD))),some (.p (.list ((gU rows).map r3D))),some (.p (r3D l))]) (ds:=(gU rows).map r3D) rfl (by rw [List.length_map];omega) m3
     have e3:((gU rows).map fun h=>frD (j5 l h))=((gU rows).map (j5 l)).map frD:=by rw [List.map_map];rfl
     unfold lQ
     ktr_call 3 ⟨c3⟩
     rw [if_pos (by omega),e3]
    ·rw [decide_eq_false h] at tl
     rw [if_neg h]
     exact j3 tl
   have hln:(mI (gU rows) k l).length<=k.length+100:=by
    unfold mI
    split
    ·rw [List.length_append,List.length_map];omega
    ·omega
   obtain ⟨r',ih⟩:=ih (mI (gU rows) k l) (some (.p (r3D l))) (fun r hr=>hx r (.tail _ hr)) (by omega)
   refine ⟨r',?_⟩
   rw [List.map_cons]
   unfold fB
   simp only [aG,List.set_cons_succ,List.set_cons_zero]
   rw [hb]
   exact ih
 have hkl:(o8 rows).length<=rows.length:=by unfold o8;rw [List.length_map];exact List.length_filter_le _ _
 obtain ⟨r',hloop⟩:=gen rows (o8 rows) none hz (by omega)
 refine (aR (gY c1)).trans ((aR (gY (c2 _))).trans ?_)
 simp only [List.set_cons_succ,List.set_cons_zero,frz,List.getElem?_cons_succ,List.getElem?_cons_zero]
 refine (aR ((nP (ds:=rows.map r3D) rfl).trans hloop)).trans ?_
 rfl
theorem aAu (K:PySem.W.Frag) (c:Cls) {rows:List R3} (h1:rows.length<=100) (h2:∀ r∈rows,G3 400 r):dZ K c [.p (.list (rows.map r3D))]=.ok (.o (.list ((elim rows).map frD))):=cR (a:=rows) aJ5 ⟨h1,h2⟩
def aAz (p q:Pl):R3:=(p.1 - q.1,p.2.1 - q.2.1,p.2.2.1 - q.2.2.1)
def ePP (a:Pl×Pl):List L:=[.p (plD a.1),.p (plD a.2)]
theorem aJo (a b:Pl×Pl) (h:ePP a=ePP b):a=b:=by
 unfold ePP at h
 injection h with h1 h2
 injection h2 with h2 _
 injection h1 with h1
 injection h2 with h2
 exact Prod.ext (plI h1) (plI h2)
noncomputable def w9 (K:PySem.W.Frag) (c:Cls):List L->Res L:=mOf ePP (fun _=>True) fun a=>.ok (.p (r3D (aAz a.1 a.2)))
noncomputable def aKk (K:PySem.W.Frag) (c:Cls):MS:=(cY (aH bH (aB (aE pW (aE ixE (aD 0) (mC (.int 0))) (aE ixE (aD 1) (mC (.int 0)))) (aB (aE pW (aE ixE (aD 0) (mC (.int 1))) (aE ixE (aD 1) (mC (.int 1)))) (aB (aE pW (aE ixE (aE ixE (aD 0) (mC (.int 2))) (mC (.int 0))) (aE ixE (aE ixE (aD 1) (mC (.int 2))) (mC (.int 0)))) aN)))))
theorem aO0 (K:PySem.W.Frag) (c:Cls):∀ ls,w9 K c ls=.bad\/dX 2 (aKk K c) ls=w9 K c ls:=cQ fun a _=>by
 obtain ⟨p,q⟩:=a
 refine bI ?_
 rw [show a7 2 (ePP (p,q))=[some (.p (plD p)),some (.p (plD q))] from rfl]
 unfold aKk
 refine gW ?_
 walk_at "1"
 rfl
theorem aGc (K:PySem.W.Frag) (c:Cls) (p q:Pl):w9 K c [.p (plD p),.p (plD q)]=.ok (.p (r3D (aAz p q))):=cR (a:=(p,q)) aJo trivial
structure Gd (t b:Nat) (x:Int×Int):Prop where
 p:1<=x.2
 t:Sz t x.1
 b:Sz b x.2
theorem zO {m n:Nat} {t b:Int} (h0:b≠0) (ht:Sz m t) (hb:Sz n b):Gd m n (FR.mk t b):=⟨(FR.nM h0).1.pos,Sz.le ht (natAbs_fdiv_le _ _),Sz.le hb (natAbs_fdiv_le _ _)⟩
theorem Gd.mono {a b c d:Nat} {x:Int×Int} (h:Gd a b x) (h1:a<=c) (h2:b<=d):Gd c d x:=⟨h.p,h.t.mono h1,h.b.mono h2⟩
theorem sW {m n:Nat} {rows:List N.R2} {x:Int×Int} (h:∀ r∈rows,Sz m r.1/\Sz n r.2) (e:solve rows=some x):Gd (n+m+3) (2*m+3) x:=by
 have gl:∀ y∈i8 rows,Gd n m y:=fun y hy=>by
  obtain ⟨r,hr,h0,rfl⟩:=mem_lows.mp hy
  exact zO (by omega) (h r hr).2.neg (h r hr).1
 have gh:∀ y∈fN rows,Gd n m y:=fun y hy=>by
  obtain ⟨r,hr,h0,rfl⟩:=mem_highs.mp hy
  exact zO (by omega) (h r hr).2.neg (h r hr).1
 unfold solve at e
 split at e
 ·cases e
 ·unfold btw at e
  split at e
  ·cases e
   exact ⟨Int.le_refl 1,vG _ (Nat.two_pow_pos _),vG _ (Nat.one_lt_two_pow (by omega))⟩
  ·rename_i z
   split at e
   ·rename_i z2
    cases e
    have g:=gl _ (mT (fun q=>z ⟨q,z2⟩) rR).1
    generalize best ((i8 rows).headD (0,1)) (i8 rows)=y at g
    have gp:=g.p
    refine (zO (m:=max n m+1) (n:=m) (t:=y.1*1+1*y.2) (b:=y.2*1) (by omega) ?_ ?_).mono (by omega) (by omega)
    ·rw [Int.mul_one,Int.one_mul];exact Sz.addM g.t g.b
    ·rw [Int.mul_one];exact g.b
   ·rename_i z2
    split at e
    ·cases e
     have g:=gh _ (kP z2 nX).1
     generalize worst ((fN rows).headD (0,1)) (fN rows)=y at g
     have gp:=g.p
     refine (zO (m:=max n m+1) (n:=m) (t:=y.1*1 - 1*y.2) (b:=y.2*1) (by omega) ?_ ?_).mono (by omega) (by omega)
     ·rw [Int.mul_one,Int.one_mul];exact Sz.subM g.t g.b
     ·rw [Int.mul_one];exact g.b
    ·rename_i z3
     split at e
     ·cases e
      have g:=gl _ (mT z3 rR).1
      have g2:=gh _ (kP z2 nX).1
      generalize best ((i8 rows).headD (0,1)) (i8 rows)=y at g
      generalize worst ((fN rows).headD (0,1)) (fN rows)=w at g2
      have gp:=g.p
      have gp2:=g2.p
      have pp:=cN gp gp2
      have h1:Gd (n+m+1) (m+m) (hP y w):=(zO (by omega) (Sz.addM (Sz.mul g.t g2.b) (Sz.mul g2.t g.b)) (Sz.mul g.b g2.b)).mono (by omega) (by omega)
      have hp:=h1.p
      generalize hP y w=v at h1 hp
      refine (zO (m:=n+m+1) (n:=m+m+2) (t:=v.1*1) (b:=v.2*2) (by omega) ?_ ?_).mono (by omega) (by omega)
      ·rw [Int.mul_one];exact h1.t
      ·exact Sz.mul h1.b (vG 2 (by decide))
     ·cases e
structure PW (p:Pl):Prop where
 i:Sz 4 p.1
 j:Sz 4 p.2.1
 h:Sz 213 p.2.2.1
def rowsOf (p:Pl) (ps:List Pl):List R3:=(ps.filter fun q=>decide (q≠p)).map (aAz p)
theorem aN5 {p q:Pl} (hp:PW p) (hq:PW q):Sz 5 (aAz p q).1/\Sz 5 (aAz p q).2.1/\Sz 214 (aAz p q).2.2:=⟨Sz.subM hp.i hq.i,Sz.subM hp.j hq.j,Sz.subM hp.h hq.h⟩
theorem aDs {p:Pl} {ps:List Pl} (hp:PW p) (hq:∀ q∈ps,PW q):∀ r∈rowsOf p ps,Sz 5 r.1/\Sz 5 r.2.1/\Sz 214 r.2.2:=fun r hr=>by
 obtain ⟨q,h1,rfl⟩:=List.mem_map.mp hr
 exact aN5 hp (hq q (List.mem_filter.mp h1).1)
theorem aA8 {rows:List R3} (h:∀ r∈rows,Sz 5 r.1/\Sz 5 r.2.1/\Sz 214 r.2.2):∀ r∈elim rows,Sz 11 r.1/\Sz 220 r.2:=fun x hx=>by
 rcases mem_elim.mp hx with ⟨r,hr,_,rfl⟩ | ⟨l,hl,_,g,hg,_,rfl⟩
 ·exact ⟨(h r hr).1.mono (by decide),(h r hr).2.2.mono (by decide)⟩
 ·obtain ⟨a1,a2,a3⟩:=h l hl
  obtain ⟨b1,b2,b3⟩:=h g hg
  exact ⟨Sz.subM (Sz.mul a2 b1) (Sz.mul b2 a1),Sz.subM (Sz.mul a2 b3) (Sz.mul b2 a3)⟩
theorem aCd {rows:List R3} {x:Int×Int} (h:∀ r∈rows,Sz 5 r.1/\Sz 5 r.2.1/\Sz 214 r.2.2) (hx:Gd 234 25 x):∀ r∈rows.map (aE0 x),Sz 30 r.1/\Sz 240 r.2:=fun y hy=>by
 obtain ⟨r,hr,rfl⟩:=List.mem_map.mp hy
 obtain ⟨a1,a2,a3⟩:=h r hr
 exact ⟨Sz.mul a2 hx.b,Sz.addM (Sz.mul a1 hx.t) (Sz.mul a3 hx.b)⟩
theorem aK1 {rows:List R3} {pt:Pt} (h:∀ r∈rows,Sz 5 r.1/\Sz 5 r.2.1/\Sz 214 r.2.2) (e:mX rows=some pt):Gd 234 25 pt.1/\Gd 273 63 pt.2:=by
 unfold mX at e
 cases ex:solve (elim rows) with
 | none=>rw [ex] at e;cases e
 | some x =>
  rw [ex] at e
  dsimp only at e
  cases ey:solve (rows.map (aE0 x)) with
  | none=>rw [ey] at e;cases e
  | some y =>
   rw [ey] at e
   cases e
   have gx:Gd 234 25 x:=(sW (aA8 h) ex).mono (by decide) (by decide)
   exact ⟨gx,(sW (aCd h gx) ey).mono (by decide) (by decide)⟩
def jJ:Option Pt->D
 | none=>.none
 | some pt=>.tuple [frD pt.1,frD pt.2]
def ePL (a:Pl×List Pl):List L:=[.p (plD a.1),.p (.list (a.2.map plD))]
theorem aI6 (a b:Pl×List Pl) (h:ePL a=ePL b):a=b:=by
 unfold ePL at h
 injection h with h1 h2
 injection h2 with h2 _
 injection h1 with h1
 injection h2 with h2
 injection h2 with h2
 exact Prod.ext (plI h1) (aQq h2)
noncomputable def d6 (K:PySem.W.Frag) (c:Cls):List L->Res L:=mOf ePL (fun a=>a.2.length<=90/\PW a.1/\∀ q∈a.2,PW q) fun a=>.ok (.p (jJ (mX (rowsOf a.1 a.2))))
noncomputable def eB (K:PySem.W.Frag) (c:Cls):En->Res Ev:=(aH bH (aB (aE fU (aE ixE (aD 0) (mC (.int 1))) (aE ixE (aD 1) (mC (.int 1)))) (aB (aE lA (aE fU (aE ixE (aD 0) (mC (.int 0))) (aE ixE (aD 1) (mC (.int 0)))) (aE fU (aE ixE (aD 0) (mC (.int 2))) (aE ixE (aD 1) (mC (.int 1))))) aN)))
noncomputable def eA (K:PySem.W.Frag) (c:Cls):En->Res Ev:=(aM 2 (w9 K c) (aB (aD 1) (aB (aD 0) aN)))
noncomputable def kK (K:PySem.W.Frag) (c:Cls):MS:=(cB (cW 2 (dG 1 [0] (fT (aD 1)) (aG 0) (aZ (aE (eqE true) (aD 0) (aD 1))) (eA K c))) (fun en=>(cB (cW 3 (aM 1 (gL K c) (aB (aM 1 (dZ K c) (aB (aD 2) aN)) aN))) (cB (gS (aZ (mUn (rJ false) (aD 3))) (cY (mC (.none))) cS) (cB (cW 4 (aM 1 (gL K c) (aB (dG 1 [3] (fT (aD 2)) (aG 0) e9 (eB K c)) aN))) (cY (aH bH (aB (aD 3) (aB (aD 4) aN))))))) (frz 2 en)))
theorem aNu (x y:Pl):PyData.eqv (plD x) (plD y)=decide (x=y):=by
 have:PyData.eqv (plD x) (plD y)=(x.1 == y.1 && (x.2.1 == y.2.1 && (PyData.eqv (frD x.2.2) (frD y.2.2) && true))):=by simp [plD,PyData.eqv,PyData.eqvAll]
 rw [this,aPf]
 by_cases h:x=y
 ·subst h;simp
 ·rw [decide_eq_false h]
  by_cases h1:x.1=y.1
  ·by_cases h2:x.2.1=y.2.1
   ·have h3:¬ x.2.2=y.2.2:=fun h3=>h (Prod.ext h1 (Prod.ext h2 h3))
    simp [h3]
   ·simp [h2]
  ·simp [h1]
theorem aOy (x:Pl):SeqAt.shaped (plD x)=true:=by simp [SeqAt.shaped,plD,frD,PyData.canLay0,PyData.canLayAll0,PyData.depth,PyData.depthAll]
theorem sQ (K:PySem.W.Frag) (c:Cls):∀ ls,d6 K c ls=.bad\/dX 5 (kK K c) ls=d6 K c ls:=cQ fun a h=>by
 obtain ⟨p,ps⟩:=a
 obtain ⟨hl,hp,hq⟩:=h
 dsimp only at hl hp hq ⊢
 have hr:=aDs hp hq
 have hrl:(rowsOf p ps).length<=90:=by unfold rowsOf;rw [List.length_map];exact Nat.le_trans (List.length_filter_le _ _) hl
 refine bI ?_
 rw [show a7 5 (ePL (p,ps))=[some (.p (plD p)),some (.p (.list (ps.map plD))),none,none,none] from rfl]
 unfold kK
 have m1:kH (aQ 1 [0] (aG 0) (aZ (aE (eqE true) (aD 0) (aD 1))) (eA K c) [some (.p (plD p)),some (.p (.list (ps.map plD))),none,none,none]) (ps.map plD)=some ((ps.filter fun q=>decide (q≠p)).map fun q=>r3D (aAz p q)):=by
  refine fK _ fun q hq=>?_
  have g:=aGc K c p q
  have e:eqE true (.p (plD q)) (.p (plD p))=.ok (.p (.bool (decide (q≠p)))):=by
   simp only [eqE,dat,aOy,aNu]
   by_cases h:q=p
   ·simp [h]
   ·simp [h]
  unfold aQ
  by_cases h:q≠p
  ·rw [decide_eq_true h] at e ⊢
   ktr_call 3 ⟨aG,kF,pQ,eA,aZ,aE,aD,aM,aB,aN,cH,bY,gP,bE,List.replicate,List.cons_append,List.nil_append,Res.bind,Ev.c,e,g,gT⟩
  ·rw [decide_eq_false h] at e ⊢
   ktr_call 3 ⟨aG,kF,pQ,eA,aZ,aE,aD,bE,List.replicate,List.cons_append,List.nil_append,Res.bind,Ev.c,e⟩
 have c1:=dO (n:=1) (js:=[0]) (fi:=fT (aD 1)) (tg:=aG 0) (ft:=aZ (aE (eqE true) (aD 0) (aD 1))) (fe:=eA K c) (en:=[some (.p (plD p)),some (.p (.list (ps.map plD))),none,none,none]) (ds:=ps.map plD) rfl (by rw [List.length_map];omega) m1
 have e1:((ps.filter fun q=>decide (q≠p)).map fun q=>r3D (aAz p q))=(rowsOf p ps).map r3D:=by unfold rowsOf;rw [List.map_map];rfl
 rw [e1] at c1
 refine (aR (gY c1)).trans ?_
 simp only [List.set_cons_succ,List.set_cons_zero,frz,List.getElem?_cons_succ,List.getElem?_cons_zero]
 have hel:=aAu K c (rows:=rowsOf p ps) (by omega) (fun r h=>⟨(hr r h).1.mono (by decide),(hr r h).2.1.mono (by decide),(hr r h).2.2.mono (by decide)⟩)
 have hsz:=aA8 hr
 have hell:=aFw (rowsOf p ps)
 have hmul:=Nat.mul_le_mul hrl hrl
 have hso:=qL K c (rows:=elim (rowsOf p ps)) (by omega) (fun r h=>⟨(hsz r h).1.mono (by decide),(hsz r h).2.mono (by decide)⟩)
 have e2:(aM 1 (gL K c) (aB (aM 1 (dZ K c) (aB (aD 2) aN)) aN)) [some (.p (plD p)),some (.p (.list (ps.map plD))),some (.p (.list ((rowsOf p ps).map r3D))),none,none]=.ok (.p (aAs (solve (elim (rowsOf p ps))))):=by
  ktr_call 3 ⟨aM,aB,aN,aD,Res.bind,Ev.c,cH,bY,gP,hel,hso,gT⟩
 refine (aR (hZ e2)).trans ?_
 simp only [List.set_cons_succ,List.set_cons_zero]
 cases ex:solve (elim (rowsOf p ps)) with
 | none =>
  have:mX (rowsOf p ps)=none:=by unfold mX;rw [ex]
  rw [this]
  exact kG ((pR rfl).trans rfl)
 | some x =>
  obtain ⟨y,hy,hlp⟩:=vR ex
  rw [hlp]
  have gx:Gd 234 25 x:=(sW hsz ex).mono (by decide) (by decide)
  have hys:=aCd hr gx
  have hso2:=qL K c (rows:=(rowsOf p ps).map (aE0 x)) (by rw [List.length_map];omega) (fun r h=>⟨(hys r h).1.mono (by decide),(hys r h).2.mono (by decide)⟩)
  have m2:kH (aQ 1 [3] (aG 0) e9 (eB K c) [some (.p (plD p)),some (.p (.list (ps.map plD))),some (.p (.list ((rowsOf p ps).map r3D))),some (.p (frD x)),none]) ((rowsOf p ps).map r3D)=some ((rowsOf p ps).map fun r=>frD (aE0 x r)):=by
   refine dW _ fun r hrm=>?_
   obtain ⟨a1,a2,a3⟩:=hr r hrm
   have x1:=gx.t
   have x2:=gx.b
   unfold aQ
   ktr_call 21 ⟨aG,kF,pQ,e9,eB,List.replicate,List.cons_append,List.nil_append,aJ6,v3,aJb⟩
   rfl
  have c2:=dO (n:=1) (js:=[3]) (fi:=fT (aD 2)) (tg:=aG 0) (ft:=e9) (fe:=eB K c) (en:=[some (.p (plD p)),some (.p (.list (ps.map plD))),some (.p (.list ((rowsOf p ps).map r3D))),some (.p (frD x)),none]) (ds:=(rowsOf p ps).map r3D) rfl (by rw [List.length_map];omega) m2
  have e3:((rowsOf p ps).map fun r=>frD (aE0 x r))=((rowsOf p ps).map (aE0 x)).map frD:=by rw [List.map_map];rfl
  rw [e3] at c2
  have e4:(aM 1 (gL K c) (aB (dG 1 [3] (fT (aD 2)) (aG 0) e9 (eB K c)) aN)) [some (.p (plD p)),some (.p (.list (ps.map plD))),some (.p (.list ((rowsOf p ps).map r3D))),some (.p (frD x)),none]=.ok (.p (frD y)):=by
   rw [hy] at hso2
   ktr_call 3 ⟨aM,aB,aN,c2,Res.bind,Ev.c,cH,bY,gP,hso2,aAs,gT⟩
  have tn:aZ (mUn (rJ false) (aD 3)) [some (.p (plD p)),some (.p (.list (ps.map plD))),some (.p (.list ((rowsOf p ps).map r3D))),some (.p (frD x)),none]=.ok false:=rfl
  refine (aR (j3 tn)).trans ((aR (hZ e4)).trans ?_)
  rfl
theorem aC2 (K:PySem.W.Frag) (c:Cls) {p:Pl} {ps:List Pl} (h1:ps.length<=90) (h2:PW p) (h3:∀ q∈ps,PW q):d6 K c [.p (plD p),.p (.list (ps.map plD))]=.ok (.p (jJ (mX (rowsOf p ps)))):=cR (a:=(p,ps)) aI6 ⟨h1,h2,h3⟩
structure PG (p:Pl):Prop where
 i:Sz 4 p.1
 j:Sz 4 p.2.1
 h:GB p.2.2
theorem PG.blow {p:Pl} {F:Int} (g:PG p) (hF:Sz 133 F):PW (blow F p):=⟨g.i,g.j,Sz.mul g.h.2.1 (rP hF)⟩
def fC (F:Int) (ps:List Pl) (p:Pl):Option Pt:=mX (rowsOf (blow F p) (ps.map (blow F)))
noncomputable def b5 (K:PySem.W.Frag) (c:Cls):List L->Res L:=mOf ePI (fun a=>a.1.length<=90/\(∀ p∈a.1,PG p)/\Sz 133 a.2) fun a=>.ok (.o (.list (a.1.map fun p=>jJ (fC a.2 a.1 p))))
noncomputable def eU (K:PySem.W.Frag) (c:Cls):En->Res Ev:=(aM 2 (d6 K c) (aB (aD 0) (aB (aD 1) aN)))
noncomputable def jP (K:PySem.W.Frag) (c:Cls):MS:=(cB (cW 2 (aM 2 (fD K c) (aB (aD 0) (aB (aD 1) aN)))) (fun en=>(cY (dG 1 [2] (fT (aD 2)) (aG 0) e9 (eU K c))) (frz 2 en)))
theorem pX (K:PySem.W.Frag) (c:Cls):∀ ls,b5 K c ls=.bad\/dX 3 (jP K c) ls=b5 K c ls:=cQ fun a h=>by
 obtain ⟨ps,F⟩:=a
 obtain ⟨hl,hg,hF⟩:=h
 dsimp only at hl hg hF ⊢
 refine bI ?_
 rw [show a7 3 (ePI (ps,F))=[some (.p (.list (ps.map plD))),some (.p (.int F)),none] from rfl]
 unfold jP
 have hb:=aD3 K c (ps:=ps) (F:=F) ⟨by omega,fun p hp=>(hg p hp).h⟩ (hF.mono (by decide))
 have e1:(aM 2 (fD K c) (aB (aD 0) (aB (aD 1) aN))) [some (.p (.list (ps.map plD))),some (.p (.int F)),none]=.ok (.f (.list ((ps.map (blow F)).map plD))):=by
  ktr_call 3 ⟨aM,aB,aN,aD,Res.bind,Ev.c,cH,bY,gP,hb,gT⟩
 refine (aR (gY e1)).trans ?_
 simp only [List.set_cons_succ,List.set_cons_zero,frz,List.getElem?_cons_succ,List.getElem?_cons_zero]
 have hw:∀ q∈ps.map (blow F),PW q:=fun q hq=>by
  obtain ⟨p,hp,rfl⟩:=List.mem_map.mp hq
  exact (hg p hp).blow hF
 have m1:kH (aQ 1 [2] (aG 0) e9 (eU K c) [some (.p (.list (ps.map plD))),some (.p (.int F)),some (.p (.list ((ps.map (blow F)).map plD)))]) ((ps.map (blow F)).map plD)=some ((ps.map (blow F)).map fun p=>jJ (mX (rowsOf p (ps.map (blow F))))):=by
  refine dW _ fun p hp=>?_
  have g:=aC2 K c (p:=p) (ps:=ps.map (blow F)) (by rw [List.length_map];exact hl) (hw p hp) hw
  unfold aQ
  ktr_call 3 ⟨aG,kF,pQ,e9,eU,aD,aM,aB,aN,cH,bY,gP,List.replicate,List.cons_append,List.nil_append,Res.bind,Ev.c,g,gT⟩
 have c1:=dO (n:=1) (js:=[2]) (fi:=fT (aD 2)) (tg:=aG 0) (ft:=e9) (fe:=eU K c) (en:=[some (.p (.list (ps.map plD))),some (.p (.int F)),some (.p (.list ((ps.map (blow F)).map plD)))]) (ds:=(ps.map (blow F)).map plD) rfl (by rw [List.length_map,List.length_map];omega) m1
 refine (oH c1).trans ?_
 rw [List.map_map]
 rfl
theorem qC (K:PySem.W.Frag) (c:Cls) {ps:List Pl} {F:Int} (h1:ps.length<=90) (h2:∀ p∈ps,PG p) (h3:Sz 133 F):b5 K c [.p (.list (ps.map plD)),.p (.int F)]=.ok (.o (.list (ps.map fun p=>jJ (fC F ps p)))):=cR (a:=(ps,F)) aDh ⟨h1,h2,h3⟩
def stD (a:Pl×Pt):D:=.tuple [plD a.1,.tuple [frD a.2.1,frD a.2.2]]
def stays (ps:List Pl) (p:Pl):Bool:=(fC (wf ps) ps p).isSome
def aPp (ps:List Pl) (p:Pl):Pt:=shr (wf ps) ((fC (wf ps) ps p).getD ((0,1),(0,1)))
def pZ (ps:List Pl):List (Pl×Pt):=(ps.filter (stays ps)).map fun p=>(p,aPp ps p)
noncomputable def gQ (K:PySem.W.Frag) (c:Cls):List L->Res L:=mOf ePs (fun ps=>ps.length<=22/\∀ p∈ps,PG p) fun ps=>.ok (.o (.list ((pZ ps).map stD)))
noncomputable def jE (K:PySem.W.Frag) (c:Cls):En->Res Ev:=(aH bH (aB (aD 0) (aB (aM 2 (jS K c) (aB (aD 1) (aB (aD 2) aN))) aN)))
noncomputable def oY (K:PySem.W.Frag) (c:Cls):MS:=(cB (cW 1 (aM 1 (bP K c) (aB (aD 0) aN))) (cB (cW 2 (aM 2 (b5 K c) (aB (aD 0) (aB (aD 1) aN)))) (fun en=>(cY (dG 2 [1] (lS zL (aB (aD 0) (aB (aD 2) aN))) (iT 2 (b8 (aG 0) (b8 (aG 1) iV))) (aZ (mUn (rJ true) (aD 1))) (jE K c))) (frz 2 en))))
theorem aG9 {ps:List Pl} (h1:ps.length<=22) (h2:∀ p∈ps,PG p):1<=wf ps/\(∀ p∈ps,p.2.2.2∣wf ps)/\Sz 133 (wf ps):=by
 obtain ⟨a,b,d⟩:=aQl (ps:=ps) ⟨by omega,fun p hp=>(h2 p hp).h⟩
 exact ⟨a,b,d.mono (by omega)⟩
theorem aEq {ps:List Pl} (h1:ps.length<=22) (h2:∀ p∈ps,PG p) {p:Pl} (hp:p∈ps) {pt:Pt} (e:fC (wf ps) ps p=some pt):Gd 234 25 pt.1/\Gd 273 63 pt.2:=by
 have hF:=(aG9 h1 h2).2.2
 refine aK1 (aDs ((h2 p hp).blow hF) fun q hq=>?_) e
 obtain ⟨r,hr,rfl⟩:=List.mem_map.mp hq
 exact (h2 r hr).blow hF
theorem aAc (K:PySem.W.Frag) (c:Cls):∀ ls,gQ K c ls=.bad\/dX 3 (oY K c) ls=gQ K c ls:=cQ fun ps h=>by
 obtain ⟨hl,hg⟩:=h
 obtain ⟨f0,f1,f2⟩:=aG9 hl hg
 refine bI ?_
 rw [show a7 3 (ePs ps)=[some (.p (.list (ps.map plD))),none,none] from rfl]
 unfold oY
 have hw:=aBm K c (ps:=ps) ⟨by omega,fun p hp=>(hg p hp).h⟩
 have e1:(aM 1 (bP K c) (aB (aD 0) aN)) [some (.p (.list (ps.map plD))),none,none]=.ok (.p (.int (wf ps))):=by
  ktr_call 3 ⟨aM,aB,aN,aD,Res.bind,Ev.c,cH,bY,gP,hw,gT⟩
 refine (aR (hZ e1)).trans ?_
 simp only [List.set_cons_succ,List.set_cons_zero]
 have hp:=qC K c (ps:=ps) (by omega) hg f2
 have e2:(aM 2 (b5 K c) (aB (aD 0) (aB (aD 1) aN))) [some (.p (.list (ps.map plD))),some (.p (.int (wf ps))),none]=.ok (.f (.list (ps.map fun p=>jJ (fC (wf ps) ps p)))):=by
  ktr_call 3 ⟨aM,aB,aN,aD,Res.bind,Ev.c,cH,bY,gP,hp,gT⟩
 refine (aR (gY e2)).trans ?_
 simp only [List.set_cons_succ,List.set_cons_zero,frz,List.getElem?_cons_succ,List.getElem?_cons_zero]
 have hit:(lS zL (aB (aD 0) (aB (aD 2) aN))) [some (.p (.list (ps.map plD))),some (.p (.int (wf ps))),some (.p (.list (ps.map fun p=>jJ (fC (wf ps) ps p))))]=.ok (ps.map fun p=>.tuple [plD p,jJ (fC (wf ps) ps p)]):=by
  ktr_call 3 ⟨lS,aB,aN,aD,Res.bind,Ev.c,zL,sF⟩
 have m1:kH (aQ 2 [1] (iT 2 (b8 (aG 0) (b8 (aG 1) iV))) (aZ (mUn (rJ true) (aD 1))) (jE K c) [some (.p (.list (ps.map plD))),some (.p (.int (wf ps))),some (.p (.list (ps.map fun p=>jJ (fC (wf ps) ps p))))]) (ps.map fun p=>.tuple [plD p,jJ (fC (wf ps) ps p)])=some ((ps.filter (stays ps)).map fun p=>stD (p,aPp ps p)):=by
  refine fK _ fun p hp=>?_
  unfold aQ stays aPp
  cases e:fC (wf ps) ps p with
  | none =>
   ktr_call 3 ⟨iT,b8,iV,aG,kF,pQ,List.replicate,List.cons_append,List.nil_append,Option.isSome_none,jJ,aZ,mUn,aD,Res.bind,Ev.c,rJ,bE,Bool.not_true⟩
  | some pt =>
   obtain ⟨gx,gy⟩:=aEq hl hg hp e
   have hs:=aF9 K c (pt:=pt) (F:=wf ps) gx.p gy.p (gx.b.mono (by decide)) (gy.b.mono (by decide)) f0 (f2.mono (by decide))
   ktr_call 3 ⟨iT,b8,iV,aG,kF,pQ,List.replicate,List.cons_append,List.nil_append,Option.isSome_some,jJ,aZ,mUn,aD,Res.bind,Ev.c,rJ,bE,jE,aH,aB,aN,aM,cH,bY,gP,hs,gT,bH,hV,Option.getD_some⟩
   rfl
 have c1:=dO (n:=2) (js:=[1]) (fi:=lS zL (aB (aD 0) (aB (aD 2) aN))) (tg:=iT 2 (b8 (aG 0) (b8 (aG 1) iV))) (ft:=aZ (mUn (rJ true) (aD 1))) (fe:=jE K c) (en:=[some (.p (.list (ps.map plD))),some (.p (.int (wf ps))),some (.p (.list (ps.map fun p=>jJ (fC (wf ps) ps p))))]) hit (by rw [List.length_map];omega) m1
 refine (oH c1).trans ?_
 unfold pZ
 rw [List.map_map]
 rfl
theorem vB (K:PySem.W.Frag) (c:Cls) {ps:List Pl} (h1:ps.length<=22) (h2:∀ p∈ps,PG p):gQ K c [.p (.list (ps.map plD))]=.ok (.o (.list ((pZ ps).map stD))):=cR (a:=ps) xA ⟨h1,h2⟩
noncomputable def fF (K:PySem.W.Frag) (c:Cls):List L->Res L:=mOf ePs (fun ps=>ps.length<=22/\∀ p∈ps,PG p) fun ps=>.ok (.o (.list ((ps.filter (stays ps)).map plD)))
noncomputable def iZ (K:PySem.W.Frag) (c:Cls):En->Res Ev:=(aD 0)
noncomputable def oM (K:PySem.W.Frag) (c:Cls):MS:=(cB (cW 1 (aM 2 (b5 K c) (aB (aD 0) (aB (aM 1 (bP K c) (aB (aD 0) aN)) aN)))) (fun en=>(cY (dG 2 [] (lS zL (aB (aD 0) (aB (aD 1) aN))) (iT 2 (b8 (aG 0) (b8 (aG 1) iV))) (aZ (mUn (rJ true) (aD 1))) (iZ K c))) (frz 1 en)))
theorem aAk (K:PySem.W.Frag) (c:Cls):∀ ls,fF K c ls=.bad\/dX 2 (oM K c) ls=fF K c ls:=cQ fun ps h=>by
 obtain ⟨hl,hg⟩:=h
 obtain ⟨f0,f1,f2⟩:=aG9 hl hg
 refine bI ?_
 rw [show a7 2 (ePs ps)=[some (.p (.list (ps.map plD))),none] from rfl]
 unfold oM
 have hw:=aBm K c (ps:=ps) ⟨by omega,fun p hp=>(hg p hp).h⟩
 have hp:=qC K c (ps:=ps) (by omega) hg f2
 have e2:(aM 2 (b5 K c) (aB (aD 0) (aB (aM 1 (bP K c) (aB (aD 0) aN)) aN))) [some (.p (.list (ps.map plD))),none]=.ok (.f (.list (ps.map fun p=>jJ (fC (wf ps) ps p)))):=by
  ktr_call 3 ⟨aM,aB,aN,aD,Res.bind,Ev.c,cH,bY,gP,hw,hp,gT⟩
 refine (aR (gY e2)).trans ?_
 simp only [List.set_cons_succ,List.set_cons_zero,frz,List.getElem?_cons_succ,List.getElem?_cons_zero]
 have hit:(lS zL (aB (aD 0) (aB (aD 1) aN))) [some (.p (.list (ps.map plD))),some (.p (.list (ps.map fun p=>jJ (fC (wf ps) ps p))))]=.ok (ps.map fun p=>.tuple [plD p,jJ (fC (wf ps) ps p)]):=by
  ktr_call 3 ⟨lS,aB,aN,aD,Res.bind,Ev.c,zL,sF⟩
 have m1:kH (aQ 2 [] (iT 2 (b8 (aG 0) (b8 (aG 1) iV))) (aZ (mUn (rJ true) (aD 1))) (iZ K c) [some (.p (.list (ps.map plD))),some (.p (.list (ps.map fun p=>jJ (fC (wf ps) ps p))))]) (ps.map fun p=>.tuple [plD p,jJ (fC (wf ps) ps p)])=some ((ps.filter (stays ps)).map plD):=by
  refine fK _ fun p hp=>?_
  unfold aQ stays
  cases e:fC (wf ps) ps p with
  | none=>ktr_call 3 ⟨iT,b8,iV,aG,kF,List.replicate,List.cons_append,List.nil_append,Option.isSome_none,jJ,aZ,mUn,aD,Res.bind,Ev.c,rJ,bE,Bool.not_true⟩
  | some pt=>ktr_call 3 ⟨iT,b8,iV,aG,kF,List.replicate,List.cons_append,List.nil_append,Option.isSome_some,jJ,aZ,mUn,aD,Res.bind,Ev.c,rJ,bE,iZ⟩
 have c1:=dO (n:=2) (js:=[]) (fi:=lS zL (aB (aD 0) (aB (aD 1) aN))) (tg:=iT 2 (b8 (aG 0) (b8 (aG 1) iV))) (ft:=aZ (mUn (rJ true) (aD 1))) (fe:=iZ K c) (en:=[some (.p (.list (ps.map plD))),some (.p (.list (ps.map fun p=>jJ (fC (wf ps) ps p))))]) hit (by rw [List.length_map];omega) m1
 exact oH c1
theorem tQ (K:PySem.W.Frag) (c:Cls) {ps:List Pl} (h1:ps.length<=22) (h2:∀ p∈ps,PG p):fF K c [.p (.list (ps.map plD))]=.ok (.o (.list ((ps.filter (stays ps)).map plD))):=cR (a:=ps) xA ⟨h1,h2⟩
structure gA (K:PySem.W.Frag) (c:Cls):Prop where
 ii:PySem.W.kitOne K (.type "int") (.type "int")=some true
 ib:PySem.W.kitOne K (.type "int") (.type "bool")=some false
 tt:PySem.W.kitOne K (.type "tuple") (.type "tuple")=some true
 ll:PySem.W.kitOne K (.type "list") (.type "list")=some true
noncomputable def jL (K:PySem.W.Frag) (c:Cls):MS:=(cB (gS (aZ (aE ltE (aD 1) (aH gF (aB (aD 0) aN)))) (cY (aE ixE (aD 0) (aD 1))) cS) (cY (mC (.int 0))))
noncomputable def bL (K:PySem.W.Frag) (c:Cls) (ls:List L):Res L:=dX 2 (jL K c) ls
theorem pL (K:PySem.W.Frag) (c:Cls):∀ ls,bL K c ls=.bad\/dX 2 (jL K c) ls=bL K c ls:=fun _=>.inr rfl
theorem aLx {ns:List Int} {k:Nat} (h:k < ns.length):atI (ns.map PyData.int) (k:Int)=some (.int (ns.getD k 0)):=by
 have:ns.getD k 0=ns[k]:=by simp [List.getD,h]
 rw [this]
 exact nZ (by rw [List.getElem?_map,List.getElem?_eq_getElem h];rfl)
theorem aA6 (K:PySem.W.Frag) (c:Cls) (ns:List Int) (k:Nat):bL K c [.p (.list (ns.map .int)),.p (.int (k:Int))]=.ok (.p (.int (ns.getD k 0))):=by
 have hlen:gF [.p (.list (ns.map .int))]=.ok (.p (.int (ns.length:Nat))):=by simp [gF,j6]
 unfold bL
 refine bI ?_
 rw [show a7 2 [.p (.list (ns.map .int)),.p (.int (k:Int))]=[some (.p (.list (ns.map .int))),some (.p (.int (k:Int)))] from rfl]
 have ht:aZ (aE ltE (aD 1) (aH gF (aB (aD 0) aN))) [some (.p (.list (ns.map .int))),some (.p (.int (k:Int)))]=.ok (decide (k < ns.length)):=by
  simp [aZ,aE,aD,aH,aB,aN,Res.bind,Ev.c,hlen,eP,bE]
 by_cases hk:k < ns.length
 ·rw [decide_eq_true hk] at ht
  refine (kG ((pR ht).trans ?_))
  simp [cY,aE,aD,Res.bind,Ev.c,ixE,j6,aLx hk,aAp]
 ·rw [decide_eq_false hk] at ht
  refine (aR (j3 ht)).trans ?_
  have:ns.getD k 0=0:=by simp [List.getD,Nat.le_of_not_lt hk]
  rw [this]
  rfl
noncomputable def eD (K:PySem.W.Frag) (c:Cls):MS:=(cB (cW 4 (aE jT (aM 2 (bL K c) (aB (aD 0) (aB (aD 3) aN))) (aD 1))) (cB (cW 4 (aE jT (aE lA (aE lA (aE lA (aE fU (aD 4) (mC (.int 48271))) (aE fU (aE fU (aD 3) (aD 3)) (mC (.int 7919)))) (aD 3)) (mC (.int 1))) (aD 1))) (lF 2 (aE jT (aE fU (aE jT (aE fU (aD 4) (mC (.int 413338662677311947023157))) (aD 1)) (mC (.int 282475249))) (aD 1)))))
noncomputable def jF (K:PySem.W.Frag) (c:Cls):MS:=(cB (cW 1 (mC (.int 618970019642690137449562111))) (cB (cW 2 (aH gB aN)) (cB (vJ (lS oF (aB (aH (aJ1 fun i j=>if j > i then j else i) (aB (aH gF (aB (aD 0) aN)) (aB (mC (.int 7)) aN))) aN)) (aG 3) (eD K c)) (cY (aD 2)))))
noncomputable def cA (K:PySem.W.Frag) (c:Cls) (ls:List L):Res L:=dX 5 (jF K c) ls
theorem oD (K:PySem.W.Frag) (c:Cls):∀ ls,cA K c ls=.bad\/dX 5 (jF K c) ls=cA K c ls:=fun _=>.inr rfl
def PR:Int:=618970019642690137449562111
theorem aLv (K:PySem.W.Frag) (c:Cls) (ns vs:List Int) (hv:vs.length<=1000) (k:Nat) (hk:k<=100) (r4:Option L):∃ v w,0<=v/\v < PR/\eD K c [some (.p (.list (ns.map .int))),some (.p (.int PR)),some (.o (.list (vs.map .int))),some (.p (.int (k:Int))),r4]=some (.nx [some (.p (.list (ns.map .int))),some (.p (.int PR)),some (.o (.list ((vs++[v]).map .int))),some (.p (.int (k:Int))),w]):=by
 have hc:=aA6 K c ns k
 have p0:(0:Int) < PR:=by decide
 have pz:Sz 200 PR:=by unfold Sz PR;decide
 have kz:Sz 20 (k:Int):=by unfold Sz;omega
 have pn:PR≠0:=by decide
 have m1:=fO (a:=ns.getD k 0) p0
 have z1:Sz 200 ((ns.getD k 0).fmod PR):=n6 p0 pz
 generalize hC:(ns.getD k 0).fmod PR=C at m1 z1
 have z2:Sz 200 ((C*48271+(k:Int)*(k:Int)*7919+(k:Int)+1).fmod PR):=n6 p0 pz
 refine ⟨(((C*48271+(k:Int)*(k:Int)*7919+(k:Int)+1).fmod PR*413338662677311947023157).fmod PR*282475249).fmod PR,some (.p (.int ((C*48271+(k:Int)*(k:Int)*7919+(k:Int)+1).fmod PR))),(fO p0).1,(fO p0).2,?_⟩
 have l1:vs.length<=100000:=by omega
 ktr_call 21 ⟨eD,hc,hC,lF,l1⟩
theorem aJr (K:PySem.W.Frag) (c:Cls) (ns:List Int) (hn:ns.length<=63):∃ vs:List Int,vs.length<=100/\(∀ v∈vs,0<=v/\v < PR)/\cA K c [.p (.list (ns.map .int))]=.ok (.o (.list (vs.map .int))):=by
 have hlen:gF [.p (.list (ns.map .int))]=.ok (.p (.int (ns.length:Nat))):=by simp [gF,j6]
 obtain ⟨n,hn2,hr⟩:∃ n:Nat,n<=63/\∀ r3 r4,(lS oF (aB (aH (aJ1 fun i j=>if j > i then j else i) (aB (aH gF (aB (aD 0) aN)) (aB (mC (.int 7)) aN))) aN)) [some (.p (.list (ns.map .int))),some (.p (.int PR)),some (.o (.list [])),r3,r4]=.ok (zU 0 n):=by
  refine ⟨(if (7:Int) > (ns.length:Nat) then (7:Int) else (ns.length:Nat)).toNat,by split<;>omega,fun r3 r4=>?_⟩
  have hb:-(2 ^ 62)<=(if (7:Int) > (ns.length:Nat) then (7:Int) else (ns.length:Nat))/\(if (7:Int) > (ns.length:Nat) then (7:Int) else (ns.length:Nat)) < 2 ^ 62:=by split<;>omega
  simp only [lS,aB,aN,aH,aD,mC,List.getElem?_cons_zero,List.getElem?_cons_succ,Res.bind,Ev.c,hlen,aJ1,oF]
  first
  | rw [if_pos ⟨hb.1,hb.2⟩]
  | rw [if_pos hb.2]
  | rfl
 obtain ⟨e',⟨vs,r3,r4,h1,h2,rfl⟩,hl⟩:=yA (tg:=aG 3) (f:=eD K c) (fun k e=>∃ vs r3 r4,vs.length=k/\(∀ v∈vs,0<=v/\v < PR)/\e=[some (.p (.list (ns.map .int))),some (.p (.int PR)),some (.o (.list (vs.map .int))),r3,r4]) (zU 0 n) 0 [some (.p (.list (ns.map .int))),some (.p (.int PR)),some (.o (.list [])),none,none] ⟨[],none,none,rfl,(fun _ h=>nomatch h),rfl⟩ (by
  rintro j d e hd ⟨vs,r3,r4,h1,h2,rfl⟩
  obtain ⟨hj,rfl⟩:=aJ9 _ _ _ _ hd
  obtain ⟨v,w,v0,v1,hb⟩:=aLv K c ns vs (by omega) j (by omega) r4
  refine ⟨_,_,rfl,?_,vs++[v],some (.p (.int (j:Int))),w,by simp [h1],fun x hx=>?_,rfl⟩
  ·simp only [List.set_cons_succ,List.set_cons_zero,Int.zero_add]
   exact hb
  ·rcases List.mem_append.mp hx with z | z
   ·exact h2 x z
   ·rw [List.mem_singleton.mp z];exact ⟨v0,v1⟩)
 refine ⟨vs,by rw [h1];unfold zU;rw [List.length_map,List.length_range];omega,h2,?_⟩
 unfold cA
 refine bI ?_
 rw [show a7 5 [.p (.list (ns.map .int))]=[some (.p (.list (ns.map .int))),none,none,none,none] from rfl]
 refine (aR (hZ (d:=.int PR) rfl)).trans ?_
 refine (aR (gY (d:=.list []) rfl)).trans ?_
 simp only [List.set_cons_succ,List.set_cons_zero]
 refine (aR ((nP (hr _ _)).trans hl)).trans ?_
 rfl
noncomputable def cJ (K:PySem.W.Frag) (c:Cls):List L->Res L:=mOf (fun i:Int=>[.p (.int i)]) (fun _=>True) fun _=>.ok (.p (.bool true))
noncomputable def j7 (K:PySem.W.Frag) (c:Cls):MS:=(cY (k8 (mUn (pY K (.type "int")) (aD 0)) (nK (mUn (pY K (.type "bool")) (aD 0)))))
theorem sZ (K:PySem.W.Frag) (c:Cls) (hk:gA K c):∀ ls,cJ K c ls=.bad\/dX 1 (j7 K c) ls=cJ K c ls:=cQ fun i _=>by
 unfold dX
 rw [show a7 1 [.p (.int i)]=[some (.p (.int i))] from rfl]
 simp [j7,cB,cW,cY,gS,aD,mC,aE,mUn,aB,aN,aM,cH,bY,gP,wK,Res.bind,Ev.c,aAp,gT,aH,bH,gB,hV,aZ,bE,aAr,mOr,jR,k8,aH4,nK,j8,cS,lA,eP,tK,iS,dat,gF,eqE,fP,gR,lD,nF,nB,j4,kB,mF,mM,pP,pY,tyD,hk.ii,hk.ib]
theorem yR (K:PySem.W.Frag) (c:Cls) (i:Int):cJ K c [.p (.int i)]=.ok (.p (.bool true)):=cR (a:=i) (fun a b h=>by injection h with h _;injection h with h;injection h) trivial
noncomputable def cI (K:PySem.W.Frag) (c:Cls):List L->Res L:=mOf (fun a:Int×Int=>[.p (.int a.1),.p (.int a.2)]) (fun a=>a.2≠0/\Sz 8000 a.2) fun a=>.ok (.p (frD (FR.mk a.1 a.2)))
noncomputable def eC (K:PySem.W.Frag) (c:Cls):En->Res Bool:=(aZ (aE gtE (aD 3) (mC (.int 0))))
noncomputable def fG (K:PySem.W.Frag) (c:Cls):MS:=(aPl 2 3 (aB (aD 3) (aB (aE jT (aD 2) (aD 3)) aN)))
noncomputable def qF (K:PySem.W.Frag) (c:Cls):MS:=(cB (cW 2 (aH aIj (aB (aD 0) aN))) (cB (cW 3 (aH aIj (aB (aD 1) aN))) (cB (pM (eC K c) (fG K c)) (cB (gS (aZ (aE ltE (aD 1) (mC (.int 0)))) (cW 2 (mUn tK (aD 2))) cS) (cY (aH bH (aB (aE gZ (aD 0) (aD 2)) (aB (aE gZ (aD 1) (aD 2)) aN))))))))
theorem aOa (K:PySem.W.Frag) (c:Cls) (A B:Option L):∀ (n:Nat) (l s:Int),0<=l->0<=s->s.toNat<=n->mWh (eC K c) (fG K c) (n+1) [A,B,some (.p (.int l)),some (.p (.int s))]=some (.nx [A,B,some (.p (.int (Int.gcd l s:Nat))),some (.p (.int 0))]):=by
 intro n
 have hc:∀ (l s:Int),eC K c [A,B,some (.p (.int l)),some (.p (.int s))]=.ok (decide (0 < s)):=fun l s=>by
  simp [eC,aZ,aE,aD,mC,Res.bind,Ev.c,bE,eP]
 have done:∀ (n:Nat) (l:Int),0<=l->mWh (eC K c) (fG K c) (n+1) [A,B,some (.p (.int l)),some (.p (.int 0))]=some (.nx [A,B,some (.p (.int (Int.gcd l 0:Nat))),some (.p (.int 0))]):=fun n l hl=>by
  unfold mWh
  rw [hc,FR.aDi hl]
  simp
 induction n with
 | zero =>
  intro l s hl hs hn
  have:s=0:=by omega
  subst this
  exact done 0 l hl
 | succ n ih =>
  intro l s hl hs hn
  by_cases h0:s=0
  ·subst h0
   exact done _ l hl
  ·have em:l.fmod s=l % s:=Int.fmod_eq_emod_of_nonneg l hs
   have m0:=Int.emod_nonneg l h0
   have m1:=Int.emod_lt_of_pos l (show 0 < s by omega)
   have ih:=ih s (l.fmod s) hs (by omega) (by omega)
   rw [em,FR.zC hl hs] at ih
   have hb:fG K c [A,B,some (.p (.int l)),some (.p (.int s))]=some (.nx [A,B,some (.p (.int s)),some (.p (.int (l % s)))]):=by
    simp [fG,aPl,aE,aD,mC,aB,aN,Res.bind,Ev.c,uP,em,h0]
   have ht:eC K c [A,B,some (.p (.int l)),some (.p (.int s))]=.ok true:=by
    rw [hc]
    rw [decide_eq_true (show 0 < s by omega)]
   unfold mWh
   rw [ht]
   dsimp only
   rw [hb]
   exact ih
theorem wZ (K:PySem.W.Frag) (c:Cls):∀ ls,cI K c ls=.bad\/dX 4 (qF K c) ls=cI K c ls:=cQ fun a h=>by
 obtain ⟨t,b⟩:=a
 obtain ⟨hb,hz⟩:=h
 dsimp only at hb hz ⊢
 have h:=aOa K c (some (.p (.int t))) (some (.p (.int b))) _ (if t < 0 then -t else t) (if b < 0 then -b else b) (by split<;>omega) (by split<;>omega) (Nat.le_refl _)
 have h:=uJ h
 rw [FR.aEu] at h
 obtain ⟨d1,d2⟩:=aNd t hb hz
 obtain ⟨e1,e2⟩:=d1
 obtain ⟨_,e3⟩:=d2
 have q1:∀ x:Int,nI x ((Int.gcd t b:Nat):Int):=fun x=>⟨e1,e2⟩
 have q2:∀ x:Int,nI x (-((Int.gcd t b:Nat):Int)):=fun x=>⟨by omega,e3⟩
 refine bI ?_
 rw [show a7 4 [.p (.int t),.p (.int b)]=[some (.p (.int t)),some (.p (.int b)),none,none] from rfl]
 refine (aR (hZ (d:=.int (if t < 0 then -t else t)) rfl)).trans ?_
 refine (aR (hZ (d:=.int (if b < 0 then -b else b)) rfl)).trans ?_
 refine (aR h).trans ?_
 by_cases hn:b < 0
 ·simp [cB,cW,aH,aB,aN,aD,Res.bind,Ev.c,gS,aZ,aE,mC,bE,eP,hn,mUn,tK,cY,bH,hV,uP,q2,aAp,FR.mk,FR.sgn,frD]
 ·simp [cB,cW,aH,aB,aN,aD,Res.bind,Ev.c,gS,aZ,aE,mC,bE,eP,hn,mUn,tK,cS,cY,bH,hV,uP,q1,aAp,FR.mk,FR.sgn,frD]
theorem uH (K:PySem.W.Frag) (c:Cls) {t b:Int} (h0:b≠0) (h1:Sz 8000 b):cI K c [.p (.int t),.p (.int b)]=.ok (.p (frD (FR.mk t b))):=cR (a:=(t,b)) (fun a b h=>by
 injection h with h1 h2
 injection h2 with h2 _
 injection h1 with h1
 injection h2 with h2
 injection h1 with h1
 injection h2 with h2
 exact Prod.ext h1 h2) ⟨h0,h1⟩
structure GH (h:Int×Int):Prop where
 p:1<=h.2
 t:Sz 80 h.1
 b:Sz 6 h.2
 f:FR.Fr h
structure GPl (p:Pl):Prop where
 i0:0<=p.1
 i1:p.1<=8
 j0:0<=p.2.1
 j1:p.2.1<=8
 h:GH p.2.2
theorem GPl.si {p:Pl} (g:GPl p):Sz 4 p.1:=by have:=g.i0;have:=g.i1;unfold Sz;omega
theorem GPl.sj {p:Pl} (g:GPl p):Sz 4 p.2.1:=by have:=g.j0;have:=g.j1;unfold Sz;omega
theorem aBu {t:Int} (ht:Sz 80 t):GH (t,1):=⟨Int.le_refl 1,ht,(show Sz 6 (1:Int) by unfold Sz;decide),⟨Int.le_refl 1,Int.gcd_one⟩⟩
theorem aMh {t b:Int} (h0:b≠0) (ht:Sz 80 t) (hb:Sz 6 b):GH (FR.mk t b):=⟨(FR.nM h0).1.pos,Sz.le ht (natAbs_fdiv_le _ _),Sz.le hb (natAbs_fdiv_le _ _),(FR.nM h0).1⟩
noncomputable def dH (K:PySem.W.Frag) (c:Cls):MS:=(cB (gS (aZ (aE (eqE false) (aE jT (aD 0) (mC (.int 4))) (mC (.int 1)))) (cY (aH bH (aB (aE pW (aE jT (aD 3) (mC (.int 3))) (aE fU (aE lA (aE lA (aE fU (aD 1) (aD 1)) (aE fU (aD 1) (aD 2))) (aE fU (aD 2) (aD 2))) (aE lA (mC (.int 1)) (aE jT (aE gZ (aD 0) (mC (.int 36))) (mC (.int 5)))))) (aB (mC (.int 1)) aN)))) cS) (cB (gS (aZ (aE (eqE false) (aE jT (aD 0) (mC (.int 4))) (mC (.int 3)))) (cY (aH bH (aB (aE jT (aD 3) (mC (.int 3))) (aB (mC (.int 1)) aN)))) cS) (cB (gS (aZ (aE (eqE false) (aE jT (aE gZ (aD 0) (mC (.int 36))) (mC (.int 2))) (mC (.int 1)))) (cY (aM 2 (cI K c) (aB (aE pW (aE jT (aD 3) (aE lA (aE fU (mC (.int 2)) (aE aOs (mC (.int 10)) (mC (.int 20)))) (mC (.int 1)))) (aE aOs (mC (.int 10)) (mC (.int 20)))) (aB (aE lA (mC (.int 1)) (aE jT (aE gZ (aD 3) (mC (.int 11))) (mC (.int 12)))) aN)))) cS) (cY (aM 2 (cI K c) (aB (aE pW (aE jT (aD 3) (mC (.int 13))) (mC (.int 6))) (aB (aE lA (mC (.int 1)) (aE jT (aE gZ (aD 3) (mC (.int 13))) (mC (.int 4)))) aN)))))))
noncomputable def bK (K:PySem.W.Frag) (c:Cls) (ls:List L):Res L:=dX 4 (dH K c) ls
theorem mR (K:PySem.W.Frag) (c:Cls):∀ ls,bK K c ls=.bad\/dX 4 (dH K c) ls=bK K c ls:=fun _=>.inr rfl
theorem aA5 (K:PySem.W.Frag) (c:Cls) {kind i j rest:Int} (hk:Sz 200 kind) (i0:0<=i) (i1:i<=8) (j0:0<=j) (j1:j<=8) (hr:Sz 200 rest):∃ h,GH h/\bK K c [.p (.int kind),.p (.int i),.p (.int j),.p (.int rest)]=.ok (.p (frD h)):=by
 have si:Sz 4 i:=by unfold Sz;omega
 have sj:Sz 4 j:=by unfold Sz;omega
 have p20:aNc 10 20:=⟨by decide,by decide,by decide⟩
 unfold bK
 suffices h:∃ h,GH h/\dH K c (a7 4 [.p (.int kind),.p (.int i),.p (.int j),.p (.int rest)])=some (.rt (.p (frD h))) from let ⟨h,g,e⟩:=h;⟨h,g,bI e⟩
 rw [show a7 4 [.p (.int kind),.p (.int i),.p (.int j),.p (.int rest)]=[some (.p (.int kind)),some (.p (.int i)),some (.p (.int j)),some (.p (.int rest))] from rfl]
 have tst:∀ n:Int,aZ (aE (eqE false) (aE jT (aD 0) (mC (.int 4))) (mC (.int n))) [some (.p (.int kind)),some (.p (.int i)),some (.p (.int j)),some (.p (.int rest))]=.ok (kind.fmod 4 == n):=fun n=>by
  simp [aZ,aE,aD,mC,Res.bind,Ev.c,uP,eqE,dat,fP,gR,bE]
 unfold dH
 cases h1:(kind.fmod 4 == 1) with
 | true =>
  have t1:=tst 1
  rw [h1] at t1
  refine ⟨(rest.fmod 3 - (i*i+i*j+j*j)*(1+(kind.fdiv 36).fmod 5),1),aBu ?_,?_⟩
  ·refine Sz.mono (m:=20) ?_ (by decide)
   have:Sz (max 4 (max (max (4+4) (4+4)+1) (4+4)+1+(max 4 4+1))+1) (rest.fmod 3 - (i*i+i*j+j*j)*(1+(kind.fdiv 36).fmod 5)):=by (walk_at "z")
   exact this.mono (by decide)
  ·refine kG ((pR t1).trans ?_)
   ktr_call 21 ⟨frD⟩
 | false =>
  have t1:=tst 1
  rw [h1] at t1
  cases h3:(kind.fmod 4 == 3) with
  | true =>
   have t3:=tst 3
   rw [h3] at t3
   refine ⟨(rest.fmod 3,1),aBu ((n6 (by decide) (vN (by decide))).mono (by decide)),?_⟩
   refine (aR (j3 t1)).trans (kG ((pR t3).trans ?_))
   ktr_call 21 ⟨frD⟩
  | false =>
   have t3:=tst 3
   rw [h3] at t3
   have tk:aZ (aE (eqE false) (aE jT (aE gZ (aD 0) (mC (.int 36))) (mC (.int 2))) (mC (.int 1))) [some (.p (.int kind)),some (.p (.int i)),some (.p (.int j)),some (.p (.int rest))]=.ok ((kind.fdiv 36).fmod 2 == 1):=by
    walk_at "1d"
    simp
   cases h5:((kind.fdiv 36).fmod 2 == 1) with
   | true =>
    rw [h5] at tk
    have b0:(1+(rest.fdiv 11).fmod 12)≠0:=by have:=(fO (a:=rest.fdiv 11) (b:=12) (by decide)).1;omega
    have sb:Sz 6 (1+(rest.fdiv 11).fmod 12):=by
     have:Sz (max 4 4+1) (1+(rest.fdiv 11).fmod 12):=by (walk_at "z")
     exact this.mono (by decide)
    have hl:=uH K c (t:=rest.fmod (2*10 ^ Int.toNat 20+1) - 10 ^ Int.toNat 20) b0 (sb.mono (by decide))
    refine ⟨_,aMh (t:=rest.fmod (2*10 ^ Int.toNat 20+1) - 10 ^ Int.toNat 20) b0 ?_ sb,(aR (j3 t1)).trans ((aR (j3 t3)).trans (kG ((pR tk).trans ?_)))⟩
    ·have:Sz (max (max (4+70) 4+1) 70+1) (rest.fmod (2*10 ^ Int.toNat 20+1) - 10 ^ Int.toNat 20):=by (walk_at "z")
     exact this.mono (by decide)
    ·ktr_call 21 ⟨hl⟩
   | false =>
    rw [h5] at tk
    have b0:(1+(rest.fdiv 13).fmod 4)≠0:=by have:=(fO (a:=rest.fdiv 13) (b:=4) (by decide)).1;omega
    have sb:Sz 6 (1+(rest.fdiv 13).fmod 4):=by
     have:Sz (max 4 4+1) (1+(rest.fdiv 13).fmod 4):=by (walk_at "z")
     exact this.mono (by decide)
    have hl:=uH K c (t:=rest.fmod 13 - 6) b0 (sb.mono (by decide))
    refine ⟨_,aMh (t:=rest.fmod 13 - 6) b0 ?_ sb,(aR (j3 t1)).trans ((aR (j3 t3)).trans ((aR (j3 tk)).trans ?_))⟩
    ·have:Sz (max 4 4+1) (rest.fmod 13 - 6):=by (walk_at "z")
     exact this.mono (by decide)
    ·ktr_call 21 ⟨hl⟩
abbrev Mp:=List ((Int×Int)×(Int×Int))
def Gm (m:Mp):Prop:=(m.map (·.1)).Nodup/\∀ k h,jZ m k=some h->(0<=k.1/\k.1<=8/\0<=k.2/\k.2<=8)/\GH h
theorem t8 {α κ:Type} [DecidableEq κ] (k:κ) (v:α):∀ m:List (κ×α),(aB0 k v m).map (·.1)=m.map (·.1)
 | []=>rfl
 | p :: r=>by
  unfold aB0
  rw [List.map_cons,List.map_cons,t8 k v r]
  split<;>rfl
theorem uB {α κ:Type} [DecidableEq κ] {k:κ}:∀ {m:List (κ×α)},jZ m k=none->k∉m.map (·.1)
 | [],_=>fun h=>nomatch h
 | p :: r,e=>by
  unfold jZ at e
  split at e
  ·cases e
  ·rename_i z
   rw [List.map_cons,List.mem_cons]
   rintro (q | q)
   ·exact z q.symm
   ·exact uB e q
theorem aKs {α κ:Type} [DecidableEq κ] {m:List (κ×α)} (h:(m.map (·.1)).Nodup) (k:κ) (v:α):((tD m k v).map (·.1)).Nodup:=by
 unfold tD
 cases e:jZ m k with
 | none =>
  rw [if_neg (by simp),List.map_append]
  refine List.nodup_append.mpr ⟨h,List.pairwise_singleton _ _,fun a ha b hb z=>?_⟩
  have:b=k:=by simpa using hb
  rw [z,this] at ha
  exact uB e ha
 | some x =>
  rw [if_pos (by rfl),t8]
  exact h
theorem Gm.put {m:Mp} (g:Gm m) {k h:Int×Int} (hk:0<=k.1/\k.1<=8/\0<=k.2/\k.2<=8) (hh:GH h):Gm (tD m k h):=⟨aKs g.1 k h,fun k' h' e=>by
 rw [uI] at e
 split at e
 ·rename_i z;cases e;rw [z];exact ⟨hk,hh⟩
 ·exact g.2 k' h' e⟩
noncomputable def cZ (K:PySem.W.Frag) (c:Cls):En->Res Ev:=(aH bH (aB (aE ixE (aD 0) (mC (.int 0))) (aB (aE ixE (aD 0) (mC (.int 1))) (aB (aE vK (aD 1) (aD 0)) aN))))
noncomputable def eG (K:PySem.W.Frag) (c:Cls):MS:=(cB (cW 6 (aE jT (aD 5) (aD 3))) (cB (cW 7 (aE jT (aE gZ (aD 5) (aD 3)) (aD 3))) (cB (gS (aZ (aE (eqE false) (aE jT (aD 0) (mC (.int 4))) (mC (.int 2)))) (cW 7 (aE fU (aD 6) (aE jT (aE gZ (aD 0) (mC (.int 4))) (mC (.int 2))))) cS) (cB (cW 8 (aM 4 (bK K c) (aB (aD 0) (aB (aD 6) (aB (aD 7) (aB (aE gZ (aD 5) (aE fU (aD 3) (aD 3))) aN)))))) (gS (aZ (aE (aLm false) (aH bH (aB (aD 6) (aB (aD 7) aN))) (aD 4))) (cB (cW 9 (aE vK (aD 4) (aH bH (aB (aD 6) (aB (aD 7) aN))))) (gS (aZ (aE gtE (aE fU (aE ixE (aD 8) (mC (.int 0))) (aE ixE (aD 9) (mC (.int 1)))) (aE fU (aE ixE (aD 9) (mC (.int 0))) (aE ixE (aD 8) (mC (.int 1)))))) (rN 4 (aH bH (aB (aD 6) (aB (aD 7) aN))) (aD 8)) cS)) (gS (aZ (aE ltE (aH tZ (aB (aD 4) aN)) (aD 2))) (rN 4 (aH bH (aB (aD 6) (aB (aD 7) aN))) (aD 8)) cS))))))
noncomputable def jI (K:PySem.W.Frag) (c:Cls):MS:=(cB (cW 4 mDT) (cB (vJ (fT (aD 1)) (aG 5) (eG K c)) (cB (gS (aZ (aE aG2 (aD 4) mDT)) (rN 4 (aH bH (aB (aE jT (aD 0) (aD 3)) (aB (mC (.int 0)) aN))) (aH bH (aB (mC (.int 0)) (aB (mC (.int 1)) aN)))) cS) (fun en=>(cY (dG 1 [4] (fT (aH iB (aB (aD 4) aN))) (aG 0) e9 (cZ K c))) (frz 4 en)))))
noncomputable def bZ (K:PySem.W.Frag) (c:Cls) (ls:List L):Res L:=dX 10 (jI K c) ls
theorem oI (K:PySem.W.Frag) (c:Cls):∀ ls,bZ K c ls=.bad\/dX 10 (jI K c) ls=bZ K c ls:=fun _=>.inr rfl
theorem GH.cw {x y:Int×Int} (hx:GH x) (hy:GH y):CMulW x.1 y.2:=⟨hx.t.mono (by decide),hy.b.mono (by decide)⟩
theorem y7 (K:PySem.W.Frag) (c:Cls) (A B N W:Option L) (m:Mp) (hm:m.length<=1000) (i j:Int) (h:Int×Int) (r5 r9:Option L):rN 4 (aH bH (aB (aD 6) (aB (aD 7) aN))) (aD 8) [A,B,N,W,some (.o (.dict (encM slD frD m))),r5,some (.p (.int i)),some (.p (.int j)),some (.p (frD h)),r9]=some (.nx [A,B,N,W,some (.o (.dict (encM slD frD (tD m (i,j) h)))),r5,some (.p (.int i)),some (.p (.int j)),some (.p (frD h)),r9]):=by
 have hp:=aBz (ev:=frD) m (i,j) h (by omega)
 have hp2:zZ (encM slD frD m) (.tuple [.int i,.int j]) (frD h)=some (encM slD frD (tD m (i,j) h)):=hp
 have hk:(aH bH (aB (aD 6) (aB (aD 7) aN))) [A,B,N,W,some (.o (.dict (encM slD frD m))),r5,some (.p (.int i)),some (.p (.int j)),some (.p (frD h)),r9]=.ok (.p (.tuple [.int i,.int j])):=by
  walk_at "2"
 have hv:(aD 8) [A,B,N,W,some (.o (.dict (encM slD frD m))),r5,some (.p (.int i)),some (.p (.int j)),some (.p (frD h)),r9]=.ok (.p (frD h)):=rfl
 unfold rN
 ktr_call 3 ⟨hk,hv,Ev.c,hp2⟩
def Wm (w:Int) (m:Mp):Prop:=∀ k h,jZ m k=some h->k.1 < w/\k.2 < w
theorem Wm.put {w:Int} {m:Mp} (g:Wm w m) {k:Int×Int} (h:Int×Int) (h1:k.1 < w) (h2:k.2 < w):Wm w (tD m k h):=fun k' h' e=>by
 rw [uI] at e
 split at e
 ·rename_i z;rw [z];exact ⟨h1,h2⟩
 ·exact g k' h' e
structure Lm (mo w:Int) (m m':Mp):Prop where
 a:m'.length<=m.length+1
 b:(m.length:Int)<=mo->(m'.length:Int)<=mo
 c:Wm w m->Wm w m'
theorem vF {m:Mp} {k h f:Int×Int} (e:jZ m k=some f):(tD m k h).length=m.length:=by
 unfold tD
 rw [e,if_pos (by rfl),rQ]
theorem aMr (K:PySem.W.Frag) (c:Cls) (B:Option L) {kind cell w mo:Int} (hk:Sz 200 kind) (c0:0<=cell) (hc:Sz 200 cell) (w0:1<=w) (w1:w<=9) (m:Mp) (hm:m.length<=1000) (gm:Gm m) (r6 r7 r8 r9:Option L) :
  ∃ m' q6 q7 q8 q9,Gm m'/\Lm mo w m m'/\eG K c [some (.p (.int kind)),B,some (.p (.int mo)),some (.p (.int w)),some (.o (.dict (encM slD frD m))),some (.p (.int cell)),r6,r7,r8,r9]=some (.nx [some (.p (.int kind)),B,some (.p (.int mo)),some (.p (.int w)),some (.o (.dict (encM slD frD m'))),some (.p (.int cell)),q6,q7,q8,q9]):=by
 have sw:Sz 4 w:=by unfold Sz;omega
 have wn:w≠0:=by omega
 have ww:w*w≠0:=fun z=>by rcases Int.mul_eq_zero.mp z with z | z<;>omega
 have mi:=fO (a:=cell) (b:=w) (by omega)
 have mj:=fO (a:=cell.fdiv w) (b:=w) (by omega)
 have mk2:=fO (a:=kind.fdiv 4) (b:=2) (by decide)
 have e1:(aE jT (aD 5) (aD 3)) [some (.p (.int kind)),B,some (.p (.int mo)),some (.p (.int w)),some (.o (.dict (encM slD frD m))),some (.p (.int cell)),r6,r7,r8,r9]=.ok (.p (.int (cell.fmod w))):=by
  walk_at "1d"
 have e2:(aE jT (aE gZ (aD 5) (aD 3)) (aD 3)) [some (.p (.int kind)),B,some (.p (.int mo)),some (.p (.int w)),some (.o (.dict (encM slD frD m))),some (.p (.int cell)),some (.p (.int (cell.fmod w))),r7,r8,r9]=.ok (.p (.int ((cell.fdiv w).fmod w))):=by
  walk_at "1d"
 generalize hi:cell.fmod w=i at mi e1 e2
 generalize hj:(cell.fdiv w).fmod w=j0 at mj e2
 have si:Sz 4 i:=by unfold Sz;omega
 obtain ⟨j,jl,jh,jw,e3⟩:∃ j:Int,0<=j/\j<=8/\j < w/\gS (aZ (aE (eqE false) (aE jT (aD 0) (mC (.int 4))) (mC (.int 2)))) (cW 7 (aE fU (aD 6) (aE jT (aE gZ (aD 0) (mC (.int 4))) (mC (.int 2))))) cS [some (.p (.int kind)),B,some (.p (.int mo)),some (.p (.int w)),some (.o (.dict (encM slD frD m))),some (.p (.int cell)),some (.p (.int i)),some (.p (.int j0)),r8,r9]=some (.nx [some (.p (.int kind)),B,some (.p (.int mo)),some (.p (.int w)),some (.o (.dict (encM slD frD m))),some (.p (.int cell)),some (.p (.int i)),some (.p (.int j)),r8,r9]):=by
  have tst:aZ (aE (eqE false) (aE jT (aD 0) (mC (.int 4))) (mC (.int 2))) [some (.p (.int kind)),B,some (.p (.int mo)),some (.p (.int w)),some (.o (.dict (encM slD frD m))),some (.p (.int cell)),some (.p (.int i)),some (.p (.int j0)),r8,r9]=.ok (kind.fmod 4 == 2):=by
   simp [aZ,aE,aD,mC,Res.bind,Ev.c,uP,eqE,dat,fP,gR,bE]
  cases h:(kind.fmod 4 == 2) with
  | false =>
   rw [h] at tst
   exact ⟨j0,by omega,by omega,mj.2,j3 tst⟩
  | true =>
   rw [h] at tst
   refine ⟨i*(kind.fdiv 4).fmod 2,Int.mul_nonneg mi.1 mk2.1,?_,?_,(pR tst).trans ?_⟩
   ·have:(kind.fdiv 4).fmod 2=0\/(kind.fdiv 4).fmod 2=1:=by omega
    rcases this with z | z<;>rw [z]<;>omega
   ·have:(kind.fdiv 4).fmod 2=0\/(kind.fdiv 4).fmod 2=1:=by omega
    rcases this with z | z<;>rw [z]<;>omega
   ·walk_at "1d"
 have sd:Sz 200 (cell.fdiv (w*w)):=rP hc
 obtain ⟨h,gh,hh⟩:=aA5 K c hk mi.1 (show i<=8 by omega) jl jh sd
 have e4:(aM 4 (bK K c) (aB (aD 0) (aB (aD 6) (aB (aD 7) (aB (aE gZ (aD 5) (aE fU (aD 3) (aD 3))) aN))))) [some (.p (.int kind)),B,some (.p (.int mo)),some (.p (.int w)),some (.o (.dict (encM slD frD m))),some (.p (.int cell)),some (.p (.int i)),some (.p (.int j)),r8,r9]=.ok (.p (frD h)):=by
  ktr_call 21 ⟨hh⟩
 have hd:=yL (ev:=frD) m (i,j)
 have hd2:uC (encM slD frD m) (.tuple [.int i,.int j])=some ((jZ m (i,j)).map frD):=hd
 have step:∀ st,(∃ m' q9,Gm m'/\Lm mo w m m'/\st [some (.p (.int kind)),B,some (.p (.int mo)),some (.p (.int w)),some (.o (.dict (encM slD frD m))),some (.p (.int cell)),some (.p (.int i)),some (.p (.int j)),some (.p (frD h)),r9]=some (.nx [some (.p (.int kind)),B,some (.p (.int mo)),some (.p (.int w)),some (.o (.dict (encM slD frD m'))),some (.p (.int cell)),some (.p (.int i)),some (.p (.int j)),some (.p (frD h)),q9])) ->
   ∃ m' q6 q7 q8 q9,Gm m'/\Lm mo w m m'/\(cB (cW 6 (aE jT (aD 5) (aD 3))) (cB (cW 7 (aE jT (aE gZ (aD 5) (aD 3)) (aD 3))) (cB (gS (aZ (aE (eqE false) (aE jT (aD 0) (mC (.int 4))) (mC (.int 2)))) (cW 7 (aE fU (aD 6) (aE jT (aE gZ (aD 0) (mC (.int 4))) (mC (.int 2))))) cS) (cB (cW 8 (aM 4 (bK K c) (aB (aD 0) (aB (aD 6) (aB (aD 7) (aB (aE gZ (aD 5) (aE fU (aD 3) (aD 3))) aN)))))) st)))) [some (.p (.int kind)),B,some (.p (.int mo)),some (.p (.int w)),some (.o (.dict (encM slD frD m))),some (.p (.int cell)),r6,r7,r8,r9]=some (.nx [some (.p (.int kind)),B,some (.p (.int mo)),some (.p (.int w)),some (.o (.dict (encM slD frD m'))),some (.p (.int cell)),q6,q7,q8,q9]):=by
  rintro st ⟨m',q9,g1,g2,g3⟩
  refine ⟨m',_,_,_,q9,g1,g2,(aR (hZ e1)).trans ((aR (hZ e2)).trans ((aR e3).trans ((aR (hZ e4)).trans g3)))⟩
 unfold eG
 refine step _ ?_
 have tin:aZ (aE (aLm false) (aH bH (aB (aD 6) (aB (aD 7) aN))) (aD 4)) [some (.p (.int kind)),B,some (.p (.int mo)),some (.p (.int w)),some (.o (.dict (encM slD frD m))),some (.p (.int cell)),some (.p (.int i)),some (.p (.int j)),some (.p (frD h)),r9]=.ok (jZ m (i,j)).isSome:=by
  ktr_call 2 ⟨aLm,mL,hd2⟩
  simp
 have hr:0<=(i,j).1/\(i,j).1<=8/\0<=(i,j).2/\(i,j).2<=8:=⟨mi.1,by show i<=8;omega,jl,jh⟩
 cases ea:jZ m (i,j) with
 | none =>
  rw [ea] at tin
  have tl:aZ (aE ltE (aH tZ (aB (aD 4) aN)) (aD 2)) [some (.p (.int kind)),B,some (.p (.int mo)),some (.p (.int w)),some (.o (.dict (encM slD frD m))),some (.p (.int cell)),some (.p (.int i)),some (.p (.int j)),some (.p (frD h)),r9]=.ok (decide ((m.length:Int) < mo)):=by
   have:tZ [.b (.dict (encM slD frD m))]=.ok (.p (.int (m.length:Nat))):=by simp [tZ,mL,uV];unfold N.encM;simp
   ktr_call 2 ⟨this⟩
  cases hl:decide ((m.length:Int) < mo) with
  | true =>
   rw [hl] at tl
   exact ⟨tD m (i,j) h,r9,gm.put hr gh,⟨s9 _ _ _,fun _=>by have:=s9 m (i,j) h;have:=of_decide_eq_true hl;omega,fun z=>z.put h mi.2 jw⟩,(j3 tin).trans ((pR tl).trans (y7 K c _ _ _ _ m hm i j h _ _))⟩
  | false =>
   rw [hl] at tl
   exact ⟨m,r9,gm,⟨Nat.le_succ _,id,id⟩,(j3 tin).trans (j3 tl)⟩
 | some f =>
  rw [ea] at tin hd2
  have gf:=(gm.2 _ _ ea).2
  have es:(aE vK (aD 4) (aH bH (aB (aD 6) (aB (aD 7) aN)))) [some (.p (.int kind)),B,some (.p (.int mo)),some (.p (.int w)),some (.o (.dict (encM slD frD m))),some (.p (.int cell)),some (.p (.int i)),some (.p (.int j)),some (.p (frD h)),r9]=.ok (.p (frD f)):=by
   ktr_call 2 ⟨vK,mL,hd2,Option.map_some⟩
  have q1:=gh.cw gf
  have q2:=gf.cw gh
  have tg:aZ (aE gtE (aE fU (aE ixE (aD 8) (mC (.int 0))) (aE ixE (aD 9) (mC (.int 1)))) (aE fU (aE ixE (aD 9) (mC (.int 0))) (aE ixE (aD 8) (mC (.int 1))))) [some (.p (.int kind)),B,some (.p (.int mo)),some (.p (.int w)),some (.o (.dict (encM slD frD m))),some (.p (.int cell)),some (.p (.int i)),some (.p (.int j)),some (.p (frD h)),some (.p (frD f))]=.ok (decide (f.1*h.2 < h.1*f.2)):=by
   walk_at "1a"
  cases hl:decide (f.1*h.2 < h.1*f.2) with
  | true =>
   rw [hl] at tg
   exact ⟨tD m (i,j) h,_,gm.put hr gh,⟨s9 _ _ _,fun z=>by rw [vF ea];exact z,fun z=>z.put h mi.2 jw⟩,(pR tin).trans ((aR (hZ es)).trans ((pR tg).trans (y7 K c _ _ _ _ m hm i j h _ _)))⟩
  | false =>
   rw [hl] at tg
   exact ⟨m,_,gm,⟨Nat.le_succ _,id,id⟩,(pR tin).trans ((aR (hZ es)).trans (j3 tg))⟩
def jX (m:Mp):List Pl:=(nL (kys m)).map fun k=>((un2 k).1,(un2 k).2,aNp m (0,1) k)
theorem vO {m:Mp} (g:Gm m):∀ p∈jX m,GPl p:=fun p hp=>by
 unfold jX at hp
 obtain ⟨k,hk,rfl⟩:=List.mem_map.mp hp
 obtain ⟨_,_,h3⟩:=aHz hk (0,1)
 obtain ⟨⟨a,b,c,d⟩,h⟩:=g.2 _ _ h3
 exact ⟨a,b,c,d,h⟩
theorem aBc {m:Mp} (g:Gm m):((jX m).map slp).Nodup:=by
 unfold jX
 rw [List.map_map]
 have e:(slp ∘ fun k=>((un2 k).1,(un2 k).2,aNp m (0,1) k))=un2:=rfl
 rw [e]
 have p:((nL (kys m)).map un2).Perm ((kys m).map un2):=(iC (kys m)).map un2
 rw [p.nodup_iff]
 have e2:(kys m).map un2=m.map (·.1):=by
  unfold kys
  rw [List.map_map]
  rfl
 rw [e2]
 exact g.1
theorem qI (m:Mp):(jX m).length=m.length:=by
 unfold jX
 rw [List.length_map,(iC (kys m)).length_eq]
 unfold kys
 rw [List.length_map]
theorem aGr (K:PySem.W.Frag) (c:Cls) (A B N0 W:Option L) (m:Mp) (hm:m.length < 64) (r5 r6 r7 r8 r9:Option L):(fun en=>(cY (dG 1 [4] (fT (aH iB (aB (aD 4) aN))) (aG 0) e9 (cZ K c))) (frz 4 en)) [A,B,N0,W,some (.o (.dict (N.encM slD frD m))),r5,r6,r7,r8,r9]=some (.rt (.o (.list ((jX m).map plD)))):=by
 ktr_call 3 ⟨frz⟩
 have hs:=aB8 (ev:=frD) m hm
 have hmap:kH (aQ 1 [4] (aG 0) e9 (cZ K c) [A,B,N0,W,some (.p (.dict (N.encM slD frD m))),r5,r6,r7,r8,r9]) ((nL (kys m)).map tJ)=some ((nL (kys m)).map fun k=>plD ((un2 k).1,(un2 k).2,aNp m (0,1) k)):=by
  refine dW _ fun k hk=>?_
  obtain ⟨h1,h2,h3⟩:=aHz hk (0,1)
  have hd:=yL (ev:=frD) m (un2 k)
  rw [h3] at hd
  have x0:ixE (.p (slD (un2 k))) (.p (.int 0))=.ok (.p (.int (un2 k).1)):=mF _ _
  have x1:ixE (.p (slD (un2 k))) (.p (.int 1))=.ok (.p (.int (un2 k).2)):=mM _ _ _
  rw [h1]
  unfold aQ
  ktr_call 2 ⟨aG,kF,pQ,e9,cZ,List.replicate,List.cons_append,List.nil_append,vK,mL,hd,x0,x1,Option.map_some,plD⟩
 have hc:dG 1 [4] (fT (aH iB (aB (aD 4) aN))) (aG 0) e9 (cZ K c) [A,B,N0,W,some (.p (.dict (N.encM slD frD m))),r5,r6,r7,r8,r9]=.ok (.f (.list ((jX m).map plD))):=by
  unfold dG aG4
  ktr_call 3 ⟨fT,aH,aB,aN,aD,Res.bind,Ev.c,hs,aFr⟩
  rw [if_pos (show (nL (kys m)).length<=100000 by rw [(iC (kys m)).length_eq];unfold kys;rw [List.length_map];omega),hmap]
  unfold jX
  rw [List.map_map]
  rfl
 unfold cY
 rw [hc]
 rfl
theorem aFk (K:PySem.W.Frag) (c:Cls) {kind w mo:Int} (hk:Sz 200 kind) (w0:1<=w) (w1:w<=9) (cs:List Int) (hl:cs.length<=60) (hc:∀ x∈cs,0<=x/\Sz 200 x) (hmo:1<=mo:=by decide) :
  ∃ m:Mp,Gm m/\jX m≠[]/\(m.length<=cs.length+1/\(m.length:Int)<=mo/\Wm w m)/\bZ K c [.p (.int kind),.p (.list (cs.map .int)),.p (.int mo),.p (.int w)]=.ok (.o (.list ((jX m).map plD))):=by
 obtain ⟨e',⟨m,q5,q6,q7,q8,q9,g1,g2,rfl⟩,hloop⟩:=yH (enc:=PyData.int) (tg:=aG 5) (f:=eG K c) (fun zs e=>∃ m q5 q6 q7 q8 q9,Gm m/\(m.length<=zs.length/\(m.length:Int)<=mo/\Wm w m)/\e=[some (.p (.int kind)),some (.p (.list (cs.map .int))),some (.p (.int mo)),some (.p (.int w)),some (.o (.dict (N.encM slD frD m))),q5,q6,q7,q8,q9]) cs [] [some (.p (.int kind)),some (.p (.list (cs.map .int))),some (.p (.int mo)),some (.p (.int w)),some (.o (.dict [])),none,none,none,none,none] ⟨[],none,none,none,none,none,⟨List.Pairwise.nil,fun _ _ h=>nomatch h⟩,⟨Nat.le_refl _,by show (0:Int)<=mo;omega,fun _ _ e=>nomatch e⟩,rfl⟩ (by
  rintro x hx zs e hz ⟨m,q5,q6,q7,q8,q9,g1,g2,rfl⟩
  have hz:zs.length < 0+cs.length:=hz
  obtain ⟨m',p6,p7,p8,p9,h1,h2,h3⟩:=aMr K c (some (.p (.list (cs.map .int)))) (mo:=mo) hk (hc x hx).1 (hc x hx).2 w0 w1 m (by omega) g1 q6 q7 q8 q9
  refine ⟨_,_,rfl,h3,m',_,p6,p7,p8,p9,h1,⟨?_,h2.b g2.2.1,h2.c g2.2.2⟩,rfl⟩
  have:=h2.a
  rw [List.length_append];simp;omega)
 have g2:m.length<=cs.length/\(m.length:Int)<=mo/\Wm w m:=g2
 have wn:w≠0:=by omega
 have mi:=fO (a:=kind) (b:=w) (by omega)
 have td:aZ (aE aG2 (aD 4) mDT) [some (.p (.int kind)),some (.p (.list (cs.map .int))),some (.p (.int mo)),some (.p (.int w)),some (.o (.dict (N.encM slD frD m))),q5,q6,q7,q8,q9]=.ok m.isEmpty:=by
  have:aG2 (.b (.dict (N.encM slD frD m))) (.p (.dict []))=.ok (.p (.bool m.isEmpty)):=by
   unfold aG2
   simp only [mL,uV,if_true]
   unfold N.encM
   rw [List.isEmpty_map]
  ktr_call 3 ⟨aZ,aE,aD,mDT,Res.bind,Ev.c,this,bE⟩
 obtain ⟨m2,n1,n2,n3,e2⟩:∃ m2:Mp,m2≠[]/\Gm m2/\(m2.length<=cs.length+1/\(m2.length:Int)<=mo/\Wm w m2)/\gS (aZ (aE aG2 (aD 4) mDT)) (rN 4 (aH bH (aB (aE jT (aD 0) (aD 3)) (aB (mC (.int 0)) aN))) (aH bH (aB (mC (.int 0)) (aB (mC (.int 1)) aN)))) cS [some (.p (.int kind)),some (.p (.list (cs.map .int))),some (.p (.int mo)),some (.p (.int w)),some (.o (.dict (N.encM slD frD m))),q5,q6,q7,q8,q9]=some (.nx [some (.p (.int kind)),some (.p (.list (cs.map .int))),some (.p (.int mo)),some (.p (.int w)),some (.o (.dict (N.encM slD frD m2))),q5,q6,q7,q8,q9]):=by
  cases m with
  | cons p r=>exact ⟨p :: r,List.cons_ne_nil _ _,g1,⟨by omega,g2.2.1,g2.2.2⟩,j3 td⟩
  | nil =>
   refine ⟨tD [] (kind.fmod w,0) (0,1),(fun z=>nomatch z),g1.put ⟨mi.1,by show kind.fmod w<=8;omega,Int.le_refl 0,(show (0:Int)<=8 by decide)⟩ (aBu (show Sz 80 (0:Int) by unfold Sz;decide)),⟨(show (1:Nat)<=cs.length+1 by omega),(show ((1:Nat):Int)<=mo by omega),g2.2.2.put _ (show kind.fmod w < w by omega) (show (0:Int) < w by omega)⟩,(pR td).trans ?_⟩
   have hp:=aBz (ev:=frD) [] (kind.fmod w,0) (0,1) (by decide)
   have hp2:zZ (N.encM slD frD []) (.tuple [.int (kind.fmod w),.int 0]) (.tuple [.int 0,.int 1])=some (N.encM slD frD (tD [] (kind.fmod w,0) (0,1))):=hp
   have hk':(aH bH (aB (aE jT (aD 0) (aD 3)) (aB (mC (.int 0)) aN))) [some (.p (.int kind)),some (.p (.list (cs.map .int))),some (.p (.int mo)),some (.p (.int w)),some (.o (.dict (N.encM slD frD []))),q5,q6,q7,q8,q9]=.ok (.p (.tuple [.int (kind.fmod w),.int 0])):=by
    walk_at "1d"
   have hv:(aH bH (aB (mC (.int 0)) (aB (mC (.int 1)) aN))) [some (.p (.int kind)),some (.p (.list (cs.map .int))),some (.p (.int mo)),some (.p (.int w)),some (.o (.dict (N.encM slD frD []))),q5,q6,q7,q8,q9]=.ok (.p (.tuple [.int 0,.int 1])):=rfl
   unfold rN
   ktr_call 3 ⟨hk',hv,Ev.c,hp2⟩
 refine ⟨m2,n2,?_,n3,?_⟩
 ·intro z
  have:=qI m2
  rw [z] at this
  exact n1 (List.length_eq_zero_iff.mp this.symm)
 unfold bZ
 refine bI ?_
 rw [show a7 10 [.p (.int kind),.p (.list (cs.map .int)),.p (.int mo),.p (.int w)]=[some (.p (.int kind)),some (.p (.list (cs.map .int))),some (.p (.int mo)),some (.p (.int w)),none,none,none,none,none,none] from rfl]
 refine (aR (gY (d:=.dict []) rfl)).trans ?_
 refine (aR ((nP (ds:=cs.map .int) rfl).trans hloop)).trans ?_
 refine (aR e2).trans ?_
 exact aGr K c _ _ _ _ m2 (by omega) _ _ _ _ _
theorem aKm (K:PySem.W.Frag) (c:Cls) {kind w mo:Int} (hk:Sz 200 kind) (w0:1<=w) (w1:w<=9) (cs:List Int) (hl:cs.length<=60) (hc:∀ x∈cs,0<=x/\Sz 200 x) (hmo:1<=mo:=by decide) :
  ∃ ps:List Pl,ps≠[]/\ps.length<=cs.length+1/\(∀ p∈ps,GPl p)/\(ps.map slp).Nodup/\bZ K c [.p (.int kind),.p (.list (cs.map .int)),.p (.int mo),.p (.int w)]=.ok (.o (.list (ps.map plD))):=by
 obtain ⟨m,g,n0,n1,hr⟩:=aFk K c hk w0 w1 cs hl hc hmo
 exact ⟨jX m,n0,by rw [qI];exact n1.1,vO g,aBc g,hr⟩
theorem w_mul {F:Int} {h:Int×Int} (h0:1<=h.2) (hd:h.2∣F):h.1*F.fdiv h.2*h.2=h.1*F:=by
 obtain ⟨k,hk⟩:=hd
 have:F.fdiv h.2=k:=by
  rw [hk]
  exact Int.mul_fdiv_cancel_left _ (by omega)
 rw [this,hk]
 ac_rfl
def wt (G:Int) (h:Int×Int):Int:=h.1*G.fdiv h.2
theorem aO6 {G:Int} {x y:Int×Int} (hG:1<=G) (x0:1<=x.2) (y0:1<=y.2) (xd:x.2∣G) (yd:y.2∣G) (h:leF x y):wt G x<=wt G y:=by
 have e1:wt G x*x.2=x.1*G:=w_mul x0 xd
 have e2:wt G y*y.2=y.1*G:=w_mul y0 yd
 have p:=cN x0 y0
 refine Int.le_of_mul_le_mul_right (a:=x.2*y.2) ?_ (by omega)
 have a1:wt G x*(x.2*y.2)=x.1*y.2*G:=by
  rw [<- Int.mul_assoc,e1]
  ac_rfl
 have a2:wt G y*(x.2*y.2)=y.1*x.2*G:=by
  rw [Int.mul_comm x.2,<- Int.mul_assoc,e2]
  ac_rfl
 rw [a1,a2]
 exact Int.mul_le_mul_of_nonneg_right h (by omega)
theorem aIr {G:Int} {x y:Int×Int} (hG:1<=G) (fx:FR.Fr x) (fy:FR.Fr y) (xd:x.2∣G) (yd:y.2∣G) (h:wt G x=wt G y):x=y:=by
 have e1:wt G x*x.2=x.1*G:=w_mul fx.pos xd
 have e2:wt G y*y.2=y.1*G:=w_mul fy.pos yd
 have e:x.1*y.2=y.1*x.2:=by
  refine Int.eq_of_mul_eq_mul_right (a:=G) (by omega) ?_
  have a1:x.1*y.2*G=wt G x*(x.2*y.2):=by
   rw [<- Int.mul_assoc,e1]
   ac_rfl
  have a2:y.1*x.2*G=wt G y*(x.2*y.2):=by
   rw [Int.mul_comm x.2,<- Int.mul_assoc,e2]
   ac_rfl
  rw [a1,a2,h]
 exact aIe fx fy (Int.le_of_eq e) (Int.le_of_eq e.symm)
theorem aN0 {G:Int} {x y:Int×Int} (x0:1<=x.2) (y0:1<=y.2) (xd:x.2∣G) (yd:y.2∣G):(hP x y).2∣G/\wt G (hP x y)=wt G x+wt G y:=by
 have e1:wt G x*x.2=x.1*G:=w_mul x0 xd
 have e2:wt G y*y.2=y.1*G:=w_mul y0 yd
 have p:=cN x0 y0
 obtain ⟨fs,es⟩:=FR.nM (t:=x.1*y.2+y.1*x.2) (b:=x.2*y.2) (by omega)
 have key:(hP x y).1*G=(wt G x+wt G y)*(hP x y).2:=by
  refine Int.eq_of_mul_eq_mul_right (a:=x.2*y.2) (by omega) ?_
  have a1:(hP x y).1*G*(x.2*y.2)=(hP x y).1*(x.2*y.2)*G:=by ac_rfl
  have a2:(wt G x+wt G y)*(hP x y).2*(x.2*y.2)=(wt G x*x.2*y.2+wt G y*y.2*x.2)*(hP x y).2:=by
   rw [Int.add_mul,Int.add_mul,Int.add_mul]
   congr 1<;>ac_rfl
  rw [a1,a2,show (hP x y).1*(x.2*y.2)=(x.1*y.2+y.1*x.2)*(hP x y).2 from es,e1,e2]
  have a3:x.1*G*y.2+y.1*G*x.2=(x.1*y.2+y.1*x.2)*G:=by
   rw [Int.add_mul]
   congr 1<;>ac_rfl
  rw [a3]
  ac_rfl
 have fs:FR.Fr (hP x y):=fs
 have hd:(hP x y).2∣G:=by
  have d1:(hP x y).2∣(hP x y).1*G:=⟨wt G x+wt G y,by rw [key,Int.mul_comm]⟩
  have d2:(hP x y).2.natAbs∣(hP x y).1.natAbs*G.natAbs:=by
   rw [<- Int.natAbs_mul]
   exact Int.natAbs_dvd_natAbs.mpr d1
  have c:Nat.Coprime (hP x y).2.natAbs (hP x y).1.natAbs:=by
   have:=fs.low
   rw [Int.gcd_comm] at this
   exact this
  exact Int.natAbs_dvd_natAbs.mp (c.dvd_of_dvd_mul_left d2)
 refine ⟨hd,?_⟩
 have e3:wt G (hP x y)*(hP x y).2=(hP x y).1*G:=w_mul fs.pos hd
 exact Int.eq_of_mul_eq_mul_right (a:=(hP x y).2) (by have:=fs.pos;omega) (by rw [e3,key])
theorem aCz {F G:Int} {x:Int×Int} (x0:1<=x.2) (d1:x.2∣F) (d2:x.2∣G):wt F x*G=wt G x*F:=by
 have e1:wt F x*x.2=x.1*F:=w_mul x0 d1
 have e2:wt G x*x.2=x.1*G:=w_mul x0 d2
 refine Int.eq_of_mul_eq_mul_right (a:=x.2) (by omega) ?_
 have a1:wt F x*G*x.2=wt F x*x.2*G:=by ac_rfl
 have a2:wt G x*F*x.2=wt G x*x.2*F:=by ac_rfl
 rw [a1,a2,e1,e2]
 ac_rfl
def vv (G:Int) (p:Pl) (X Y D:Int):Int:=p.1*X+p.2.1*Y+wt G p.2.2*D
structure Cp (G:Int) (p:Pl):Prop where
 i0:0<=p.1
 i1:p.1<=8
 j0:0<=p.2.1
 j1:p.2.1<=8
 f:FR.Fr p.2.2
 d:p.2.2.2∣G
def Cd (G:Int) (ps:List Pl):Prop:=∀ p∈ps,Cp G p
def aSo (G:Int) (ps:List Pl) (p:Pl):Prop:=∃ X Y D,1<=D/\∀ q∈ps,q≠p->vv G q X Y D < vv G p X Y D
def Dom (G:Int) (ps qs:List Pl):Prop:=∀ X Y D,1<=D->∀ p∈ps,∃ q∈qs,vv G p X Y D<=vv G q X Y D
theorem qR (G:Int) (p:Pl) (X Y D dx dy:Int):vv G p (40*X+dx) (40*Y+dy) (40*D)=40*vv G p X Y D+(p.1*dx+p.2.1*dy):=by
 unfold vv
 rw [Int.mul_add,Int.mul_add,Int.mul_add,Int.mul_add,Int.mul_left_comm,Int.mul_left_comm p.2.1,Int.mul_left_comm (wt G p.2.2)]
 omega
theorem aDu {α β:Type} {f:α->β}:∀ {xs:List α},(xs.map f).Nodup->∀ a∈xs,∀ b∈xs,f a=f b->a=b
 | x :: xs,h,a,ha,b,hb,e=>by
  rw [List.map_cons,List.nodup_cons] at h
  rcases List.mem_cons.mp ha with ea | ha'<;>rcases List.mem_cons.mp hb with eb | hb'
  ·rw [ea,eb]
  ·rw [ea] at e
   exact absurd (List.mem_map.mpr ⟨b,hb',e.symm⟩) h.1
  ·rw [eb] at e
   exact absurd (List.mem_map.mpr ⟨a,ha',e⟩) h.1
  ·exact aDu h.2 a ha' b hb' e
structure Rf (G:Int) (ps:List Pl):Prop where
 n:ps≠[]
 l:ps.length<=22
 g:∀ p∈ps,PG p
 c:Cd G ps
 u:(ps.map slp).Nodup
theorem aOw {F G:Int} {p q:Pl} (hp:Cp G p) (hq:Cp G q) (pd:p.2.2.2∣F) (qd:q.2.2.2∣F) (X Y D:Int):((aAz (blow F p) (blow F q)).1*(F*X)+(aAz (blow F p) (blow F q)).2.1*(F*Y)+(aAz (blow F p) (blow F q)).2.2*(G*D))=F*(vv G p X Y D - vv G q X Y D):=by
 have e1:wt F p.2.2*G=wt G p.2.2*F:=aCz hp.f.pos pd hp.d
 have e2:wt F q.2.2*G=wt G q.2.2*F:=aCz hq.f.pos qd hq.d
 show (p.1 - q.1)*(F*X)+(p.2.1 - q.2.1)*(F*Y)+(wt F p.2.2 - wt F q.2.2)*(G*D)=_
 have e3:(wt F p.2.2 - wt F q.2.2)*(G*D)=(wt G p.2.2 - wt G q.2.2)*F*D:=by
  rw [<- Int.mul_assoc,Int.sub_mul,e1,e2,<- Int.sub_mul]
 rw [e3]
 unfold vv
 grind
theorem aAb {G:Int} (hG:1<=G) {ps:List Pl} (h:Rf G ps) {p:Pl} (hp:p∈ps) (l:aSo G ps p):stays ps p=true:=by
 obtain ⟨f0,f1,_⟩:=aG9 h.l h.g
 obtain ⟨X,Y,D,hD,hl⟩:=l
 have st:N.aO1 (rowsOf (blow (wf ps) p) (ps.map (blow (wf ps)))) (wf ps*X) (wf ps*Y) (G*D):=by
  refine ⟨cN hG hD,fun r hr=>?_⟩
  obtain ⟨b,hb,rfl⟩:=List.mem_map.mp hr
  obtain ⟨hb1,hb2⟩:=List.mem_filter.mp hb
  obtain ⟨q,hq,rfl⟩:=List.mem_map.mp hb1
  have hne:q≠p:=fun z=>of_decide_eq_true hb2 (by rw [z])
  rw [aOw (h.c p hp) (h.c q hq) (f1 p hp) (f1 q hq)]
  have:=hl q hq hne
  exact Int.mul_pos (by omega) (by omega)
 obtain ⟨pt,e⟩:=aEd st
 unfold stays
 rw [show fC (wf ps) ps p=some pt from e]
 rfl
theorem aH0 {α:Type} (R:α->α->Prop) (tot:∀ a b,R a b\/R b a) (tr:∀ a b c,R a b->R b c->R a c):∀ {xs:List α},xs≠[]->∃ m∈xs,∀ x∈xs,R x m
 | [x],_=>⟨x,.head _,fun y hy=>by rw [List.mem_singleton.mp hy];exact (tot x x).elim id id⟩
 | x :: y :: xs,_=>by
  obtain ⟨m,hm,h⟩:=aH0 R tot tr (xs:=y :: xs) (List.cons_ne_nil _ _)
  rcases tot x m with z | z
  ·refine ⟨m,.tail _ hm,fun w hw=>?_⟩
   rcases List.mem_cons.mp hw with e | e
   ·rw [e];exact z
   ·exact h w e
  ·refine ⟨x,.head _,fun w hw=>?_⟩
   rcases List.mem_cons.mp hw with e | e
   ·rw [e];exact (tot x x).elim id id
   ·exact tr w m x (h w e) z
def up3 (a b:Int×Int×Int):Prop:=a.1 < b.1\/(a.1=b.1/\(a.2.1 < b.2.1\/(a.2.1=b.2.1/\a.2.2<=b.2.2)))
theorem aKb (a b:Int×Int×Int):up3 a b\/up3 b a:=by unfold up3;omega
theorem aMx (a b c:Int×Int×Int) (h1:up3 a b) (h2:up3 b c):up3 a c:=by unfold up3 at *;omega
theorem aE8 {G:Int} (hG:1<=G) {ps:List Pl} (h:Rf G ps) (X Y D:Int) (hD:1<=D):∃ p∈ps,stays ps p=true/\∀ q∈ps,vv G q X Y D<=vv G p X Y D:=by
 obtain ⟨p,hp,hm⟩:=aH0 (fun a b:Pl=>up3 (vv G a X Y D,a.1,a.2.1) (vv G b X Y D,b.1,b.2.1)) (fun a b=>aKb _ _) (fun a b c=>aMx _ _ _) h.n
 refine ⟨p,hp,aAb hG h hp ⟨40*(40*X+1),40*(40*Y)+1,40*(40*D),by omega,fun q hq hne=>?_⟩,fun q hq=>?_⟩
 ·have n1:=qR G q (40*X+1) (40*Y) (40*D) 0 1
  have n2:=qR G p (40*X+1) (40*Y) (40*D) 0 1
  have n3:=qR G q X Y D 1 0
  have n4:=qR G p X Y D 1 0
  rw [Int.add_zero] at n1 n2 n3 n4
  rw [n1,n2,n3,n4]
  have k:=hm q hq
  unfold up3 at k
  dsimp only at k
  have a:=h.c p hp
  have b:=h.c q hq
  have:=a.i0;have:=a.i1;have:=a.j0;have:=a.j1
  have:=b.i0;have:=b.i1;have:=b.j0;have:=b.j1
  have ns:¬ (q.1=p.1/\q.2.1=p.2.1):=fun z=>hne (aDu h.u q hq p hp (Prod.ext z.1 z.2))
  omega
 ·have:=hm q hq
  unfold up3 at this
  dsimp only at this
  omega
def thn (ps:List Pl):List Pl:=ps.filter (stays ps)
theorem sL {ps:List Pl} {p:Pl} (h:p∈thn ps):p∈ps:=(List.mem_filter.mp h).1
theorem aLh {G:Int} (hG:1<=G) {ps:List Pl} (h:Rf G ps):Dom G ps (thn ps):=fun X Y D hD q hq=>by
 obtain ⟨p,hp,hs,hm⟩:=aE8 hG h X Y D hD
 exact ⟨p,List.mem_filter.mpr ⟨hp,hs⟩,hm q hq⟩
theorem aFb (n:Nat) (h:n<=100000):oF [.p (.int (n:Int))]=.ok (zU 0 n):=by
 unfold oF
 exact if_pos ⟨by omega,by omega⟩
theorem aSq {r:List Ev->Res (List D)} {f:En->Res Ev} {en:En} {a:D} {o:Res (List D)} (h1:f en=.ok (.p a)) (h:r [.p a]=o):lS r (aB f aN) en=o:=by
 simp only [lS,aB,aN,h1,Res.bind,Ev.c,h]
theorem aSk {r:List Ev->Res (List D)} {f g:En->Res Ev} {en:En} {a b:D} {o:Res (List D)} (h1:f en=.ok (.p a)) (h2:g en=.ok (.p b)) (h:r [.p a,.p b]=o):lS r (aB f (aB g aN)) en=o:=by
 simp only [lS,aB,aN,h1,h2,Res.bind,Ev.c,h]
theorem aAh {tg:D->En->Option En} {f:MS} {d:D} {ds:List D} {en e e':En} (h1:tg d en=some e) (h2:f e=some (.nx e')):fB tg f (d :: ds) en=fB tg f ds e':=by
 rw [fB,h1]
 dsimp only
 rw [h2]
theorem aQ7 {tg:D->En->Option En} {f:MS} {d:D} {ds:List D} {en e:En} {l:L} (h1:tg d en=some e) (h2:f e=some (.rt l)):fB tg f (d :: ds) en=some (.rt l):=by
 rw [fB,h1]
 dsimp only
 rw [h2]
theorem aOg {i:Nat} {fe:En->Res Ev} {en:En} {ds:List D} {d:D} (h1:en[i]? = some (some (.o (.list ds)))) (h2:fe en=.ok (.f d)\/fe en=.ok (.p d)) (h3:ds.length<=100000):lF i fe en=some (.nx (en.set i (some (.o (.list (ds++[d])))))):=by
 unfold lF
 rw [h1]
 dsimp only
 rcases h2 with h2 | h2<;>rw [h2]<;>dsimp only [Ev.c]<;>rw [if_pos h3]
theorem aMa {i:Nat} {fe:En->Res Ev} {en:En} {ds es:List D} (h1:en[i]? = some (some (.o (.list ds)))) (h2:fe en=.ok (.f (.list es))) (h3:ds.length+es.length<=100000):lQ i fe en=some (.nx (en.set i (some (.o (.list (ds++es)))))):=by
 unfold lQ
 rw [h1]
 dsimp only
 rw [h2]
 dsimp only
 rw [if_pos h3]
def tz (m o e:Pl):Int:=(o.1 - m.1)*(e.2.1 - m.2.1) - (o.2.1 - m.2.1)*(e.1 - m.1)
def dtz (m o e:Pl):Int:=(o.1 - m.1)*(e.1 - m.1)+(o.2.1 - m.2.1)*(e.2.1 - m.2.1)
def eP3 (a:Pl×Pl×Pl):List L:=[.p (plD a.1),.p (plD a.2.1),.p (plD a.2.2)]
theorem aBh (a b:Pl×Pl×Pl) (h:eP3 a=eP3 b):a=b:=by
 unfold eP3 at h
 injection h with h1 h2
 injection h2 with h2 h3
 injection h3 with h3 _
 injection h1 with h1
 injection h2 with h2
 injection h3 with h3
 exact Prod.ext (plI h1) (Prod.ext (plI h2) (plI h3))
def SP (p:Pl):Prop:=Sz 4 p.1/\Sz 4 p.2.1
theorem cm5 {a b:Int} (h1:Sz 5 a) (h2:Sz 5 b):CMulW a b:=⟨h1.mono (by decide),h2.mono (by decide)⟩
theorem aBd {m o e:Pl} (h1:SP m) (h2:SP o) (h3:SP e):Sz 11 (tz m o e)/\Sz 11 (dtz m o e):=⟨Sz.subM (Sz.mul (Sz.subM h2.1 h1.1) (Sz.subM h3.2 h1.2)) (Sz.mul (Sz.subM h2.2 h1.2) (Sz.subM h3.1 h1.1)),Sz.addM (Sz.mul (Sz.subM h2.1 h1.1) (Sz.subM h3.1 h1.1)) (Sz.mul (Sz.subM h2.2 h1.2) (Sz.subM h3.2 h1.2))⟩
noncomputable def fV (K:PySem.W.Frag) (c:Cls):List L->Res L:=mOf eP3 (fun a=>SP a.1/\SP a.2.1/\SP a.2.2) fun a=>.ok (.p (.int (tz a.1 a.2.1 a.2.2)))
noncomputable def aCp (K:PySem.W.Frag) (c:Cls):MS:=(cB (cW 3 (aE fU (aE pW (aE ixE (aD 1) (mC (.int 0))) (aE ixE (aD 0) (mC (.int 0)))) (aE pW (aE ixE (aD 2) (mC (.int 1))) (aE ixE (aD 0) (mC (.int 1)))))) (cB (cW 4 (aE fU (aE pW (aE ixE (aD 1) (mC (.int 1))) (aE ixE (aD 0) (mC (.int 1)))) (aE pW (aE ixE (aD 2) (mC (.int 0))) (aE ixE (aD 0) (mC (.int 0)))))) (cY (aE pW (aD 3) (aD 4)))))
theorem aKz (K:PySem.W.Frag) (c:Cls):∀ ls,fV K c ls=.bad\/dX 5 (aCp K c) ls=fV K c ls:=cQ fun a h=>by
 obtain ⟨m,o,e⟩:=a
 obtain ⟨h1,h2,h3⟩:=h
 dsimp only at h1 h2 h3 ⊢
 have q1:=cm5 (Sz.subM h2.1 h1.1) (Sz.subM h3.2 h1.2)
 have q2:=cm5 (Sz.subM h2.2 h1.2) (Sz.subM h3.1 h1.1)
 refine bI ?_
 rw [show a7 5 (eP3 (m,o,e))=[some (.p (plD m)),some (.p (plD o)),some (.p (plD e)),none,none] from rfl]
 unfold aCp
 ktr_call 11 ⟨pW⟩
 rfl
theorem lX (K:PySem.W.Frag) (c:Cls) {m o e:Pl} (h1:SP m) (h2:SP o) (h3:SP e):fV K c [.p (plD m),.p (plD o),.p (plD e)]=.ok (.p (.int (tz m o e))):=cR (a:=(m,o,e)) aBh ⟨h1,h2,h3⟩
noncomputable def uF (K:PySem.W.Frag) (c:Cls):List L->Res L:=mOf eP3 (fun a=>SP a.1/\SP a.2.1/\SP a.2.2) fun a=>.ok (.p (.int (dtz a.1 a.2.1 a.2.2)))
noncomputable def aI5 (K:PySem.W.Frag) (c:Cls):MS:=(cY (aE lA (aE fU (aE pW (aE ixE (aD 1) (mC (.int 0))) (aE ixE (aD 0) (mC (.int 0)))) (aE pW (aE ixE (aD 2) (mC (.int 0))) (aE ixE (aD 0) (mC (.int 0))))) (aE fU (aE pW (aE ixE (aD 1) (mC (.int 1))) (aE ixE (aD 0) (mC (.int 1)))) (aE pW (aE ixE (aD 2) (mC (.int 1))) (aE ixE (aD 0) (mC (.int 1)))))))
theorem aL9 (K:PySem.W.Frag) (c:Cls):∀ ls,uF K c ls=.bad\/dX 3 (aI5 K c) ls=uF K c ls:=cQ fun a h=>by
 obtain ⟨m,o,e⟩:=a
 obtain ⟨h1,h2,h3⟩:=h
 dsimp only at h1 h2 h3 ⊢
 have q1:=cm5 (Sz.subM h2.1 h1.1) (Sz.subM h3.1 h1.1)
 have q2:=cm5 (Sz.subM h2.2 h1.2) (Sz.subM h3.2 h1.2)
 refine bI ?_
 rw [show a7 3 (eP3 (m,o,e))=[some (.p (plD m)),some (.p (plD o)),some (.p (plD e))] from rfl]
 unfold aI5
 ktr_call 11 ⟨pW⟩
 rfl
theorem zE (K:PySem.W.Frag) (c:Cls) {m o e:Pl} (h1:SP m) (h2:SP o) (h3:SP e):uF K c [.p (plD m),.p (plD o),.p (plD e)]=.ok (.p (.int (dtz m o e))):=cR (a:=(m,o,e)) aBh ⟨h1,h2,h3⟩
def pwE (m o e:Pl):List Int:=if tz m o e=0 then [dtz m e e,-dtz m o e] else [0,0]
def twE (m o e l:Pl):List Int:=if ([tz m e l,tz m l o,tz m o e]:List Int).sum > 0 then [tz m e l,tz m l o,tz m o e] else [-tz m e l,-tz m l o,-tz m o e]
def wE (p:Pl):List Pl->List Int
 | [a,b]=>pwE p a b
 | [a,b,l]=>twE p a b l
 | _=>[]
def iD (ws:List Int):D:=.list (ws.map .int)
noncomputable def eR (K:PySem.W.Frag) (c:Cls):MS:=(cB (gS (aZ (aE (eqE true) (aM 3 (fV K c) (aB (aD 0) (aB (aD 1) (aB (aD 2) aN)))) (mC (.int 0)))) (cY (aH gB (aB (mC (.int 0)) (aB (mC (.int 0)) aN)))) cS) (cY (aH gB (aB (aM 3 (uF K c) (aB (aD 0) (aB (aD 2) (aB (aD 2) aN)))) (aB (mUn tK (aM 3 (uF K c) (aB (aD 0) (aB (aD 1) (aB (aD 2) aN))))) aN)))))
noncomputable def cC (K:PySem.W.Frag) (c:Cls) (ls:List L):Res L:=dX 3 (eR K c) ls
theorem pO (K:PySem.W.Frag) (c:Cls):∀ ls,cC K c ls=.bad\/dX 3 (eR K c) ls=cC K c ls:=fun _=>.inr rfl
theorem aRm (K:PySem.W.Frag) (c:Cls) {m o e:Pl} (h1:SP m) (h2:SP o) (h3:SP e):∃ ws:List Int,ws=pwE m o e/\ws.length=2/\(∀ x∈ws,Sz 12 x)/\cC K c [.p (plD m),.p (plD o),.p (plD e)]=.ok (.o (iD ws)):=by
 have t:=lX K c h1 h2 h3
 have d1:=zE K c h1 h3 h3
 have d2:=zE K c h1 h2 h3
 have tt:aZ (aE (eqE true) (aM 3 (fV K c) (aB (aD 0) (aB (aD 1) (aB (aD 2) aN)))) (mC (.int 0))) [some (.p (plD m)),some (.p (plD o)),some (.p (plD e))]=.ok (!(tz m o e == 0)):=by
  ktr_call 2 ⟨t⟩
  rfl
 cases z:(tz m o e == 0) with
 | false =>
  rw [z] at tt
  refine ⟨[0,0],(if_neg (ne_of_beq_false z)).symm,rfl,fun x hx=>?_,?_⟩
  ·have:x=0:=by simpa using hx
   rw [this]
   unfold Sz
   decide
  ·unfold cC
   refine bI ?_
   rw [show a7 3 [.p (plD m),.p (plD o),.p (plD e)]=[some (.p (plD m)),some (.p (plD o)),some (.p (plD e))] from rfl]
   unfold eR
   exact kG ((pR tt).trans (oH (d:=iD [0,0]) rfl))
 | true =>
  rw [z] at tt
  refine ⟨[dtz m e e,-dtz m o e],(if_pos (eq_of_beq z)).symm,rfl,fun x hx=>?_,?_⟩
  ·rcases List.mem_cons.mp hx with w | w
   ·rw [w];exact (aBd h1 h3 h3).2.mono (by decide)
   ·rw [List.mem_singleton.mp w];exact Sz.neg ((aBd h1 h2 h3).2.mono (by decide))
  ·unfold cC
   refine bI ?_
   rw [show a7 3 [.p (plD m),.p (plD o),.p (plD e)]=[some (.p (plD m)),some (.p (plD o)),some (.p (plD e))] from rfl]
   unfold eR
   refine (aR (j3 tt)).trans (oH (d:=iD [dtz m e e,-dtz m o e]) ?_)
   ktr_call 2 ⟨d1,d2⟩
   rfl
noncomputable def iG (K:PySem.W.Frag) (c:Cls):En->Res Ev:=(mUn tK (aD 0))
noncomputable def dF (K:PySem.W.Frag) (c:Cls):MS:=(cB (cW 4 (aH gB (aB (aM 3 (fV K c) (aB (aD 0) (aB (aD 2) (aB (aD 3) aN)))) (aB (aM 3 (fV K c) (aB (aD 0) (aB (aD 3) (aB (aD 1) aN)))) (aB (aM 3 (fV K c) (aB (aD 0) (aB (aD 1) (aB (aD 2) aN)))) aN))))) (fun en=>(cY (mIf (aZ (aE gtE (aH aBl (aB (aD 4) aN)) (mC (.int 0)))) (aD 4) (dG 1 [] (fT (aD 4)) (aG 0) e9 (iG K c)))) (frz 4 en)))
noncomputable def bM (K:PySem.W.Frag) (c:Cls) (ls:List L):Res L:=dX 5 (dF K c) ls
theorem mE (K:PySem.W.Frag) (c:Cls):∀ ls,bM K c ls=.bad\/dX 5 (dF K c) ls=bM K c ls:=fun _=>.inr rfl
theorem aQ3 (K:PySem.W.Frag) (c:Cls) {m o e l:Pl} (h1:SP m) (h2:SP o) (h3:SP e) (h4:SP l):∃ ws:List Int,ws=twE m o e l/\ws.length=3/\(∀ x∈ws,Sz 12 x)/\(bM K c [.p (plD m),.p (plD o),.p (plD e),.p (plD l)]=.ok (.p (iD ws))\/bM K c [.p (plD m),.p (plD o),.p (plD e),.p (plD l)]=.ok (.o (iD ws))):=by
 have t1:=lX K c h1 h3 h4
 have t2:=lX K c h1 h4 h2
 have t3:=lX K c h1 h2 h3
 have s1:=(aBd h1 h3 h4).1
 have s2:=(aBd h1 h4 h2).1
 have s3:=(aBd h1 h2 h3).1
 unfold twE
 generalize tz m e l=a at *
 generalize tz m l o=b at *
 generalize tz m o e=g at *
 have e1:(aH gB (aB (aM 3 (fV K c) (aB (aD 0) (aB (aD 2) (aB (aD 3) aN)))) (aB (aM 3 (fV K c) (aB (aD 0) (aB (aD 3) (aB (aD 1) aN)))) (aB (aM 3 (fV K c) (aB (aD 0) (aB (aD 1) (aB (aD 2) aN)))) aN)))) [some (.p (plD m)),some (.p (plD o)),some (.p (plD e)),some (.p (plD l)),none]=.ok (.f (iD [a,b,g])):=by
  ktr_call 2 ⟨t1,t2,t3⟩
  rfl
 have hs:aBl [.p (iD [a,b,g])]=.ok (.p (.int ([a,b,g]:List Int).sum)):=by
  simp only [aBl,iD,iS,kR]
 have tt:aZ (aE gtE (aH aBl (aB (aD 4) aN)) (mC (.int 0))) [some (.p (plD m)),some (.p (plD o)),some (.p (plD e)),some (.p (plD l)),some (.p (iD [a,b,g]))]=.ok (decide (([a,b,g]:List Int).sum > 0)):=by
  ktr_call 3 ⟨aZ,aE,aH,aB,aN,aD,mC,Res.bind,Ev.c,hs,gtE,eP,bE⟩
 have st:∀ {r:Option Out} {f:MS},f [some (.p (plD m)),some (.p (plD o)),some (.p (plD e)),some (.p (plD l)),some (.p (iD [a,b,g]))]=r->(cB (cW 4 (aH gB (aB (aM 3 (fV K c) (aB (aD 0) (aB (aD 2) (aB (aD 3) aN)))) (aB (aM 3 (fV K c) (aB (aD 0) (aB (aD 3) (aB (aD 1) aN)))) (aB (aM 3 (fV K c) (aB (aD 0) (aB (aD 1) (aB (aD 2) aN)))) aN))))) (fun en=>f (frz 4 en))) [some (.p (plD m)),some (.p (plD o)),some (.p (plD e)),some (.p (plD l)),none]=r:=fun h=>(aR (gY e1)).trans h
 by_cases z:([a,b,g]:List Int).sum > 0
 ·rw [decide_eq_true z] at tt
  refine ⟨[a,b,g],(if_pos z).symm,rfl,fun x hx=>?_,.inl ?_⟩
  ·have:x=a\/x=b\/x=g:=by simpa using hx
   rcases this with rfl | rfl | rfl
   ·exact s1.mono (by decide)
   ·exact s2.mono (by decide)
   ·exact s3.mono (by decide)
  ·unfold bM
   refine bI ?_
   rw [show a7 5 [.p (plD m),.p (plD o),.p (plD e),.p (plD l)]=[some (.p (plD m)),some (.p (plD o)),some (.p (plD e)),some (.p (plD l)),none] from rfl]
   unfold dF
   refine st (gW ?_)
   unfold mIf
   rw [tt]
   rfl
 ·rw [decide_eq_false z] at tt
  refine ⟨[-a,-b,-g],(if_neg z).symm,rfl,fun x hx=>?_,.inr ?_⟩
  ·have:x = -a\/x = -b\/x = -g:=by simpa using hx
   rcases this with rfl | rfl | rfl
   ·exact Sz.neg (s1.mono (by decide))
   ·exact Sz.neg (s2.mono (by decide))
   ·exact Sz.neg (s3.mono (by decide))
  ·unfold bM
   refine bI ?_
   rw [show a7 5 [.p (plD m),.p (plD o),.p (plD e),.p (plD l)]=[some (.p (plD m)),some (.p (plD o)),some (.p (plD e)),some (.p (plD l)),none] from rfl]
   unfold dF
   refine st (oH ?_)
   unfold mIf
   rw [tt]
   exact dO (n:=1) (js:=[]) (fi:=fT (aD 4)) (tg:=aG 0) (ft:=e9) (fe:=iG K c) (en:=[some (.p (plD m)),some (.p (plD o)),some (.p (plD e)),some (.p (plD l)),some (.p (iD [a,b,g]))]) (ds:=([a,b,g]:List Int).map .int) (es:=([-a,-b,-g]:List Int).map .int) rfl (by simp) rfl
noncomputable def gO (K:PySem.W.Frag) (c:Cls):MS:=(cB (gS (aZ (aE (eqE false) (aH gF (aB (aD 1) aN)) (mC (.int 2)))) (cY (aM 3 (cC K c) (aB (aD 0) (aB (aE ixE (aD 1) (mC (.int 0))) (aB (aE ixE (aD 1) (mC (.int 1))) aN))))) cS) (cY (aM 4 (bM K c) (aB (aD 0) (aB (aE ixE (aD 1) (mC (.int 0))) (aB (aE ixE (aD 1) (mC (.int 1))) (aB (aE ixE (aD 1) (mC (.int 2))) aN)))))))
noncomputable def cG (K:PySem.W.Frag) (c:Cls) (ls:List L):Res L:=dX 2 (gO K c) ls
theorem sI (K:PySem.W.Frag) (c:Cls):∀ ls,cG K c ls=.bad\/dX 2 (gO K c) ls=cG K c ls:=fun _=>.inr rfl
def gD (g:List Pl):D:=.list (g.map plD)
theorem ln1 {α:Type} {us:List α} (h:us.length=1):∃ a,us=[a]:=by
 cases us with
 | nil=>cases h
 | cons a r=>cases r with
  | nil=>exact ⟨a,rfl⟩
  | cons b s=>cases h
theorem ln2 {α:Type} {us:List α} (h:us.length=2):∃ a b,us=[a,b]:=by
 cases us with
 | nil=>cases h
 | cons a r=>obtain ⟨b,rfl⟩:=ln1 (Nat.succ.inj h);exact ⟨a,b,rfl⟩
theorem ln3 {α:Type} {us:List α} (h:us.length=3):∃ a b c,us=[a,b,c]:=by
 cases us with
 | nil=>cases h
 | cons a r=>obtain ⟨b,c,rfl⟩:=ln2 (Nat.succ.inj h);exact ⟨a,b,c,rfl⟩
theorem aLu (K:PySem.W.Frag) (c:Cls) {p:Pl} {g:List Pl} (h1:SP p) (h2:∀ q∈g,SP q) (h3:g.length=2\/g.length=3):∃ ws:List Int,ws=wE p g/\ws.length=g.length/\(∀ x∈ws,Sz 12 x)/\(cG K c [.p (plD p),.p (gD g)]=.ok (.p (iD ws))\/cG K c [.p (plD p),.p (gD g)]=.ok (.o (iD ws))):=by
 have lt:gF [.p (gD g)]=.ok (.p (.int (g.length:Nat))):=by simp [gF,j6,gD]
 have tt:aZ (aE (eqE false) (aH gF (aB (aD 1) aN)) (mC (.int 2))) [some (.p (plD p)),some (.p (gD g))]=.ok (((g.length:Nat):Int) == 2):=by
  ktr_call 3 ⟨aZ,aE,aH,aB,aN,aD,mC,Res.bind,Ev.c,lt,eqE,dat,fP,gR,bE⟩
  rfl
 rcases h3 with h3 | h3
 ·obtain ⟨a,b,rfl⟩:=ln2 h3
  obtain ⟨ws,w0,w1,w2,w3⟩:=aRm K c h1 (h2 a (.head _)) (h2 b (.tail _ (.head _)))
  refine ⟨ws,w0,w1,w2,.inr ?_⟩
  unfold cG
  refine bI ?_
  rw [show a7 2 [.p (plD p),.p (gD [a,b])]=[some (.p (plD p)),some (.p (gD [a,b]))] from rfl]
  unfold gO
  refine kG ((pR tt).trans (oH ?_))
  have i0:ixE (.p (gD [a,b])) (.p (.int 0))=.ok (.p (plD a)):=rfl
  have i1:ixE (.p (gD [a,b])) (.p (.int 1))=.ok (.p (plD b)):=rfl
  ktr_call 3 ⟨aM,aB,aN,aE,aD,mC,Res.bind,Ev.c,cH,bY,gP,i0,i1,w3,gT⟩
 ·obtain ⟨a,b,l,rfl⟩:=ln3 h3
  obtain ⟨ws,w0,w1,w2,w3⟩:=aQ3 K c h1 (h2 a (.head _)) (h2 b (.tail _ (.head _))) (h2 l (.tail _ (.tail _ (.head _))))
  refine ⟨ws,w0,w1,w2,w3.imp (fun w3=>?_) (fun w3=>?_)⟩
  all_goals
   unfold cG
   refine bI ?_
   rw [show a7 2 [.p (plD p),.p (gD [a,b,l])]=[some (.p (plD p)),some (.p (gD [a,b,l]))] from rfl]
   unfold gO
   refine (aR (j3 tt)).trans ?_
   have i0:ixE (.p (gD [a,b,l])) (.p (.int 0))=.ok (.p (plD a)):=rfl
   have i1:ixE (.p (gD [a,b,l])) (.p (.int 1))=.ok (.p (plD b)):=rfl
   have i2:ixE (.p (gD [a,b,l])) (.p (.int 2))=.ok (.p (plD l)):=rfl
   first
    | (refine gW ?_
       ktr_call 3 ⟨aM,aB,aN,aE,aD,mC,Res.bind,Ev.c,cH,bY,gP,i0,i1,i2,w3,gT⟩)
    | (refine oH ?_
       ktr_call 3 ⟨aM,aB,aN,aE,aD,mC,Res.bind,Ev.c,cH,bY,gP,i0,i1,i2,w3,gT⟩)
noncomputable def fH (K:PySem.W.Frag) (c:Cls):MS:=(cW 1 (aM 2 (jY K c) (aB (aD 1) (aB (aM 2 (lL K c) (aB (aD 2) (aB (aD 3) aN))) aN))))
noncomputable def jB (K:PySem.W.Frag) (c:Cls):MS:=(cB (cW 1 (aH bH (aB (mC (.int 0)) (aB (mC (.int 1)) aN)))) (cB (vJ (fT (aD 0)) (iT 2 (b8 (aG 2) (b8 (aG 3) iV))) (fH K c)) (cY (aD 1))))
noncomputable def dA (K:PySem.W.Frag) (c:Cls) (ls:List L):Res L:=dX 4 (jB K c) ls
theorem rX (K:PySem.W.Frag) (c:Cls):∀ ls,dA K c ls=.bad\/dX 4 (jB K c) ls=dA K c ls:=fun _=>.inr rfl
def shD (x:(Int×Int)×(Int×Int)):D:=.tuple [frD x.1,frD x.2]
theorem aEj {m n:Nat} {x y:Int×Int} (hx:Good m x) (hy:Good n y):Good (m+n+1) (FR.mk (x.1*y.1) (x.2*y.2)):=by
 have p:=cN hx.1 hy.1
 exact mW ((Sz.mul hx.2.1 hy.2.1).mono (by omega)) ((Sz.mul hx.2.2 hy.2.2).mono (by omega)) (by omega)
def ssF (t:Int×Int) (xs:List ((Int×Int)×(Int×Int))):Int×Int:=xs.foldl (fun t x=>hP t (FR.mk (x.1.1*x.2.1) (x.1.2*x.2.2))) t
theorem aB5 (K:PySem.W.Frag) (c:Cls) (A:Option L):∀ (xs:List ((Int×Int)×(Int×Int))) (t:Int×Int) (n:Nat) (r2 r3:Option L),Good n t->n+300*xs.length<=1900->(∀ x∈xs,Good 60 x.1/\Good 200 x.2)->Good 1900 (ssF t xs)/\∃ (q2 q3:Option L),fB (iT 2 (b8 (aG 2) (b8 (aG 3) iV))) (fH K c) (xs.map shD) [A,some (.p (frD t)),r2,r3]=some (.nx [A,some (.p (frD (ssF t xs))),q2,q3])
 | [],t,n,r2,r3,g,hn,_=>⟨g.mono (by omega),r2,r3,rfl⟩
 | x :: xs,t,n,r2,r3,g,hn,hx=>by
  rw [List.length_cons] at hn
  obtain ⟨g1,g2⟩:=hx x (.head _)
  have p:=cN g1.1 g2.1
  have ht:=aCl K c (x:=x.1) (y:=x.2) (g1.mono (by decide)).fsz (g2.mono (by decide)).fsz (by omega)
  have gt:=aEj g1 g2
  have hp:=oX K c g gt (by omega) (by decide)
  obtain ⟨gt',q2,q3,ih⟩:=aB5 K c A xs _ _ (some (.p (frD x.1))) (some (.p (frD x.2))) (aCm g gt) (by omega) fun y hy=>hx y (.tail _ hy)
  refine ⟨gt',q2,q3,?_⟩
  have hb:fH K c [A,some (.p (frD t)),some (.p (frD x.1)),some (.p (frD x.2))]=some (.nx [A,some (.p (frD (hP t (FR.mk (x.1.1*x.2.1) (x.1.2*x.2.2))))),some (.p (frD x.1)),some (.p (frD x.2))]):=by
   unfold fH
   refine hZ ?_
   ktr_call 3 ⟨aM,aB,aN,aD,Res.bind,Ev.c,cH,bY,gP,ht,hp,gT⟩
  rw [List.map_cons,aAh rfl hb]
  exact ih
theorem aQ4 (K:PySem.W.Frag) (c:Cls) {xs:List ((Int×Int)×(Int×Int))} (hl:xs.length<=3) (hx:∀ x∈xs,Good 60 x.1/\Good 200 x.2):Good 1900 (ssF (0,1) xs)/\dA K c [.p (.list (xs.map shD))]=.ok (.p (frD (ssF (0,1) xs))):=by
 obtain ⟨g,q2,q3,h⟩:=aB5 K c (some (.p (.list (xs.map shD)))) xs (0,1) 2 none none ⟨Int.le_refl 1,by unfold Sz;decide,by unfold Sz;decide⟩ (by omega) hx
 refine ⟨g,?_⟩
 unfold dA
 refine bI ?_
 rw [show a7 4 [.p (.list (xs.map shD))]=[some (.p (.list (xs.map shD))),none,none,none] from rfl]
 unfold jB
 refine (aR (hZ (d:=frD (0,1)) rfl)).trans ((aR ((nP (ds:=xs.map shD) rfl).trans h)).trans ?_)
 rfl
noncomputable def eZ (K:PySem.W.Frag) (c:Cls):En->Res Ev:=(aH bH (aB (aD 0) (aB (aE ixE (aD 1) (mC (.int 2))) aN)))
noncomputable def eS (K:PySem.W.Frag) (c:Cls):MS:=(cY (aM 1 (dA K c) (aB (dG 2 [] (fT (aD 0)) (iT 2 (b8 (aG 0) (b8 (aG 1) iV))) e9 (eZ K c)) aN)))
noncomputable def bJ (K:PySem.W.Frag) (c:Cls) (ls:List L):Res L:=dX 1 (eS K c) ls
theorem mV (K:PySem.W.Frag) (c:Cls):∀ ls,bJ K c ls=.bad\/dX 1 (eS K c) ls=bJ K c ls:=fun _=>.inr rfl
def mxD (x:(Int×Int)×Pl):D:=.tuple [frD x.1,plD x.2]
def mhF (xs:List ((Int×Int)×Pl)):Int×Int:=ssF (0,1) (xs.map fun x=>(x.1,x.2.2.2))
theorem aM0 (K:PySem.W.Frag) (c:Cls) {xs:List ((Int×Int)×Pl)} (hl:xs.length<=3) (hx:∀ x∈xs,Good 60 x.1/\Good 200 x.2.2.2):Good 1900 (mhF xs)/\bJ K c [.p (.list (xs.map mxD))]=.ok (.p (frD (mhF xs))):=by
 obtain ⟨g,h⟩:=aQ4 K c (xs:=xs.map fun x=>(x.1,x.2.2.2)) (by rw [List.length_map];exact hl) (fun y hy=>by
  obtain ⟨x,h1,rfl⟩:=List.mem_map.mp hy
  exact hx x h1)
 refine ⟨g,?_⟩
 unfold bJ
 unfold mhF
 refine bI ?_
 rw [show a7 1 [.p (.list (xs.map mxD))]=[some (.p (.list (xs.map mxD)))] from rfl]
 have hm:kH (aQ 2 [] (iT 2 (b8 (aG 0) (b8 (aG 1) iV))) e9 (eZ K c) [some (.p (.list (xs.map mxD)))]) (xs.map mxD)=some (xs.map fun x=>shD (x.1,x.2.2.2)):=dW _ fun x _=>rfl
 have hc:=dO (n:=2) (js:=[]) (fi:=fT (aD 0)) (tg:=iT 2 (b8 (aG 0) (b8 (aG 1) iV))) (ft:=e9) (fe:=eZ K c) (en:=[some (.p (.list (xs.map mxD)))]) (ds:=xs.map mxD) rfl (by rw [List.length_map];omega) hm
 have e:(xs.map fun x=>shD (x.1,x.2.2.2))=(xs.map fun x=>(x.1,x.2.2.2)).map shD:=by rw [List.map_map];rfl
 rw [e] at hc
 unfold eS
 refine gW ?_
 ktr_call 3 ⟨aM,aB,aN,hc,Res.bind,Ev.c,cH,bY,gP,h,gT⟩
noncomputable def fM (K:PySem.W.Frag) (c:Cls):En->Res Ev:=(aH bH (aB (aM 2 (bB K c) (aB (aD 0) (aB (aH aBl (aB (aD 2) aN)) aN))) (aB (aD 1) aN)))
noncomputable def cL (K:PySem.W.Frag) (c:Cls):MS:=(cB (cW 3 (aM 2 (cG K c) (aB (aD 0) (aB (aD 2) aN)))) (gS (aZ (aE gtE (aH aIo (aB (aD 3) aN)) (mC (.int 0)))) (fun en=>(cB (cW 4 (dG 2 [3] (lS zL (aB (aD 3) (aB (aD 2) aN))) (iT 2 (b8 (aG 0) (b8 (aG 1) iV))) e9 (fM K c))) (gS (jR (aZ (aM 2 (iH K c) (aB (aM 1 (bJ K c) (aB (aD 4) aN)) (aB (aE ixE (aD 0) (mC (.int 2))) aN))))) (cY (aD 4)) cS)) (frz 3 en)) cS))
noncomputable def jA (K:PySem.W.Frag) (c:Cls):MS:=(vJ (fT (aD 1)) (aG 2) (cL K c))
noncomputable def dB (K:PySem.W.Frag) (c:Cls) (ls:List L):Res L:=dX 5 (jA K c) ls
theorem sJ (K:PySem.W.Frag) (c:Cls):∀ ls,dB K c ls=.bad\/dX 5 (jA K c) ls=dB K c ls:=fun _=>.inr rfl
theorem zK {α β:Type} (f:α->D) (g:β->D):∀ (xs:List α) (ys:List β),vI (xs.map f) (ys.map g)=(xs.zip ys).map fun x=>.tuple [f x.1,g x.2]
 | [],_=>by simp [vI]
 | _ :: _,[]=>by simp [vI]
 | x :: xs,y :: ys=>by
  show PyData.tuple [f x,g y] :: vI (xs.map f) (ys.map g)=_
  rw [zK f g xs ys]
  rfl
def mnw:List Int->Int
 | []=>0
 | i :: is=>aEi i is
theorem xI:∀ (is:List Int) (i:Int),∀ x∈i :: is,aEi i is<=x
 | [],i,x,hx=>by rw [List.mem_singleton.mp hx];exact Int.le_refl _
 | j :: is,i,x,hx=>by
  have ih:=xI is (if j < i then j else i)
  have e:aEi i (j :: is)=aEi (if j < i then j else i) is:=rfl
  have h0:=ih _ (.head _)
  have hi:(if j < i then j else i)<=i:=by split<;>omega
  have hj:(if j < i then j else i)<=j:=by split<;>omega
  rw [e]
  rcases List.mem_cons.mp hx with z | z
  ·rw [z];exact Int.le_trans h0 hi
  ·rcases List.mem_cons.mp z with w | w
   ·rw [w];exact Int.le_trans h0 hj
   ·exact ih x (.tail _ w)
theorem aH1 {ws:List Int} (h:ws≠[]) {x:Ev} (hx:iS x=some (ws.map .int)):aIo [x]=.ok (.p (.int (mnw ws))):=by
 cases ws with
 | nil=>exact absurd rfl h
 | cons i is=>simp only [aIo,hx,kR];rfl
theorem aDg:∀ (ws:List Int),(∀ x∈ws,0 < x/\Sz 12 x)->ws≠[]->0 < ws.sum
 | [x],h,_=>by have:=(h x (.head _)).1;simpa using this
 | x :: y :: ws,h,_=>by
  have:=(h x (.head _)).1
  have ih:=aDg (y :: ws) (fun z hz=>h z (.tail _ hz)) (List.cons_ne_nil _ _)
  rw [List.sum_cons]
  omega
theorem aH2:∀ (ws:List Int),(∀ x∈ws,Sz 12 x)->ws.length<=3->Sz 20 ws.sum
 | ws,h,hl=>by
  have:∀ (ws:List Int),(∀ x∈ws,Sz 12 x)->ws.sum.natAbs<=4096*ws.length:=by
   intro ws
   induction ws with
   | nil=>intro _;exact Nat.le_refl _
   | cons x ws ih =>
    intro h
    have h1:x.natAbs < 2 ^ 12:=h x (.head _)
    have h2:=ih fun y hy=>h y (.tail _ hy)
    rw [List.sum_cons,List.length_cons]
    have:=Int.natAbs_add_le x ws.sum
    omega
  have:=this ws h
  unfold Sz
  omega
def g9 (p:Pl) (g:List Pl):List ((Int×Int)×Pl):=((wE p g).zip g).map fun x=>(FR.mk x.1 (wE p g).sum,x.2)
def uK (p:Pl) (g:List Pl):Bool:=decide (mnw (wE p g) > 0) && !ltF (mhF (g9 p g)) p.2.2
theorem aR7 (K:PySem.W.Frag) (c:Cls) {p:Pl} {g:List Pl} (A:Option L) (h1:SP p) (hp:Good 200 p.2.2) (h2:∀ q∈g,SP q/\Good 200 q.2.2) (h3:g.length=2\/g.length=3) (r3 r4:Option L):(uK p g=false/\∃ q3 q4,cL K c [some (.p (plD p)),A,some (.p (gD g)),r3,r4]=some (.nx [some (.p (plD p)),A,some (.p (gD g)),q3,q4]))\/uK p g=true/\cL K c [some (.p (plD p)),A,some (.p (gD g)),r3,r4]=some (.rt (.o (.list ((g9 p g).map mxD)))):=by
 unfold uK g9
 obtain ⟨ws,w0,w1,w2,w3⟩:=aLu K c (p:=p) (g:=g) h1 (fun q hq=>(h2 q hq).1) h3
 rw [<- w0]
 clear w0
 have wn:ws≠[]:=fun z=>by rw [z] at w1;simp at w1;omega
 obtain ⟨lw,h5,h6⟩:∃ lw:L,(lw=.p (iD ws)\/lw=.o (iD ws))/\(cW 3 (aM 2 (cG K c) (aB (aD 0) (aB (aD 2) aN)))) [some (.p (plD p)),A,some (.p (gD g)),r3,r4]=some (.nx [some (.p (plD p)),A,some (.p (gD g)),some lw,r4]):=by
  rcases w3 with w3 | w3
  ·refine ⟨_,.inl rfl,hZ ?_⟩
   ktr_call 3 ⟨aM,aB,aN,aD,Res.bind,Ev.c,cH,bY,gP,w3,gT⟩
  ·refine ⟨_,.inr rfl,gY ?_⟩
   ktr_call 3 ⟨aM,aB,aN,aD,Res.bind,Ev.c,cH,bY,gP,w3,gT⟩
 have tt:aZ (aE gtE (aH aIo (aB (aD 3) aN)) (mC (.int 0))) [some (.p (plD p)),A,some (.p (gD g)),some lw,r4]=.ok (decide (mnw ws > 0)):=by
  rcases h5 with rfl | rfl
  ·have hm:=aH1 wn (x:=.p (iD ws)) rfl
   ktr_call 3 ⟨aZ,aE,aH,aB,aN,aD,mC,Res.bind,Ev.c,hm,gtE,eP,bE⟩
  ·have hm:=aH1 wn (x:=.b (iD ws)) rfl
   ktr_call 3 ⟨aZ,aE,aH,aB,aN,aD,mC,Res.bind,Ev.c,hm,gtE,eP,bE⟩
 by_cases z:mnw ws > 0
 ·rw [decide_eq_true z] at tt
  have fz:frz 3 [some (.p (plD p)),A,some (.p (gD g)),some lw,r4]=[some (.p (plD p)),A,some (.p (gD g)),some (.p (iD ws)),r4]:=by
   rcases h5 with rfl | rfl<;>rfl
  have pos:∀ x∈ws,0 < x/\Sz 12 x:=fun x hx=>⟨by
   cases ws with
   | nil=>exact absurd rfl wn
   | cons i is=>have:=xI is i x hx;have:0 < aEi i is:=z;omega,w2 x hx⟩
  have sp:=aDg ws pos wn
  have sz:=aH2 ws w2 (by omega)
  have hs:aBl [.p (iD ws)]=.ok (.p (.int ws.sum)):=by simp only [aBl,iD,iS,kR]
  have hit:(lS zL (aB (aD 3) (aB (aD 2) aN))) [some (.p (plD p)),A,some (.p (gD g)),some (.p (iD ws)),r4]=.ok ((ws.zip g).map fun x=>.tuple [.int x.1,plD x.2]):=by
   ktr_call 3 ⟨lS,aB,aN,aD,Res.bind,Ev.c,zL,iD,gD,zK⟩
  have hm:kH (aQ 2 [3] (iT 2 (b8 (aG 0) (b8 (aG 1) iV))) e9 (fM K c) [some (.p (plD p)),A,some (.p (gD g)),some (.p (iD ws)),r4]) ((ws.zip g).map fun x=>.tuple [.int x.1,plD x.2])=some ((ws.zip g).map fun x=>mxD (FR.mk x.1 ws.sum,x.2)):=by
   refine dW _ fun x hx=>?_
   have hf:=kC K c (t:=x.1) (b:=ws.sum) (by omega) (sz.mono (by decide))
   have he:fM K c [some (.p (.int x.1)),some (.p (plD x.2)),some (.p (iD ws))]=.ok (.p (mxD (FR.mk x.1 ws.sum,x.2))):=by
    ktr_call 3 ⟨fM,aH,aM,aB,aN,aD,Res.bind,Ev.c,cH,bY,gP,hs,hf,gT,bH,hV⟩
    rfl
   unfold aQ
   ktr_call 3 ⟨iT,b8,iV,aG,kF,pQ,e9,List.replicate,List.cons_append,List.nil_append,he,Ev.c⟩
  have hc:=dO (n:=2) (js:=[3]) hit (by rw [List.length_map,List.length_zip];omega) hm
  have e:((ws.zip g).map fun x=>mxD (FR.mk x.1 ws.sum,x.2))=((ws.zip g).map fun x=>(FR.mk x.1 ws.sum,x.2)).map mxD:=by rw [List.map_map];rfl
  rw [e] at hc
  generalize hxs:((ws.zip g).map fun x=>(FR.mk x.1 ws.sum,x.2))=xs at hc ⊢
  have gx:∀ x∈xs,Good 60 x.1/\Good 200 x.2.2.2:=fun x hx=>by
   rw [<- hxs] at hx
   obtain ⟨y,hy,rfl⟩:=List.mem_map.mp hx
   obtain ⟨y1,y2⟩:=List.of_mem_zip hy
   exact ⟨mW ((w2 _ y1).mono (by decide)) (sz.mono (by decide)) (by omega),(h2 _ y2).2⟩
  have lx:xs.length<=3:=by rw [<- hxs,List.length_map,List.length_zip];omega
  obtain ⟨gt,ht⟩:=aM0 K c lx gx
  rw [decide_eq_true z]
  generalize mhF xs=t at gt ht ⊢
  have hl:=lW K c (x:=t) (y:=p.2.2) (gt.mono (by decide)).fsz (hp.mono (by decide)).fsz
  have hff:uQ (.p (frD t))=true:=by simp [uQ,aLz]
  have t2:(jR (aZ (aM 2 (iH K c) (aB (aM 1 (bJ K c) (aB (aD 4) aN)) (aB (aE ixE (aD 0) (mC (.int 2))) aN))))) [some (.p (plD p)),A,some (.p (gD g)),some (.p (iD ws)),some (.o (.list (xs.map mxD)))]=.ok (!ltF t p.2.2):=by
   ktr_call 3 ⟨jR,aZ,aM,aB,aN,aD,mC,aE,lD,Res.bind,Ev.c,cH,bY,gP,wK,ht,hff,hl,gT,bE⟩
  have run:∀ {o:Option Out},(gS (jR (aZ (aM 2 (iH K c) (aB (aM 1 (bJ K c) (aB (aD 4) aN)) (aB (aE ixE (aD 0) (mC (.int 2))) aN))))) (cY (aD 4)) cS) [some (.p (plD p)),A,some (.p (gD g)),some (.p (iD ws)),some (.o (.list (xs.map mxD)))]=o->cL K c [some (.p (plD p)),A,some (.p (gD g)),r3,r4]=o:=fun h=>by
   unfold cL
   refine (aR h6).trans ((pR tt).trans ?_)
   rw [fz]
   exact (aR (gY hc)).trans h
  cases b:ltF t p.2.2 with
  | true =>
   rw [b] at t2
   exact .inl ⟨rfl,_,_,run (j3 t2)⟩
  | false =>
   rw [b] at t2
   exact .inr ⟨rfl,run ((pR t2).trans rfl)⟩
 ·rw [decide_eq_false z] at tt
  left
  rw [decide_eq_false z]
  refine ⟨rfl,some lw,r4,?_⟩
  unfold cL
  exact (aR h6).trans (j3 tt)
theorem aCv (K:PySem.W.Frag) (c:Cls) {p:Pl} (A:Option L) (h1:SP p) (hp:Good 200 p.2.2) {g0:List Pl}:∀ (gs:List (List Pl)) (r2 r3 r4:Option L),(∀ g∈gs,(g.length=2\/g.length=3)/\∀ q∈g,SP q/\Good 200 q.2.2)->gs.find? (uK p)=some g0->fB (aG 2) (cL K c) (gs.map gD) [some (.p (plD p)),A,r2,r3,r4]=some (.rt (.o (.list ((g9 p g0).map mxD))))
 | [],r2,r3,r4,_,e=>nomatch e
 | g :: gs,r2,r3,r4,h,e=>by
  obtain ⟨h3,h2⟩:=h g (.head _)
  rw [List.map_cons]
  rcases aR7 K c A h1 hp h2 h3 r3 r4 with ⟨f,q3,q4,hb⟩ | ⟨f,hb⟩
  ·rw [aAh rfl hb]
   rw [List.find?_cons,f] at e
   exact aCv K c A h1 hp gs _ _ _ (fun x hx=>h x (.tail _ hx)) e
  ·rw [List.find?_cons,f] at e
   have e:=Option.some.inj e
   rw [aQ7 rfl hb,e]
theorem aPu (K:PySem.W.Frag) (c:Cls) {p:Pl} {gs:List (List Pl)} (h1:SP p) (hp:Good 200 p.2.2) (h:∀ g∈gs,(g.length=2\/g.length=3)/\∀ q∈g,SP q/\Good 200 q.2.2) {g0:List Pl} (hg:gs.find? (uK p)=some g0):dB K c [.p (plD p),.p (.list (gs.map gD))]=.ok (.o (.list ((g9 p g0).map mxD))):=by
 have es:a7 5 [.p (plD p),.p (.list (gs.map gD))]=[some (.p (plD p)),some (.p (.list (gs.map gD))),none,none,none]:=rfl
 refine bI ?_
 rw [es]
 unfold jA
 exact (nP rfl).trans (aCv K c (some (.p (.list (gs.map gD)))) h1 hp gs none none none h hg)
theorem aL2 {α:Type} (f:α->D) (xs:List α) (d:α) {k:Nat} (h:k < xs.length):atI (xs.map f) (k:Int)=some (f (xs.getD k d)):=by
 have:xs.getD k d=xs[k]:=by simp [List.getD,h]
 rw [this]
 exact nZ (by rw [List.getElem?_map,List.getElem?_eq_getElem h];rfl)
def rgD (j m:Nat):List D:=(List.range' j m).map fun k:Nat=>PyData.int (k:Int)
theorem aHi (j m:Nat):rgD j (m+1)=.int (j:Int) :: rgD (j+1) m:=rfl
theorem aM5 (a n:Nat):zU (a:Int) n=rgD a n:=by
 unfold zU rgD
 rw [List.range'_eq_map_range,List.map_map]
 refine List.map_congr_left fun k _=>?_
 show PyData.int ((a:Int)+(k:Int))=.int ((a+k:Nat):Int)
 rw [Int.natCast_add]
theorem aK6 (a n:Nat) (h1:a<=1000) (h2:n<=1000):zN [.p (.int (a:Int)),.p (.int (n:Int))]=.ok (rgD a (n - a)):=by
 unfold zN
 rw [<- aM5,show n - a=((n:Int) - (a:Int)).toNat by omega]
 exact if_pos ⟨by omega,by omega,by omega,by omega⟩
theorem aMv (S:List Pl) (k:Nat) (h:k < S.length):M.cutD (S.map plD) (some ((k+1:Nat):Int)) none=(S.drop (k+1)).map plD:=by
 unfold M.cutD
 rw [HT.aFn,HT.aAy,List.length_map,Nat.min_eq_left (by omega),List.take_of_length_le (by rw [List.length_drop,List.length_map];omega),List.map_drop]
theorem aEa {α:Type} {xs:List α} {k:Nat} (h:k < xs.length) (d:α):xs.getD k d=xs[k]:=by simp [List.getD,h]
theorem getD_in {α:Type} {xs:List α} {k:Nat} (h:k < xs.length) (d:α):xs.getD k d∈xs:=by rw [aEa h];exact List.getElem_mem h
def z0:Pl:=(0,0,(0,1))
theorem aSh {S:List Pl} {k:Nat} (h:k < S.length):ixE (.p (.list (S.map plD))) (.p (.int (k:Int)))=.ok (.p (plD (S.getD k z0))):=by
 have:=aL2 plD S z0 h
 simp only [ixE,j6,this]
noncomputable def cP (K:PySem.W.Frag) (c:Cls):En->Res Ev:=(aH gB (aB (aD 2) (aB (aE ixE (aD 3) (aD 1)) (aB (aD 0) aN))))
noncomputable def cO (K:PySem.W.Frag) (c:Cls):MS:=(cB (lF 1 (aH gB (aB (aD 4) (aB (aE ixE (aD 0) (aD 5)) aN)))) (lQ 2 (dG 1 [5,4,0] (fT (mSl (aD 0) (mPt (aE lA (aD 5) (mC (.int 1)))) aPk)) (aG 0) e9 (cP K c))))
noncomputable def dM (K:PySem.W.Frag) (c:Cls):MS:=(vJ (lS zN (aB (aE lA (aD 3) (mC (.int 1))) (aB (aH gF (aB (aD 0) aN)) aN))) (aG 5) (cO K c))
noncomputable def dE (K:PySem.W.Frag) (c:Cls):MS:=(cB (cW 1 (aH gB aN)) (cB (cW 2 (aH gB aN)) (cB (vJ (lS aE9 (aB (aD 0) aN)) (iT 2 (b8 (aG 3) (b8 (aG 4) iV))) (dM K c)) (cY (aE lA (aD 1) (aD 2))))))
noncomputable def bC (K:PySem.W.Frag) (c:Cls) (ls:List L):Res L:=dX 6 (dE K c) ls
theorem k9 (K:PySem.W.Frag) (c:Cls):∀ ls,bC K c ls=.bad\/dX 6 (dE K c) ls=bC K c ls:=fun _=>.inr rfl
theorem aQf (K:PySem.W.Frag) (c:Cls) {S:List Pl} (hS:S.length<=30) {ps ts:List (List Pl)} (h1:ps.length<=20000) (h2:ts.length<=50000) (k3:Option L) (one:Pl) {m:Nat} (hm:m < S.length):cO K c [some (.p (.list (S.map plD))),some (.o (.list (ps.map gD))),some (.o (.list (ts.map gD))),k3,some (.p (plD one)),some (.p (.int (m:Int)))]=some (.nx [some (.p (.list (S.map plD))),some (.o (.list ((ps++[[one,S.getD m z0]]).map gD))),some (.o (.list ((ts++(S.drop (m+1)).map fun l=>[one,S.getD m z0,l]).map gD))),k3,some (.p (plD one)),some (.p (.int (m:Int)))]):=by
 have i:=aSh hm
 have e1:(aH gB (aB (aD 4) (aB (aE ixE (aD 0) (aD 5)) aN))) [some (.p (.list (S.map plD))),some (.o (.list (ps.map gD))),some (.o (.list (ts.map gD))),k3,some (.p (plD one)),some (.p (.int (m:Int)))]=.ok (.f (gD [one,S.getD m z0])):=by
  ktr_call 3 ⟨aH,gB,hV,aB,aN,aE,aD,Res.bind,Ev.c,i⟩
  rfl
 have ek1:((m:Int)+1)=((m+1:Nat):Int):=rfl
 have cu:=aMv S m hm
 have hit:(fT (mSl (aD 0) (mPt (aE lA (aD 5) (mC (.int 1)))) aPk)) [some (.p (.list (S.map plD))),some (.o (.list ((ps++[[one,S.getD m z0]]).map gD))),some (.o (.list (ts.map gD))),k3,some (.p (plD one)),some (.p (.int (m:Int)))]=.ok ((S.drop (m+1)).map plD):=by
  ktr_call 3 ⟨fT,mSl,aD,mC,aE,lA,Res.bind,Ev.c,iS,aPk,mPt,ek1,cu,aFr⟩
 have hm2:kH (aQ 1 [5,4,0] (aG 0) e9 (cP K c) [some (.p (.list (S.map plD))),some (.o (.list ((ps++[[one,S.getD m z0]]).map gD))),some (.o (.list (ts.map gD))),k3,some (.p (plD one)),some (.p (.int (m:Int)))]) ((S.drop (m+1)).map plD)=some ((S.drop (m+1)).map fun l=>gD [one,S.getD m z0,l]):=by
  refine dW _ fun l _=>?_
  have he:cP K c [some (.p (plD l)),some (.p (.int (m:Int))),some (.p (plD one)),some (.p (.list (S.map plD)))]=.ok (.f (gD [one,S.getD m z0,l])):=by
   ktr_call 3 ⟨cP,aH,gB,hV,aB,aN,aE,aD,Res.bind,Ev.c,i⟩
   rfl
  unfold aQ
  ktr_call 3 ⟨aG,kF,pQ,e9,List.replicate,List.cons_append,List.nil_append,he,Ev.c⟩
 have hc:=dO (n:=1) (js:=[5,4,0]) hit (by rw [List.length_map,List.length_drop];omega) hm2
 unfold cO
 refine (aR (aOg (i:=1) (ds:=ps.map gD) rfl (.inl e1) (by rw [List.length_map];omega))).trans ?_
 simp only [List.set_cons_succ,List.set_cons_zero]
 rw [show (ps.map gD++[gD [one,S.getD m z0]])=(ps++[[one,S.getD m z0]]).map gD by rw [List.map_append];rfl]
 have et:(ts.map gD++(S.drop (m+1)).map fun l=>gD [one,S.getD m z0,l])=(ts++(S.drop (m+1)).map fun l=>[one,S.getD m z0,l]).map gD:=by rw [List.map_append,List.map_map];rfl
 rw [aMa (i:=2) (ds:=ts.map gD) rfl hc (by rw [List.length_map,List.length_map,List.length_drop];omega),et]
 rfl
def prs:List Pl->List (List Pl)
 | []=>[]
 | x :: r=>(r.map fun y=>[x,y])++prs r
def trs:List Pl->List (List Pl)
 | []=>[]
 | x :: r=>((prs r).map fun g=>x :: g)++trs r
theorem zB (x:Pl) (r:List Pl):prs (x :: r)=(r.map fun y=>[x,y])++prs r:=rfl
theorem aFu (x:Pl) (r:List Pl):trs (x :: r)=((prs r).map fun g=>x :: g)++trs r:=rfl
def grp (S:List Pl):List (List Pl):=prs S++trs S
theorem sE:∀ S:List Pl,(prs S).length<=S.length*S.length
 | []=>Nat.le_refl _
 | x :: r=>by
  have:=sE r
  unfold prs
  rw [List.length_append,List.length_map,List.length_cons,Nat.succ_mul,Nat.mul_succ]
  omega
theorem drop_getD {S:List Pl} {j:Nat} (h:j < S.length):S.drop j=S.getD j z0 :: S.drop (j+1):=by
 rw [aEa h]
 exact List.drop_eq_getElem_cons h
theorem aMj (K:PySem.W.Frag) (c:Cls) {S:List Pl} (hS:S.length<=30) (k3:Option L) (one:Pl):∀ (m j:Nat) (ps ts:List (List Pl)) (r5:Option L),j+m=S.length->ps.length+m<=20000->ts.length+30*m<=50000->∃ (q5:Option L),fB (aG 5) (cO K c) (rgD j m) [some (.p (.list (S.map plD))),some (.o (.list (ps.map gD))),some (.o (.list (ts.map gD))),k3,some (.p (plD one)),r5]=some (.nx [some (.p (.list (S.map plD))),some (.o (.list ((ps++(S.drop j).map fun y=>[one,y]).map gD))),some (.o (.list ((ts++(prs (S.drop j)).map fun g=>one :: g).map gD))),k3,some (.p (plD one)),q5])
 | 0,j,ps,ts,r5,hj,_,_=>⟨r5,by rw [List.drop_eq_nil_of_le (by omega)];show _=some (Out.nx [_,some (.o (.list ((ps++[]).map gD))),some (.o (.list ((ts++[]).map gD))),_,_,_]);rw [List.append_nil,List.append_nil];rfl⟩
 | m+1,j,ps,ts,r5,hj,hp,ht=>by
  have hb:=aQf K c hS (ps:=ps) (ts:=ts) (by omega) (by omega) k3 one (m:=j) (by omega)
  have dl:((S.drop (j+1)).map fun l=>[one,S.getD j z0,l]).length<=30:=by rw [List.length_map,List.length_drop];omega
  obtain ⟨q5,ih⟩:=aMj K c hS k3 one m (j+1) (ps++[[one,S.getD j z0]]) (ts++(S.drop (j+1)).map fun l=>[one,S.getD j z0,l]) (some (.p (.int (j:Int)))) (by omega) (by rw [List.length_append];simp;omega) (by rw [List.length_append];omega)
  refine ⟨q5,?_⟩
  rw [aHi,aAh rfl hb,ih,drop_getD (show j < S.length by omega)]
  rw [zB,List.append_assoc,List.append_assoc,List.map_append (f:=fun g=>one :: g),List.map_map]
  rfl
theorem aIn (K:PySem.W.Frag) (c:Cls) {S:List Pl} (hS:S.length<=30):∀ (n k:Nat) (ps ts:List (List Pl)) (r3 r4 r5:Option L),k+n=S.length->ps.length+30*n<=20000->ts.length+900*n<=50000->∃ (q3 q4 q5:Option L),fB (iT 2 (b8 (aG 3) (b8 (aG 4) iV))) (dM K c) (pI k ((S.drop k).map plD)) [some (.p (.list (S.map plD))),some (.o (.list (ps.map gD))),some (.o (.list (ts.map gD))),r3,r4,r5]=some (.nx [some (.p (.list (S.map plD))),some (.o (.list ((ps++prs (S.drop k)).map gD))),some (.o (.list ((ts++trs (S.drop k)).map gD))),q3,q4,q5])
 | 0,k,ps,ts,r3,r4,r5,hk,_,_=>⟨r3,r4,r5,by rw [List.drop_eq_nil_of_le (by omega)];show _=some (Out.nx [_,some (.o (.list ((ps++[]).map gD))),some (.o (.list ((ts++[]).map gD))),_,_,_]);rw [List.append_nil,List.append_nil];rfl⟩
 | n+1,k,ps,ts,r3,r4,r5,hk,hp,ht=>by
  have dk:=drop_getD (show k < S.length by omega)
  generalize S.getD k z0=q at dk
  obtain ⟨q5,hi⟩:=aMj K c hS (some (.p (.int (k:Int)))) q (S.length - (k+1)) (k+1) ps ts r5 (by omega) (by omega) (by omega)
  have hlen:gF [.p (.list (S.map plD))]=.ok (.p (.int (S.length:Nat))):=by simp [gF,j6]
  have hit:(lS zN (aB (aE lA (aD 3) (mC (.int 1))) (aB (aH gF (aB (aD 0) aN)) aN))) [some (.p (.list (S.map plD))),some (.o (.list (ps.map gD))),some (.o (.list (ts.map gD))),some (.p (.int (k:Int))),some (.p (plD q)),r5]=.ok (rgD (k+1) (S.length - (k+1))):=aSk (a:=.int ((k+1:Nat):Int)) (b:=.int (S.length:Nat)) rfl (by ktr_call 3 ⟨aH,aB,aN,aD,Res.bind,Ev.c,hlen⟩) (aK6 (k+1) S.length (by omega) (by omega))
  have l1:((S.drop (k+1)).map fun y=>[q,y]).length<=30:=by rw [List.length_map,List.length_drop];omega
  have l2:((prs (S.drop (k+1))).map fun g=>q :: g).length<=900:=by
   rw [List.length_map]
   have a:=sE (S.drop (k+1))
   have b:(S.drop (k+1)).length<=30:=by rw [List.length_drop];omega
   exact Nat.le_trans a (Nat.mul_le_mul b b)
  obtain ⟨q3,q4,q5',ih⟩:=aIn K c hS n (k+1) _ _ (some (.p (.int (k:Int)))) (some (.p (plD q))) q5 (by omega) (show (ps++(S.drop (k+1)).map fun y=>[q,y]).length+30*n<=20000 by rw [List.length_append];omega) (show (ts++(prs (S.drop (k+1))).map fun g=>q :: g).length+900*n<=50000 by rw [List.length_append];omega)
  refine ⟨q3,q4,q5',?_⟩
  rw [dk]
  show fB _ _ (.tuple [.int (k:Int),plD q] :: pI (k+1) ((S.drop (k+1)).map plD)) _=_
  rw [aAh rfl (show dM K c _=_ from (nP hit).trans hi),ih,zB,aFu,List.append_assoc,List.append_assoc]
theorem aQu (K:PySem.W.Frag) (c:Cls) {S:List Pl} (hS:S.length<=30):bC K c [.p (.list (S.map plD))]=.ok (.o (.list ((grp S).map gD))):=by
 obtain ⟨q3,q4,q5,h⟩:=aIn K c hS S.length 0 [] [] none none none (by omega) (by rw [List.length_nil];omega) (by rw [List.length_nil];omega)
 rw [List.drop_zero,List.nil_append,List.nil_append] at h
 unfold bC
 refine bI ?_
 rw [show a7 6 [.p (.list (S.map plD))]=[some (.p (.list (S.map plD))),none,none,none,none,none] from rfl]
 unfold dE
 have hit:(lS aE9 (aB (aD 0) aN)) [some (.p (.list (S.map plD))),some (.o (.list (([]:List (List Pl)).map gD))),some (.o (.list (([]:List (List Pl)).map gD))),none,none,none]=.ok (pI 0 (S.map plD)):=rfl
 refine (aR (gY (d:=.list (([]:List (List Pl)).map gD)) rfl)).trans ((aR (gY (d:=.list (([]:List (List Pl)).map gD)) rfl)).trans ?_)
 simp only [List.set_cons_succ,List.set_cons_zero]
 refine (aR ((nP hit).trans h)).trans (oH ?_)
 have l1:=sE S
 have l1:(prs S).length<=900:=Nat.le_trans l1 (Nat.mul_le_mul hS hS)
 have l2:(trs S).length<=27000:=by
  have:∀ (n:Nat) (T:List Pl),T.length<=n->n<=30->(trs T).length<=900*n:=by
   intro n
   induction n with
   | zero=>intro T h _;rw [List.length_eq_zero_iff.mp (Nat.le_zero.mp h)];exact Nat.le_refl _
   | succ n ih =>
    intro T h hn
    cases T with
    | nil=>exact Nat.zero_le _
    | cons x r =>
     have h:r.length<=n:=Nat.le_of_succ_le_succ h
     have a:=ih r h (by omega)
     have b:(prs r).length<=900:=Nat.le_trans (sE r) (Nat.mul_le_mul (show r.length<=30 by omega) (show r.length<=30 by omega))
     unfold trs
     rw [List.length_append,List.length_map]
     omega
  exact this 30 S hS (Nat.le_refl _)
 have ad:lA (.b (.list ((prs S).map gD))) (.b (.list ((trs S).map gD)))=.ok (.f (.list ((grp S).map gD))):=by
  unfold lA grp
  dsimp only [iS]
  rw [if_pos (by rw [List.length_map,List.length_map];omega),List.map_append]
 ktr_call 3 ⟨aE,aD,Res.bind,Ev.c,ad⟩
theorem xH:∀ {S g:List Pl},g∈prs S->g.Sublist S/\g.length=2
 | x :: r,g,h=>by
  unfold prs at h
  rcases List.mem_append.mp h with h | h
  ·obtain ⟨y,hy,rfl⟩:=List.mem_map.mp h
   exact ⟨.cons_cons x (List.singleton_sublist.mpr hy),rfl⟩
  ·obtain ⟨a,b⟩:=xH h
   exact ⟨.cons x a,b⟩
theorem aBe:∀ {S g:List Pl},g∈trs S->g.Sublist S/\g.length=3
 | x :: r,g,h=>by
  unfold trs at h
  rcases List.mem_append.mp h with h | h
  ·obtain ⟨y,hy,rfl⟩:=List.mem_map.mp h
   obtain ⟨a,b⟩:=xH hy
   exact ⟨.cons_cons x a,by rw [List.length_cons,b]⟩
  ·obtain ⟨a,b⟩:=aBe h
   exact ⟨.cons x a,b⟩
theorem wQ {S g:List Pl} (h:g∈grp S):g.Sublist S/\(g.length=2\/g.length=3):=by
 rcases List.mem_append.mp h with h | h
 ·obtain ⟨a,b⟩:=xH h;exact ⟨a,.inl b⟩
 ·obtain ⟨a,b⟩:=aBe h;exact ⟨a,.inr b⟩
theorem xP {a b:Pl}:∀ {S:List Pl},[a,b].Sublist S->[a,b]∈prs S
 | x :: r,h=>by
  cases h with
  | cons _ h=>exact List.mem_append_right _ (xP h)
  | cons_cons _ h=>exact List.mem_append_left _ (List.mem_map.mpr ⟨b,List.singleton_sublist.mp h,rfl⟩)
theorem aHl {a b d:Pl}:∀ {S:List Pl},[a,b,d].Sublist S->[a,b,d]∈trs S
 | x :: r,h=>by
  cases h with
  | cons _ h=>exact List.mem_append_right _ (aHl h)
  | cons_cons _ h=>exact List.mem_append_left _ (List.mem_map.mpr ⟨[b,d],xP h,rfl⟩)
theorem v9 {a b:Pl} (n:a≠b):∀ (S:List Pl),a∈S->b∈S->[a,b].Sublist S\/[b,a].Sublist S
 | x :: r,ha,hb=>by
  rcases List.mem_cons.mp ha with rfl | ha'
  ·rcases List.mem_cons.mp hb with e | hb'
   ·exact absurd e.symm n
   ·exact .inl (.cons_cons _ (List.singleton_sublist.mpr hb'))
  ·rcases List.mem_cons.mp hb with rfl | hb'
   ·exact .inr (.cons_cons _ (List.singleton_sublist.mpr ha'))
   ·exact (v9 n r ha' hb').imp (.cons x) (.cons x)
theorem tO {P:Pl->Pl->Pl->Prop} (tn:∀ {a b d},P a b d->P b d a) (sw:∀ {a b d},P a b d->P b a d) (ir:∀ {a b},¬ P a a b):∀ (S:List Pl) (a b d:Pl),a∈S->b∈S->d∈S->P a b d->∃ a' b' d',[a',b',d'].Sublist S/\P a' b' d'
 | x :: r,a,b,d,ha,hb,hd,h=>by
  have nab:a≠b:=fun e=>by rw [e] at h;exact ir h
  have nbd:b≠d:=fun e=>by have:=tn h;rw [e] at this;exact ir this
  have nda:d≠a:=fun e=>by have:=tn (tn h);rw [e] at this;exact ir this
  have key:∀ u v w:Pl,u=x->v∈r->w∈r->v≠w->P u v w->∃ a' b' d',[a',b',d'].Sublist (x :: r)/\P a' b' d':=fun u v w e hv hw n h'=>by
   subst e
   rcases v9 n r hv hw with s | s
   ·exact ⟨_,_,_,.cons_cons _ s,h'⟩
   ·exact ⟨_,_,_,.cons_cons _ s,sw (tn (tn h'))⟩
  rcases List.mem_cons.mp ha with ea | ha'
  ·exact key _ _ _ ea ((List.mem_cons.mp hb).resolve_left fun z=>nab (ea.trans z.symm)) ((List.mem_cons.mp hd).resolve_left fun z=>nda (z.trans ea.symm)) nbd h
  ·rcases List.mem_cons.mp hb with eb | hb'
   ·exact key _ _ _ eb ((List.mem_cons.mp hd).resolve_left fun z=>nbd (eb.trans z.symm)) ha' nda (tn h)
   ·rcases List.mem_cons.mp hd with ed | hd'
    ·exact key _ _ _ ed ha' hb' nab (tn (tn h))
    ·obtain ⟨a',b',d',s,q⟩:=tO (P:=P) tn sw ir r a b d ha' hb' hd' h
     exact ⟨a',b',d',.cons x s,q⟩
theorem wR:∀ {S g:List Pl},g.Sublist S->S.Nodup->S.filter (fun x=>decide (x∈g))=g
 | _,_,.slnil,_=>rfl
 | _,_,.cons (l₁:=g) (l₂:=r) x h,nd=>by
  obtain ⟨n1,n2⟩:=List.nodup_cons.mp nd
  rw [List.filter_cons,if_neg (by rw [decide_eq_false (fun z=>n1 (h.subset z))];decide)]
  exact wR h n2
 | _,_,.cons_cons (l₁:=g) (l₂:=r) x h,nd=>by
  obtain ⟨n1,n2⟩:=List.nodup_cons.mp nd
  rw [List.filter_cons,if_pos (decide_eq_true (List.mem_cons_self))]
  congr 1
  refine Eq.trans (List.filter_congr fun y hy=>?_) (wR h n2)
  have:y≠x:=fun z=>n1 (z▸hy)
  rw [decide_eq_decide,List.mem_cons]
  exact ⟨fun z=>z.resolve_left this,.inr⟩
theorem aOv (p:Pl) (ps:List Pl):decide (countIn (plD p) (ps.map plD)≠0)=decide (p∈ps):=by
 rw [decide_eq_decide,countIn_ne_zero,List.mem_map]
 constructor
 ·rintro ⟨q,hq,e⟩
  rw [<- plI e]
  exact hq
 ·intro h
  exact ⟨p,h,rfl⟩
theorem aM3 (p q:Pl):SeqAt.noMix (plD p) (plD q)=true:=by simp [plD,frD,SeqAt.noMix,SeqAt.noMixAll]
theorem x6 (ng:Bool) (p:Pl) (ps:List Pl):pT ng (.p (plD p)) (.p (.list (ps.map plD)))=.ok (.p (.bool (if ng then !decide (p∈ps) else decide (p∈ps)))):=by
 unfold pT
 simp only [dat]
 rw [if_pos ⟨aOy p,yE ps,fun z hz=>by obtain ⟨q,_,rfl⟩:=List.mem_map.mp hz;exact aM3 q p⟩,aOv]
noncomputable def iJ (K:PySem.W.Frag) (c:Cls):En->Res Ev:=(aH bH (aB (aD 0) (aB (aM 2 (dB K c) (aB (aD 0) (aB (aD 1) aN))) aN)))
noncomputable def nR (K:PySem.W.Frag) (c:Cls):MS:=(cB (cW 1 (aM 1 (fF K c) (aB (aD 0) aN))) (fun en=>(cB (cW 2 (aM 1 (bC K c) (aB (aD 1) aN))) (fun en=>(cY (dG 1 [2,1] (fT (aD 0)) (aG 0) (aZ (aE (pT true) (aD 0) (aD 2))) (iJ K c))) (frz 2 en))) (frz 1 en)))
noncomputable def fS (K:PySem.W.Frag) (c:Cls) (ls:List L):Res L:=dX 3 (nR K c) ls
theorem aB7 (K:PySem.W.Frag) (c:Cls):∀ ls,fS K c ls=.bad\/dX 3 (nR K c) ls=fS K c ls:=fun _=>.inr rfl
theorem aCf (K:PySem.W.Frag) (c:Cls) {ps:List Pl} (h1:ps.length<=22) (h2:∀ p∈ps,PG p) {F:Pl->List Pl} (hF:∀ p∈ps,p∉thn ps->(grp (thn ps)).find? (uK p)=some (F p)):fS K c [.p (.list (ps.map plD))]=.ok (.o (.list ((ps.filter fun p=>!decide (p∈thn ps)).map fun p=>.tuple [plD p,.list ((g9 p (F p)).map mxD)]))):=by
 have th:fF K c [.p (.list (ps.map plD))]=.ok (.o (.list ((thn ps).map plD))):=tQ K c h1 h2
 have lt:(thn ps).length<=22:=Nat.le_trans (List.length_filter_le _ _) h1
 have hg:=aQu K c (S:=thn ps) (by omega)
 have good:∀ p∈ps,SP p/\Good 200 p.2.2:=fun p hp=>⟨⟨(h2 p hp).i,(h2 p hp).j⟩,(h2 p hp).h.1,(h2 p hp).h.2.1.mono (by decide),(h2 p hp).h.2.2.mono (by decide)⟩
 have mo:∀ p∈ps,p∉thn ps->dB K c [.p (plD p),.p (.list ((grp (thn ps)).map gD))]=.ok (.o (.list ((g9 p (F p)).map mxD))):=fun p hp np=>aPu K c (good p hp).1 (good p hp).2 (fun g hg=>⟨(wQ hg).2,fun q hq=>good q (sL ((wQ hg).1.subset hq))⟩) (hF p hp np)
 generalize grp (thn ps)=gs at hg mo
 unfold fS
 refine bI ?_
 rw [show a7 3 [.p (.list (ps.map plD))]=[some (.p (.list (ps.map plD))),none,none] from rfl]
 unfold nR
 have e1:(aM 1 (fF K c) (aB (aD 0) aN)) [some (.p (.list (ps.map plD))),none,none]=.ok (.f (.list ((thn ps).map plD))):=by
  ktr_call 3 ⟨aM,aB,aN,aD,Res.bind,Ev.c,cH,bY,gP,th,gT⟩
 refine (aR (gY e1)).trans ?_
 simp only [List.set_cons_succ,List.set_cons_zero,frz,List.getElem?_cons_succ,List.getElem?_cons_zero]
 have e2:(aM 1 (bC K c) (aB (aD 1) aN)) [some (.p (.list (ps.map plD))),some (.p (.list ((thn ps).map plD))),none]=.ok (.f (.list (gs.map gD))):=by
  ktr_call 3 ⟨aM,aB,aN,aD,Res.bind,Ev.c,cH,bY,gP,hg,gT⟩
 refine (aR (gY e2)).trans ?_
 simp only [List.set_cons_succ,List.set_cons_zero,frz,List.getElem?_cons_succ,List.getElem?_cons_zero]
 have hm:kH (aQ 1 [2,1] (aG 0) (aZ (aE (pT true) (aD 0) (aD 2))) (iJ K c) [some (.p (.list (ps.map plD))),some (.p (.list ((thn ps).map plD))),some (.p (.list (gs.map gD)))]) (ps.map plD)=some ((ps.filter fun p=>!decide (p∈thn ps)).map fun p=>.tuple [plD p,.list ((g9 p (F p)).map mxD)]):=by
  refine fK _ fun p hp=>?_
  have nn:=x6 true p (thn ps)
  have t:aZ (aE (pT true) (aD 0) (aD 2)) [some (.p (plD p)),some (.p (.list (gs.map gD))),some (.p (.list ((thn ps).map plD)))]=.ok (!decide (p∈thn ps)):=by
   ktr_call 3 ⟨aZ,aE,aD,Res.bind,Ev.c,nn,bE⟩
  unfold aQ
  by_cases z:p∈thn ps
  ·rw [decide_eq_true z] at t ⊢
   ktr_call 3 ⟨aG,kF,pQ,List.replicate,List.cons_append,List.nil_append,t,Ev.c⟩
   rfl
  ·have h:=mo p hp z
   have e:iJ K c [some (.p (plD p)),some (.p (.list (gs.map gD))),some (.p (.list ((thn ps).map plD)))]=.ok (.p (.tuple [plD p,.list ((g9 p (F p)).map mxD)])):=by
    ktr_call 3 ⟨iJ,aH,aM,aB,aN,aD,Res.bind,Ev.c,cH,bY,gP,h,gT,bH,hV⟩
   rw [decide_eq_false z] at t ⊢
   ktr_call 3 ⟨aG,kF,pQ,List.replicate,List.cons_append,List.nil_append,t,e,Ev.c⟩
   rfl
 have hc:=dO (n:=1) (js:=[2,1]) (fi:=fT (aD 0)) (tg:=aG 0) (ft:=aZ (aE (pT true) (aD 0) (aD 2))) (fe:=iJ K c) (en:=[some (.p (.list (ps.map plD))),some (.p (.list ((thn ps).map plD))),some (.p (.list (gs.map gD)))]) (ds:=ps.map plD) rfl (by rw [List.length_map];omega) hm
 exact oH hc
def eJ (G:Int) (p q:Pl):R3:=(p.1 - q.1,p.2.1 - q.2.1,wt G p.2.2 - wt G q.2.2)
theorem aIw (G:Int) (p q:Pl) (X Y D:Int):(eJ G p q).1*X+(eJ G p q).2.1*Y+(eJ G p q).2.2*D=vv G p X Y D - vv G q X Y D:=by
 unfold eJ vv
 grind
theorem aLi {G:Int} {ps:List Pl} (h:Rf G ps) {p q:Pl} (hp:p∈ps) (ns:stays ps p=false) (hq:q∈thn ps):uv (eJ G p q)≠(0,0):=fun z=>by
 have e:slp p=slp q:=by
  unfold uv eJ at z
  injection z with z1 z2
  dsimp only at z1 z2
  exact Prod.ext (by show p.1=q.1;omega) (by show p.2.1=q.2.1;omega)
 have:=aDu h.u p hp q (sL hq) e
 have st:=(List.mem_filter.mp hq).2
 rw [<- this,ns] at st
 cases st
theorem aAn {G:Int} (hG:1<=G) {ps:List Pl} (h:Rf G ps) {p:Pl} (hp:p∈ps) (ns:stays ps p=false):aF7 ((thn ps).map (eJ G p))\/aPo ((thn ps).map (eJ G p)):=by
 refine aFd (fun r hr=>?_) fun ⟨X,Y,D,hD,hs⟩=>?_
 ·obtain ⟨q,hq,rfl⟩:=List.mem_map.mp hr
  exact aLi h hp ns hq
 ·obtain ⟨q,hq,l⟩:=aLh hG h X Y D hD p hp
  have:=hs _ (List.mem_map.mpr ⟨q,hq,rfl⟩)
  rw [aIw] at this
  omega
def P2 (G:Int) (p q r:Pl):Prop:=cr (uv (eJ G p q)) (uv (eJ G p r))=0/\dt (uv (eJ G p q)) (uv (eJ G p r)) < 0/\dt (uv (eJ G p r)) (uv (eJ G p r))*(eJ G p q).2.2 - dt (uv (eJ G p q)) (uv (eJ G p r))*(eJ G p r).2.2<=0
theorem P2.symm {G:Int} {p q r:Pl} (h:P2 G p q r):P2 G p r q:=by
 unfold P2 at *
 generalize uv (eJ G p q)=u at *
 generalize uv (eJ G p r)=v at *
 generalize (eJ G p q).2.2=a at *
 generalize (eJ G p r).2.2=b at *
 obtain ⟨c,d,l⟩:=h
 have e:dt v u=dt u v:=by unfold dt;grind
 rw [e]
 refine ⟨by unfold cr at *;grind,d,?_⟩
 have un:u≠(0,0):=fun z=>by rw [z] at d;unfold dt at d;simp at d
 have pu:=xT un
 have sq:dt u u*dt v v=dt u v*dt u v:=by unfold dt cr at *;grind
 have i:-dt u v*(dt u u*b - dt u v*a)=dt u u*(dt v v*a - dt u v*b):=by grind
 have k:=Int.mul_nonneg (Int.le_of_lt pu) (show 0<=-(dt v v*a - dt u v*b) by omega)
 rw [Int.mul_neg] at k
 refine Int.not_lt.mp fun z=>?_
 have:=Int.mul_pos (show 0 < -dt u v by omega) z
 omega
def T3 (G:Int) (p q r s:Pl):Prop :=
 (0 < cr (uv (eJ G p r)) (uv (eJ G p s))/\0 < cr (uv (eJ G p s)) (uv (eJ G p q))/\0 < cr (uv (eJ G p q)) (uv (eJ G p r))/\cr (uv (eJ G p r)) (uv (eJ G p s))*(eJ G p q).2.2+cr (uv (eJ G p s)) (uv (eJ G p q))*(eJ G p r).2.2+cr (uv (eJ G p q)) (uv (eJ G p r))*(eJ G p s).2.2<=0) \/
 (cr (uv (eJ G p r)) (uv (eJ G p s)) < 0/\cr (uv (eJ G p s)) (uv (eJ G p q)) < 0/\cr (uv (eJ G p q)) (uv (eJ G p r)) < 0/\0<=cr (uv (eJ G p r)) (uv (eJ G p s))*(eJ G p q).2.2+cr (uv (eJ G p s)) (uv (eJ G p q))*(eJ G p r).2.2+cr (uv (eJ G p q)) (uv (eJ G p r))*(eJ G p s).2.2)
theorem aI8 (u v:Q2):cr v u = -cr u v:=by unfold cr;grind
theorem T3.turn {G:Int} {p q r s:Pl} (h:T3 G p q r s):T3 G p r s q:=by
 unfold T3 at *
 generalize uv (eJ G p q)=u at *
 generalize uv (eJ G p r)=v at *
 generalize uv (eJ G p s)=w at *
 rcases h with ⟨a,b,c,d⟩ | ⟨a,b,c,d⟩
 ·exact .inl ⟨b,c,a,by omega⟩
 ·exact .inr ⟨b,c,a,by omega⟩
theorem T3.swap {G:Int} {p q r s:Pl} (h:T3 G p q r s):T3 G p r q s:=by
 unfold T3 at *
 generalize uv (eJ G p q)=u at *
 generalize uv (eJ G p r)=v at *
 generalize uv (eJ G p s)=w at *
 rw [aI8 w u,aI8 v w,aI8 u v]
 rcases h with ⟨a,b,c,d⟩ | ⟨a,b,c,d⟩
 ·exact .inr ⟨by omega,by omega,by omega,by grind⟩
 ·exact .inl ⟨by omega,by omega,by omega,by grind⟩
theorem aAj {G:Int} (hG:1<=G) {ps:List Pl} (h:Rf G ps) {p:Pl} (hp:p∈ps) (ns:stays ps p=false):(∃ q∈thn ps,∃ r∈thn ps,P2 G p q r)\/∃ q∈thn ps,∃ r∈thn ps,∃ s∈thn ps,T3 G p q r s:=by
 rcases aAn hG h hp ns with ⟨a,ha,b,hb,k⟩ | ⟨a,ha,b,hb,d,hd,k⟩
 ·obtain ⟨q,hq,rfl⟩:=List.mem_map.mp ha
  obtain ⟨r,hr,rfl⟩:=List.mem_map.mp hb
  exact .inl ⟨q,hq,r,hr,k⟩
 ·obtain ⟨q,hq,rfl⟩:=List.mem_map.mp ha
  obtain ⟨r,hr,rfl⟩:=List.mem_map.mp hb
  obtain ⟨s,hs,rfl⟩:=List.mem_map.mp hd
  exact .inr ⟨q,hq,r,hr,s,hs,.inl k⟩
structure Gx (G:Int) (x:Int×Int):Prop where
 f:FR.Fr x
 d:x.2∣G
theorem Gx.p {G:Int} {x y:Int×Int} (h:Gx G x) (k:Gx G y):Gx G (hP x y)/\wt G (hP x y)=wt G x+wt G y:=by
 obtain ⟨a,b⟩:=aN0 h.f.pos k.f.pos h.d k.d
 exact ⟨⟨aQn h.f.pos k.f.pos,a⟩,b⟩
theorem aPr {G:Int} {x y:Int×Int} (hG:1<=G) (hx:Gx G x) (hy:Gx G y):ltF x y=decide (wt G x < wt G y):=by
 unfold ltF
 by_cases h:x.1*y.2 < y.1*x.2
 ·rw [decide_eq_true h]
  have l:=aO6 hG hx.f.pos hy.f.pos hx.d hy.d (Int.le_of_lt h)
  have n:wt G x≠wt G y:=fun e=>by
   have:=aIr hG hx.f hy.f hx.d hy.d e
   rw [this] at h
   omega
  exact (decide_eq_true (by omega)).symm
 ·rw [decide_eq_false h]
  have l:=aO6 hG hy.f.pos hx.f.pos hy.d hx.d (Int.not_lt.mp h)
  exact (decide_eq_false (by omega)).symm
theorem aNt {G w:Int} {x:Int×Int} (hG:1<=G) (f:FR.Fr x) (key:x.1*G=w*x.2):Gx G x/\wt G x=w:=by
 have p:=f.pos
 have hd:x.2∣G:=by
  have d1:x.2∣x.1*G:=⟨w,by rw [key,Int.mul_comm]⟩
  have d2:x.2.natAbs∣x.1.natAbs*G.natAbs:=by
   rw [<- Int.natAbs_mul]
   exact Int.natAbs_dvd_natAbs.mpr d1
  have c:Nat.Coprime x.2.natAbs x.1.natAbs:=by
   have:=f.low
   rw [Int.gcd_comm] at this
   exact this
  exact Int.natAbs_dvd_natAbs.mp (c.dvd_of_dvd_mul_left d2)
 refine ⟨⟨f,hd⟩,?_⟩
 have e3:wt G x*x.2=x.1*G:=w_mul p hd
 exact Int.eq_of_mul_eq_mul_right (a:=x.2) (by omega) (by rw [e3,key])
theorem aPe {G w:Int} (hG:1<=G):Gx G (FR.mk w G)/\wt G (FR.mk w G)=w:=by
 obtain ⟨f,e⟩:=FR.nM (t:=w) (b:=G) (by omega)
 exact aNt hG f e
theorem aQx {A B:Int} (hA:1<=A) (hB:1<=B) {x y:Int×Int} (hx:Gx A x) (hy:Gx B y):Gx (A*B) (FR.mk (x.1*y.1) (x.2*y.2))/\wt (A*B) (FR.mk (x.1*y.1) (x.2*y.2))=wt A x*wt B y:=by
 have p:=cN hx.f.pos hy.f.pos
 obtain ⟨f,e⟩:=FR.nM (t:=x.1*y.1) (b:=x.2*y.2) (by omega)
 refine aNt (cN hA hB) f ?_
 have e1:wt A x*x.2=x.1*A:=w_mul hx.f.pos hx.d
 have e2:wt B y*y.2=y.1*B:=w_mul hy.f.pos hy.d
 generalize FR.mk (x.1*y.1) (x.2*y.2)=m at *
 refine Int.eq_of_mul_eq_mul_right (a:=x.2*y.2) (by omega) ?_
 have a1:m.1*(A*B)*(x.2*y.2)=m.1*(x.2*y.2)*(A*B):=by ac_rfl
 have a2:wt A x*wt B y*m.2*(x.2*y.2)=wt A x*x.2*(wt B y*y.2)*m.2:=by ac_rfl
 rw [a1,a2,e,e1,e2]
 ac_rfl
theorem aPi {A B:Int} (hA:1<=A) (hB:1<=B):∀ (xs:List ((Int×Int)×(Int×Int))) (t:Int×Int),Gx (A*B) t->(∀ x∈xs,Gx A x.1/\Gx B x.2)->Gx (A*B) (ssF t xs)/\wt (A*B) (ssF t xs)=wt (A*B) t+(xs.map fun x=>wt A x.1*wt B x.2).sum
 | [],t,ht,_=>⟨ht,by show _=_+(0:Int);rw [Int.add_zero];rfl⟩
 | x :: xs,t,ht,h=>by
  obtain ⟨a,b⟩:=h x (.head _)
  obtain ⟨p1,p2⟩:=aQx hA hB a b
  obtain ⟨q1,q2⟩:=ht.p p1
  obtain ⟨i1,i2⟩:=aPi hA hB xs _ q1 fun y hy=>h y (.tail _ hy)
  refine ⟨i1,?_⟩
  show wt (A*B) (ssF (hP t (FR.mk (x.1.1*x.2.1) (x.1.2*x.2.2))) xs)=_
  rw [i2,q2,p2,List.map_cons,List.sum_cons]
  omega
theorem gx0 (G:Int):Gx G (0,1)/\wt G (0,1)=0:=⟨⟨⟨Int.le_refl 1,Int.gcd_one⟩,Int.one_dvd _⟩,by unfold wt;simp⟩
theorem aHm {B:Int} (hB:1<=B) {p:Pl} {g:List Pl} (hW:1<=(wE p g).sum) (f:Pl->Int×Int) (hf:∀ q∈g,Gx B (f q)):Gx ((wE p g).sum*B) (ssF (0,1) ((g9 p g).map fun x=>(x.1,f x.2)))/\wt ((wE p g).sum*B) (ssF (0,1) ((g9 p g).map fun x=>(x.1,f x.2)))=(((wE p g).zip g).map fun x=>x.1*wt B (f x.2)).sum:=by
 have e:(g9 p g).map (fun x=>(x.1,f x.2))=((wE p g).zip g).map fun x=>(FR.mk x.1 (wE p g).sum,f x.2):=by
  unfold g9
  rw [List.map_map]
  rfl
 rw [e]
 obtain ⟨a,b⟩:=aPi hW hB (((wE p g).zip g).map fun x=>(FR.mk x.1 (wE p g).sum,f x.2)) (0,1) (gx0 _).1 (fun x hx=>by
  obtain ⟨y,hy,rfl⟩:=List.mem_map.mp hx
  exact ⟨(aPe hW).1,hf _ (List.of_mem_zip hy).2⟩)
 refine ⟨a,?_⟩
 rw [b,(gx0 _).2,Int.zero_add,List.map_map]
 congr 1
 refine List.map_congr_left fun x _=>?_
 show wt _ (FR.mk x.1 _)*_=_
 rw [(aPe hW).2]
theorem aLf {p q r:Pl} (h:tz p q r=0):dtz p r r*(q.1 - p.1) - dtz p q r*(r.1 - p.1)=0/\dtz p r r*(q.2.1 - p.2.1) - dtz p q r*(r.2.1 - p.2.1)=0:=by
 unfold tz at h
 unfold dtz
 constructor<;>grind
theorem aMp (p q r s:Pl):tz p r s*(q.1 - p.1)+tz p s q*(r.1 - p.1)+tz p q r*(s.1 - p.1)=0/\tz p r s*(q.2.1 - p.2.1)+tz p s q*(r.2.1 - p.2.1)+tz p q r*(s.2.1 - p.2.1)=0:=by
 unfold tz
 constructor<;>grind
theorem aEw (G:Int) (p q r:Pl):cr (uv (eJ G p q)) (uv (eJ G p r))=tz p q r/\dt (uv (eJ G p q)) (uv (eJ G p r))=dtz p q r:=by
 unfold cr dt uv eJ tz dtz
 constructor<;>grind
theorem aQ0 {a b:Int}:mnw [a,b] > 0↔0 < a/\0 < b:=by
 show (if b < a then b else a) > 0↔_
 split<;>omega
theorem aPj {a b d:Int}:mnw [a,b,d] > 0↔0 < a/\0 < b/\0 < d:=by
 show (if d < (if b < a then b else a) then d else (if b < a then b else a)) > 0↔_
 split<;>split<;>omega
theorem rC {p q r:Pl} (h:tz p q r=0):wE p [q,r]=[dtz p r r,-dtz p q r]:=if_pos h
theorem aK9 {p q r:Pl} (h:mnw (wE p [q,r]) > 0):tz p q r=0/\0 < dtz p r r/\0 < -dtz p q r:=by
 by_cases z:tz p q r=0
 ·rw [rC z,aQ0] at h
  exact ⟨z,h⟩
 ·rw [show wE p [q,r]=[0,0] from if_neg z,aQ0] at h
  omega
theorem aHn {p q r s:Pl}:(wE p [q,r,s]=[tz p r s,tz p s q,tz p q r])\/(wE p [q,r,s]=[-tz p r s,-tz p s q,-tz p q r]):=by
 show twE p q r s=_\/twE p q r s=_
 unfold twE
 split
 ·exact .inl rfl
 ·exact .inr rfl
theorem aMe {g:List Pl} (h:g.length=2\/g.length=3):(∃ q r,g=[q,r])\/∃ q r s,g=[q,r,s]:=by
 rcases h with h | h
 ·exact .inl (ln2 h)
 ·exact .inr (ln3 h)
theorem aFq {p:Pl} {g:List Pl} (h3:g.length=2\/g.length=3) (pos:mnw (wE p g) > 0):1<=(wE p g).sum/\(((wE p g).zip g).map fun x=>x.1*x.2.1).sum=(wE p g).sum*p.1/\(((wE p g).zip g).map fun x=>x.1*x.2.2.1).sum=(wE p g).sum*p.2.1:=by
 rcases aMe h3 with ⟨q,r,rfl⟩ | ⟨q,r,s,rfl⟩
 ·obtain ⟨z,a,b⟩:=aK9 pos
  obtain ⟨i,j⟩:=aLf z
  rw [rC z]
  simp only [List.zip_cons_cons,List.zip_nil_right,List.map_cons,List.map_nil,List.sum_cons,List.sum_nil]
  refine ⟨by omega,by grind,by grind⟩
 ·obtain ⟨i,j⟩:=aMp p q r s
  rcases aHn (p:=p) (q:=q) (r:=r) (s:=s) with e | e
  ·rw [e,aPj] at pos
   rw [e]
   simp only [List.zip_cons_cons,List.zip_nil_right,List.map_cons,List.map_nil,List.sum_cons,List.sum_nil]
   refine ⟨by omega,by grind,by grind⟩
  ·rw [e,aPj] at pos
   rw [e]
   simp only [List.zip_cons_cons,List.zip_nil_right,List.map_cons,List.map_nil,List.sum_cons,List.sum_nil]
   refine ⟨by omega,by grind,by grind⟩
theorem aL0 {W G:Int} (hW:1<=W) (hG:1<=G) {x:Int×Int} (hx:Gx G x):Gx (W*G) x/\wt (W*G) x=W*wt G x:=by
 have d:x.2∣W*G:=Int.dvd_trans hx.d (Int.dvd_mul_left _ _)
 refine ⟨⟨hx.f,d⟩,?_⟩
 have e:=aCz hx.f.pos d hx.d
 refine Int.eq_of_mul_eq_mul_right (a:=G) (by omega) ?_
 rw [e]
 ac_rfl
theorem aBk {G:Int} {p:Pl}:∀ (xs:List (Int×Pl)),(xs.map fun x=>x.1*(wt G p.2.2 - wt G x.2.2.2)).sum=(xs.map fun x=>x.1).sum*wt G p.2.2 - (xs.map fun x=>x.1*wt G x.2.2.2).sum
 | []=>by simp
 | x :: xs=>by
  have ih:=aBk (G:=G) (p:=p) xs
  rw [List.map_cons,List.map_cons,List.map_cons,List.sum_cons,List.sum_cons,List.sum_cons,ih]
  grind
theorem wU {α β:Type}:∀ (xs:List α) (ys:List β),xs.length=ys.length->((xs.zip ys).map fun x=>x.1)=xs
 | [],_,_=>rfl
 | x :: xs,y :: ys,h=>by rw [List.zip_cons_cons,List.map_cons,wU xs ys (Nat.succ.inj h)]
theorem aDf {p:Pl} {g:List Pl} (h3:g.length=2\/g.length=3):(wE p g).length=g.length:=by
 rcases aMe h3 with ⟨q,r,rfl⟩ | ⟨q,r,s,rfl⟩
 ·show (pwE p q r).length=2
  unfold pwE
  split<;>rfl
 ·rcases aHn (p:=p) (q:=q) (r:=r) (s:=s) with e | e<;>rw [e]<;>rfl
theorem vM {G:Int} (hG:1<=G) {p:Pl} {g:List Pl} (hp:Gx G p.2.2) (hg:∀ q∈g,Gx G q.2.2) (h3:g.length=2\/g.length=3) (pos:mnw (wE p g) > 0) (le:(((wE p g).zip g).map fun x=>x.1*(wt G p.2.2 - wt G x.2.2.2)).sum<=0):uK p g=true:=by
 obtain ⟨hW,_,_⟩:=aFq h3 pos
 obtain ⟨a,b⟩:=aHm hG hW (fun q=>q.2.2) hg
 obtain ⟨u1,u2⟩:=aL0 hW hG hp
 have l:=aPr (cN hW hG) a u1
 rw [b,u2] at l
 rw [aBk,wU _ _ (aDf h3)] at le
 unfold uK mhF
 rw [decide_eq_true pos,l,decide_eq_false (by omega)]
 rfl
theorem P2.fit {G:Int} (hG:1<=G) {p q r:Pl} (hp:Gx G p.2.2) (hq:Gx G q.2.2) (hr:Gx G r.2.2) (h:P2 G p q r):q≠r/\uK p [q,r]=true:=by
 obtain ⟨a,b,l⟩:=h
 have vn:uv (eJ G p r)≠(0,0):=fun z=>by rw [z] at b;unfold dt at b;simp at b
 have pv:=xT vn
 obtain ⟨c1,c2⟩:=aEw G p q r
 obtain ⟨_,c4⟩:=aEw G p r r
 rw [c1] at a
 rw [c2] at b l
 rw [c4] at l pv
 refine ⟨fun e=>by rw [e] at b;omega,vM hG hp (fun x hx=>?_) (.inl rfl) (by rw [rC a,aQ0];omega) ?_⟩
 ·rcases List.mem_cons.mp hx with z | z
  ·rw [z];exact hq
  ·rw [List.mem_singleton.mp z];exact hr
 ·rw [rC a]
  simp only [List.zip_cons_cons,List.zip_nil_right,List.map_cons,List.map_nil,List.sum_cons,List.sum_nil]
  unfold eJ at l
  dsimp only at l
  grind
theorem T3.fit {G:Int} (hG:1<=G) {p q r s:Pl} (hp:Gx G p.2.2) (hq:Gx G q.2.2) (hr:Gx G r.2.2) (hs:Gx G s.2.2) (h:T3 G p q r s):uK p [q,r,s]=true:=by
 unfold T3 at h
 rw [(aEw G p r s).1,(aEw G p s q).1,(aEw G p q r).1] at h
 have hg:∀ x∈[q,r,s],Gx G x.2.2:=fun x hx=>by
  rcases List.mem_cons.mp hx with z | z
  ·rw [z];exact hq
  ·rcases List.mem_cons.mp z with z | z
   ·rw [z];exact hr
   ·rw [List.mem_singleton.mp z];exact hs
 have e:wE p [q,r,s]=twE p q r s:=rfl
 rcases h with ⟨a,b,d,l⟩ | ⟨a,b,d,l⟩
 ·have e:wE p [q,r,s]=[tz p r s,tz p s q,tz p q r]:=by
   rw [e]
   exact if_pos (by simp only [List.sum_cons,List.sum_nil];omega)
  refine vM hG hp hg (.inr rfl) (by rw [e,aPj];exact ⟨a,b,d⟩) ?_
  rw [e]
  simp only [List.zip_cons_cons,List.zip_nil_right,List.map_cons,List.map_nil,List.sum_cons,List.sum_nil]
  unfold eJ at l
  dsimp only at l
  omega
 ·have e:wE p [q,r,s]=[-tz p r s,-tz p s q,-tz p q r]:=by
   rw [e]
   exact if_neg (by simp only [List.sum_cons,List.sum_nil];omega)
  refine vM hG hp hg (.inr rfl) (by rw [e,aPj];omega) ?_
  rw [e]
  simp only [List.zip_cons_cons,List.zip_nil_right,List.map_cons,List.map_nil,List.sum_cons,List.sum_nil]
  unfold eJ at l
  dsimp only at l
  grind
theorem T3.irr {G:Int} {p q s:Pl} (h:T3 G p q q s):False:=by
 unfold T3 at h
 have:cr (uv (eJ G p q)) (uv (eJ G p q))=0:=by unfold cr;grind
 rw [this] at h
 omega
theorem aGj {G:Int} (hG:1<=G) {ps:List Pl} (h:Rf G ps) {p:Pl} (hp:p∈ps) (ns:stays ps p=false):∃ g,(grp (thn ps)).find? (uK p)=some g:=by
 have gx:∀ q∈ps,Gx G q.2.2:=fun q hq=>⟨(h.c q hq).f,(h.c q hq).d⟩
 have gt:∀ q∈thn ps,Gx G q.2.2:=fun q hq=>gx q (sL hq)
 have key:∃ g∈grp (thn ps),uK p g=true:=by
  rcases aAj hG h hp ns with ⟨q,hq,r,hr,k⟩ | ⟨q,hq,r,hr,s,hs,k⟩
  ·obtain ⟨n,f⟩:=k.fit hG (gx p hp) (gt q hq) (gt r hr)
   rcases v9 n (thn ps) hq hr with z | z
   ·exact ⟨_,List.mem_append_left _ (xP z),f⟩
   ·exact ⟨_,List.mem_append_left _ (xP z),(k.symm.fit hG (gx p hp) (gt r hr) (gt q hq)).2⟩
  ·obtain ⟨a,b,d,z,k⟩:=tO (P:=T3 G p) (fun k=>k.turn) (fun k=>k.swap) (fun k=>k.irr) (thn ps) q r s hq hr hs k
   have m:∀ x∈[a,b,d],x∈thn ps:=fun x hx=>z.subset hx
   exact ⟨_,List.mem_append_right _ (aHl z),k.fit hG (gx p hp) (gt a (m a (by simp))) (gt b (m b (by simp))) (gt d (m d (by simp)))⟩
 cases e:(grp (thn ps)).find? (uK p) with
 | some g=>exact ⟨g,rfl⟩
 | none =>
  obtain ⟨g,hg,f⟩:=key
  exact absurd f (List.find?_eq_none.mp e g hg)
noncomputable def fE (K:PySem.W.Frag) (c:Cls):List L->Res L:=mOf eFF (fun a=>Good 2000 a.1/\Good 2000 a.2) fun a=>.ok (.p (frD (hP a.1 a.2)))
noncomputable def mS (K:PySem.W.Frag) (c:Cls):MS:=(cY (aM 2 (cI K c) (aB (aE lA (aE fU (aE ixE (aD 0) (mC (.int 0))) (aE ixE (aD 1) (mC (.int 1)))) (aE fU (aE ixE (aD 1) (mC (.int 0))) (aE ixE (aD 0) (mC (.int 1))))) (aB (aE fU (aE ixE (aD 0) (mC (.int 1))) (aE ixE (aD 1) (mC (.int 1)))) aN))))
theorem vX (K:PySem.W.Frag) (c:Cls):∀ ls,fE K c ls=.bad\/dX 2 (mS K c) ls=fE K c ls:=cQ fun a h=>by
 obtain ⟨x,y⟩:=a
 obtain ⟨g1,g2⟩:=h
 obtain ⟨x0,x1,x2⟩:=id g1
 obtain ⟨y0,y1,y2⟩:=id g2
 dsimp only at g1 g2 x0 x1 x2 y0 y1 y2 ⊢
 have l:=uH K c (t:=x.1*y.2+y.1*x.2) (b:=x.2*y.2) (g1.ne g2) ((Sz.mul x2 y2).mono (by decide))
 refine bI ?_
 rw [show a7 2 (eFF (x,y))=[some (.p (frD x)),some (.p (frD y))] from rfl]
 unfold mS
 refine gW ?_
 ktr_call 21 ⟨l⟩
 rfl
theorem aKq (K:PySem.W.Frag) (c:Cls) {m n:Nat} {x y:Int×Int} (hx:Good m x) (hy:Good n y) (h1:m<=2000) (h2:n<=2000):fE K c [.p (frD x),.p (frD y)]=.ok (.p (frD (hP x y))):=cR (a:=(x,y)) j9 ⟨hx.mono h1,hy.mono h2⟩
noncomputable def cX (K:PySem.W.Frag) (c:Cls):List L->Res L:=mOf eFF (fun a=>Good 2000 a.1/\Good 2000 a.2) fun a=>.ok (.p (frD (FR.mk (a.1.1*a.2.1) (a.1.2*a.2.2))))
noncomputable def jH (K:PySem.W.Frag) (c:Cls):MS:=(cY (aM 2 (cI K c) (aB (aE fU (aE ixE (aD 0) (mC (.int 0))) (aE ixE (aD 1) (mC (.int 0)))) (aB (aE fU (aE ixE (aD 0) (mC (.int 1))) (aE ixE (aD 1) (mC (.int 1)))) aN))))
theorem oV (K:PySem.W.Frag) (c:Cls):∀ ls,cX K c ls=.bad\/dX 2 (jH K c) ls=cX K c ls:=cQ fun a h=>by
 obtain ⟨x,y⟩:=a
 obtain ⟨g1,g2⟩:=h
 obtain ⟨x0,x1,x2⟩:=id g1
 obtain ⟨y0,y1,y2⟩:=id g2
 dsimp only at g1 g2 x0 x1 x2 y0 y1 y2 ⊢
 have l:=uH K c (t:=x.1*y.1) (b:=x.2*y.2) (g1.ne g2) ((Sz.mul x2 y2).mono (by decide))
 refine bI ?_
 rw [show a7 2 (eFF (x,y))=[some (.p (frD x)),some (.p (frD y))] from rfl]
 unfold jH
 refine gW ?_
 ktr_call 21 ⟨l⟩
theorem aJ8 {x:Int×Int} (h:FR.Fr x):FR.mk x.1 x.2=x:=by
 have p:=h.pos
 obtain ⟨f,e⟩:=FR.nM (t:=x.1) (b:=x.2) (by omega)
 exact aIe f h (Int.le_of_eq e) (Int.le_of_eq e.symm)
def eF1 (x:Int×Int):List L:=[.p (frD x)]
theorem aJl (a b:Int×Int) (h:eF1 a=eF1 b):a=b:=by
 unfold eF1 at h
 injection h with h _
 injection h with h
 exact frI h
noncomputable def bO (K:PySem.W.Frag) (c:Cls):List L->Res L:=mOf eF1 (fun x=>FR.Fr x/\Sz 8000 x.2) fun _=>.ok (.p (.bool true))
noncomputable def fQ (K:PySem.W.Frag) (c:Cls):MS:=(cB (gS (mOr (jR (aZ (mUn (pY K (.type "tuple")) (aD 0)))) (mOr (aZ (aE (eqE true) (aH gF (aB (aD 0) aN)) (mC (.int 2)))) (mOr (jR (aZ (aM 1 (cJ K c) (aB (aE ixE (aD 0) (mC (.int 0))) aN)))) (jR (aZ (aM 1 (cJ K c) (aB (aE ixE (aD 0) (mC (.int 1))) aN))))))) (cY (mC (.bool false))) cS) (cY (k8 (aE gtE (aE ixE (aD 0) (mC (.int 1))) (mC (.int 0))) (aE (eqE false) (aM 2 (cI K c) (aB (aE ixE (aD 0) (mC (.int 0))) (aB (aE ixE (aD 0) (mC (.int 1))) aN))) (aD 0)))))
theorem lH (K:PySem.W.Frag) (c:Cls) (hk:gA K c):∀ ls,bO K c ls=.bad\/dX 1 (fQ K c) ls=bO K c ls:=cQ fun x h=>by
 obtain ⟨hf,hz⟩:=h
 have p:=hf.pos
 have l:=uH K c (t:=x.1) (b:=x.2) (by omega) hz
 rw [aJ8 hf] at l
 have w1:=yR K c x.1
 have w2:=yR K c x.2
 have i1:pY K (.type "tuple") (.p (frD x))=.ok (.p (.bool true)):=by simp [pY,dat,frD,tyD,hk.tt]
 have e1:gF [.p (frD x)]=.ok (.p (.int 2)):=by simp [gF,j6,frD]
 have e2:eqE true (.p (.int 2)) (.p (.int 2))=.ok (.p (.bool false)):=by simp [eqE,dat,fP,gR]
 have e3:eqE false (.p (frD x)) (.p (frD x))=.ok (.p (.bool true)):=jQ rfl rfl (aN2 x) false
 refine bI ?_
 rw [show a7 1 (eF1 x)=[some (.p (frD x))] from rfl]
 unfold fQ
 have t1:(mOr (jR (aZ (mUn (pY K (.type "tuple")) (aD 0)))) (mOr (aZ (aE (eqE true) (aH gF (aB (aD 0) aN)) (mC (.int 2)))) (mOr (jR (aZ (aM 1 (cJ K c) (aB (aE ixE (aD 0) (mC (.int 0))) aN)))) (jR (aZ (aM 1 (cJ K c) (aB (aE ixE (aD 0) (mC (.int 1))) aN))))))) [some (.p (frD x))]=.ok false:=by
  ktr_call 3 ⟨mOr,jR,aZ,mUn,aE,aM,aH,aB,aN,aD,mC,cH,bY,gP,Res.bind,Ev.c,i1,e1,e2,j4,kB,w1,w2,gT,bE,Bool.not_true⟩
 refine (aR (j3 t1)).trans (gW ?_)
 ktr_call 3 ⟨k8,aE,aM,aB,aN,aD,mC,eP,cH,bY,gP,Res.bind,Ev.c,j4,kB,l,gT,e3,decide_eq_true (show 0 < x.2 by omega)⟩
theorem aNh (K:PySem.W.Frag) (c:Cls) {x:Int×Int} (h:FR.Fr x) (hz:Sz 8000 x.2):bO K c [.p (frD x)]=.ok (.p (.bool true)):=cR (a:=x) aJl ⟨h,hz⟩
noncomputable def d8 (K:PySem.W.Frag) (c:Cls):List L->Res L:=mOf eFF (fun a=>FSz 2000 a.1/\FSz 2000 a.2) fun a=>.ok (.p (.bool (ltF a.1 a.2)))
noncomputable def kJ (K:PySem.W.Frag) (c:Cls):MS:=(cY (aE ltE (aE fU (aE ixE (aD 0) (mC (.int 0))) (aE ixE (aD 1) (mC (.int 1)))) (aE fU (aE ixE (aD 1) (mC (.int 0))) (aE ixE (aD 0) (mC (.int 1))))))
theorem sU (K:PySem.W.Frag) (c:Cls):∀ ls,d8 K c ls=.bad\/dX 2 (kJ K c) ls=d8 K c ls:=cQ fun a h=>by
 obtain ⟨x,y⟩:=a
 obtain ⟨⟨x1,x2⟩,⟨y1,y2⟩⟩:=h
 dsimp only at x1 x2 y1 y2 ⊢
 refine bI ?_
 rw [show a7 2 (eFF (x,y))=[some (.p (frD x)),some (.p (frD y))] from rfl]
 unfold kJ
 walk_at "1d"
 rfl
theorem aGu (K:PySem.W.Frag) (c:Cls) {x y:Int×Int} (hx:FSz 2000 x) (hy:FSz 2000 y):d8 K c [.p (frD x),.p (frD y)]=.ok (.p (.bool (ltF x y))):=cR (a:=(x,y)) j9 ⟨hx,hy⟩
noncomputable def cF (K:PySem.W.Frag) (c:Cls):En->Res Ev:=(aD 0)
noncomputable def dY (K:PySem.W.Frag) (c:Cls):En->Res Ev:=(aE ixE (aD 0) (mC (.int 1)))
noncomputable def aT (K:PySem.W.Frag) (c:Cls):En->Res Ev:=(aM 2 (fE K c) (aB (aE ixE (aD 3) (aD 0)) (aB (aM 2 (cX K c) (aB (aE ixE (aD 1) (mC (.int 0))) (aB (aE ixE (aD 2) (aD 0)) aN))) aN)))
noncomputable def cV (K:PySem.W.Frag) (c:Cls):MS:=(cB (gS (mOr (jR (aZ (mUn (pY K (.type "tuple")) (aD 4)))) (mOr (aZ (aE (eqE true) (aH gF (aB (aD 4) aN)) (mC (.int 2)))) (mOr (jR (aZ (aM 1 (bO K c) (aB (aE ixE (aD 4) (mC (.int 0))) aN)))) (aZ (aE ltE (aE ixE (aE ixE (aD 4) (mC (.int 0))) (mC (.int 0))) (mC (.int 1))))))) (cY (mC (.bool false))) cS) (cB (gS (aZ (aE (pT true) (aE ixE (aD 4) (mC (.int 1))) (aD 2))) (cY (mC (.bool false))) cS) (cB (cW 5 (aH gB (aB (aH bH (aB (mC (.int 1)) (aB (mC (.int 1)) aN))) (aB (aH bH (aB (aE ixE (aE ixE (aD 4) (mC (.int 1))) (mC (.int 0))) (aB (mC (.int 1)) aN))) (aB (aH bH (aB (aE ixE (aE ixE (aD 4) (mC (.int 1))) (mC (.int 1))) (aB (mC (.int 1)) aN))) (aB (aE ixE (aE ixE (aD 4) (mC (.int 1))) (mC (.int 2))) aN)))))) (fun en=>(fun en=>(cW 3 (dG 1 [4,5,3] (lS oF (aB (mC (.int 4)) aN)) (aG 0) e9 (aT K c))) (frz 5 en)) (frz 3 en)))))
noncomputable def dP (K:PySem.W.Frag) (c:Cls):MS:=(cB (gS (mOr (jR (aZ (mUn (pY K (.type "list")) (aD 1)))) (mOr (aZ (aE ltE (aH gF (aB (aD 1) aN)) (mC (.int 1)))) (aZ (aE gtE (aH gF (aB (aD 1) aN)) (mC (.int 3)))))) (cY (mC (.bool false))) cS) (cB (cW 3 (aH gB (aB (aH bH (aB (mC (.int 0)) (aB (mC (.int 1)) aN))) (aB (aH bH (aB (mC (.int 0)) (aB (mC (.int 1)) aN))) (aB (aH bH (aB (mC (.int 0)) (aB (mC (.int 1)) aN))) (aB (aH bH (aB (mC (.int 0)) (aB (mC (.int 1)) aN))) aN)))))) (cB (vJ (fT (aD 1)) (aG 4) (cV K c)) (cB (cW 6 (dG 1 [] (fT (aD 1)) (aG 0) e9 (dY K c))) (fun en=>(cB (gS (aZ (aE (eqE true) (aD 6) (dG 1 [6] (fT (aD 2)) (aG 0) (aZ (aE (pT false) (aD 0) (aD 1))) (cF K c)))) (cY (mC (.bool false))) cS) (fun en=>(cB (gS (mOr (aZ (aE (eqE true) (aE ixE (aD 3) (mC (.int 0))) (aH bH (aB (mC (.int 1)) (aB (mC (.int 1)) aN))))) (mOr (aZ (aE (eqE true) (aE ixE (aD 3) (mC (.int 1))) (aH bH (aB (aE ixE (aD 0) (mC (.int 0))) (aB (mC (.int 1)) aN))))) (aZ (aE (eqE true) (aE ixE (aD 3) (mC (.int 2))) (aH bH (aB (aE ixE (aD 0) (mC (.int 1))) (aB (mC (.int 1)) aN))))))) (cY (mC (.bool false))) cS) (cY (nK (aM 2 (d8 K c) (aB (aE ixE (aD 3) (mC (.int 3))) (aB (aE ixE (aD 0) (mC (.int 2))) aN)))))) (frz 3 en))) (frz 6 en))))))
noncomputable def a6 (K:PySem.W.Frag) (c:Cls) (ls:List L):Res L:=dX 7 (dP K c) ls
theorem lK (K:PySem.W.Frag) (c:Cls):∀ ls,a6 K c ls=.bad\/dX 7 (dP K c) ls=a6 K c ls:=fun _=>.inr rfl
abbrev s4 (a b d e:Int×Int):D:=.list [frD a,frD b,frD d,frD e]
def stp (t sh n:Int×Int):Int×Int:=hP t (FR.mk (sh.1*n.1) (sh.2*n.2))
theorem nC (K:PySem.W.Frag) (c:Cls) {n:Nat} {t sh y:Int×Int} (gt:Good n t) (gs:Good 60 sh) (gy:Good 200 y) (hn:n<=1600):Good (n+300) (stp t sh y)/\cX K c [.p (frD sh),.p (frD y)]=.ok (.p (frD (FR.mk (sh.1*y.1) (sh.2*y.2))))/\fE K c [.p (frD t),.p (frD (FR.mk (sh.1*y.1) (sh.2*y.2)))]=.ok (.p (frD (stp t sh y))):=by
 have g:=aEj gs gy
 exact ⟨(aCm gt g).mono (by omega),cR (a:=(sh,y)) j9 ⟨gs.mono (by decide),gy.mono (by decide)⟩,aKq K c gt g (by omega) (by decide)⟩
theorem aSp (K:PySem.W.Frag) (c:Cls) (hk:gA K c) {p:Pl} {S:List Pl} (P1:Option L) {x:(Int×Int)×Pl} (hx:x.2∈S) (fx:FR.Fr x.1) (x1:1<=x.1.1) (gx:Good 60 x.1) (gi:Good 200 (x.2.1,1)) (gj:Good 200 (x.2.2.1,1)) (gh:Good 200 x.2.2.2) {n:Nat} (hn:n<=1600) {a b d e:Int×Int} (ga:Good n a) (gb:Good n b) (gd:Good n d) (ge:Good n e) {l3:L} (h3:l3=.o (s4 a b d e)\/l3=.p (s4 a b d e)) (r5 r6:Option L) :
  cV K c [some (.p (plD p)),P1,some (.p (.list (S.map plD))),some l3,some (.p (mxD x)),r5,r6]=some (.nx [some (.p (plD p)),P1,some (.p (.list (S.map plD))),some (.o (s4 (stp a x.1 (1,1)) (stp b x.1 (x.2.1,1)) (stp d x.1 (x.2.2.1,1)) (stp e x.1 x.2.2.2))),some (.p (mxD x)),some (.p (s4 (1,1) (x.2.1,1) (x.2.2.1,1) x.2.2.2)),r6]):=by
 have g1:Good 200 (1,1):=⟨Int.le_refl 1,by unfold Sz;decide,by unfold Sz;decide⟩
 obtain ⟨_,pa,sa⟩:=nC K c ga gx g1 hn
 obtain ⟨_,pb,sb⟩:=nC K c gb gx gi hn
 obtain ⟨_,pd,sd⟩:=nC K c gd gx gj hn
 obtain ⟨_,pe,se⟩:=nC K c ge gx gh hn
 have isf:=aNh K c fx (gx.2.2.mono (by decide))
 have ty:tyD (mxD x) = "tuple":=rfl
 have ln:gF [.p (mxD x)]=.ok (.p (.int 2)):=rfl
 have l2:eqE true (.p (.int 2)) (.p (.int 2))=.ok (.p (.bool false)):=jQ rfl rfl (fP 2) true
 have i0:ixE (.p (mxD x)) (.p (.int 0))=.ok (.p (frD x.1)):=rfl
 have i1:ixE (.p (mxD x)) (.p (.int 1))=.ok (.p (plD x.2)):=rfl
 have j0:ixE (.p (frD x.1)) (.p (.int 0))=.ok (.p (.int x.1.1)):=rfl
 have lt:decide (x.1.1 < 1)=false:=decide_eq_false (by omega)
 have k0:ixE (.p (plD x.2)) (.p (.int 0))=.ok (.p (.int x.2.1)):=rfl
 have k1:ixE (.p (plD x.2)) (.p (.int 1))=.ok (.p (.int x.2.2.1)):=rfl
 have k2:ixE (.p (plD x.2)) (.p (.int 2))=.ok (.p (frD x.2.2.2)):=rfl
 have t1:(mOr (jR (aZ (mUn (pY K (.type "tuple")) (aD 4)))) (mOr (aZ (aE (eqE true) (aH gF (aB (aD 4) aN)) (mC (.int 2)))) (mOr (jR (aZ (aM 1 (bO K c) (aB (aE ixE (aD 4) (mC (.int 0))) aN)))) (aZ (aE ltE (aE ixE (aE ixE (aD 4) (mC (.int 0))) (mC (.int 0))) (mC (.int 1))))))) [some (.p (plD p)),P1,some (.p (.list (S.map plD))),some l3,some (.p (mxD x)),r5,r6]=.ok false:=by
  ktr_call 3 ⟨mOr,jR,aZ,aE,mUn,aD,mC,aM,aH,aB,aN,cH,bY,gP,gT,Res.bind,Ev.c,pY,dat,ty,hk.tt,bE,ln,l2,i0,isf,j0,eP,lt,Bool.not_true⟩
 have nn:=x6 true x.2 S
 have t2:(aZ (aE (pT true) (aE ixE (aD 4) (mC (.int 1))) (aD 2))) [some (.p (plD p)),P1,some (.p (.list (S.map plD))),some l3,some (.p (mxD x)),r5,r6]=.ok false:=by
  ktr_call 3 ⟨aZ,aE,aD,mC,Res.bind,Ev.c,i1,nn,bE,decide_eq_true hx⟩
  rfl
 have er:(aH gB (aB (aH bH (aB (mC (.int 1)) (aB (mC (.int 1)) aN))) (aB (aH bH (aB (aE ixE (aE ixE (aD 4) (mC (.int 1))) (mC (.int 0))) (aB (mC (.int 1)) aN))) (aB (aH bH (aB (aE ixE (aE ixE (aD 4) (mC (.int 1))) (mC (.int 1))) (aB (mC (.int 1)) aN))) (aB (aE ixE (aE ixE (aD 4) (mC (.int 1))) (mC (.int 2))) aN))))) [some (.p (plD p)),P1,some (.p (.list (S.map plD))),some l3,some (.p (mxD x)),r5,r6]=.ok (.f (s4 (1,1) (x.2.1,1) (x.2.2.1,1) x.2.2.2)):=by
  ktr_call 3 ⟨aE,aD,mC,aH,gB,bH,hV,aB,aN,Res.bind,Ev.c,i1,k0,k1,k2⟩
  rfl
 unfold cV
 refine (aR (j3 t1)).trans ((aR (j3 t2)).trans ((aR (gY er)).trans ?_))
 simp only [List.set_cons_succ,List.set_cons_zero]
 have fz:frz 5 (frz 3 [some (.p (plD p)),P1,some (.p (.list (S.map plD))),some l3,some (.p (mxD x)),some (.o (s4 (1,1) (x.2.1,1) (x.2.2.1,1) x.2.2.2)),r6])=[some (.p (plD p)),P1,some (.p (.list (S.map plD))),some (.p (s4 a b d e)),some (.p (mxD x)),some (.p (s4 (1,1) (x.2.1,1) (x.2.2.1,1) x.2.2.2)),r6]:=by
  rcases h3 with rfl | rfl<;>rfl
 show (cW 3 _) (frz 5 (frz 3 _))=_
 rw [fz]
 have hit:(lS oF (aB (mC (.int 4)) aN)) [some (.p (plD p)),P1,some (.p (.list (S.map plD))),some (.p (s4 a b d e)),some (.p (mxD x)),some (.p (s4 (1,1) (x.2.1,1) (x.2.2.1,1) x.2.2.2)),r6]=.ok [.int 0,.int 1,.int 2,.int 3]:=aSq (a:=.int ((4:Nat):Int)) rfl (aFb 4 (by decide))
 have q0:∀ a b d e:Int×Int,ixE (.p (s4 a b d e)) (.p (.int 0))=.ok (.p (frD a)):=fun _ _ _ _=>rfl
 have q1:∀ a b d e:Int×Int,ixE (.p (s4 a b d e)) (.p (.int 1))=.ok (.p (frD b)):=fun _ _ _ _=>rfl
 have q2:∀ a b d e:Int×Int,ixE (.p (s4 a b d e)) (.p (.int 2))=.ok (.p (frD d)):=fun _ _ _ _=>rfl
 have q3:∀ a b d e:Int×Int,ixE (.p (s4 a b d e)) (.p (.int 3))=.ok (.p (frD e)):=fun _ _ _ _=>rfl
 have c0:aQ 1 [4,5,3] (aG 0) e9 (aT K c) [some (.p (plD p)),P1,some (.p (.list (S.map plD))),some (.p (s4 a b d e)),some (.p (mxD x)),some (.p (s4 (1,1) (x.2.1,1) (x.2.2.1,1) x.2.2.2)),r6] (.int 0)=some (some (frD (stp a x.1 (1,1)))):=by
  unfold aQ
  ktr_call 3 ⟨aT,aG,kF,pQ,e9,aM,aB,aN,aE,aD,mC,cH,bY,gP,gT,List.replicate,List.cons_append,List.nil_append,Res.bind,Ev.c,q0,i0,pa,sa⟩
 have c1:aQ 1 [4,5,3] (aG 0) e9 (aT K c) [some (.p (plD p)),P1,some (.p (.list (S.map plD))),some (.p (s4 a b d e)),some (.p (mxD x)),some (.p (s4 (1,1) (x.2.1,1) (x.2.2.1,1) x.2.2.2)),r6] (.int 1)=some (some (frD (stp b x.1 (x.2.1,1)))):=by
  unfold aQ
  ktr_call 3 ⟨aT,aG,kF,pQ,e9,aM,aB,aN,aE,aD,mC,cH,bY,gP,gT,List.replicate,List.cons_append,List.nil_append,Res.bind,Ev.c,q1,i0,pb,sb⟩
 have c2:aQ 1 [4,5,3] (aG 0) e9 (aT K c) [some (.p (plD p)),P1,some (.p (.list (S.map plD))),some (.p (s4 a b d e)),some (.p (mxD x)),some (.p (s4 (1,1) (x.2.1,1) (x.2.2.1,1) x.2.2.2)),r6] (.int 2)=some (some (frD (stp d x.1 (x.2.2.1,1)))):=by
  unfold aQ
  ktr_call 3 ⟨aT,aG,kF,pQ,e9,aM,aB,aN,aE,aD,mC,cH,bY,gP,gT,List.replicate,List.cons_append,List.nil_append,Res.bind,Ev.c,q2,i0,pd,sd⟩
 have c3:aQ 1 [4,5,3] (aG 0) e9 (aT K c) [some (.p (plD p)),P1,some (.p (.list (S.map plD))),some (.p (s4 a b d e)),some (.p (mxD x)),some (.p (s4 (1,1) (x.2.1,1) (x.2.2.1,1) x.2.2.2)),r6] (.int 3)=some (some (frD (stp e x.1 x.2.2.2))):=by
  unfold aQ
  ktr_call 3 ⟨aT,aG,kF,pQ,e9,aM,aB,aN,aE,aD,mC,cH,bY,gP,gT,List.replicate,List.cons_append,List.nil_append,Res.bind,Ev.c,q3,i0,pe,se⟩
 have hm:kH (aQ 1 [4,5,3] (aG 0) e9 (aT K c) [some (.p (plD p)),P1,some (.p (.list (S.map plD))),some (.p (s4 a b d e)),some (.p (mxD x)),some (.p (s4 (1,1) (x.2.1,1) (x.2.2.1,1) x.2.2.2)),r6]) [.int 0,.int 1,.int 2,.int 3]=some [frD (stp a x.1 (1,1)),frD (stp b x.1 (x.2.1,1)),frD (stp d x.1 (x.2.2.1,1)),frD (stp e x.1 x.2.2.2)]:=by
  simp only [kH,c0,c1,c2,c3]
 exact gY (dO (n:=1) (js:=[4,5,3]) hit (by decide) hm)
theorem uA {i:Nat} {f:MS} {en e1:En} {o:Option Out} (h:frz i en=e1) (k:f e1=o):f (frz i en)=o:=by rw [h];exact k
structure XOk (S:List Pl) (x:(Int×Int)×Pl):Prop where
 m:x.2∈S
 f:FR.Fr x.1
 o:1<=x.1.1
 g:Good 60 x.1
 i:Good 200 (x.2.1,1)
 j:Good 200 (x.2.2.1,1)
 h:Good 200 x.2.2.2
abbrev fs (f:Pl->Int×Int) (xs:List ((Int×Int)×Pl)):List ((Int×Int)×(Int×Int)):=xs.map fun x=>(x.1,f x.2)
theorem aD0 (K:PySem.W.Frag) (c:Cls) (hk:gA K c) {p:Pl} {S:List Pl} (P1 r6:Option L):∀ (xs:List ((Int×Int)×Pl)) (n:Nat) (a b d e:Int×Int) (l3:L) (r4 r5:Option L),(∀ x∈xs,XOk S x)->n+300*xs.length<=1900->Good n a->Good n b->Good n d->Good n e->(l3=.o (s4 a b d e)\/l3=.p (s4 a b d e))->∃ l3' q4 q5,(l3'=.o (s4 (ssF a (fs (fun _=>(1,1)) xs)) (ssF b (fs (fun q=>(q.1,1)) xs)) (ssF d (fs (fun q=>(q.2.1,1)) xs)) (ssF e (fs (fun q=>q.2.2) xs)))\/l3'=.p (s4 (ssF a (fs (fun _=>(1,1)) xs)) (ssF b (fs (fun q=>(q.1,1)) xs)) (ssF d (fs (fun q=>(q.2.1,1)) xs)) (ssF e (fs (fun q=>q.2.2) xs))))/\fB (aG 4) (cV K c) (xs.map mxD) [some (.p (plD p)),P1,some (.p (.list (S.map plD))),some l3,r4,r5,r6]=some (.nx [some (.p (plD p)),P1,some (.p (.list (S.map plD))),some l3',q4,q5,r6])
 | [],n,a,b,d,e,l3,r4,r5,_,_,_,_,_,_,h3=>⟨l3,r4,r5,h3,rfl⟩
 | x :: xs,n,a,b,d,e,l3,r4,r5,hx,hn,ga,gb,gd,ge,h3=>by
  rw [List.length_cons] at hn
  have o:=hx x (.head _)
  have g1:Good 200 (1,1):=⟨Int.le_refl 1,by unfold Sz;decide,by unfold Sz;decide⟩
  have hb:=aSp K c hk (p:=p) P1 o.m o.f o.o o.g o.i o.j o.h (n:=n) (by omega) ga gb gd ge h3 r5 r6
  obtain ⟨l3',q4,q5,h,ih⟩:=aD0 K c hk (p:=p) (S:=S) P1 r6 xs (n+300) _ _ _ _ _ (some (.p (mxD x))) _ (fun y hy=>hx y (.tail _ hy)) (by omega) (nC K c ga o.g g1 (by omega)).1 (nC K c gb o.g o.i (by omega)).1 (nC K c gd o.g o.j (by omega)).1 (nC K c ge o.g o.h (by omega)).1 (.inl rfl)
  refine ⟨l3',q4,q5,h,?_⟩
  rw [List.map_cons,aAh rfl hb]
  exact ih
theorem wF {p:Pl} {g:List Pl} (h3:g.length=2\/g.length=3) (pos:mnw (wE p g) > 0) (i:Pl->Int) {v:Int} (e:(((wE p g).zip g).map fun x=>x.1*i x.2).sum=(wE p g).sum*v):ssF (0,1) (fs (fun q=>(i q,1)) (g9 p g))=(v,1):=by
 obtain ⟨hW,_,_⟩:=aFq h3 pos
 have g1:∀ j:Int,Gx 1 (j,1)/\wt 1 (j,1)=j:=fun j=>⟨⟨⟨Int.le_refl 1,Int.gcd_one⟩,Int.one_dvd _⟩,by unfold wt;simp⟩
 obtain ⟨a,b⟩:=aHm (B:=1) (by decide) hW (fun q=>(i q,1)) fun q _=>(g1 (i q)).1
 obtain ⟨u1,u2⟩:=aL0 hW (show (1:Int)<=1 by decide) (g1 v).1
 have e':(((wE p g).zip g).map fun x=>x.1*wt 1 (i x.2,1)).sum=(wE p g).sum*v:=by
  rw [<- e]
  congr 1
  exact List.map_congr_left fun x _=>by rw [(g1 _).2]
 rw [e'] at b
 rw [(g1 v).2] at u2
 exact aIr (cN hW (by decide)) a.f u1.f a.d u1.d (b.trans u2.symm)
theorem wM {p:Pl} {g:List Pl} (h3:g.length=2\/g.length=3):(g9 p g).map (fun x=>x.2)=g:=by
 unfold g9
 rw [List.map_map]
 have:∀ (xs:List Int) (ys:List Pl),xs.length=ys.length->(xs.zip ys).map ((fun x:(Int×Int)×Pl=>x.2) ∘ fun x:Int×Pl=>(FR.mk x.1 (wE p g).sum,x.2))=ys:=by
  intro xs
  induction xs with
  | nil=>intro ys h;cases ys with
   | nil=>rfl
   | cons y ys=>cases h
  | cons x xs ih=>intro ys h;cases ys with
   | nil=>cases h
   | cons y ys=>rw [List.zip_cons_cons,List.map_cons,ih ys (Nat.succ.inj h)];rfl
 exact this _ _ (aDf h3)
theorem aJv (K:PySem.W.Frag) (c:Cls) {p:Pl} {g S:List Pl} (h3:g.length=2\/g.length=3) (pos:mnw (wE p g) > 0) (sub:g.Sublist S) (sp:SP p) (sg:∀ q∈g,SP q/\Good 200 q.2.2):∀ x∈g9 p g,XOk S x:=fun x hx=>by
 obtain ⟨ws,w0,w1,w2,_⟩:=aLu K c (p:=p) (g:=g) sp (fun q hq=>(sg q hq).1) h3
 obtain ⟨hW,_,_⟩:=aFq h3 pos
 obtain ⟨y,hy,rfl⟩:=List.mem_map.mp hx
 obtain ⟨y1,y2⟩:=List.of_mem_zip hy
 rw [<- w0] at y1 pos hW ⊢
 have sz:=aH2 ws w2 (by omega)
 have yp:0 < y.1:=by
  cases ws with
  | nil=>cases y1
  | cons i is =>
   have:=xI is i y.1 y1
   have:0 < aEi i is:=pos
   omega
 obtain ⟨ff,fe⟩:=FR.nM (t:=y.1) (b:=ws.sum) (by omega)
 obtain ⟨q1,q2⟩:=sg _ y2
 refine ⟨sub.subset y2,ff,?_,mW ((w2 _ y1).mono (by decide)) (sz.mono (by decide)) (by omega),⟨Int.le_refl 1,q1.1.mono (by decide),(show Sz 200 (1:Int) by unfold Sz;decide)⟩,⟨Int.le_refl 1,q1.2.mono (by decide),(show Sz 200 (1:Int) by unfold Sz;decide)⟩,q2⟩
 ·have fp:=ff.pos
  refine Int.not_lt.mp fun z=>?_
  have z:(FR.mk y.1 ws.sum).1 < 1:=z
  have a:(FR.mk y.1 ws.sum).1*ws.sum<=0:=Int.mul_nonpos_of_nonpos_of_nonneg (by omega) (by omega)
  have b:=cN (show 1<=y.1 by omega) fp
  omega
theorem aG1 (K:PySem.W.Frag) (c:Cls) (hk:gA K c) {p:Pl} {g S:List Pl} (h3:g.length=2\/g.length=3) (fit:uK p g=true) (sub:g.Sublist S) (nd:S.Nodup) (hS:S.length<=100) (sp:SP p) (gp:Good 200 p.2.2) (sg:∀ q∈g,SP q/\Good 200 q.2.2):a6 K c [.p (plD p),.p (.list ((g9 p g).map mxD)),.p (.list (S.map plD))]=.ok (.p (.bool true)):=by
 unfold uK at fit
 rw [Bool.and_eq_true,decide_eq_true_iff] at fit
 obtain ⟨pos,nl⟩:=fit
 have xo:=aJv K c h3 pos sub sp sg
 obtain ⟨hW,wx,wy⟩:=aFq h3 pos
 have ml:(g9 p g).length=g.length:=by rw [<- List.length_map (f:=fun x=>x.2),wM h3]
 have g0:Good 2 (0,1):=⟨Int.le_refl 1,by unfold Sz;decide,by unfold Sz;decide⟩
 obtain ⟨l3,q4,q5,hl3,hlp⟩:=aD0 K c hk (p:=p) (S:=S) (some (.p (.list ((g9 p g).map mxD)))) none (g9 p g) 2 (0,1) (0,1) (0,1) (0,1) (.o (s4 (0,1) (0,1) (0,1) (0,1))) none none xo (by omega) g0 g0 g0 g0 (.inl rfl)
 have s0:=wF h3 pos (fun _=>1) (v:=1) (by
  rw [Int.mul_one]
  have:(((wE p g).zip g).map fun x=>x.1*1)=((wE p g).zip g).map fun x=>x.1:=List.map_congr_left fun x _=>Int.mul_one _
  rw [this,wU _ _ (aDf h3)])
 have s1:=wF h3 pos (fun q=>q.1) wx
 have s2:=wF h3 pos (fun q=>q.2.1) wy
 have s3:ssF (0,1) (fs (fun q=>q.2.2) (g9 p g))=mhF (g9 p g):=rfl
 rw [s0,s1,s2,s3] at hl3
 obtain ⟨gt,_⟩:=aM0 K c (xs:=g9 p g) (by omega) (fun x hx=>⟨(xo x hx).g,(xo x hx).h⟩)
 have un:=aGu K c (x:=mhF (g9 p g)) (y:=p.2.2) (gt.mono (by decide)).fsz (gp.mono (by decide)).fsz
 generalize mhF (g9 p g)=t at hl3 un nl
 unfold a6
 refine bI ?_
 rw [show a7 7 [.p (plD p),.p (.list ((g9 p g).map mxD)),.p (.list (S.map plD))]=[some (.p (plD p)),some (.p (.list ((g9 p g).map mxD))),some (.p (.list (S.map plD))),none,none,none,none] from rfl]
 unfold dP
 have ty:tyD (PyData.list ((g9 p g).map mxD)) = "list":=rfl
 have ln:gF [.p (.list ((g9 p g).map mxD))]=.ok (.p (.int (g.length:Nat))):=by simp [gF,j6,ml]
 have d1:decide ((g.length:Int) < 1)=false:=decide_eq_false (by omega)
 have d2:decide ((3:Int) < (g.length:Int))=false:=decide_eq_false (by omega)
 have t0:(mOr (jR (aZ (mUn (pY K (.type "list")) (aD 1)))) (mOr (aZ (aE ltE (aH gF (aB (aD 1) aN)) (mC (.int 1)))) (aZ (aE gtE (aH gF (aB (aD 1) aN)) (mC (.int 3)))))) [some (.p (plD p)),some (.p (.list ((g9 p g).map mxD))),some (.p (.list (S.map plD))),none,none,none,none]=.ok false:=by
  ktr_call 3 ⟨mOr,jR,aZ,aE,mUn,aD,mC,aH,aB,aN,Res.bind,Ev.c,pY,dat,ty,hk.ll,bE,ln,eP,d1,d2,Bool.not_true⟩
 refine (aR (j3 t0)).trans ((aR (gY (d:=s4 (0,1) (0,1) (0,1) (0,1)) rfl)).trans ?_)
 simp only [List.set_cons_succ,List.set_cons_zero]
 refine (aR ((nP (ds:=(g9 p g).map mxD) rfl).trans hlp)).trans ?_
 have hm:kH (aQ 1 [] (aG 0) e9 (dY K c) [some (.p (plD p)),some (.p (.list ((g9 p g).map mxD))),some (.p (.list (S.map plD))),some l3,q4,q5,none]) ((g9 p g).map mxD)=some ((g9 p g).map fun x=>plD x.2):=dW _ fun x _=>rfl
 have hc:=dO (n:=1) (js:=[]) (fi:=fT (aD 1)) (tg:=aG 0) (ft:=e9) (fe:=dY K c) (en:=[some (.p (plD p)),some (.p (.list ((g9 p g).map mxD))),some (.p (.list (S.map plD))),some l3,q4,q5,none]) (ds:=(g9 p g).map mxD) rfl (by rw [List.length_map];omega) hm
 rw [show ((g9 p g).map fun x=>plD x.2)=g.map plD by have:=congrArg (List.map plD) (wM (p:=p) h3);rw [List.map_map] at this;exact this] at hc
 refine (aR (gY hc)).trans ?_
 simp only [List.set_cons_succ,List.set_cons_zero]
 refine uA (i:=6) (e1:=[some (.p (plD p)),some (.p (.list ((g9 p g).map mxD))),some (.p (.list (S.map plD))),some l3,q4,q5,some (.p (.list (g.map plD)))]) rfl ?_
 have hm2:kH (aQ 1 [6] (aG 0) (aZ (aE (pT false) (aD 0) (aD 1))) (cF K c) [some (.p (plD p)),some (.p (.list ((g9 p g).map mxD))),some (.p (.list (S.map plD))),some l3,q4,q5,some (.p (.list (g.map plD)))]) (S.map plD)=some ((S.filter fun x=>decide (x∈g)).map plD):=by
  refine fK _ fun q _=>?_
  have nn:=x6 false q g
  have tq:aZ (aE (pT false) (aD 0) (aD 1)) [some (.p (plD q)),some (.p (.list (g.map plD)))]=.ok (decide (q∈g)):=by
   ktr_call 3 ⟨aZ,aE,aD,Res.bind,Ev.c,nn,bE⟩
   try rfl
  unfold aQ
  ktr_call 3 ⟨aG,kF,pQ,List.replicate,List.cons_append,List.nil_append,tq,cF,aD,Ev.c⟩
  cases decide (q∈g)<;>rfl
 have hc2:=dO (n:=1) (js:=[6]) (fi:=fT (aD 2)) (tg:=aG 0) (ft:=aZ (aE (pT false) (aD 0) (aD 1))) (fe:=cF K c) (en:=[some (.p (plD p)),some (.p (.list ((g9 p g).map mxD))),some (.p (.list (S.map plD))),some l3,q4,q5,some (.p (.list (g.map plD)))]) (ds:=S.map plD) rfl (by rw [List.length_map];omega) hm2
 rw [wR sub nd] at hc2
 have eu:eqE true (.p (.list (g.map plD))) (.p (.list (g.map plD)))=.ok (.p (.bool false)):=jQ rfl rfl (yE g) true
 have t1:(aZ (aE (eqE true) (aD 6) (dG 1 [6] (fT (aD 2)) (aG 0) (aZ (aE (pT false) (aD 0) (aD 1))) (cF K c)))) [some (.p (plD p)),some (.p (.list ((g9 p g).map mxD))),some (.p (.list (S.map plD))),some l3,q4,q5,some (.p (.list (g.map plD)))]=.ok false:=by
  ktr_call 3 ⟨aZ,aE,aD,Res.bind,Ev.c,hc2,eu,bE⟩
 refine (aR (j3 t1)).trans ?_
 refine uA (i:=3) (e1:=[some (.p (plD p)),some (.p (.list ((g9 p g).map mxD))),some (.p (.list (S.map plD))),some (.p (s4 (1,1) (p.1,1) (p.2.1,1) t)),q4,q5,some (.p (.list (g.map plD)))]) (by rcases hl3 with rfl | rfl<;>rfl) ?_
 have z0:ixE (.p (s4 (1,1) (p.1,1) (p.2.1,1) t)) (.p (.int 0))=.ok (.p (frD (1,1))):=rfl
 have z1:ixE (.p (s4 (1,1) (p.1,1) (p.2.1,1) t)) (.p (.int 1))=.ok (.p (frD (p.1,1))):=rfl
 have z2:ixE (.p (s4 (1,1) (p.1,1) (p.2.1,1) t)) (.p (.int 2))=.ok (.p (frD (p.2.1,1))):=rfl
 have z3:ixE (.p (s4 (1,1) (p.1,1) (p.2.1,1) t)) (.p (.int 3))=.ok (.p (frD t)):=rfl
 have k0:ixE (.p (plD p)) (.p (.int 0))=.ok (.p (.int p.1)):=rfl
 have k1:ixE (.p (plD p)) (.p (.int 1))=.ok (.p (.int p.2.1)):=rfl
 have k2:ixE (.p (plD p)) (.p (.int 2))=.ok (.p (frD p.2.2)):=rfl
 have eq:∀ i:Int,eqE true (.p (frD (i,1))) (.p (.tuple [.int i,.int 1]))=.ok (.p (.bool false)):=fun i=>jQ rfl rfl (aN2 (i,1)) true
 have t2:(mOr (aZ (aE (eqE true) (aE ixE (aD 3) (mC (.int 0))) (aH bH (aB (mC (.int 1)) (aB (mC (.int 1)) aN))))) (mOr (aZ (aE (eqE true) (aE ixE (aD 3) (mC (.int 1))) (aH bH (aB (aE ixE (aD 0) (mC (.int 0))) (aB (mC (.int 1)) aN))))) (aZ (aE (eqE true) (aE ixE (aD 3) (mC (.int 2))) (aH bH (aB (aE ixE (aD 0) (mC (.int 1))) (aB (mC (.int 1)) aN))))))) [some (.p (plD p)),some (.p (.list ((g9 p g).map mxD))),some (.p (.list (S.map plD))),some (.p (s4 (1,1) (p.1,1) (p.2.1,1) t)),q4,q5,some (.p (.list (g.map plD)))]=.ok false:=by
  ktr_call 3 ⟨mOr,aZ,aE,aD,mC,aH,bH,hV,aB,aN,Res.bind,Ev.c,z0,z1,z2,k0,k1,eq,bE⟩
 refine (aR (j3 t2)).trans (gW ?_)
 have nl:ltF t p.2.2=false:=by
  cases h:ltF t p.2.2 with
  | false=>rfl
  | true=>rw [h] at nl;cases nl
 rw [nl] at un
 ktr_call 3 ⟨nK,aZ,aE,aD,mC,aM,aB,aN,cH,bY,gP,gT,Res.bind,Ev.c,z3,k2,un,bE,Bool.not_false⟩
def rwD (F:Pl->List Pl) (p:Pl):D:=.tuple [plD p,.list ((g9 p (F p)).map mxD)]
noncomputable def iF (K:PySem.W.Frag) (c:Cls):En->Res Ev:=(aE ixE (aD 0) (mC (.int 0)))
noncomputable def fL (K:PySem.W.Frag) (c:Cls):En->Res Ev:=(aD 0)
noncomputable def kA (K:PySem.W.Frag) (c:Cls):MS:=(gS (mOr (jR (aZ (mUn (pY K (.type "tuple")) (aD 3)))) (mOr (aZ (aE (eqE true) (aH gF (aB (aD 3) aN)) (mC (.int 2)))) (jR (aZ (aM 3 (a6 K c) (aB (aE ixE (aD 3) (mC (.int 0))) (aB (aE ixE (aD 3) (mC (.int 1))) (aB (aD 1) aN)))))))) (cY (mC (.bool false))) cS)
noncomputable def jD (K:PySem.W.Frag) (c:Cls):MS:=(cB (gS (jR (aZ (mUn (pY K (.type "list")) (aD 2)))) (cY (mC (.bool false))) cS) (cB (vJ (fT (aD 2)) (aG 3) (kA K c)) (cY (aE (eqE false) (dG 1 [] (fT (aD 2)) (aG 0) e9 (iF K c)) (dG 1 [1] (fT (aD 0)) (aG 0) (aZ (aE (pT true) (aD 0) (aD 1))) (fL K c))))))
noncomputable def cK (K:PySem.W.Frag) (c:Cls) (ls:List L):Res L:=dX 4 (jD K c) ls
theorem sH (K:PySem.W.Frag) (c:Cls):∀ ls,cK K c ls=.bad\/dX 4 (jD K c) ls=cK K c ls:=fun _=>.inr rfl
theorem aBb (K:PySem.W.Frag) (c:Cls) (hk:gA K c) {S:List Pl} {F:Pl->List Pl} (A B:Option L):∀ (xs:List Pl) (r3:Option L),(∀ p∈xs,a6 K c [.p (plD p),.p (.list ((g9 p (F p)).map mxD)),.p (.list (S.map plD))]=.ok (.p (.bool true)))->∃ q3,fB (aG 3) (kA K c) (xs.map (rwD F)) [A,some (.p (.list (S.map plD))),B,r3]=some (.nx [A,some (.p (.list (S.map plD))),B,q3])
 | [],r3,_=>⟨r3,rfl⟩
 | p :: xs,r3,h=>by
  obtain ⟨q3,ih⟩:=aBb K c hk A B xs (some (.p (rwD F p))) fun y hy=>h y (.tail _ hy)
  have hp:=h p (.head _)
  have ty:tyD (rwD F p) = "tuple":=rfl
  have ln:gF [.p (rwD F p)]=.ok (.p (.int 2)):=rfl
  have l2:eqE true (.p (.int 2)) (.p (.int 2))=.ok (.p (.bool false)):=jQ rfl rfl (fP 2) true
  have i0:ixE (.p (rwD F p)) (.p (.int 0))=.ok (.p (plD p)):=rfl
  have i1:ixE (.p (rwD F p)) (.p (.int 1))=.ok (.p (.list ((g9 p (F p)).map mxD))):=rfl
  have t:(mOr (jR (aZ (mUn (pY K (.type "tuple")) (aD 3)))) (mOr (aZ (aE (eqE true) (aH gF (aB (aD 3) aN)) (mC (.int 2)))) (jR (aZ (aM 3 (a6 K c) (aB (aE ixE (aD 3) (mC (.int 0))) (aB (aE ixE (aD 3) (mC (.int 1))) (aB (aD 1) aN)))))))) [A,some (.p (.list (S.map plD))),B,some (.p (rwD F p))]=.ok false:=by
   ktr_call 3 ⟨mOr,jR,aZ,aE,mUn,aD,mC,aM,aH,aB,aN,cH,bY,gP,gT,Res.bind,Ev.c,pY,dat,ty,hk.tt,bE,ln,l2,i0,i1,hp,Bool.not_true⟩
  refine ⟨q3,?_⟩
  rw [List.map_cons,aAh rfl (j3 t)]
  exact ih
theorem aHc (K:PySem.W.Frag) (c:Cls) (hk:gA K c) {ps S:List Pl} {F:Pl->List Pl} (hl:ps.length<=100) (h:∀ p∈ps,p∉S->a6 K c [.p (plD p),.p (.list ((g9 p (F p)).map mxD)),.p (.list (S.map plD))]=.ok (.p (.bool true))):cK K c [.p (.list (ps.map plD)),.p (.list (S.map plD)),.p (.list ((ps.filter fun p=>!decide (p∈S)).map (rwD F)))]=.ok (.p (.bool true)):=by
 have fl:(ps.filter fun p=>!decide (p∈S)).length<=ps.length:=List.length_filter_le _ _
 obtain ⟨q3,hlp⟩:=aBb K c hk (S:=S) (F:=F) (some (.p (.list (ps.map plD)))) (some (.p (.list ((ps.filter fun p=>!decide (p∈S)).map (rwD F))))) (ps.filter fun p=>!decide (p∈S)) none (fun p hp=>by
  obtain ⟨a,b⟩:=List.mem_filter.mp hp
  exact h p a (by simpa using b))
 unfold cK
 refine bI ?_
 rw [show a7 4 [.p (.list (ps.map plD)),.p (.list (S.map plD)),.p (.list ((ps.filter fun p=>!decide (p∈S)).map (rwD F)))]=[some (.p (.list (ps.map plD))),some (.p (.list (S.map plD))),some (.p (.list ((ps.filter fun p=>!decide (p∈S)).map (rwD F)))),none] from rfl]
 unfold jD
 have ty:tyD (PyData.list ((ps.filter fun p=>!decide (p∈S)).map (rwD F))) = "list":=rfl
 have t0:(jR (aZ (mUn (pY K (.type "list")) (aD 2)))) [some (.p (.list (ps.map plD))),some (.p (.list (S.map plD))),some (.p (.list ((ps.filter fun p=>!decide (p∈S)).map (rwD F)))),none]=.ok false:=by
  ktr_call 3 ⟨jR,aZ,mUn,aD,Res.bind,Ev.c,pY,dat,ty,hk.ll,bE,Bool.not_true⟩
 refine (aR (j3 t0)).trans ((aR ((nP (ds:=(ps.filter fun p=>!decide (p∈S)).map (rwD F)) rfl).trans hlp)).trans (gW ?_))
 have hm1:kH (aQ 1 [] (aG 0) e9 (iF K c) [some (.p (.list (ps.map plD))),some (.p (.list (S.map plD))),some (.p (.list ((ps.filter fun p=>!decide (p∈S)).map (rwD F)))),q3]) ((ps.filter fun p=>!decide (p∈S)).map (rwD F))=some ((ps.filter fun p=>!decide (p∈S)).map plD):=dW _ fun x _=>rfl
 have hc1:=dO (n:=1) (js:=[]) (fi:=fT (aD 2)) (tg:=aG 0) (ft:=e9) (fe:=iF K c) (en:=[some (.p (.list (ps.map plD))),some (.p (.list (S.map plD))),some (.p (.list ((ps.filter fun p=>!decide (p∈S)).map (rwD F)))),q3]) (ds:=(ps.filter fun p=>!decide (p∈S)).map (rwD F)) rfl (by rw [List.length_map];omega) hm1
 have hm2:kH (aQ 1 [1] (aG 0) (aZ (aE (pT true) (aD 0) (aD 1))) (fL K c) [some (.p (.list (ps.map plD))),some (.p (.list (S.map plD))),some (.p (.list ((ps.filter fun p=>!decide (p∈S)).map (rwD F)))),q3]) (ps.map plD)=some ((ps.filter fun p=>!decide (p∈S)).map plD):=by
  refine fK _ fun q _=>?_
  have nn:=x6 true q S
  have tq:aZ (aE (pT true) (aD 0) (aD 1)) [some (.p (plD q)),some (.p (.list (S.map plD)))]=.ok (!decide (q∈S)):=by
   ktr_call 3 ⟨aZ,aE,aD,Res.bind,Ev.c,nn,bE⟩
   try rfl
  unfold aQ
  ktr_call 3 ⟨aG,kF,pQ,List.replicate,List.cons_append,List.nil_append,tq,fL,aD,Ev.c⟩
  cases decide (q∈S)<;>rfl
 have hc2:=dO (n:=1) (js:=[1]) (fi:=fT (aD 0)) (tg:=aG 0) (ft:=aZ (aE (pT true) (aD 0) (aD 1))) (fe:=fL K c) (en:=[some (.p (.list (ps.map plD))),some (.p (.list (S.map plD))),some (.p (.list ((ps.filter fun p=>!decide (p∈S)).map (rwD F)))),q3]) (ds:=ps.map plD) rfl (by rw [List.length_map];omega) hm2
 have eu:eqE false (.p (.list ((ps.filter fun p=>!decide (p∈S)).map plD))) (.p (.list ((ps.filter fun p=>!decide (p∈S)).map plD)))=.ok (.p (.bool true)):=jQ rfl rfl (yE _) false
 simp only [aE,Res.bind,hc1,hc2,Ev.c,eu]
theorem aOq {x:Int} (h:0<=x/\x < PR):Sz 200 x:=by
 have:Sz 200 PR:=by unfold Sz PR;decide
 exact Sz.le this (by have:=h.1;have:=h.2;omega)
theorem aKh {vs:List Int} (h:∀ v∈vs,0<=v/\v < PR) (k:Nat):0<=vs.getD k 0/\vs.getD k 0 < PR:=by
 by_cases hk:k < vs.length
 ·exact h _ (getD_in hk 0)
 ·have:vs.getD k 0=0:=by simp [List.getD,Nat.le_of_not_lt hk]
  rw [this]
  exact ⟨by decide,by decide⟩
theorem aGy (vs:List Int) (a b:Nat):∃ cs:List Int,M.cutD (vs.map .int) (some (a:Int)) (some (b:Int))=cs.map .int/\(∀ x∈cs,x∈vs)/\cs.length<=b:=by
 refine ⟨(vs.drop (HT.sIx vs.length 0 (some (a:Int)))).take (HT.sIx vs.length vs.length (some (b:Int)) - HT.sIx vs.length 0 (some (a:Int))),?_,fun x hx=>List.mem_of_mem_drop (List.mem_of_mem_take hx),?_⟩
 ·unfold M.cutD
  rw [List.length_map,List.map_take,List.map_drop]
 ·rw [List.length_take,HT.aAy]
  omega
theorem aR3:∀ hs:List (Int×Int),(∀ x∈hs,1<=x.2)->∃ G:Int,1<=G/\∀ x∈hs,x.2∣G
 | [],_=>⟨1,by decide,(fun _ h=>nomatch h)⟩
 | x :: hs,h=>by
  obtain ⟨G,g1,g2⟩:=aR3 hs fun y hy=>h y (.tail _ hy)
  refine ⟨x.2*G,cN (h x (.head _)) g1,fun y hy=>?_⟩
  rcases List.mem_cons.mp hy with z | z
  ·rw [z];exact Int.dvd_mul_right _ _
  ·exact Int.dvd_trans (g2 y z) (Int.dvd_mul_left _ _)
theorem GPl.pg {p:Pl} (g:GPl p):PG p:=⟨g.si,g.sj,g.h.p,g.h.t,g.h.b⟩
noncomputable def yO (K:PySem.W.Frag) (c:Cls):En->Res Ev:=(aE ixE (aD 0) (mC (.int 0)))
noncomputable def aB2 (K:PySem.W.Frag) (c:Cls):MS:=(cB (cW 0 (aM 1 (cA K c) (aB (aD 0) aN))) (cB (cW 1 (aM 2 (bL K c) (aB (aD 0) (aB (mC (.int 0)) aN)))) (cB (cW 2 (aM 4 (bZ K c) (aB (aD 1) (aB (mSl (aD 0) (mPt (mC (.int 1))) (mPt (mC (.int 21)))) (aB (mC (.int 8)) (aB (aE ixE (aH bH (aB (mC (.int 9)) (aB (mC (.int 5)) (aB (mC (.int 3)) aN)))) (aE jT (aE gZ (aD 1) (mC (.int 12))) (mC (.int 3)))) aN)))))) (fun en=>(cB (cW 3 (aH listE (aB (aD 2) aN))) (fun en=>(cB (cW 5 (dG 1 [] (fT (aM 1 (gQ K c) (aB (aD 3) aN))) (aG 0) e9 (yO K c))) (fun en=>(aC5 6 3 4 (aM 1 (fS K c) (aB (aD 3) aN)) (jR (aZ (aM 3 (cK K c) (aB (aD 2) (aB (aD 5) (aB (aD 6) aN)))))) (cY (k8 (aM 3 (cK K c) (aB (aD 2) (aB (aD 5) (aB (aM 1 (fS K c) (aB (aD 3) aN)) aN)))) (aE (eqE false) (aD 3) (aD 2))))) (frz 5 en))) (frz 3 en))) (frz 2 en)))))
noncomputable def aD7 (K:PySem.W.Frag) (c:Cls) (ls:List L):Res L:=dX 7 (aB2 K c) ls
theorem aNx (K:PySem.W.Frag) (c:Cls):∀ ls,aD7 K c ls=.bad\/dX 7 (aB2 K c) ls=aD7 K c ls:=fun _=>.inr rfl
theorem aN6 (K:PySem.W.Frag) (c:Cls) (hk:gA K c) (ns:List Int) (hn:ns.length<=63):aD7 K c [.p (.list (ns.map .int))]=.ok (.p (.bool true)):=by
 obtain ⟨vs,v1,v2,hs⟩:=aJr K c ns hn
 have c0:=aA6 K c vs 0
 have k0:=aOq (aKh v2 0)
 generalize vs.getD 0 0=kind at c0 k0
 obtain ⟨cs,hcs,hm,hcl⟩:=aGy vs 1 21
 obtain ⟨w,w0,w1,hw⟩:∃ w:Int,1<=w/\w<=9/\ixE (.p (.tuple [.int 9,.int 5,.int 3])) (.p (.int ((kind.fdiv 12).fmod 3)))=.ok (.p (.int w)):=by
  have m:=fO (a:=kind.fdiv 12) (b:=3) (by decide)
  rcases (show (kind.fdiv 12).fmod 3=0\/(kind.fdiv 12).fmod 3=1\/(kind.fdiv 12).fmod 3=2 by omega) with z | z | z<;>rw [z]
  ·exact ⟨9,by decide,by decide,mF _ _⟩
  ·exact ⟨5,by decide,by decide,mM _ _ _⟩
  ·exact ⟨3,by decide,by decide,pP _ _ _ _⟩
 obtain ⟨ps,p0,p1,p2,p3,hr⟩:=aKm K c (mo:=8) k0 w0 w1 cs (by omega) (fun x hx=>⟨(v2 x (hm x hx)).1,aOq (v2 x (hm x hx))⟩)
 have pg:∀ p∈ps,PG p:=fun p hp=>(p2 p hp).pg
 obtain ⟨G,hG,gd⟩:=aR3 (ps.map fun p=>p.2.2) (fun x hx=>by
  obtain ⟨p,hp,rfl⟩:=List.mem_map.mp hx
  exact (p2 p hp).h.p)
 have rf:Rf G ps:=⟨p0,by omega,pg,fun p hp=>⟨(p2 p hp).i0,(p2 p hp).i1,(p2 p hp).j0,(p2 p hp).j1,(p2 p hp).h.f,gd _ (List.mem_map.mpr ⟨p,hp,rfl⟩)⟩,p3⟩
 have l22:ps.length<=22:=by omega
 have nd:ps.Nodup:=List.Pairwise.of_map slp (fun a b q z=>q (by rw [z])) p3
 have ndt:(thn ps).Nodup:=nd.filter _
 have st:∀ p∈ps,p∉thn ps->stays ps p=false:=fun p hp np=>by
  cases e:stays ps p with
  | false=>rfl
  | true=>exact absurd (List.mem_filter.mpr ⟨hp,e⟩) np
 have ch:∀ p:Pl,∃ g:List Pl,p∈ps->p∉thn ps->(grp (thn ps)).find? (uK p)=some g:=fun p=>by
  by_cases hp:p∈ps
  ·by_cases np:p∈thn ps
   ·exact ⟨[],fun _ n=>absurd np n⟩
   ·obtain ⟨g,hg⟩:=aGj hG rf hp (st p hp np)
    exact ⟨g,fun _ _=>hg⟩
  ·exact ⟨[],fun h=>absurd h hp⟩
 obtain ⟨F,hF⟩:=Classical.axiomOfChoice ch
 have hst:=vB K c l22 pg
 have hsk:=aCf K c l22 pg (F:=F) hF
 have hsk:fS K c [.p (.list (ps.map plD))]=.ok (.o (.list ((ps.filter fun p=>!decide (p∈thn ps)).map (rwD F)))):=hsk
 have good:∀ p∈ps,SP p/\Good 200 p.2.2:=fun p hp=>⟨⟨(pg p hp).i,(pg p hp).j⟩,(pg p hp).h.1,(pg p hp).h.2.1.mono (by decide),(pg p hp).h.2.2.mono (by decide)⟩
 have gf:∀ p∈ps,p∉thn ps->(F p).Sublist (thn ps)/\((F p).length=2\/(F p).length=3)/\uK p (F p)=true:=fun p hp np=>by
  have e:=hF p hp np
  obtain ⟨a,b⟩:=wQ (List.mem_of_find?_eq_some e)
  exact ⟨a,b,List.find?_some e⟩
 have lt:(thn ps).length<=ps.length:=List.length_filter_le _ _
 have hri:=aHc K c hk (ps:=ps) (S:=thn ps) (F:=F) (by omega) (fun p hp np=>by
  obtain ⟨a,b,f⟩:=gf p hp np
  exact aG1 K c hk b f a ndt (by omega) (good p hp).1 (good p hp).2 fun q hq=>good q (sL (a.subset hq)))
 have fl:(ps.filter fun p=>!decide (p∈thn ps)).length<=ps.length:=List.length_filter_le _ _
 have hro:∀ d∈(ps.filter fun p=>!decide (p∈thn ps)).map (rwD F),aRx (ps.map plD) d:=fun d hd=>by
  obtain ⟨p,hp,rfl⟩:=List.mem_map.mp hd
  obtain ⟨a,b⟩:=List.mem_filter.mp hp
  obtain ⟨_,h3,_⟩:=gf p a (by simpa using b)
  have ml:(g9 p (F p)).length=(F p).length:=by rw [<- List.length_map (f:=fun x=>x.2),wM h3]
  refine ⟨_,_,rfl,.inr ?_⟩
  cases hx:g9 p (F p) with
  | nil=>rw [hx] at ml;simp at ml;omega
  | cons x xs =>
   cases hy:ps with
   | nil=>exact absurd hy p0
   | cons y ys=>exact ⟨[frD x.1,plD x.2],_,[.int y.1,.int y.2.1,frD y.2.2],_,rfl,rfl,(show (2:Nat)≠3 by decide)⟩
 generalize hrw:(ps.filter fun p=>!decide (p∈thn ps)).map (rwD F)=rows at hsk hri hro
 have rl:rows.length<=100000:=by rw [<- hrw,List.length_map];omega
 have lfp:lfA (ps.map plD)=true:=aCg plD (fun p=>by simp [plD,frD,lfD,lfA]) _
 show dX 7 (aB2 K c) [.p (.list (ns.map .int))]=_
 refine bI ?_
 rw [show a7 7 [.p (.list (ns.map .int))]=[some (.p (.list (ns.map .int))),none,none,none,none,none,none] from rfl]
 unfold aB2
 have e0:(aM 1 (cA K c) (aB (aD 0) aN)) [some (.p (.list (ns.map .int))),none,none,none,none,none,none]=.ok (.f (.list (vs.map .int))):=by
  ktr_call 3 ⟨aM,aB,aN,aD,Res.bind,Ev.c,cH,bY,gP,hs,gT⟩
 refine (aR (gY e0)).trans ?_
 simp only [List.set_cons_succ,List.set_cons_zero]
 have e1:(aM 2 (bL K c) (aB (aD 0) (aB (mC (.int 0)) aN))) [some (.o (.list (vs.map .int))),none,none,none,none,none,none]=.ok (.p (.int kind)):=by
  have c0':bL K c [.p (.list (vs.map .int)),.p (.int 0)]=.ok (.p (.int kind)):=c0
  ktr_call 3 ⟨aM,aB,aN,aD,mC,Res.bind,Ev.c,cH,bY,gP,wK,c0',uQ,aOi,gT⟩
 refine (aR (hZ e1)).trans ?_
 simp only [List.set_cons_succ,List.set_cons_zero]
 have e2:(aM 4 (bZ K c) (aB (aD 1) (aB (mSl (aD 0) (mPt (mC (.int 1))) (mPt (mC (.int 21)))) (aB (mC (.int 8)) (aB (aE ixE (aH bH (aB (mC (.int 9)) (aB (mC (.int 5)) (aB (mC (.int 3)) aN)))) (aE jT (aE gZ (aD 1) (mC (.int 12))) (mC (.int 3)))) aN))))) [some (.o (.list (vs.map .int))),some (.p (.int kind)),none,none,none,none,none]=.ok (.f (.list (ps.map plD))):=by
  have hcs':M.cutD (vs.map .int) (some 1) (some 21)=cs.map .int:=hcs
  ktr_call 21 ⟨mSl,mPt,hcs',hw,hr⟩
 refine (aR (gY e2)).trans ?_
 simp only [List.set_cons_succ,List.set_cons_zero]
 refine uA (i:=2) (e1:=[some (.o (.list (vs.map .int))),some (.p (.int kind)),some (.p (.list (ps.map plD))),none,none,none,none]) rfl ?_
 refine (aR (gY (d:=.list (ps.map plD)) rfl)).trans ?_
 simp only [List.set_cons_succ,List.set_cons_zero]
 refine uA (i:=3) (e1:=[some (.o (.list (vs.map .int))),some (.p (.int kind)),some (.p (.list (ps.map plD))),some (.p (.list (ps.map plD))),none,none,none]) rfl ?_
 have hit:(fT (aM 1 (gQ K c) (aB (aD 3) aN))) [some (.o (.list (vs.map .int))),some (.p (.int kind)),some (.p (.list (ps.map plD))),some (.p (.list (ps.map plD))),none,none,none]=.ok ((pZ ps).map stD):=by
  ktr_call 3 ⟨fT,aM,aB,aN,aD,Res.bind,Ev.c,cH,bY,gP,hst,gT,aFr⟩
 have hmp:kH (aQ 1 [] (aG 0) e9 (yO K c) [some (.o (.list (vs.map .int))),some (.p (.int kind)),some (.p (.list (ps.map plD))),some (.p (.list (ps.map plD))),none,none,none]) ((pZ ps).map stD)=some ((pZ ps).map fun x=>plD x.1):=dW _ fun x _=>rfl
 have ls:(pZ ps).length<=ps.length:=by unfold pZ;rw [List.length_map];exact lt
 have hc:=dO (n:=1) (js:=[]) hit (by rw [List.length_map];omega) hmp
 rw [show ((pZ ps).map fun x=>plD x.1)=(thn ps).map plD by unfold pZ thn;rw [List.map_map];rfl] at hc
 refine (aR (gY hc)).trans ?_
 simp only [List.set_cons_succ,List.set_cons_zero]
 refine uA (i:=5) (e1:=[some (.o (.list (vs.map .int))),some (.p (.int kind)),some (.p (.list (ps.map plD))),some (.p (.list (ps.map plD))),none,some (.p (.list ((thn ps).map plD))),none]) rfl ?_
 have hfe:(aM 1 (fS K c) (aB (aD 3) aN)) [none,none,none,some (.p (.list (ps.map plD))),none,none,none]=.ok (.f (.list rows)):=by
  ktr_call 3 ⟨aM,aB,aN,aD,Res.bind,Ev.c,cH,bY,gP,hsk,gT⟩
 have hfc:(jR (aZ (aM 3 (cK K c) (aB (aD 2) (aB (aD 5) (aB (aD 6) aN)))))) [some (.o (.list (vs.map .int))),some (.p (.int kind)),some (.p (.list (ps.map plD))),some (.p (.list (ps.map plD))),none,some (.p (.list ((thn ps).map plD))),some (.p (.list rows))]=.ok false:=by
  ktr_call 3 ⟨jR,aZ,aM,aB,aN,aD,Res.bind,Ev.c,cH,bY,gP,hri,gT,bE,Bool.not_true⟩
 refine (aKv (es:=ps.map plD) (rows:=rows) rfl hfe ⟨lfp,hro,rl,hfc⟩).trans ?_
 simp only [List.set_cons_succ,List.set_cons_zero]
 refine gW ?_
 have eq:eqE false (.p (.list (ps.map plD))) (.p (.list (ps.map plD)))=.ok (.p (.bool true)):=jQ rfl rfl (yE _) false
 ktr_call 3 ⟨k8,aE,aM,aB,aN,aD,Res.bind,Ev.c,cH,bY,gP,hsk,hri,gT,eq⟩
section
variable {P:Program} {w:World} {K:PySem.W.Frag} {mg:Str->Option Value} {base:Heap}
theorem sc_greatest:aW ["numbers","best","number"] ["numbers"] (aO kO):=⟨rfl,rfl,rfl,by decide +kernel,rfl,by decide +kernel,by decide +kernel⟩
theorem xE {c:Cls} (Df:Def K mg "greatest" ["numbers"] kO) (B:Blt mg) (C:iR mg c) (O:iQ mg base c) (hk:gA K c) (c_less:Cal P w K mg base 1 "less" 2 (iH K c)):Cal P w K mg base 2 "greatest" 1 (eI K c):=by
 refine jC (k:=1) Df sc_greatest rfl (fun f cdv A outer s H E hr=>⟨qJ K c,?_,vZ K c⟩)
 exact (aJ (bD (i:=1) sc_greatest.nd rfl (Or.inl rfl) (aP (dv 0) aC (fun _ _=>rfl))) (aJ (jW PassesOwn.leaving rfl (bX (dv 0)) (a8 (i:=2) sc_greatest.nd rfl (Or.inl rfl)) (aL (eN (iK (aK c_less hr bQ (aA (dv 1) (aA (dv 2) aF)))) (aL (bD (i:=1) sc_greatest.nd rfl (Or.inl rfl) (dv 2))) bS))) (aL (aX (dv 1)))))
theorem sc_shared_sum:aW ["rows","total","share","number"] ["rows"] (aO i7):=⟨rfl,rfl,rfl,by decide +kernel,rfl,by decide +kernel,by decide +kernel⟩
theorem rY {c:Cls} (Df:Def K mg "shared_sum" ["rows"] i7) (B:Blt mg) (C:iR mg c) (O:iQ mg base c) (hk:gA K c) (c_plus:Cal P w K mg base 3 "plus" 2 (jY K c)) (c_times:Cal P w K mg base 3 "times" 2 (lL K c)):Cal P w K mg base 4 "shared_sum" 1 (dA K c):=by
 refine jC (k:=3) Df sc_shared_sum rfl (fun f cdv A outer s H E hr=>⟨jB K c,?_,rX K c⟩)
 exact (aJ (bD (i:=1) sc_shared_sum.nd rfl (Or.inl rfl) (b7 (aA aC (aA aC aF)))) (aJ (jW PassesOwn.leaving rfl (bX (dv 0)) (qK (n:=2) rfl (eX (a8 (i:=2) sc_shared_sum.nd rfl (Or.inl rfl)) (eX (a8 (i:=3) sc_shared_sum.nd rfl (Or.inl rfl)) mY))) (aL (bD (i:=1) sc_shared_sum.nd rfl (Or.inl rfl) (aK c_plus hr bQ (aA (dv 1) (aA (aK c_times hr bQ (aA (dv 2) (aA (dv 3) aF))) aF)))))) (aL (aX (dv 1)))))
theorem sR:aW ["_law_found"] ["_law_found"] (aO iY):=⟨rfl,rfl,rfl,by decide +kernel,rfl,by decide +kernel,by decide +kernel⟩
theorem qU {c:Cls} (Df:Def K mg "_law_whole" ["_law_found"] iY) (B:Blt mg) (C:iR mg c) (O:iQ mg base c) (hk:gA K c):Cal P w K mg base 1 "_law_whole" 1 (cJ K c):=by
 refine jC (k:=0) Df sR rfl (fun f cdv A outer s H E hr=>⟨j7 K c,?_,sZ K c hk⟩)
 exact (aL (aX (zD (n8 (cv:=.type "int") rfl B.isinstance_ (.inl ⟨_,rfl⟩) rfl (dv 0) (lP (v:=.ty "int") rfl B.int_ aLy rfl)) (xR (aH7 (n8 (cv:=.type "bool") rfl B.isinstance_ (.inl ⟨_,rfl⟩) rfl (dv 0) (lP (v:=.ty "bool") rfl B.bool_ aIz rfl)))))))
theorem sD:aW ["_law_one","_law_other"] ["_law_one","_law_other"] (aO i5):=⟨rfl,rfl,rfl,by decide +kernel,rfl,by decide +kernel,by decide +kernel⟩
theorem rB {c:Cls} (Df:Def K mg "_law_under" ["_law_one","_law_other"] i5) (B:Blt mg) (C:iR mg c) (O:iQ mg base c) (hk:gA K c):Cal P w K mg base 1 "_law_under" 2 (d8 K c):=by
 refine jC (k:=0) Df sD rfl (fun f cdv A outer s H E hr=>⟨kJ K c,?_,sU K c⟩)
 exact (aL (aX (mZ pV fR aU (aS aY bG aI (aP (dv 0) aC (fun _ _=>rfl)) (aP (dv 1) aC (fun _ _=>rfl))) (aS aY bG aI (aP (dv 1) aC (fun _ _=>rfl)) (aP (dv 0) aC (fun _ _=>rfl))) (bN _))))
theorem sc__law_parts_right:aW ["_law_plane","_law_parts","_law_planes","_law_sums","_law_part","_law_row","_law_used"] ["_law_plane","_law_parts","_law_planes"] (aO dQ):=⟨rfl,rfl,rfl,by decide +kernel,rfl,by decide +kernel,by decide +kernel⟩
theorem lE {c:Cls} (Df:Def K mg "_law_parts_right" ["_law_plane","_law_parts","_law_planes"] dQ) (B:Blt mg) (C:iR mg c) (O:iQ mg base c) (hk:gA K c) (c__law_under:Cal P w K mg base 1 "_law_under" 2 (d8 K c)) (c__law_sum:Cal P w K mg base 2 "_law_sum" 2 (fE K c)) (c__law_product:Cal P w K mg base 2 "_law_product" 2 (cX K c)) (c__law_is_fraction:Cal P w K mg base 2 "_law_is_fraction" 1 (bO K c)):Cal P w K mg base 3 "_law_parts_right" 3 (a6 K c):=by
 refine jC (k:=2) Df sc__law_parts_right rfl (fun f cdv A outer s H E hr=>⟨dP K c,?_,lK K c⟩)
 refine aJ ?a0 ?y0
 case a0=>exact (eN (DW.t (nJ (kM (iK (n8 (cv:=.type "list") rfl B.isinstance_ (.inl ⟨_,rfl⟩) rfl (dv 1) (lP (v:=.ty "list") rfl B.list_ vY rfl)))) (nJ (bU pV fR aU (bW bV jM fY rfl B.len_ PySem.boot_len (aA (dv 1) aF)) aC (bN _)) (u9 (bU tR fR aU (bW bV jM fY rfl B.len_ PySem.boot_len (aA (dv 1) aF)) aC (bN _)))))) (aL (aX sO)) bS)
 case y0 =>
   refine aJ ?a1 ?y1
   case a1=>((refine bD (i:=3) ?n ?h1 ?h2 ?e ?s ?f);(case n=>exact sc__law_parts_right.nd);(case h1=>rfl);(case h2=>exact (Or.inr rfl));(case s=>rfl);(case f=>first | exact .inl rfl | exact .inr rfl);(case e=>((refine lC ?l);(refine aA (b7 (aA aC (aA aC aF))) ?m0);(refine aA (b7 (aA aC (aA aC aF))) ?m1);(refine aA (b7 (aA aC (aA aC aF))) ?m2);(exact aA (b7 (aA aC (aA aC aF))) aF))))
   case y1 =>
  refine aJ ?a2 ?y2
  case a2=>exact (jW PassesOwn.leaving rfl (bX (dv 1)) (a8 (i:=4) sc__law_parts_right.nd rfl (Or.inr rfl)) (aJ (eN (DW.t (nJ (kM (iK (n8 (cv:=.type "tuple") rfl B.isinstance_ (.inl ⟨_,rfl⟩) rfl (dv 4) (lP (v:=.ty "tuple") rfl B.tuple_ rZ rfl)))) (nJ (bU (lB (u64 hr)) gX dI (bW bV jM fY rfl B.len_ PySem.boot_len (aA (dv 4) aF)) aC (bN _)) (nJ (kM (iK (aK c__law_is_fraction hr bQ (aA (aP (dv 4) aC (fun _ _=>rfl)) aF)))) (u9 (bU pV fR aU (aP (aP (dv 4) aC (fun _ _=>rfl)) aC (fun _ _=>rfl)) aC (bN _))))))) (aL (aX sO)) bS) (aJ (eN (bU (wV (u65 hr)) zJ rL (aP (dv 4) aC (fun _ _=>rfl)) (dv 2) (by with_unfolding_all rfl)) (aL (aX sO)) bS) (aJ (bD (i:=5) sc__law_parts_right.nd rfl (Or.inr rfl) (lC (aA (b7 (aA aC (aA aC aF))) (aA (b7 (aA (aP (aP (dv 4) aC (fun _ _=>rfl)) aC (fun _ _=>rfl)) (aA aC aF))) (aA (b7 (aA (aP (aP (dv 4) aC (fun _ _=>rfl)) aC (fun _ _=>rfl)) (aA aC aF))) (aA (aP (aP (dv 4) aC (fun _ _=>rfl)) aC (fun _ _=>rfl)) aF)))))) (d9 (f:=(fun en=>(cW 3 (dG 1 [4,5,3] (lS oF (aB (mC (.int 4)) aN)) (aG 0) e9 (aT K c))) (frz 5 en))) 3 (d9 (f:=(cW 3 (dG 1 [4,5,3] (lS oF (aB (mC (.int 4)) aN)) (aG 0) e9 (aT K c)))) 5 (aL (bD (i:=3) sc__law_parts_right.nd rfl (Or.inr rfl) (dJ (xs:=["_law_k"]) (ys:=["_law_part","_law_row","_law_sums"]) (js:=[4,5,3]) (cl:=[("_law_sums",s.heap.objs.size+1),("_law_row",s.heap.objs.size+1+1+1),("_law_part",s.heap.objs.size+1+1)]) rfl (uW rfl B.range_ (aA aC aF)) (g6 (ys:=["_law_part","_law_row","_law_sums"]) (js:=[4,5,3]) rfl (List.forall_mem_cons.mpr ⟨rfl,(List.forall_mem_cons.mpr ⟨rfl,(List.forall_mem_cons.mpr ⟨rfl,(fun _ h=>nomatch h)⟩)⟩)⟩) (a5 ⟨rfl,.inl rfl,.inl rfl,rfl,rfl⟩ (a5 ⟨rfl,.inl rfl,.inl rfl,rfl,rfl⟩ (a5 ⟨rfl,.inl rfl,.inl rfl,rfl,rfl⟩ aV))) (by decide +kernel) (by decide +kernel)) (a5 ⟨rfl,.inl rfl,.inl rfl,rfl,rfl⟩ (a5 ⟨rfl,.inl rfl,.inl rfl,rfl,rfl⟩ (a5 ⟨rfl,.inl rfl,.inl rfl,rfl,rfl⟩ aV))) (by decide +kernel) rfl (by decide +kernel) rfl (by decide) (fun C s₀ H₀ ex pn=>(a8 (i:=0) (show (["_law_k","_law_part","_law_row","_law_sums"]:List Str).Nodup by decide +kernel) rfl (Or.inl rfl))) (fun C s₀ H₀ ex pn=>e8) (fun C s₀ H₀ ex pn=>(aK c__law_sum hr pU (aA (aP (dv 3) (dv 0) (fun _ _=>rfl)) (aA (aK c__law_product hr pU (aA (aP (dv 1) aC (fun _ _=>rfl)) (aA (aP (dv 2) (dv 0) (fun _ _=>rfl)) aF))) aF)))))))))))))
  case y2 =>
    refine aJ ?a3 ?y3
    case a3=>exact (bD (i:=6) sc__law_parts_right.nd rfl (Or.inr rfl) (dJ (xs:=["_law_part"]) (ys:=[]) (js:=[]) (cl:=[]) rfl (bX (dv 1)) (g6 (ys:=[]) (js:=[]) rfl (fun _ h=>nomatch h) aV (by decide +kernel) (by decide +kernel)) aV (by decide +kernel) rfl (by decide +kernel) rfl (by decide) (fun C s₀ H₀ ex pn=>(a8 (i:=0) (show (["_law_part"]:List Str).Nodup by decide +kernel) rfl (Or.inl rfl))) (fun C s₀ H₀ ex pn=>e8) (fun C s₀ H₀ ex pn=>(aP (dv 0) aC (fun _ _=>rfl)))))
    case y3 =>
   exact (d9 6 (aJ (eN (bU (lB (u64 hr)) gX dI (dv 6) (dJ (xs:=["_law_one"]) (ys:=["_law_used"]) (js:=[6]) (cl:=[("_law_used",s.heap.objs.size+1+1+1+1)]) rfl (bX (dv 2)) (g6 (ys:=["_law_used"]) (js:=[6]) rfl (List.forall_mem_cons.mpr ⟨rfl,(fun _ h=>nomatch h)⟩) (a5 ⟨rfl,.inl rfl,.inl rfl,rfl,rfl⟩ aV) (by decide +kernel) (by decide +kernel)) (a5 ⟨rfl,.inl rfl,.inl rfl,rfl,rfl⟩ aV) (by decide +kernel) rfl (by decide +kernel) rfl (by decide) (fun C s₀ H₀ ex pn=>(a8 (i:=0) (show (["_law_one","_law_used"]:List Str).Nodup by decide +kernel) rfl (Or.inl rfl))) (fun C s₀ H₀ ex pn=>(jK (bU (aMq (u65 hr)) zJ rL (dv 0) (dv 1) (by with_unfolding_all rfl)))) (fun C s₀ H₀ ex pn=>(dv 0))) (bN _)) (aL (aX sO)) bS) (d9 3 (aJ (eN (DW.t (nJ (bU (lB (u64 hr)) gX dI (aP (dv 3) aC (fun _ _=>rfl)) (b7 (aA aC (aA aC aF))) (bN _)) (nJ (bU (lB (u64 hr)) gX dI (aP (dv 3) aC (fun _ _=>rfl)) (b7 (aA (aP (dv 0) aC (fun _ _=>rfl)) (aA aC aF))) (bN _)) (u9 (bU (lB (u64 hr)) gX dI (aP (dv 3) aC (fun _ _=>rfl)) (b7 (aA (aP (dv 0) aC (fun _ _=>rfl)) (aA aC aF))) (bN _)))))) (aL (aX sO)) bS) (aL (aX (aH7 (aK c__law_under hr bQ (aA (aP (dv 3) aC (fun _ _=>rfl)) (aA (aP (dv 0) aC (fun _ _=>rfl)) aF))))))))))
end
section
variable {P:Program} {w:World} {K:PySem.W.Frag} {mg:Str->Option Value} {base:Heap}
theorem aFo:aW ["a","b"] ["a","b"] (aO rM):=⟨rfl,rfl,rfl,by decide +kernel,rfl,by decide +kernel,by decide +kernel⟩
theorem aGf {c:Cls} (Df:Def K mg "times" ["a","b"] rM) (B:Blt mg) (C:iR mg c) (O:iQ mg base c) (hk:gA K c) (c_fraction:Cal P w K mg base 2 "fraction" 2 (bB K c)):Cal P w K mg base 3 "times" 2 (lL K c):=by
 refine jC (k:=2) Df aFo rfl (fun f cdv A outer s H E hr=>⟨w4 K c,?_,aE6 K c⟩)
 exact (aL (aX (aK c_fraction hr bQ (aA (aS aY bG aI (aP (dv 0) aC (fun _ _=>rfl)) (aP (dv 1) aC (fun _ _=>rfl))) (aA (aS aY bG aI (aP (dv 0) aC (fun _ _=>rfl)) (aP (dv 1) aC (fun _ _=>rfl))) aF)))))
theorem sc_turn:aW ["start","middle","end","along","across"] ["start","middle","end"] (aO yG):=⟨rfl,rfl,rfl,by decide +kernel,rfl,by decide +kernel,by decide +kernel⟩
theorem aJ3 {c:Cls} (Df:Def K mg "turn" ["start","middle","end"] yG) (B:Blt mg) (C:iR mg c) (O:iQ mg base c) (hk:gA K c):Cal P w K mg base 1 "turn" 3 (fV K c):=by
 refine jC (k:=0) Df sc_turn rfl (fun f cdv A outer s H E hr=>⟨aCp K c,?_,aKz K c⟩)
 exact (aJ (bD (i:=3) sc_turn.nd rfl (Or.inl rfl) (aS aY bG aI (aS fX fW aU (aP (dv 1) aC (fun _ _=>rfl)) (aP (dv 0) aC (fun _ _=>rfl))) (aS fX fW aU (aP (dv 2) aC (fun _ _=>rfl)) (aP (dv 0) aC (fun _ _=>rfl))))) (aJ (bD (i:=4) sc_turn.nd rfl (Or.inl rfl) (aS aY bG aI (aS fX fW aU (aP (dv 1) aC (fun _ _=>rfl)) (aP (dv 0) aC (fun _ _=>rfl))) (aS fX fW aU (aP (dv 2) aC (fun _ _=>rfl)) (aP (dv 0) aC (fun _ _=>rfl))))) (aL (aX (aS fX fW aU (dv 3) (dv 4))))))
theorem wL:aW ["roof","factor"] ["roof","factor"] (aO kW):=⟨rfl,rfl,rfl,by decide +kernel,rfl,by decide +kernel,by decide +kernel⟩
theorem w8 {c:Cls} (Df:Def K mg "blown_up" ["roof","factor"] kW) (B:Blt mg) (C:iR mg c) (O:iQ mg base c) (hk:gA K c) (c_whole:Cal P w K mg base 1 "whole" 2 (lJ K c)):Cal P w K mg base 2 "blown_up" 2 (fD K c):=by
 refine jC (k:=1) Df wL rfl (fun f cdv A outer s H E hr=>⟨mQ K c,?_,wN K c⟩)
 exact (aL (aX (dJ (xs:=["plane"]) (ys:=["factor"]) (js:=[1]) (cl:=[("factor",s.heap.objs.size+1)]) rfl (bX (dv 0)) (g6 (ys:=["factor"]) (js:=[1]) rfl (List.forall_mem_cons.mpr ⟨rfl,(fun _ h=>nomatch h)⟩) (a5 ⟨rfl,.inl rfl,.inl rfl,rfl,rfl⟩ aV) (by decide +kernel) (by decide +kernel)) (a5 ⟨rfl,.inl rfl,.inl rfl,rfl,rfl⟩ aV) (by decide +kernel) rfl (by decide +kernel) rfl (by decide) (fun C s₀ H₀ ex pn=>(a8 (i:=0) (show (["plane","factor"]:List Str).Nodup by decide +kernel) rfl (Or.inl rfl))) (fun C s₀ H₀ ex pn=>e8) (fun C s₀ H₀ ex pn=>(b7 (aA (aP (dv 0) aC (fun _ _=>rfl)) (aA (aP (dv 0) aC (fun _ _=>rfl)) (aA (b7 (aA (aK c_whole hr pU (aA (aP (dv 0) aC (fun _ _=>rfl)) (aA (dv 1) aF))) (aA aC aF))) aF))))))))
theorem sc_struck:aW ["roof","stay","groups"] ["roof"] (aO nW):=⟨rfl,rfl,rfl,by decide +kernel,rfl,by decide +kernel,by decide +kernel⟩
theorem aEb {c:Cls} (Df:Def K mg "struck" ["roof"] nW) (B:Blt mg) (C:iR mg c) (O:iQ mg base c) (hk:gA K c) (c_mixture_of:Cal P w K mg base 6 "mixture_of" 2 (dB K c)) (c_pairs_and_triples:Cal P w K mg base 1 "pairs_and_triples" 1 (bC K c)) (c_thinned:Cal P w K mg base 8 "thinned" 1 (fF K c)):Cal P w K mg base 9 "struck" 1 (fS K c):=by
 refine jC (k:=8) Df sc_struck rfl (fun f cdv A outer s H E hr=>⟨nR K c,?_,aB7 K c⟩)
 exact (aJ (bD (i:=1) sc_struck.nd rfl (Or.inr rfl) (aK c_thinned hr bQ (aA (dv 0) aF))) (d9 1 (aJ (bD (i:=2) sc_struck.nd rfl (Or.inr rfl) (aK c_pairs_and_triples hr bQ (aA (dv 1) aF))) (d9 2 (aL (aX (dJ (xs:=["plane"]) (ys:=["groups","stay"]) (js:=[2,1]) (cl:=[("stay",s.heap.objs.size+1),("groups",s.heap.objs.size+1+1)]) rfl (bX (dv 0)) (g6 (ys:=["groups","stay"]) (js:=[2,1]) rfl (List.forall_mem_cons.mpr ⟨rfl,(List.forall_mem_cons.mpr ⟨rfl,(fun _ h=>nomatch h)⟩)⟩) (a5 ⟨rfl,.inl rfl,.inl rfl,rfl,rfl⟩ (a5 ⟨rfl,.inl rfl,.inl rfl,rfl,rfl⟩ aV)) (by decide +kernel) (by decide +kernel)) (a5 ⟨rfl,.inl rfl,.inl rfl,rfl,rfl⟩ (a5 ⟨rfl,.inl rfl,.inl rfl,rfl,rfl⟩ aV)) (by decide +kernel) rfl (by decide +kernel) rfl (by decide) (fun C s₀ H₀ ex pn=>(a8 (i:=0) (show (["plane","groups","stay"]:List Str).Nodup by decide +kernel) rfl (Or.inl rfl))) (fun C s₀ H₀ ex pn=>(jK (bU (wV (u65 hr)) zJ rL (dv 0) (dv 2) (by with_unfolding_all rfl)))) (fun C s₀ H₀ ex pn=>(b7 (aA (dv 0) (aA (aK c_mixture_of hr pU (aA (dv 0) (aA (dv 1) aF))) aF)))))))))))
theorem oN:aW ["_law_script","_law_k"] ["_law_script","_law_k"] (aO gM):=⟨rfl,rfl,rfl,by decide +kernel,rfl,by decide +kernel,by decide +kernel⟩
theorem oT {c:Cls} (Df:Def K mg "_law_cell_at" ["_law_script","_law_k"] gM) (B:Blt mg) (C:iR mg c) (O:iQ mg base c) (hk:gA K c):Cal P w K mg base 1 "_law_cell_at" 2 (bL K c):=by
 refine jC (k:=0) Df oN rfl (fun f cdv A outer s H E hr=>⟨jL K c,?_,pL K c⟩)
 exact (aJ (eN (bU pV fR aU (dv 1) (bW bV jM fY rfl B.len_ PySem.boot_len (aA (dv 0) aF)) (bN _)) (aL (aX (aP (dv 0) (dv 1) (fun _ _=>rfl)))) bS) (aL (aX aC)))
theorem sc__law_roof_by:aW ["_law_kind","_law_cells","_law_most","_law_wide","_law_high","_law_cell","_law_i","_law_j","_law_height","_law_far"] ["_law_kind","_law_cells","_law_most","_law_wide"] (aO gJ):=⟨rfl,rfl,rfl,by decide +kernel,rfl,by decide +kernel,by decide +kernel⟩
theorem oE {c:Cls} (Df:Def K mg "_law_roof_by" ["_law_kind","_law_cells","_law_most","_law_wide"] gJ) (B:Blt mg) (C:iR mg c) (O:iQ mg base c) (hk:gA K c) (c__law_height_by:Cal P w K mg base 2 "_law_height_by" 4 (bK K c)):Cal P w K mg base 3 "_law_roof_by" 4 (bZ K c):=by
 refine jC (k:=2) Df sc__law_roof_by rfl (fun f cdv A outer s H E hr=>⟨jI K c,?_,oI K c⟩)
 exact (aJ (bD (i:=4) sc__law_roof_by.nd rfl (Or.inr rfl) y9) (aJ (jW PassesOwn.leaving rfl (bX (dv 1)) (a8 (i:=5) sc__law_roof_by.nd rfl (Or.inl rfl)) (aJ (bD (i:=6) sc__law_roof_by.nd rfl (Or.inl rfl) (aS cT eK aI (dv 5) (dv 3))) (aJ (bD (i:=7) sc__law_roof_by.nd rfl (Or.inl rfl) (aS cT eK aI (aS dR fI aI (dv 5) (dv 3)) (dv 3))) (aJ (eN (bU (iM (u64 hr)) gX dI (aS cT eK aI (dv 0) aC) aC (bN _)) (aL (bD (i:=7) sc__law_roof_by.nd rfl (Or.inl rfl) (aS aY bG aI (dv 6) (aS cT eK aI (aS dR fI aI (dv 0) aC) aC)))) bS) (aJ (bD (i:=8) sc__law_roof_by.nd rfl (Or.inl rfl) (aK c__law_height_by hr bQ (aA (dv 0) (aA (dv 6) (aA (dv 7) (aA (aS dR fI aI (dv 5) (aS aY bG aI (dv 3) (dv 3))) aF)))))) (aL (eN (aNn (u1 hr) (b7 (aA (dv 6) (aA (dv 7) aF))) (dv 4)) (aJ (bD (i:=9) sc__law_roof_by.nd rfl (Or.inl rfl) (aBr (u1 hr) (dv 4) (b7 (aA (dv 6) (aA (dv 7) aF))) (fun _ _=>rfl))) (aL (eN (bU tR fR aU (aS aY bG aI (aP (dv 8) aC (fun _ _=>rfl)) (aP (dv 9) aC (fun _ _=>rfl))) (aS aY bG aI (aP (dv 9) aC (fun _ _=>rfl)) (aP (dv 8) aC (fun _ _=>rfl))) (bN _)) (aL (wA (i:=4) (u1 hr) (pv 4) (b7 (aA (dv 6) (aA (dv 7) aF))) (dv 8) rfl)) bS))) (aL (eN (bU pV fR aU (bW aAf aK2 aGn rfl B.len_ PySem.boot_len (aA (dv 4) aF)) (dv 2) (bN _)) (aL (wA (i:=4) (u1 hr) (pv 4) (b7 (aA (dv 6) (aA (dv 7) aF))) (dv 8) rfl)) bS))))))))) (aJ (eN (bU (aNb (Nat.lt_of_succ_lt (u1 hr))) aLr aKg (dv 4) y9 (bN _)) (aL (wA (i:=4) (u1 hr) (pv 4) (b7 (aA (aS cT eK aI (dv 0) (dv 3)) (aA aC aF))) (b7 (aA aC (aA aC aF))) rfl)) bS) (d9 4 (aL (aX (dJ (xs:=["_law_slope"]) (ys:=["_law_high"]) (js:=[4]) (cl:=[("_law_high",s.heap.objs.size+1)]) rfl (bX (bW (SRT.aAg rfl) zM wJ rfl B.sorted_ aCu (aA (dv 4) aF))) (g6 (ys:=["_law_high"]) (js:=[4]) rfl (List.forall_mem_cons.mpr ⟨rfl,(fun _ h=>nomatch h)⟩) (a5 ⟨rfl,.inl rfl,.inl rfl,rfl,rfl⟩ aV) (by decide +kernel) (by decide +kernel)) (a5 ⟨rfl,.inl rfl,.inl rfl,rfl,rfl⟩ aV) (by decide +kernel) rfl (by decide +kernel) rfl (by decide) (fun C s₀ H₀ ex pn=>(a8 (i:=0) (show (["_law_slope","_law_high"]:List Str).Nodup by decide +kernel) rfl (Or.inl rfl))) (fun C s₀ H₀ ex pn=>e8) (fun C s₀ H₀ ex pn=>(b7 (aA (aP (dv 0) aC (fun _ _=>rfl)) (aA (aP (dv 0) aC (fun _ _=>rfl)) (aA (aBr (u1 hr) (dv 1) (dv 0) (fun _ _=>rfl)) aF))))))))))))
theorem vT:aW ["_law_one","_law_other"] ["_law_one","_law_other"] (aO kQ):=⟨rfl,rfl,rfl,by decide +kernel,rfl,by decide +kernel,by decide +kernel⟩
theorem w5 {c:Cls} (Df:Def K mg "_law_sum" ["_law_one","_law_other"] kQ) (B:Blt mg) (C:iR mg c) (O:iQ mg base c) (hk:gA K c) (c__law_low:Cal P w K mg base 1 "_law_low" 2 (cI K c)):Cal P w K mg base 2 "_law_sum" 2 (fE K c):=by
 refine jC (k:=1) Df vT rfl (fun f cdv A outer s H E hr=>⟨mS K c,?_,vX K c⟩)
 exact (aL (aX (aK c__law_low hr bQ (aA (aS eM g8 eL (aS aY bG aI (aP (dv 0) aC (fun _ _=>rfl)) (aP (dv 1) aC (fun _ _=>rfl))) (aS aY bG aI (aP (dv 1) aC (fun _ _=>rfl)) (aP (dv 0) aC (fun _ _=>rfl)))) (aA (aS aY bG aI (aP (dv 0) aC (fun _ _=>rfl)) (aP (dv 1) aC (fun _ _=>rfl))) aF)))))
end
section
variable {P:Program} {w:World} {K:PySem.W.Frag} {mg:Str->Option Value} {base:Heap}
theorem sc_fraction:aW ["top","bottom","divisor"] ["top","bottom"] (aO kS):=⟨rfl,rfl,rfl,by decide +kernel,rfl,by decide +kernel,by decide +kernel⟩
theorem xD {c:Cls} (Df:Def K mg "fraction" ["top","bottom"] kS) (B:Blt mg) (C:iR mg c) (O:iQ mg base c) (hk:gA K c) (c_greatest_divisor:Cal P w K mg base 1 "greatest_divisor" 2 (bA K c)):Cal P w K mg base 2 "fraction" 2 (bB K c):=by
 refine jC (k:=1) Df sc_fraction rfl (fun f cdv A outer s H E hr=>⟨iE K c,?_,wY K c⟩)
 exact (aJ (eN (bU (iM (u64 hr)) gX dI (dv 1) aC (bN _)) (aL (aFx aK5 rfl rfl O.NoFraction PySem.F.excBase_ValueError (aA aMb aF))) bS) (aJ (bD (i:=2) sc_fraction.nd rfl (Or.inl rfl) (aK c_greatest_divisor hr bQ (aA (dv 0) (aA (dv 1) aF)))) (aJ (eN (bU pV fR aU (dv 1) aC (bN _)) (aL (bD (i:=2) sc_fraction.nd rfl (Or.inl rfl) (qG (dv 2)))) bS) (aL (aX (b7 (aA (aS dR fI aI (dv 0) (dv 2)) (aA (aS dR fI aI (dv 1) (dv 2)) aF))))))))
theorem aHf:aW ["a","b"] ["a","b"] (aO s8):=⟨rfl,rfl,rfl,by decide +kernel,rfl,by decide +kernel,by decide +kernel⟩
theorem aFe {c:Cls} (Df:Def K mg "minus" ["a","b"] s8) (B:Blt mg) (C:iR mg c) (O:iQ mg base c) (hk:gA K c) (c_fraction:Cal P w K mg base 2 "fraction" 2 (bB K c)):Cal P w K mg base 3 "minus" 2 (jV K c):=by
 refine jC (k:=2) Df aHf rfl (fun f cdv A outer s H E hr=>⟨vU K c,?_,aHh K c⟩)
 exact (aL (aX (aK c_fraction hr bQ (aA (aS fX fW aU (aS aY bG aI (aP (dv 0) aC (fun _ _=>rfl)) (aP (dv 1) aC (fun _ _=>rfl))) (aS aY bG aI (aP (dv 1) aC (fun _ _=>rfl)) (aP (dv 0) aC (fun _ _=>rfl)))) (aA (aS aY bG aI (aP (dv 0) aC (fun _ _=>rfl)) (aP (dv 1) aC (fun _ _=>rfl))) aF)))))
theorem aHd:aW ["number","factor"] ["number","factor"] (aO rW):=⟨rfl,rfl,rfl,by decide +kernel,rfl,by decide +kernel,by decide +kernel⟩
theorem aG8 {c:Cls} (Df:Def K mg "whole" ["number","factor"] rW) (B:Blt mg) (C:iR mg c) (O:iQ mg base c) (hk:gA K c):Cal P w K mg base 1 "whole" 2 (lJ K c):=by
 refine jC (k:=0) Df aHd rfl (fun f cdv A outer s H E hr=>⟨wH K c,?_,aFa K c⟩)
 exact (aL (aX (aS aY bG aI (aP (dv 0) aC (fun _ _=>rfl)) (aS dR fI aI (dv 1) (aP (dv 0) aC (fun _ _=>rfl))))))
theorem sc_without_y:aW ["rows","kept","highs","low"] ["rows"] (aO jO):=⟨rfl,rfl,rfl,by decide +kernel,rfl,by decide +kernel,by decide +kernel⟩
theorem uL {c:Cls} (Df:Def K mg "without_y" ["rows"] jO) (B:Blt mg) (C:iR mg c) (O:iQ mg base c) (hk:gA K c):Cal P w K mg base 1 "without_y" 1 (dZ K c):=by
 refine jC (k:=0) Df sc_without_y rfl (fun f cdv A outer s H E hr=>⟨lN K c,?_,u5 K c⟩)
 exact (aJ (lO (i:=1) sc_without_y.nd rfl (Or.inl rfl) (xs:=["row"]) (ys:=[]) (js:=[]) (cl:=[]) rfl (bX (dv 0)) (g6 (ys:=[]) (js:=[]) rfl (fun _ h=>nomatch h) aV (by decide +kernel) (by decide +kernel)) aV (by decide +kernel) rfl (by decide +kernel) rfl (by decide) (fun C s₀ H₀ ex pn=>(a8 (i:=0) (show (["row"]:List Str).Nodup by decide +kernel) rfl (Or.inl rfl))) (fun C s₀ H₀ ex pn=>(jK (bU (iM (u64 hr)) gX dI (aP (dv 0) aC (fun _ _=>rfl)) aC (bN _)))) (fun C s₀ H₀ ex pn=>(b7 (aA (aP (dv 0) aC (fun _ _=>rfl)) (aA (aP (dv 0) aC (fun _ _=>rfl)) aF))))) (aJ (lO (i:=2) sc_without_y.nd rfl (Or.inl rfl) (xs:=["row"]) (ys:=[]) (js:=[]) (cl:=[]) rfl (bX (dv 0)) (g6 (ys:=[]) (js:=[]) rfl (fun _ h=>nomatch h) aV (by decide +kernel) (by decide +kernel)) aV (by decide +kernel) rfl (by decide +kernel) rfl (by decide) (fun C s₀ H₀ ex pn=>(a8 (i:=0) (show (["row"]:List Str).Nodup by decide +kernel) rfl (Or.inl rfl))) (fun C s₀ H₀ ex pn=>(jK (bU pV fR aU (aP (dv 0) aC (fun _ _=>rfl)) aC (bN _)))) (fun C s₀ H₀ ex pn=>(dv 0))) (d9 2 (aJ (jW PassesOwn.leaving rfl (bX (dv 0)) (a8 (i:=3) sc_without_y.nd rfl (Or.inr rfl)) (aL (eN (bU tR fR aU (aP (dv 3) aC (fun _ _=>rfl)) aC (bN _)) (aL (tN (i:=1) (dJ (xs:=["high"]) (ys:=["low"]) (js:=[3]) (cl:=[("low",s.heap.objs.size+1)]) rfl (bX (dv 2)) (g6 (ys:=["low"]) (js:=[3]) rfl (List.forall_mem_cons.mpr ⟨rfl,(fun _ h=>nomatch h)⟩) (a5 ⟨rfl,.inl rfl,.inl rfl,rfl,rfl⟩ aV) (by decide +kernel) (by decide +kernel)) (a5 ⟨rfl,.inl rfl,.inl rfl,rfl,rfl⟩ aV) (by decide +kernel) rfl (by decide +kernel) rfl (by decide) (fun C s₀ H₀ ex pn=>(a8 (i:=0) (show (["high","low"]:List Str).Nodup by decide +kernel) rfl (Or.inl rfl))) (fun C s₀ H₀ ex pn=>e8) (fun C s₀ H₀ ex pn=>(b7 (aA (aS fX fW aU (aS aY bG aI (aP (dv 1) aC (fun _ _=>rfl)) (aP (dv 0) aC (fun _ _=>rfl))) (aS aY bG aI (aP (dv 0) aC (fun _ _=>rfl)) (aP (dv 1) aC (fun _ _=>rfl)))) (aA (aS fX fW aU (aS aY bG aI (aP (dv 1) aC (fun _ _=>rfl)) (aP (dv 0) aC (fun _ _=>rfl))) (aS aY bG aI (aP (dv 0) aC (fun _ _=>rfl)) (aP (dv 1) aC (fun _ _=>rfl)))) aF))))) (fun t q=>mK (aCe PySem.F.plainAttrs_list PySem.F.slot_list_extend PySem.F.type_list_extend tW (pv 1) (kE q pC))))) bS))) (aL (aX (dv 1)))))))
theorem sc_staying:aW ["roof","factor","points"] ["roof"] (aO mB):=⟨rfl,rfl,rfl,by decide +kernel,rfl,by decide +kernel,by decide +kernel⟩
theorem aAe {c:Cls} (Df:Def K mg "staying" ["roof"] mB) (B:Blt mg) (C:iR mg c) (O:iQ mg base c) (hk:gA K c) (c_shrunk:Cal P w K mg base 3 "shrunk" 2 (jS K c)) (c_lone_points:Cal P w K mg base 7 "lone_points" 2 (b5 K c)) (c_whole_factor:Cal P w K mg base 3 "whole_factor" 1 (bP K c)):Cal P w K mg base 8 "staying" 1 (gQ K c):=by
 refine jC (k:=7) Df sc_staying rfl (fun f cdv A outer s H E hr=>⟨oY K c,?_,aAc K c⟩)
 exact (aJ (bD (i:=1) sc_staying.nd rfl (Or.inr rfl) (aK c_whole_factor hr bQ (aA (dv 0) aF))) (aJ (bD (i:=2) sc_staying.nd rfl (Or.inl rfl) (aK c_lone_points hr bQ (aA (dv 0) (aA (dv 1) aF)))) (d9 2 (aL (aX (dJ (xs:=["plane","point"]) (ys:=["factor"]) (js:=[1]) (cl:=[("factor",s.heap.objs.size+1)]) rfl (aD8 rfl B.zip_ (aA (dv 0) (aA (dv 2) aF))) (g6 (ys:=["factor"]) (js:=[1]) rfl (List.forall_mem_cons.mpr ⟨rfl,(fun _ h=>nomatch h)⟩) (a5 ⟨rfl,.inl rfl,.inl rfl,rfl,rfl⟩ aV) (by decide +kernel) (by decide +kernel)) (a5 ⟨rfl,.inl rfl,.inl rfl,rfl,rfl⟩ aV) (by decide +kernel) rfl (by decide +kernel) rfl (by decide) (fun C s₀ H₀ ex pn=>(qK (n:=2) rfl (eX (a8 (i:=0) (show (["plane","point","factor"]:List Str).Nodup by decide +kernel) rfl (Or.inl rfl)) (eX (a8 (i:=1) (show (["plane","point","factor"]:List Str).Nodup by decide +kernel) rfl (Or.inl rfl)) mY)))) (fun C s₀ H₀ ex pn=>(jK (aDd (dv 1)))) (fun C s₀ H₀ ex pn=>(b7 (aA (dv 0) (aA (aK c_shrunk hr pU (aA (dv 1) (aA (dv 2) aF))) aF))))))))))
theorem aO8:aW ["middle","one","other"] ["middle","one","other"] (aO aFg):=⟨rfl,rfl,rfl,by decide +kernel,rfl,by decide +kernel,by decide +kernel⟩
theorem aOm {c:Cls} (Df:Def K mg "dot" ["middle","one","other"] aFg) (B:Blt mg) (C:iR mg c) (O:iQ mg base c) (hk:gA K c):Cal P w K mg base 1 "dot" 3 (uF K c):=by
 refine jC (k:=0) Df aO8 rfl (fun f cdv A outer s H E hr=>⟨aI5 K c,?_,aL9 K c⟩)
 exact (aL (aX (aS eM g8 eL (aS aY bG aI (aS fX fW aU (aP (dv 1) aC (fun _ _=>rfl)) (aP (dv 0) aC (fun _ _=>rfl))) (aS fX fW aU (aP (dv 2) aC (fun _ _=>rfl)) (aP (dv 0) aC (fun _ _=>rfl)))) (aS aY bG aI (aS fX fW aU (aP (dv 1) aC (fun _ _=>rfl)) (aP (dv 0) aC (fun _ _=>rfl))) (aS fX fW aU (aP (dv 2) aC (fun _ _=>rfl)) (aP (dv 0) aC (fun _ _=>rfl)))))))
theorem sc__law_stirred:aW ["_law_script","_law_prime","_law_made","_law_k","_law_cell"] ["_law_script"] (aO gN):=⟨rfl,rfl,rfl,by decide +kernel,rfl,by decide +kernel,by decide +kernel⟩
theorem oO {c:Cls} (Df:Def K mg "_law_stirred" ["_law_script"] gN) (B:Blt mg) (C:iR mg c) (O:iQ mg base c) (hk:gA K c) (c__law_cell_at:Cal P w K mg base 1 "_law_cell_at" 2 (bL K c)):Cal P w K mg base 2 "_law_stirred" 1 (cA K c):=by
 refine jC (k:=1) Df sc__law_stirred rfl (fun f cdv A outer s H E hr=>⟨jF K c,?_,oD K c⟩)
 exact (aJ (bD (i:=1) sc__law_stirred.nd rfl (Or.inl rfl) aC) (aJ (bD (i:=2) sc__law_stirred.nd rfl (Or.inl rfl) (lC aF)) (aJ (jW PassesOwn.leaving rfl (uW rfl B.range_ (aA (bW (aDv rfl) aOo aJc rfl B.max_ aOl (aA (bW bV jM fY rfl B.len_ PySem.boot_len (aA (dv 0) aF)) (aA aC aF))) aF)) (a8 (i:=3) sc__law_stirred.nd rfl (Or.inl rfl)) (aJ (bD (i:=4) sc__law_stirred.nd rfl (Or.inl rfl) (aS cT eK aI (aK c__law_cell_at hr bQ (aA (dv 0) (aA (dv 3) aF))) (dv 1))) (aJ (bD (i:=4) sc__law_stirred.nd rfl (Or.inl rfl) (aS cT eK aI (aS eM g8 eL (aS eM g8 eL (aS eM g8 eL (aS aY bG aI (dv 4) aC) (aS aY bG aI (aS aY bG aI (dv 3) (dv 3)) aC)) (dv 3)) aC) (dv 1))) (aL (uG (i:=2) (aS cT eK aI (aS aY bG aI (aS cT eK aI (aS aY bG aI (dv 4) aC) (dv 1)) aC) (dv 1)) (fun t q=>mK (aCe PySem.F.plainAttrs_list PySem.F.slot_list_append PySem.F.type_list_append oR (pv 2) (kE q pC)))))))) (aL (aX (dv 2))))))
end
section
variable {P:Program} {w:World} {K:PySem.W.Frag} {mg:Str->Option Value} {base:Heap}
theorem sc_greatest_divisor:aW ["a","b","larger","smaller","rest"] ["a","b"] (aO dN):=⟨rfl,rfl,rfl,by decide +kernel,rfl,by decide +kernel,by decide +kernel⟩
theorem lI {c:Cls} (Df:Def K mg "greatest_divisor" ["a","b"] dN) (B:Blt mg) (C:iR mg c) (O:iQ mg base c) (hk:gA K c):Cal P w K mg base 1 "greatest_divisor" 2 (bA K c):=by
 refine jC (k:=0) Df sc_greatest_divisor rfl (fun f cdv A outer s H E hr=>⟨iX K c,?_,lM K c⟩)
 exact (aJ (bD (i:=2) sc_greatest_divisor.nd rfl (Or.inl rfl) (bW nS yK rA rfl B.abs_ yU (aA (dv 0) aF))) (aJ (bD (i:=3) sc_greatest_divisor.nd rfl (Or.inl rfl) (bW nS yK rA rfl B.abs_ yU (aA (dv 1) aF))) (aJ (xW PassesOwn.leaving (bU (lB (u64 hr)) gX dI (dv 3) aC (bN _)) (aJ (bD (i:=4) sc_greatest_divisor.nd rfl (Or.inl rfl) (aS cT eK aI (dv 2) (dv 3))) (aJ (bD (i:=2) sc_greatest_divisor.nd rfl (Or.inl rfl) (dv 3)) (aL (bD (i:=3) sc_greatest_divisor.nd rfl (Or.inl rfl) (dv 4)))))) (aL (aX (dv 2))))))
theorem aJq:aW ["a","b"] ["a","b"] (aO xM):=⟨rfl,rfl,rfl,by decide +kernel,rfl,by decide +kernel,by decide +kernel⟩
theorem aKr {c:Cls} (Df:Def K mg "plus" ["a","b"] xM) (B:Blt mg) (C:iR mg c) (O:iQ mg base c) (hk:gA K c) (c_fraction:Cal P w K mg base 2 "fraction" 2 (bB K c)):Cal P w K mg base 3 "plus" 2 (jY K c):=by
 refine jC (k:=2) Df aJq rfl (fun f cdv A outer s H E hr=>⟨aDz K c,?_,aJ2 K c⟩)
 exact (aL (aX (aK c_fraction hr bQ (aA (aS eM g8 eL (aS aY bG aI (aP (dv 0) aC (fun _ _=>rfl)) (aP (dv 1) aC (fun _ _=>rfl))) (aS aY bG aI (aP (dv 1) aC (fun _ _=>rfl)) (aP (dv 0) aC (fun _ _=>rfl)))) (aA (aS aY bG aI (aP (dv 0) aC (fun _ _=>rfl)) (aP (dv 1) aC (fun _ _=>rfl))) aF)))))
theorem aKu:aW ["a","b"] ["a","b"] (aO zF):=⟨rfl,rfl,rfl,by decide +kernel,rfl,by decide +kernel,by decide +kernel⟩
theorem aJ7 {c:Cls} (Df:Def K mg "over" ["a","b"] zF) (B:Blt mg) (C:iR mg c) (O:iQ mg base c) (hk:gA K c) (c_fraction:Cal P w K mg base 2 "fraction" 2 (bB K c)):Cal P w K mg base 3 "over" 2 (nG K c):=by
 refine jC (k:=2) Df aKu rfl (fun f cdv A outer s H E hr=>⟨aC3 K c,?_,aKc K c⟩)
 exact (aL (aX (aK c_fraction hr bQ (aA (aS aY bG aI (aP (dv 0) aC (fun _ _=>rfl)) (aP (dv 1) aC (fun _ _=>rfl))) (aA (aS aY bG aI (aP (dv 0) aC (fun _ _=>rfl)) (aP (dv 1) aC (fun _ _=>rfl))) aF)))))
theorem sc_common_bottom:aW ["numbers","common","number"] ["numbers"] (aO fJ):=⟨rfl,rfl,rfl,by decide +kernel,rfl,by decide +kernel,by decide +kernel⟩
theorem nN {c:Cls} (Df:Def K mg "common_bottom" ["numbers"] fJ) (B:Blt mg) (C:iR mg c) (O:iQ mg base c) (hk:gA K c) (c_greatest_divisor:Cal P w K mg base 1 "greatest_divisor" 2 (bA K c)):Cal P w K mg base 2 "common_bottom" 1 (cM K c):=by
 refine jC (k:=1) Df sc_common_bottom rfl (fun f cdv A outer s H E hr=>⟨kL K c,?_,nH K c⟩)
 exact (aJ (bD (i:=1) sc_common_bottom.nd rfl (Or.inl rfl) aC) (aJ (jW PassesOwn.leaving rfl (bX (dv 0)) (a8 (i:=2) sc_common_bottom.nd rfl (Or.inl rfl)) (aL (bD (i:=1) sc_common_bottom.nd rfl (Or.inl rfl) (aS dR fI aI (aS aY bG aI (dv 1) (aP (dv 2) aC (fun _ _=>rfl))) (aK c_greatest_divisor hr bQ (aA (dv 1) (aA (aP (dv 2) aC (fun _ _=>rfl)) aF))))))) (aL (aX (dv 1)))))
theorem sc_between:aW ["lows","highs","low","high"] ["lows","highs"] (aO l8):=⟨rfl,rfl,rfl,by decide +kernel,rfl,by decide +kernel,by decide +kernel⟩
theorem aAd {c:Cls} (Df:Def K mg "between" ["lows","highs"] l8) (B:Blt mg) (C:iR mg c) (O:iQ mg base c) (hk:gA K c) (c_less:Cal P w K mg base 1 "less" 2 (iH K c)) (c_over:Cal P w K mg base 3 "over" 2 (nG K c)) (c_plus:Cal P w K mg base 3 "plus" 2 (jY K c)) (c_least:Cal P w K mg base 2 "least" 1 (jU K c)) (c_greatest:Cal P w K mg base 2 "greatest" 1 (eI K c)) (c_minus:Cal P w K mg base 3 "minus" 2 (jV K c)):Cal P w K mg base 4 "between" 2 (iO K c):=by
 refine jC (k:=3) Df sc_between rfl (fun f cdv A outer s H E hr=>⟨oU K c,?_,zY K c⟩)
 exact (aJ (eN (DW.t (aL4 (bU (iM (u64 hr)) gX dI (bW bV jM fY rfl B.len_ PySem.boot_len (aA (dv 0) aF)) aC (bN _)) (aK3 (bU (iM (u64 hr)) gX dI (bW bV jM fY rfl B.len_ PySem.boot_len (aA (dv 1) aF)) aC (bN _))))) (aL (aX (b7 (aA aC (aA aC aF))))) bS) (aJ (eN (bU (iM (u64 hr)) gX dI (bW bV jM fY rfl B.len_ PySem.boot_len (aA (dv 1) aF)) aC (bN _)) (aL (aX (aK c_plus hr bQ (aA (aK c_greatest hr bQ (aA (dv 0) aF)) (aA (b7 (aA aC (aA aC aF))) aF))))) bS) (aJ (eN (bU (iM (u64 hr)) gX dI (bW bV jM fY rfl B.len_ PySem.boot_len (aA (dv 0) aF)) aC (bN _)) (aL (aX (aK c_minus hr bQ (aA (aK c_least hr bQ (aA (dv 1) aF)) (aA (b7 (aA aC (aA aC aF))) aF))))) bS) (aJ (bD (i:=2) sc_between.nd rfl (Or.inl rfl) (aK c_greatest hr bQ (aA (dv 0) aF))) (aJ (bD (i:=3) sc_between.nd rfl (Or.inl rfl) (aK c_least hr bQ (aA (dv 1) aF))) (aL (aX (aM8 (iK (aK c_less hr bQ (aA (dv 2) (aA (dv 3) aF)))) (aK c_over hr bQ (aA (aK c_plus hr bQ (aA (dv 2) (aA (dv 3) aF))) (aA (b7 (aA aC (aA aC aF))) aF))) aAt))))))))
theorem sc_lone_points:aW ["roof","factor","planes"] ["roof","factor"] (aO hX):=⟨rfl,rfl,rfl,by decide +kernel,rfl,by decide +kernel,by decide +kernel⟩
theorem pS {c:Cls} (Df:Def K mg "lone_points" ["roof","factor"] hX) (B:Blt mg) (C:iR mg c) (O:iQ mg base c) (hk:gA K c) (c_lone_point:Cal P w K mg base 6 "lone_point" 2 (d6 K c)) (c_blown_up:Cal P w K mg base 2 "blown_up" 2 (fD K c)):Cal P w K mg base 7 "lone_points" 2 (b5 K c):=by
 refine jC (k:=6) Df sc_lone_points rfl (fun f cdv A outer s H E hr=>⟨jP K c,?_,pX K c⟩)
 exact (aJ (bD (i:=2) sc_lone_points.nd rfl (Or.inr rfl) (aK c_blown_up hr bQ (aA (dv 0) (aA (dv 1) aF)))) (d9 2 (aL (aX (dJ (xs:=["plane"]) (ys:=["planes"]) (js:=[2]) (cl:=[("planes",s.heap.objs.size+1)]) rfl (bX (dv 2)) (g6 (ys:=["planes"]) (js:=[2]) rfl (List.forall_mem_cons.mpr ⟨rfl,(fun _ h=>nomatch h)⟩) (a5 ⟨rfl,.inl rfl,.inl rfl,rfl,rfl⟩ aV) (by decide +kernel) (by decide +kernel)) (a5 ⟨rfl,.inl rfl,.inl rfl,rfl,rfl⟩ aV) (by decide +kernel) rfl (by decide +kernel) rfl (by decide) (fun C s₀ H₀ ex pn=>(a8 (i:=0) (show (["plane","planes"]:List Str).Nodup by decide +kernel) rfl (Or.inl rfl))) (fun C s₀ H₀ ex pn=>e8) (fun C s₀ H₀ ex pn=>(aK c_lone_point hr pU (aA (dv 0) (aA (dv 1) aF)))))))))
theorem sc_law:aW ["_law_script","_law_kind","_law_roof","_law_copy","_law_row","_law_planes","_law_found"] ["_law_script"] (aO u3):=⟨rfl,rfl,rfl,by decide +kernel,rfl,by decide +kernel,by decide +kernel⟩
theorem aNo {c:Cls} {f:Addr} {fd:FuncData} (F:Fun K "law" "law" u3 f fd) (B:Blt mg) (C:iR mg c) (O:iQ mg base c) (hk:gA K c) (c_struck:Cal P w K mg base 9 "struck" 1 (fS K c)) (c__law_right:Cal P w K mg base 4 "_law_right" 3 (cK K c)) (c_staying:Cal P w K mg base 8 "staying" 1 (gQ K c)) (c__law_roof_by:Cal P w K mg base 3 "_law_roof_by" 4 (bZ K c)) (c__law_cell_at:Cal P w K mg base 1 "_law_cell_at" 2 (bL K c)) (c__law_stirred:Cal P w K mg base 2 "_law_stirred" 1 (cA K c)):FnOk P w K mg base (CXr P w) 10 f fd ["_law_script"] (spM K 1 (aD7 K c)):=by
 refine fnM (k:=9) F sc_law rfl (fun cdv A outer s H E hr=>⟨aB2 K c,?_,aNx K c⟩)
 exact (aJ (bD (i:=0) sc_law.nd rfl (Or.inl rfl) (aK c__law_stirred hr bQ (aA (dv 0) aF))) (aJ (bD (i:=1) sc_law.nd rfl (Or.inl rfl) (aK c__law_cell_at hr bQ (aA (dv 0) (aA aC aF)))) (aJ (bD (i:=2) sc_law.nd rfl (Or.inl rfl) (aK c__law_roof_by hr bQ (aA (dv 1) (aA (aOu (dv 0) (vV aC) (vV aC)) (aA aC (aA (aP (b7 (aA aC (aA aC (aA aC aF)))) (aS cT eK aI (aS dR fI aI (dv 1) aC) aC) (fun _ _=>rfl)) aF)))))) (d9 2 (aJ (bD (i:=3) sc_law.nd rfl (Or.inl rfl) (aCy tM aKe aFc rfl B.list_ vY (aA (dv 2) aF))) (d9 3 (aJ (lO (i:=5) sc_law.nd rfl (Or.inl rfl) (xs:=["_law_row"]) (ys:=[]) (js:=[]) (cl:=[]) rfl (bX (aK c_staying hr bQ (aA (dv 3) aF))) (g6 (ys:=[]) (js:=[]) rfl (fun _ h=>nomatch h) aV (by decide +kernel) (by decide +kernel)) aV (by decide +kernel) rfl (by decide +kernel) rfl (by decide) (fun C s₀ H₀ ex pn=>(a8 (i:=0) (show (["_law_row"]:List Str).Nodup by decide +kernel) rfl (Or.inl rfl))) (fun C s₀ H₀ ex pn=>e8) (fun C s₀ H₀ ex pn=>(aP (dv 0) aC (fun _ _=>rfl)))) (d9 5 (aGa (i:=6) (k:=3) (r:=4) (by decide) (by decide) sc_law.nd rfl (Or.inl rfl) rfl (Or.inl rfl) (aK c_struck hr bQ (aA (dv 3) aF)) (kM (iK (aK c__law_right hr bQ (aA (dv 2) (aA (dv 5) (aA (dv 6) aF)))))) (aL (aX sO)) PassesOwn.leaving rfl (pv 6) (mK (aN8 PySem.F.plainAttrs_list PySem.F.slot_list_clear PySem.F.type_list_clear aCk (aPd aRz (pv 4) aH6 (fun _ _=>rfl)))) (mK (aCe PySem.F.plainAttrs_list PySem.F.slot_list_append PySem.F.type_list_append oR (pv 6) (kE aHw pC))) (aL (aX (zD (aK c__law_right hr bQ (aA (dv 2) (aA (dv 5) (aA (aK c_struck hr bQ (aA (dv 3) aF)) aF)))) (xR (mZ (iM (u64 hr)) gX dI (dv 3) (dv 2) (bN _)))))))))))))))
end
section
variable {P:Program} {w:World} {K:PySem.W.Frag} {mg:Str->Option Value} {base:Heap}
theorem aKo:aW ["a","b"] ["a","b"] (aO yT):=⟨rfl,rfl,rfl,by decide +kernel,rfl,by decide +kernel,by decide +kernel⟩
theorem aLb {c:Cls} (Df:Def K mg "less" ["a","b"] yT) (B:Blt mg) (C:iR mg c) (O:iQ mg base c) (hk:gA K c):Cal P w K mg base 1 "less" 2 (iH K c):=by
 refine jC (k:=0) Df aKo rfl (fun f cdv A outer s H E hr=>⟨aDw K c,?_,aKl K c⟩)
 exact (aL (aX (mZ pV fR aU (aS aY bG aI (aP (dv 0) aC (fun _ _=>rfl)) (aP (dv 1) aC (fun _ _=>rfl))) (aS aY bG aI (aP (dv 1) aC (fun _ _=>rfl)) (aP (dv 0) aC (fun _ _=>rfl))) (bN _))))
theorem aD5:aW ["point","factor"] ["point","factor"] (aO nV):=⟨rfl,rfl,rfl,by decide +kernel,rfl,by decide +kernel,by decide +kernel⟩
theorem aC0 {c:Cls} (Df:Def K mg "shrunk" ["point","factor"] nV) (B:Blt mg) (C:iR mg c) (O:iQ mg base c) (hk:gA K c) (c_fraction:Cal P w K mg base 2 "fraction" 2 (bB K c)):Cal P w K mg base 3 "shrunk" 2 (jS K c):=by
 refine jC (k:=2) Df aD5 rfl (fun f cdv A outer s H E hr=>⟨sV K c,?_,aBo K c⟩)
 exact (aL (aX (b7 (aA (aK c_fraction hr bQ (aA (aP (aP (dv 0) aC (fun _ _=>rfl)) aC (fun _ _=>rfl)) (aA (aS aY bG aI (aP (aP (dv 0) aC (fun _ _=>rfl)) aC (fun _ _=>rfl)) (dv 1)) aF))) (aA (aK c_fraction hr bQ (aA (aP (aP (dv 0) aC (fun _ _=>rfl)) aC (fun _ _=>rfl)) (aA (aS aY bG aI (aP (aP (dv 0) aC (fun _ _=>rfl)) aC (fun _ _=>rfl)) (dv 1)) aF))) aF)))))
theorem aPg:aW ["plane","other"] ["plane","other"] (aO aHe):=⟨rfl,rfl,rfl,by decide +kernel,rfl,by decide +kernel,by decide +kernel⟩
theorem aL6 {c:Cls} (Df:Def K mg "gap" ["plane","other"] aHe) (B:Blt mg) (C:iR mg c) (O:iQ mg base c) (hk:gA K c):Cal P w K mg base 1 "gap" 2 (w9 K c):=by
 refine jC (k:=0) Df aPg rfl (fun f cdv A outer s H E hr=>⟨aKk K c,?_,aO0 K c⟩)
 exact (aL (aX (b7 (aA (aS fX fW aU (aP (dv 0) aC (fun _ _=>rfl)) (aP (dv 1) aC (fun _ _=>rfl))) (aA (aS fX fW aU (aP (dv 0) aC (fun _ _=>rfl)) (aP (dv 1) aC (fun _ _=>rfl))) (aA (aS fX fW aU (aP (aP (dv 0) aC (fun _ _=>rfl)) aC (fun _ _=>rfl)) (aP (aP (dv 1) aC (fun _ _=>rfl)) aC (fun _ _=>rfl))) aF))))))
theorem sc_pairs_and_triples:aW ["planes","pairs","triples","k","one","m"] ["planes"] (aO dC):=⟨rfl,rfl,rfl,by decide +kernel,rfl,by decide +kernel,by decide +kernel⟩
theorem kZ {c:Cls} (Df:Def K mg "pairs_and_triples" ["planes"] dC) (B:Blt mg) (C:iR mg c) (O:iQ mg base c) (hk:gA K c):Cal P w K mg base 1 "pairs_and_triples" 1 (bC K c):=by
 refine jC (k:=0) Df sc_pairs_and_triples rfl (fun f cdv A outer s H E hr=>⟨dE K c,?_,k9 K c⟩)
 exact (aJ (bD (i:=1) sc_pairs_and_triples.nd rfl (Or.inl rfl) (lC aF)) (aJ (bD (i:=2) sc_pairs_and_triples.nd rfl (Or.inl rfl) (lC aF)) (aJ (jW PassesOwn.leaving rfl (aKp rfl B.enumerate_ (aA (dv 0) aF)) (qK (n:=2) rfl (eX (a8 (i:=3) sc_pairs_and_triples.nd rfl (Or.inl rfl)) (eX (a8 (i:=4) sc_pairs_and_triples.nd rfl (Or.inr rfl)) mY))) (aL (jW PassesOwn.leaving rfl (aCi rfl B.range_ (aA (aS eM g8 eL (dv 3) aC) (aA (bW bV jM fY rfl B.len_ PySem.boot_len (aA (dv 0) aF)) aF))) (a8 (i:=5) sc_pairs_and_triples.nd rfl (Or.inr rfl)) (aJ (uG (i:=1) (lC (aA (dv 4) (aA (aP (dv 0) (dv 5) (fun _ _=>rfl)) aF))) (fun t q=>mK (aCe PySem.F.plainAttrs_list PySem.F.slot_list_append PySem.F.type_list_append oR (pv 1) (kE q pC)))) (aL (tN (i:=2) (dJ (xs:=["last"]) (ys:=["m","one","planes"]) (js:=[5,4,0]) (cl:=[("planes",s.heap.objs.size+1),("one",s.heap.objs.size+1+1),("m",s.heap.objs.size+1+1+1)]) rfl (bX (aOu (dv 0) (vV (aS eM g8 eL (dv 5) aC)) aKj)) (g6 (ys:=["m","one","planes"]) (js:=[5,4,0]) rfl (List.forall_mem_cons.mpr ⟨rfl,(List.forall_mem_cons.mpr ⟨rfl,(List.forall_mem_cons.mpr ⟨rfl,(fun _ h=>nomatch h)⟩)⟩)⟩) (a5 ⟨rfl,.inl rfl,.inl rfl,rfl,rfl⟩ (a5 ⟨rfl,.inl rfl,.inl rfl,rfl,rfl⟩ (a5 ⟨rfl,.inl rfl,.inl rfl,rfl,rfl⟩ aV))) (by decide +kernel) (by decide +kernel)) (a5 ⟨rfl,.inl rfl,.inl rfl,rfl,rfl⟩ (a5 ⟨rfl,.inl rfl,.inl rfl,rfl,rfl⟩ (a5 ⟨rfl,.inl rfl,.inl rfl,rfl,rfl⟩ aV))) (by decide +kernel) rfl (by decide +kernel) rfl (by decide) (fun C s₀ H₀ ex pn=>(a8 (i:=0) (show (["last","m","one","planes"]:List Str).Nodup by decide +kernel) rfl (Or.inl rfl))) (fun C s₀ H₀ ex pn=>e8) (fun C s₀ H₀ ex pn=>(lC (aA (dv 2) (aA (aP (dv 3) (dv 1) (fun _ _=>rfl)) (aA (dv 0) aF)))))) (fun t q=>mK (aCe PySem.F.plainAttrs_list PySem.F.slot_list_extend PySem.F.type_list_extend tW (pv 2) (kE q pC))))))))) (aL (aX (aS eM g8 eL (dv 1) (dv 2)))))))
theorem sc_triple_weights:aW ["middle","one","other","last","weights"] ["middle","one","other","last"] (aO eT):=⟨rfl,rfl,rfl,by decide +kernel,rfl,by decide +kernel,by decide +kernel⟩
theorem mO {c:Cls} (Df:Def K mg "triple_weights" ["middle","one","other","last"] eT) (B:Blt mg) (C:iR mg c) (O:iQ mg base c) (hk:gA K c) (c_turn:Cal P w K mg base 1 "turn" 3 (fV K c)):Cal P w K mg base 2 "triple_weights" 4 (bM K c):=by
 refine jC (k:=1) Df sc_triple_weights rfl (fun f cdv A outer s H E hr=>⟨dF K c,?_,mE K c⟩)
 exact (aJ (bD (i:=4) sc_triple_weights.nd rfl (Or.inl rfl) (lC (aA (aK c_turn hr bQ (aA (dv 0) (aA (dv 2) (aA (dv 3) aF)))) (aA (aK c_turn hr bQ (aA (dv 0) (aA (dv 3) (aA (dv 1) aF)))) (aA (aK c_turn hr bQ (aA (dv 0) (aA (dv 1) (aA (dv 2) aF)))) aF))))) (d9 4 (aL (aX (aM8 (bU tR fR aU (bW (u6 rfl rfl) aHj aCs rfl B.sum_ aIi (aA (dv 4) aF)) aC (bN _)) (dv 4) (dJ (xs:=["weight"]) (ys:=[]) (js:=[]) (cl:=[]) rfl (bX (dv 4)) (g6 (ys:=[]) (js:=[]) rfl (fun _ h=>nomatch h) aV (by decide +kernel) (by decide +kernel)) aV (by decide +kernel) rfl (by decide +kernel) rfl (by decide) (fun C s₀ H₀ ex pn=>(a8 (i:=0) (show (["weight"]:List Str).Nodup by decide +kernel) rfl (Or.inl rfl))) (fun C s₀ H₀ ex pn=>e8) (fun C s₀ H₀ ex pn=>(qG (dv 0)))))))))
theorem sc__law_low:aW ["_law_top","_law_bottom","_law_one","_law_other"] ["_law_top","_law_bottom"] (aO kU):=⟨rfl,rfl,rfl,by decide +kernel,rfl,by decide +kernel,by decide +kernel⟩
theorem wI {c:Cls} (Df:Def K mg "_law_low" ["_law_top","_law_bottom"] kU) (B:Blt mg) (C:iR mg c) (O:iQ mg base c) (hk:gA K c):Cal P w K mg base 1 "_law_low" 2 (cI K c):=by
 refine jC (k:=0) Df sc__law_low rfl (fun f cdv A outer s H E hr=>⟨qF K c,?_,wZ K c⟩)
 exact (aJ (bD (i:=2) sc__law_low.nd rfl (Or.inl rfl) (bW nS yK rA rfl B.abs_ yU (aA (dv 0) aF))) (aJ (bD (i:=3) sc__law_low.nd rfl (Or.inl rfl) (bW nS yK rA rfl B.abs_ yU (aA (dv 1) aF))) (aJ (xW PassesOwn.leaving (bU tR fR aU (dv 3) aC (bN _)) (aL (aNk (i:=2) (j:=3) rfl sc__law_low.nd rfl rfl (by decide) rfl rfl (aA (dv 3) (aA (aS cT eK aI (dv 2) (dv 3)) aF))))) (aJ (eN (bU pV fR aU (dv 1) aC (bN _)) (aL (bD (i:=2) sc__law_low.nd rfl (Or.inl rfl) (qG (dv 2)))) bS) (aL (aX (b7 (aA (aS dR fI aI (dv 0) (dv 2)) (aA (aS dR fI aI (dv 1) (dv 2)) aF)))))))))
theorem mH:aW ["_law_kind","_law_i","_law_j","_law_rest"] ["_law_kind","_law_i","_law_j","_law_rest"] (aO eW):=⟨rfl,rfl,rfl,by decide +kernel,rfl,by decide +kernel,by decide +kernel⟩
theorem mP {c:Cls} (Df:Def K mg "_law_height_by" ["_law_kind","_law_i","_law_j","_law_rest"] eW) (B:Blt mg) (C:iR mg c) (O:iQ mg base c) (hk:gA K c) (c__law_low:Cal P w K mg base 1 "_law_low" 2 (cI K c)):Cal P w K mg base 2 "_law_height_by" 4 (bK K c):=by
 refine jC (k:=1) Df mH rfl (fun f cdv A outer s H E hr=>⟨dH K c,?_,mR K c⟩)
 exact (aJ (eN (bU (iM (u64 hr)) gX dI (aS cT eK aI (dv 0) aC) aC (bN _)) (aL (aX (b7 (aA (aS fX fW aU (aS cT eK aI (dv 3) aC) (aS aY bG aI (aS eM g8 eL (aS eM g8 eL (aS aY bG aI (dv 1) (dv 1)) (aS aY bG aI (dv 1) (dv 2))) (aS aY bG aI (dv 2) (dv 2))) (aS eM g8 eL aC (aS cT eK aI (aS dR fI aI (dv 0) aC) aC)))) (aA aC aF))))) bS) (aJ (eN (bU (iM (u64 hr)) gX dI (aS cT eK aI (dv 0) aC) aC (bN _)) (aL (aX (b7 (aA (aS cT eK aI (dv 3) aC) (aA aC aF))))) bS) (aJ (eN (bU (iM (u64 hr)) gX dI (aS cT eK aI (aS dR fI aI (dv 0) aC) aC) aC (bN _)) (aL (aX (aK c__law_low hr bQ (aA (aS fX fW aU (aS cT eK aI (dv 3) (aS eM g8 eL (aS aY bG aI aC (aS aHt aIc aI aC aC)) aC)) (aS aHt aIc aI aC aC)) (aA (aS eM g8 eL aC (aS cT eK aI (aS dR fI aI (dv 3) aC) aC)) aF))))) bS) (aL (aX (aK c__law_low hr bQ (aA (aS fX fW aU (aS cT eK aI (dv 3) aC) aC) (aA (aS eM g8 eL aC (aS cT eK aI (aS dR fI aI (dv 3) aC) aC)) aF))))))))
end
section
variable {P:Program} {w:World} {K:PySem.W.Frag} {mg:Str->Option Value} {base:Heap}
theorem sc_least:aW ["numbers","best","number"] ["numbers"] (aO qW):=⟨rfl,rfl,rfl,by decide +kernel,rfl,by decide +kernel,by decide +kernel⟩
theorem aGk {c:Cls} (Df:Def K mg "least" ["numbers"] qW) (B:Blt mg) (C:iR mg c) (O:iQ mg base c) (hk:gA K c) (c_less:Cal P w K mg base 1 "less" 2 (iH K c)):Cal P w K mg base 2 "least" 1 (jU K c):=by
 refine jC (k:=1) Df sc_least rfl (fun f cdv A outer s H E hr=>⟨aCt K c,?_,aFf K c⟩)
 exact (aJ (bD (i:=1) sc_least.nd rfl (Or.inl rfl) (aP (dv 0) aC (fun _ _=>rfl))) (aJ (jW PassesOwn.leaving rfl (bX (dv 0)) (a8 (i:=2) sc_least.nd rfl (Or.inl rfl)) (aL (eN (iK (aK c_less hr bQ (aA (dv 2) (aA (dv 1) aF)))) (aL (bD (i:=1) sc_least.nd rfl (Or.inl rfl) (dv 2))) bS))) (aL (aX (dv 1)))))
theorem oW:aW ["roof"] ["roof"] (aO gI):=⟨rfl,rfl,rfl,by decide +kernel,rfl,by decide +kernel,by decide +kernel⟩
theorem o6 {c:Cls} (Df:Def K mg "whole_factor" ["roof"] gI) (B:Blt mg) (C:iR mg c) (O:iQ mg base c) (hk:gA K c) (c_common_bottom:Cal P w K mg base 2 "common_bottom" 1 (cM K c)):Cal P w K mg base 3 "whole_factor" 1 (bP K c):=by
 refine jC (k:=2) Df oW rfl (fun f cdv A outer s H E hr=>⟨jG K c,?_,oP K c⟩)
 exact (aL (aX (aK c_common_bottom hr bQ (aA (dJ (xs:=["plane"]) (ys:=[]) (js:=[]) (cl:=[]) rfl (bX (dv 0)) (g6 (ys:=[]) (js:=[]) rfl (fun _ h=>nomatch h) aV (by decide +kernel) (by decide +kernel)) aV (by decide +kernel) rfl (by decide +kernel) rfl (by decide) (fun C s₀ H₀ ex pn=>(a8 (i:=0) (show (["plane"]:List Str).Nodup by decide +kernel) rfl (Or.inl rfl))) (fun C s₀ H₀ ex pn=>e8) (fun C s₀ H₀ ex pn=>(aP (dv 0) aC (fun _ _=>rfl)))) aF))))
theorem sc_lone_point:aW ["plane","planes","rows","x","y"] ["plane","planes"] (aO i6):=⟨rfl,rfl,rfl,by decide +kernel,rfl,by decide +kernel,by decide +kernel⟩
theorem qZ {c:Cls} (Df:Def K mg "lone_point" ["plane","planes"] i6) (B:Blt mg) (C:iR mg c) (O:iQ mg base c) (hk:gA K c) (c_solved:Cal P w K mg base 5 "solved" 1 (gL K c)) (c_without_y:Cal P w K mg base 1 "without_y" 1 (dZ K c)) (c_gap:Cal P w K mg base 1 "gap" 2 (w9 K c)):Cal P w K mg base 6 "lone_point" 2 (d6 K c):=by
 refine jC (k:=5) Df sc_lone_point rfl (fun f cdv A outer s H E hr=>⟨kK K c,?_,sQ K c⟩)
 exact (aJ (lO (i:=2) sc_lone_point.nd rfl (Or.inl rfl) (xs:=["other"]) (ys:=["plane"]) (js:=[0]) (cl:=[("plane",s.heap.objs.size+1)]) rfl (bX (dv 1)) (g6 (ys:=["plane"]) (js:=[0]) rfl (List.forall_mem_cons.mpr ⟨rfl,(fun _ h=>nomatch h)⟩) (a5 ⟨rfl,.inl rfl,.inl rfl,rfl,rfl⟩ aV) (by decide +kernel) (by decide +kernel)) (a5 ⟨rfl,.inl rfl,.inl rfl,rfl,rfl⟩ aV) (by decide +kernel) rfl (by decide +kernel) rfl (by decide) (fun C s₀ H₀ ex pn=>(a8 (i:=0) (show (["other","plane"]:List Str).Nodup by decide +kernel) rfl (Or.inl rfl))) (fun C s₀ H₀ ex pn=>(jK (bU (lB (u64 hr)) gX dI (dv 0) (dv 1) (bN _)))) (fun C s₀ H₀ ex pn=>(aK c_gap hr pU (aA (dv 1) (aA (dv 0) aF))))) (d9 2 (aJ (bD (i:=3) sc_lone_point.nd rfl (Or.inr rfl) (aK c_solved hr bQ (aA (aK c_without_y hr bQ (aA (dv 2) aF)) aF))) (aJ (eN (aOx (dv 3)) (aL (aX aAt)) bS) (aJ (bD (i:=4) sc_lone_point.nd rfl (Or.inl rfl) (aK c_solved hr bQ (aA (dJ (xs:=["row"]) (ys:=["x"]) (js:=[3]) (cl:=[("x",s.heap.objs.size+1+1)]) rfl (bX (dv 2)) (g6 (ys:=["x"]) (js:=[3]) rfl (List.forall_mem_cons.mpr ⟨rfl,(fun _ h=>nomatch h)⟩) (a5 ⟨rfl,.inl rfl,.inl rfl,rfl,rfl⟩ aV) (by decide +kernel) (by decide +kernel)) (a5 ⟨rfl,.inl rfl,.inl rfl,rfl,rfl⟩ aV) (by decide +kernel) rfl (by decide +kernel) rfl (by decide) (fun C s₀ H₀ ex pn=>(a8 (i:=0) (show (["row","x"]:List Str).Nodup by decide +kernel) rfl (Or.inl rfl))) (fun C s₀ H₀ ex pn=>e8) (fun C s₀ H₀ ex pn=>(b7 (aA (aS aY bG aI (aP (dv 0) aC (fun _ _=>rfl)) (aP (dv 1) aC (fun _ _=>rfl))) (aA (aS eM g8 eL (aS aY bG aI (aP (dv 0) aC (fun _ _=>rfl)) (aP (dv 1) aC (fun _ _=>rfl))) (aS aY bG aI (aP (dv 0) aC (fun _ _=>rfl)) (aP (dv 1) aC (fun _ _=>rfl)))) aF))))) aF))) (aL (aX (b7 (aA (dv 3) (aA (dv 4) aF))))))))))
theorem mJ:aW ["mixture"] ["mixture"] (aO eV):=⟨rfl,rfl,rfl,by decide +kernel,rfl,by decide +kernel,by decide +kernel⟩
theorem mD {c:Cls} (Df:Def K mg "mixture_height" ["mixture"] eV) (B:Blt mg) (C:iR mg c) (O:iQ mg base c) (hk:gA K c) (c_shared_sum:Cal P w K mg base 4 "shared_sum" 1 (dA K c)):Cal P w K mg base 5 "mixture_height" 1 (bJ K c):=by
 refine jC (k:=4) Df mJ rfl (fun f cdv A outer s H E hr=>⟨eS K c,?_,mV K c⟩)
 exact (aL (aX (aK c_shared_sum hr bQ (aA (dJ (xs:=["share","plane"]) (ys:=[]) (js:=[]) (cl:=[]) rfl (bX (dv 0)) (g6 (ys:=[]) (js:=[]) rfl (fun _ h=>nomatch h) aV (by decide +kernel) (by decide +kernel)) aV (by decide +kernel) rfl (by decide +kernel) rfl (by decide) (fun C s₀ H₀ ex pn=>(qK (n:=2) rfl (eX (a8 (i:=0) (show (["share","plane"]:List Str).Nodup by decide +kernel) rfl (Or.inl rfl)) (eX (a8 (i:=1) (show (["share","plane"]:List Str).Nodup by decide +kernel) rfl (Or.inl rfl)) mY)))) (fun C s₀ H₀ ex pn=>e8) (fun C s₀ H₀ ex pn=>(b7 (aA (dv 0) (aA (aP (dv 1) aC (fun _ _=>rfl)) aF))))) aF))))
theorem sc_mixture_of:aW ["plane","groups","group","weights","mixture"] ["plane","groups"] (aO iW):=⟨rfl,rfl,rfl,by decide +kernel,rfl,by decide +kernel,by decide +kernel⟩
theorem sM {c:Cls} (Df:Def K mg "mixture_of" ["plane","groups"] iW) (B:Blt mg) (C:iR mg c) (O:iQ mg base c) (hk:gA K c) (c_less:Cal P w K mg base 1 "less" 2 (iH K c)) (c_mixture_height:Cal P w K mg base 5 "mixture_height" 1 (bJ K c)) (c_fraction:Cal P w K mg base 2 "fraction" 2 (bB K c)) (c_weights_of:Cal P w K mg base 3 "weights_of" 2 (cG K c)):Cal P w K mg base 6 "mixture_of" 2 (dB K c):=by
 refine jC (k:=5) Df sc_mixture_of rfl (fun f cdv A outer s H E hr=>⟨jA K c,?_,sJ K c⟩)
 exact (aL (jW PassesOwn.leaving rfl (bX (dv 1)) (a8 (i:=2) sc_mixture_of.nd rfl (Or.inl rfl)) (aJ (bD (i:=3) sc_mixture_of.nd rfl (Or.inr rfl) (aK c_weights_of hr bQ (aA (dv 0) (aA (dv 2) aF)))) (aL (eN (bU tR fR aU (bW (aCr rfl rfl) aJj aFj rfl B.min_ aNj (aA (dv 3) aF)) aC (bN _)) (d9 3 (aJ (lO (i:=4) sc_mixture_of.nd rfl (Or.inl rfl) (xs:=["weight","part"]) (ys:=["weights"]) (js:=[3]) (cl:=[("weights",s.heap.objs.size+1)]) rfl (aD8 rfl B.zip_ (aA (dv 3) (aA (dv 2) aF))) (g6 (ys:=["weights"]) (js:=[3]) rfl (List.forall_mem_cons.mpr ⟨rfl,(fun _ h=>nomatch h)⟩) (a5 ⟨rfl,.inl rfl,.inl rfl,rfl,rfl⟩ aV) (by decide +kernel) (by decide +kernel)) (a5 ⟨rfl,.inl rfl,.inl rfl,rfl,rfl⟩ aV) (by decide +kernel) rfl (by decide +kernel) rfl (by decide) (fun C s₀ H₀ ex pn=>(qK (n:=2) rfl (eX (a8 (i:=0) (show (["weight","part","weights"]:List Str).Nodup by decide +kernel) rfl (Or.inl rfl)) (eX (a8 (i:=1) (show (["weight","part","weights"]:List Str).Nodup by decide +kernel) rfl (Or.inl rfl)) mY)))) (fun C s₀ H₀ ex pn=>e8) (fun C s₀ H₀ ex pn=>(b7 (aA (aK c_fraction hr pU (aA (dv 0) (aA (bW (u6 rfl rfl) aHj aCs rfl B.sum_ aIi (aA (dv 2) aF)) aF))) (aA (dv 1) aF))))) (aL (eN (kM (iK (aK c_less hr bQ (aA (aK c_mixture_height hr bQ (aA (dv 4) aF)) (aA (aP (dv 0) aC (fun _ _=>rfl)) aF))))) (aL (aX (dv 4))) bS)))) bS)))))
theorem lG:aW ["_law_found"] ["_law_found"] (aO dS):=⟨rfl,rfl,rfl,by decide +kernel,rfl,by decide +kernel,by decide +kernel⟩
theorem lR {c:Cls} (Df:Def K mg "_law_is_fraction" ["_law_found"] dS) (B:Blt mg) (C:iR mg c) (O:iQ mg base c) (hk:gA K c) (c__law_low:Cal P w K mg base 1 "_law_low" 2 (cI K c)) (c__law_whole:Cal P w K mg base 1 "_law_whole" 1 (cJ K c)):Cal P w K mg base 2 "_law_is_fraction" 1 (bO K c):=by
 refine jC (k:=1) Df lG rfl (fun f cdv A outer s H E hr=>⟨fQ K c,?_,lH K c hk⟩)
 exact (aJ (eN (DW.t (nJ (kM (iK (n8 (cv:=.type "tuple") rfl B.isinstance_ (.inl ⟨_,rfl⟩) rfl (dv 0) (lP (v:=.ty "tuple") rfl B.tuple_ rZ rfl)))) (nJ (bU (lB (u64 hr)) gX dI (bW bV jM fY rfl B.len_ PySem.boot_len (aA (dv 0) aF)) aC (bN _)) (nJ (kM (iK (aK c__law_whole hr bQ (aA (aP (dv 0) aC (fun _ _=>rfl)) aF)))) (u9 (kM (iK (aK c__law_whole hr bQ (aA (aP (dv 0) aC (fun _ _=>rfl)) aF))))))))) (aL (aX sO)) bS) (aL (aX (zD (mZ tR fR aU (aP (dv 0) aC (fun _ _=>rfl)) aC (bN _)) (xR (mZ (iM (u64 hr)) gX dI (aK c__law_low hr bQ (aA (aP (dv 0) aC (fun _ _=>rfl)) (aA (aP (dv 0) aC (fun _ _=>rfl)) aF))) (dv 0) (bN _)))))))
end
section
variable {P:Program} {w:World} {K:PySem.W.Frag} {mg:Str->Option Value} {base:Heap}
theorem sc_solved:aW ["rows","lows","highs"] ["rows"] (aO nT):=⟨rfl,rfl,rfl,by decide +kernel,rfl,by decide +kernel,by decide +kernel⟩
theorem aCa {c:Cls} (Df:Def K mg "solved" ["rows"] nT) (B:Blt mg) (C:iR mg c) (O:iQ mg base c) (hk:gA K c) (c_between:Cal P w K mg base 4 "between" 2 (iO K c)) (c_fraction:Cal P w K mg base 2 "fraction" 2 (bB K c)):Cal P w K mg base 5 "solved" 1 (gL K c):=by
 refine jC (k:=4) Df sc_solved rfl (fun f cdv A outer s H E hr=>⟨sS K c,?_,aBn K c⟩)
 exact (aJ (eN (iK (bW (aE5 rfl rfl) aMz aLc rfl B.any_ aOr (aA (dJ (xs:=["row"]) (ys:=[]) (js:=[]) (cl:=[]) rfl (bX (dv 0)) (g6 (ys:=[]) (js:=[]) rfl (fun _ h=>nomatch h) aV (by decide +kernel) (by decide +kernel)) aV (by decide +kernel) rfl (by decide +kernel) rfl (by decide) (fun C s₀ H₀ ex pn=>(a8 (i:=0) (show (["row"]:List Str).Nodup by decide +kernel) rfl (Or.inl rfl))) (fun C s₀ H₀ ex pn=>e8) (fun C s₀ H₀ ex pn=>(zD (mZ (iM (u64 hr)) gX dI (aP (dv 0) aC (fun _ _=>rfl)) aC (bN _)) (xR (mZ aQ2 fR aU (aP (dv 0) aC (fun _ _=>rfl)) aC (bN _)))))) aF))) (aL (aX aAt)) bS) (aJ (lO (i:=1) sc_solved.nd rfl (Or.inl rfl) (xs:=["row"]) (ys:=[]) (js:=[]) (cl:=[]) rfl (bX (dv 0)) (g6 (ys:=[]) (js:=[]) rfl (fun _ h=>nomatch h) aV (by decide +kernel) (by decide +kernel)) aV (by decide +kernel) rfl (by decide +kernel) rfl (by decide) (fun C s₀ H₀ ex pn=>(a8 (i:=0) (show (["row"]:List Str).Nodup by decide +kernel) rfl (Or.inl rfl))) (fun C s₀ H₀ ex pn=>(jK (bU tR fR aU (aP (dv 0) aC (fun _ _=>rfl)) aC (bN _)))) (fun C s₀ H₀ ex pn=>(aK c_fraction hr pU (aA (qG (aP (dv 0) aC (fun _ _=>rfl))) (aA (aP (dv 0) aC (fun _ _=>rfl)) aF))))) (aJ (lO (i:=2) sc_solved.nd rfl (Or.inl rfl) (xs:=["row"]) (ys:=[]) (js:=[]) (cl:=[]) rfl (bX (dv 0)) (g6 (ys:=[]) (js:=[]) rfl (fun _ h=>nomatch h) aV (by decide +kernel) (by decide +kernel)) aV (by decide +kernel) rfl (by decide +kernel) rfl (by decide) (fun C s₀ H₀ ex pn=>(a8 (i:=0) (show (["row"]:List Str).Nodup by decide +kernel) rfl (Or.inl rfl))) (fun C s₀ H₀ ex pn=>(jK (bU pV fR aU (aP (dv 0) aC (fun _ _=>rfl)) aC (bN _)))) (fun C s₀ H₀ ex pn=>(aK c_fraction hr pU (aA (qG (aP (dv 0) aC (fun _ _=>rfl))) (aA (aP (dv 0) aC (fun _ _=>rfl)) aF))))) (aL (aX (aK c_between hr bQ (aA (dv 1) (aA (dv 2) aF))))))))
theorem sc_thinned:aW ["roof","points"] ["roof"] (aO lV):=⟨rfl,rfl,rfl,by decide +kernel,rfl,by decide +kernel,by decide +kernel⟩
theorem zW {c:Cls} (Df:Def K mg "thinned" ["roof"] lV) (B:Blt mg) (C:iR mg c) (O:iQ mg base c) (hk:gA K c) (c_lone_points:Cal P w K mg base 7 "lone_points" 2 (b5 K c)) (c_whole_factor:Cal P w K mg base 3 "whole_factor" 1 (bP K c)):Cal P w K mg base 8 "thinned" 1 (fF K c):=by
 refine jC (k:=7) Df sc_thinned rfl (fun f cdv A outer s H E hr=>⟨oM K c,?_,aAk K c⟩)
 exact (aJ (bD (i:=1) sc_thinned.nd rfl (Or.inl rfl) (aK c_lone_points hr bQ (aA (dv 0) (aA (aK c_whole_factor hr bQ (aA (dv 0) aF)) aF)))) (d9 1 (aL (aX (dJ (xs:=["plane","point"]) (ys:=[]) (js:=[]) (cl:=[]) rfl (aD8 rfl B.zip_ (aA (dv 0) (aA (dv 1) aF))) (g6 (ys:=[]) (js:=[]) rfl (fun _ h=>nomatch h) aV (by decide +kernel) (by decide +kernel)) aV (by decide +kernel) rfl (by decide +kernel) rfl (by decide) (fun C s₀ H₀ ex pn=>(qK (n:=2) rfl (eX (a8 (i:=0) (show (["plane","point"]:List Str).Nodup by decide +kernel) rfl (Or.inl rfl)) (eX (a8 (i:=1) (show (["plane","point"]:List Str).Nodup by decide +kernel) rfl (Or.inl rfl)) mY)))) (fun C s₀ H₀ ex pn=>(jK (aDd (dv 1)))) (fun C s₀ H₀ ex pn=>(dv 0)))))))
theorem n5:aW ["middle","one","other"] ["middle","one","other"] (aO gK):=⟨rfl,rfl,rfl,by decide +kernel,rfl,by decide +kernel,by decide +kernel⟩
theorem pD {c:Cls} (Df:Def K mg "pair_weights" ["middle","one","other"] gK) (B:Blt mg) (C:iR mg c) (O:iQ mg base c) (hk:gA K c) (c_dot:Cal P w K mg base 1 "dot" 3 (uF K c)) (c_turn:Cal P w K mg base 1 "turn" 3 (fV K c)):Cal P w K mg base 2 "pair_weights" 3 (cC K c):=by
 refine jC (k:=1) Df n5 rfl (fun f cdv A outer s H E hr=>⟨eR K c,?_,pO K c⟩)
 exact (aJ (eN (bU (lB (u64 hr)) gX dI (aK c_turn hr bQ (aA (dv 0) (aA (dv 1) (aA (dv 2) aF)))) aC (bN _)) (aL (aX (lC (aA aC (aA aC aF))))) bS) (aL (aX (lC (aA (aK c_dot hr bQ (aA (dv 0) (aA (dv 2) (aA (dv 2) aF)))) (aA (qG (aK c_dot hr bQ (aA (dv 0) (aA (dv 1) (aA (dv 2) aF))))) aF))))))
theorem sA:aW ["plane","group"] ["plane","group"] (aO i4):=⟨rfl,rfl,rfl,by decide +kernel,rfl,by decide +kernel,by decide +kernel⟩
theorem sX {c:Cls} (Df:Def K mg "weights_of" ["plane","group"] i4) (B:Blt mg) (C:iR mg c) (O:iQ mg base c) (hk:gA K c) (c_triple_weights:Cal P w K mg base 2 "triple_weights" 4 (bM K c)) (c_pair_weights:Cal P w K mg base 2 "pair_weights" 3 (cC K c)):Cal P w K mg base 3 "weights_of" 2 (cG K c):=by
 refine jC (k:=2) Df sA rfl (fun f cdv A outer s H E hr=>⟨gO K c,?_,sI K c⟩)
 exact (aJ (eN (bU (iM (u64 hr)) gX dI (bW bV jM fY rfl B.len_ PySem.boot_len (aA (dv 1) aF)) aC (bN _)) (aL (aX (aK c_pair_weights hr bQ (aA (dv 0) (aA (aP (dv 1) aC (fun _ _=>rfl)) (aA (aP (dv 1) aC (fun _ _=>rfl)) aF)))))) bS) (aL (aX (aK c_triple_weights hr bQ (aA (dv 0) (aA (aP (dv 1) aC (fun _ _=>rfl)) (aA (aP (dv 1) aC (fun _ _=>rfl)) (aA (aP (dv 1) aC (fun _ _=>rfl)) aF))))))))
theorem oK:aW ["_law_one","_law_other"] ["_law_one","_law_other"] (aO gG):=⟨rfl,rfl,rfl,by decide +kernel,rfl,by decide +kernel,by decide +kernel⟩
theorem pG {c:Cls} (Df:Def K mg "_law_product" ["_law_one","_law_other"] gG) (B:Blt mg) (C:iR mg c) (O:iQ mg base c) (hk:gA K c) (c__law_low:Cal P w K mg base 1 "_law_low" 2 (cI K c)):Cal P w K mg base 2 "_law_product" 2 (cX K c):=by
 refine jC (k:=1) Df oK rfl (fun f cdv A outer s H E hr=>⟨jH K c,?_,oV K c⟩)
 exact (aL (aX (aK c__law_low hr bQ (aA (aS aY bG aI (aP (dv 0) aC (fun _ _=>rfl)) (aP (dv 1) aC (fun _ _=>rfl))) (aA (aS aY bG aI (aP (dv 0) aC (fun _ _=>rfl)) (aP (dv 1) aC (fun _ _=>rfl))) aF)))))
theorem sc__law_right:aW ["_law_roof","_law_planes","_law_found","_law_row"] ["_law_roof","_law_planes","_law_found"] (aO i9):=⟨rfl,rfl,rfl,by decide +kernel,rfl,by decide +kernel,by decide +kernel⟩
theorem rV {c:Cls} (Df:Def K mg "_law_right" ["_law_roof","_law_planes","_law_found"] i9) (B:Blt mg) (C:iR mg c) (O:iQ mg base c) (hk:gA K c) (c__law_parts_right:Cal P w K mg base 3 "_law_parts_right" 3 (a6 K c)):Cal P w K mg base 4 "_law_right" 3 (cK K c):=by
 refine jC (k:=3) Df sc__law_right rfl (fun f cdv A outer s H E hr=>⟨jD K c,?_,sH K c⟩)
 exact (aJ (eN (kM (iK (n8 (cv:=.type "list") rfl B.isinstance_ (.inl ⟨_,rfl⟩) rfl (dv 2) (lP (v:=.ty "list") rfl B.list_ vY rfl)))) (aL (aX sO)) bS) (aJ (jW PassesOwn.leaving rfl (bX (dv 2)) (a8 (i:=3) sc__law_right.nd rfl (Or.inl rfl)) (aL (eN (DW.t (nJ (kM (iK (n8 (cv:=.type "tuple") rfl B.isinstance_ (.inl ⟨_,rfl⟩) rfl (dv 3) (lP (v:=.ty "tuple") rfl B.tuple_ rZ rfl)))) (nJ (bU (lB (u64 hr)) gX dI (bW bV jM fY rfl B.len_ PySem.boot_len (aA (dv 3) aF)) aC (bN _)) (u9 (kM (iK (aK c__law_parts_right hr bQ (aA (aP (dv 3) aC (fun _ _=>rfl)) (aA (aP (dv 3) aC (fun _ _=>rfl)) (aA (dv 1) aF)))))))))) (aL (aX sO)) bS))) (aL (aX (mZ (iM (u64 hr)) gX dI (dJ (xs:=["_law_row"]) (ys:=[]) (js:=[]) (cl:=[]) rfl (bX (dv 2)) (g6 (ys:=[]) (js:=[]) rfl (fun _ h=>nomatch h) aV (by decide +kernel) (by decide +kernel)) aV (by decide +kernel) rfl (by decide +kernel) rfl (by decide) (fun C s₀ H₀ ex pn=>(a8 (i:=0) (show (["_law_row"]:List Str).Nodup by decide +kernel) rfl (Or.inl rfl))) (fun C s₀ H₀ ex pn=>e8) (fun C s₀ H₀ ex pn=>(aP (dv 0) aC (fun _ _=>rfl)))) (dJ (xs:=["_law_plane"]) (ys:=["_law_planes"]) (js:=[1]) (cl:=[("_law_planes",s.heap.objs.size+1)]) rfl (bX (dv 0)) (g6 (ys:=["_law_planes"]) (js:=[1]) rfl (List.forall_mem_cons.mpr ⟨rfl,(fun _ h=>nomatch h)⟩) (a5 ⟨rfl,.inl rfl,.inl rfl,rfl,rfl⟩ aV) (by decide +kernel) (by decide +kernel)) (a5 ⟨rfl,.inl rfl,.inl rfl,rfl,rfl⟩ aV) (by decide +kernel) rfl (by decide +kernel) rfl (by decide) (fun C s₀ H₀ ex pn=>(a8 (i:=0) (show (["_law_plane","_law_planes"]:List Str).Nodup by decide +kernel) rfl (Or.inl rfl))) (fun C s₀ H₀ ex pn=>(jK (bU (wV (u65 hr)) zJ rL (dv 0) (dv 1) (by with_unfolding_all rfl)))) (fun C s₀ H₀ ex pn=>(dv 0))) (bN _))))))
end
theorem aMs {K:PySem.W.Frag} {h₀:Heap} {mg:Str->Option Value} {x:Str} {C:Addr} {bmB:List Value} {newId:String} (X:K.In h₀) (G:h₀.Ns mainGlobals mg) (e:PySem.W.nsIn K mainGlobals x=some (some (.ref C))) (q:PySem.W.excIn K C bmB newId=true):PyProof.Rows.OwnCls x C bmB newId mg h₀:=by
 refine ⟨PySem.W.mg_of X G e,?_⟩
 unfold PySem.W.excIn at q
 split at q
 ·rename_i d1 cd1 sl1 ho1
  split at q
  ·rename_i C1 bm1 s0 s1 s2 s3 n1 s5 hm1 hs1
   simp only [Bool.and_eq_true,beq_iff_eq,Bool.not_eq_true'] at q
   obtain ⟨⟨⟨⟨⟨rfl,rfl⟩,hdl⟩,htl⟩,hnok⟩,hini⟩:=q
   obtain ⟨c1,c2,c3,c4,c5,c6,c7,c8,c9,c10,c11⟩:=cd1
   dsimp only at hm1 hdl hnok hini
   subst hm1 hdl
   obtain ⟨sll⟩:=sl1
   simp only at hs1
   subst hs1
   exact ⟨bm1,c4,c1,c5,c2,c6,c7,c8,c9,c10,d1,s0,s1,s2,s3,s5,_,X _ _ ho1,.of_isNs (PySem.W.isNs_of_in X hnok),PySem.W.nsMap_none_of_in X hnok hini,PySem.W.tail_of_in X htl⟩
  ·cases q
 ·cases q
theorem k7 {α:Type} {us:List α} (h:us.length=1):∃ a,us=[a]:=List.length_eq_one_iff.mp h
theorem iU {α:Type} {us:List α} (h:us.length=2):∃ a b,us=[a,b]:=by
 cases us with
 | nil=>cases h
 | cons a r=>obtain ⟨b,rfl⟩:=k7 (Nat.succ.inj h);exact ⟨a,b,rfl⟩
theorem zR {α:Type} {us:List α} (h:us.length=3):∃ a b c,us=[a,b,c]:=by
 cases us with
 | nil=>cases h
 | cons a r=>obtain ⟨b,c,rfl⟩:=iU (Nat.succ.inj h);exact ⟨a,b,c,rfl⟩
def aB1 (K:PySem.W.Frag):Bool:=K.all fun p=>match p.2.cls with
 | .type n=>!(n == "list")
 | _=>true
theorem lookup_mem {a:Addr} {o:Obj}:∀ {l:List (Addr×Obj)},l.lookup a=some o->(a,o)∈l
 | (k,v) :: r,h=>by
  unfold List.lookup at h
  split at h
  ·rename_i z
   have e:a=k:=by simpa using z
   cases h
   rw [e]
   exact .head _
  ·exact .tail _ (lookup_mem h)
theorem aAl {K:PySem.W.Frag} (h:aB1 K=true) {a:Addr} {o:Obj} (e:K.lookup a=some o) (hc:o.cls=.type "list"):False:=by
 have:=List.all_eq_true.mp h (a,o) (lookup_mem e)
 dsimp only at this
 rw [hc] at this
 cases this
def aFt:Sp:=fun vs H Q _=>∃ (a:Addr) (ns:List Int),vs=[.ref a]/\Rd H a (.lst (ns.map V.int))/\ns.length<=63/\∀ H',Q (.bl true) H'
theorem vD {K:PySem.W.Frag} {G:Hp}:∀ ns:List Int,Reps K G (ns.map V.int) (ns.map PyData.int)
 | []=>.nil
 | i :: r=>.cons (.int i) (vD r)
theorem aNy {P:Program} {w:World} {K:PySem.W.Frag} {mg:Str->Option Value} {base:Heap} {f:Addr} {fd:FuncData} {c:Cls} (hk:gA K c) (F:FnOk P w K mg base (CXr P w) 10 f fd ["_law_script"] (spM K 1 (aD7 K c))):FnOk P w K mg base (CXr P w) 10 f fd ["_law_script"] aFt :=
 F.imp fun vs H Q E h=>by
  obtain ⟨a,ns,rfl,rd,hl,hq⟩:=h
  refine ⟨rfl,H,[.p (.list (ns.map .int))],Same.refl _,⟨.lst rd (vD ns),trivial⟩,?_⟩
  rw [aN6 K c hk ns hl]
  intro G' H' v st r
  cases r
  exact hq H'
theorem aIu {α:Type} {us:List α} (h:us.length=4):∃ a0 a1 a2 a3,us=[a0,a1,a2,a3]:=by
 cases us with
 | nil=>cases h
 | cons a0 r=>obtain ⟨a1,a2,a3,rfl⟩:=zR (Nat.succ.inj h);exact ⟨a0,a1,a2,a3,rfl⟩
structure FnAt (K:PySem.W.Frag) (x:Str) (st:Stmt) (f:Addr) (m:Value) (c:Addr):Prop where
 a:PySem.W.nsIn K mainGlobals x=some (some (.ref f))
 l:K.lookup f=some ⟨.type "function",none,.func (PySem.W.fnOf x x (kI st) (iN st) (aO st) .none .none .none m none (.ref c) .none),#[]⟩
 c:PySem.W.codeIn K (.ref c) x=true
 k:PySem.W.keepIn K (.ref f)=true
theorem FnAt.df {K:PySem.W.Frag} {h:Heap} {mg:Str->Option Value} {x:Str} {st:Stmt} {f c:Addr} {m:Value} {ps:List Str} (A:FnAt K x st f m c) (X:K.In h) (G:h.Ns mainGlobals mg)
  (hb:∀ (kV doc pm:Value) (an:Option Addr) (cdv ct:Value) (us:List Value),us.length=ps.length->bindArgs (PySem.W.fnOf x x (kI st) (iN st) (aO st) .none kV doc pm an cdv ct) ⟨us,[]⟩=pure (ps.zip us)):Def K mg x ps st :=
 have F:=aHs (st:=st) A.l A.c A.k
 ⟨_,_,F,F.binds hb,A.k,PySem.W.mg_of X G A.a⟩
theorem all_mk {l:PySem.W.OpenLaw} {w:World} {K:PySem.W.Frag} {h:Heap} {mg:Str->Option Value} {fa:Addr} {f1 c1 f2 c2 f3 c3 f4 c4 f5 c5 f6 c6 f7 c7 f8 c8 f9 c9 f10 c10 f11 c11 f12 c12 f13 c13 f14 c14 f15 c15 f16 c16 f17 c17 f18 c18 f19 c19 f20 c20 f21 c21 f22 c22 f23 c23 f24 c24 f25 c25 f26 c26 f27 c27 f28 c28 f29 c29 f30 c30 f31 c31 f32 c32 f33 c33 f34 c34 f35 c35 f36 c36 f37 c37 f38 c38 f39 c39 f40 c40 f41 c41 f42 c42 f43 c43 f44 c44 f45 c45 CRoofError CNoFraction:Addr} (X:K.In h) (G:h.Ns mainGlobals mg) (hfa:mg "law" = some (.ref fa))
  {m1 m2 m3 m4 m5 m6 m7 m8 m9 m10 m11 m12 m13 m14 m15 m16 m17 m18 m19 m20 m21 m22 m23 m24 m25 m26 m27 m28 m29 m30 m31 m32 m33 m34 m35 m36 m37 m38 m39 m40 m41 m42 m43 m44 m45:Value}
  (h1:FnAt K "greatest_divisor" dN f1 m1 c1)
  (h2:FnAt K "fraction" kS f2 m2 c2)
  (h3:FnAt K "plus" xM f3 m3 c3)
  (h4:FnAt K "minus" s8 f4 m4 c4)
  (h5:FnAt K "times" rM f5 m5 c5)
  (h6:FnAt K "over" zF f6 m6 c6)
  (h7:FnAt K "less" yT f7 m7 c7)
  (h8:FnAt K "greatest" kO f8 m8 c8)
  (h9:FnAt K "least" qW f9 m9 c9)
  (h10:FnAt K "common_bottom" fJ f10 m10 c10)
  (h11:FnAt K "whole" rW f11 m11 c11)
  (h12:FnAt K "turn" yG f12 m12 c12)
  (h13:FnAt K "whole_factor" gI f13 m13 c13)
  (h14:FnAt K "blown_up" kW f14 m14 c14)
  (h15:FnAt K "shrunk" nV f15 m15 c15)
  (h16:FnAt K "between" l8 f16 m16 c16)
  (h17:FnAt K "solved" nT f17 m17 c17)
  (h18:FnAt K "without_y" jO f18 m18 c18)
  (h19:FnAt K "gap" aHe f19 m19 c19)
  (h20:FnAt K "lone_point" i6 f20 m20 c20)
  (h21:FnAt K "lone_points" hX f21 m21 c21)
  (h22:FnAt K "staying" mB f22 m22 c22)
  (h23:FnAt K "thinned" lV f23 m23 c23)
  (h24:FnAt K "pairs_and_triples" dC f24 m24 c24)
  (h25:FnAt K "dot" aFg f25 m25 c25)
  (h26:FnAt K "pair_weights" gK f26 m26 c26)
  (h27:FnAt K "triple_weights" eT f27 m27 c27)
  (h28:FnAt K "weights_of" i4 f28 m28 c28)
  (h29:FnAt K "shared_sum" i7 f29 m29 c29)
  (h30:FnAt K "mixture_height" eV f30 m30 c30)
  (h31:FnAt K "mixture_of" iW f31 m31 c31)
  (h32:FnAt K "struck" nW f32 m32 c32)
  (h33:FnAt K "_law_cell_at" gM f33 m33 c33)
  (h34:FnAt K "_law_stirred" gN f34 m34 c34)
  (h35:FnAt K "_law_whole" iY f35 m35 c35)
  (h36:FnAt K "_law_low" kU f36 m36 c36)
  (h37:FnAt K "_law_height_by" eW f37 m37 c37)
  (h38:FnAt K "_law_roof_by" gJ f38 m38 c38)
  (h39:FnAt K "_law_is_fraction" dS f39 m39 c39)
  (h40:FnAt K "_law_under" i5 f40 m40 c40)
  (h41:FnAt K "_law_sum" kQ f41 m41 c41)
  (h42:FnAt K "_law_product" gG f42 m42 c42)
  (h43:FnAt K "_law_parts_right" dQ f43 m43 c43)
  (h44:FnAt K "_law_right" i9 f44 m44 c44)
  (h45:FnAt K "law" u3 f45 m45 c45)
  (z0:PySem.W.nsIn K mainGlobals "abs" = some none)
  (z1:PySem.W.nsIn K mainGlobals "any" = some none)
  (z2:PySem.W.nsIn K mainGlobals "bool" = some none)
  (z3:PySem.W.nsIn K mainGlobals "enumerate" = some none)
  (z4:PySem.W.nsIn K mainGlobals "int" = some none)
  (z5:PySem.W.nsIn K mainGlobals "isinstance" = some none)
  (z6:PySem.W.nsIn K mainGlobals "len" = some none)
  (z7:PySem.W.nsIn K mainGlobals "list" = some none)
  (z8:PySem.W.nsIn K mainGlobals "max" = some none)
  (z9:PySem.W.nsIn K mainGlobals "min" = some none)
  (z10:PySem.W.nsIn K mainGlobals "range" = some none)
  (z11:PySem.W.nsIn K mainGlobals "sorted" = some none)
  (z12:PySem.W.nsIn K mainGlobals "sum" = some none)
  (z13:PySem.W.nsIn K mainGlobals "tuple" = some none)
  (z14:PySem.W.nsIn K mainGlobals "zip" = some none)
  (nRoofError:PySem.W.nsIn K mainGlobals "RoofError" = some (some (.ref CRoofError)))
  (nNoFraction:PySem.W.nsIn K mainGlobals "NoFraction" = some (some (.ref CNoFraction)))
  (eNoFraction:PySem.W.excIn K CNoFraction [.type "ValueError",.type "Exception",.type "BaseException",.type "object"] "ValueError.__new__" = true)
  (xii:PySem.W.kitOne K (.type "int") (.type "int")=some true)
  (xib:PySem.W.kitOne K (.type "int") (.type "bool")=some false)
  (xtt:PySem.W.kitOne K (.type "tuple") (.type "tuple")=some true)
  (xll:PySem.W.kitOne K (.type "list") (.type "list")=some true)
  : ∃ fd:FuncData,(∀ (s:Shared) (v:Value),BindsTo s fd ⟨[v],[]⟩ [("_law_script",v)])/\∀ base:Heap,K.In base->base.Ns mainGlobals mg->FnOk l.prog w K mg base (CXr l.prog w) 10 fa fd ["_law_script"] aFt:=by
 have e:=hfa.symm.trans (PySem.W.mg_of X G h45.a)
 cases e
 have D1:=h1.df (ps:=["a","b"]) X G (fun _ _ _ _ _ _ us hl=>by obtain ⟨_,_,rfl⟩:=iU hl;rfl)
 have D2:=h2.df (ps:=["top","bottom"]) X G (fun _ _ _ _ _ _ us hl=>by obtain ⟨_,_,rfl⟩:=iU hl;rfl)
 have D3:=h3.df (ps:=["a","b"]) X G (fun _ _ _ _ _ _ us hl=>by obtain ⟨_,_,rfl⟩:=iU hl;rfl)
 have D4:=h4.df (ps:=["a","b"]) X G (fun _ _ _ _ _ _ us hl=>by obtain ⟨_,_,rfl⟩:=iU hl;rfl)
 have D5:=h5.df (ps:=["a","b"]) X G (fun _ _ _ _ _ _ us hl=>by obtain ⟨_,_,rfl⟩:=iU hl;rfl)
 have D6:=h6.df (ps:=["a","b"]) X G (fun _ _ _ _ _ _ us hl=>by obtain ⟨_,_,rfl⟩:=iU hl;rfl)
 have D7:=h7.df (ps:=["a","b"]) X G (fun _ _ _ _ _ _ us hl=>by obtain ⟨_,_,rfl⟩:=iU hl;rfl)
 have D8:=h8.df (ps:=["numbers"]) X G (fun _ _ _ _ _ _ us hl=>by obtain ⟨_,rfl⟩:=k7 hl;rfl)
 have D9:=h9.df (ps:=["numbers"]) X G (fun _ _ _ _ _ _ us hl=>by obtain ⟨_,rfl⟩:=k7 hl;rfl)
 have D10:=h10.df (ps:=["numbers"]) X G (fun _ _ _ _ _ _ us hl=>by obtain ⟨_,rfl⟩:=k7 hl;rfl)
 have D11:=h11.df (ps:=["number","factor"]) X G (fun _ _ _ _ _ _ us hl=>by obtain ⟨_,_,rfl⟩:=iU hl;rfl)
 have D12:=h12.df (ps:=["start","middle","end"]) X G (fun _ _ _ _ _ _ us hl=>by obtain ⟨_,_,_,rfl⟩:=zR hl;rfl)
 have D13:=h13.df (ps:=["roof"]) X G (fun _ _ _ _ _ _ us hl=>by obtain ⟨_,rfl⟩:=k7 hl;rfl)
 have D14:=h14.df (ps:=["roof","factor"]) X G (fun _ _ _ _ _ _ us hl=>by obtain ⟨_,_,rfl⟩:=iU hl;rfl)
 have D15:=h15.df (ps:=["point","factor"]) X G (fun _ _ _ _ _ _ us hl=>by obtain ⟨_,_,rfl⟩:=iU hl;rfl)
 have D16:=h16.df (ps:=["lows","highs"]) X G (fun _ _ _ _ _ _ us hl=>by obtain ⟨_,_,rfl⟩:=iU hl;rfl)
 have D17:=h17.df (ps:=["rows"]) X G (fun _ _ _ _ _ _ us hl=>by obtain ⟨_,rfl⟩:=k7 hl;rfl)
 have D18:=h18.df (ps:=["rows"]) X G (fun _ _ _ _ _ _ us hl=>by obtain ⟨_,rfl⟩:=k7 hl;rfl)
 have D19:=h19.df (ps:=["plane","other"]) X G (fun _ _ _ _ _ _ us hl=>by obtain ⟨_,_,rfl⟩:=iU hl;rfl)
 have D20:=h20.df (ps:=["plane","planes"]) X G (fun _ _ _ _ _ _ us hl=>by obtain ⟨_,_,rfl⟩:=iU hl;rfl)
 have D21:=h21.df (ps:=["roof","factor"]) X G (fun _ _ _ _ _ _ us hl=>by obtain ⟨_,_,rfl⟩:=iU hl;rfl)
 have D22:=h22.df (ps:=["roof"]) X G (fun _ _ _ _ _ _ us hl=>by obtain ⟨_,rfl⟩:=k7 hl;rfl)
 have D23:=h23.df (ps:=["roof"]) X G (fun _ _ _ _ _ _ us hl=>by obtain ⟨_,rfl⟩:=k7 hl;rfl)
 have D24:=h24.df (ps:=["planes"]) X G (fun _ _ _ _ _ _ us hl=>by obtain ⟨_,rfl⟩:=k7 hl;rfl)
 have D25:=h25.df (ps:=["middle","one","other"]) X G (fun _ _ _ _ _ _ us hl=>by obtain ⟨_,_,_,rfl⟩:=zR hl;rfl)
 have D26:=h26.df (ps:=["middle","one","other"]) X G (fun _ _ _ _ _ _ us hl=>by obtain ⟨_,_,_,rfl⟩:=zR hl;rfl)
 have D27:=h27.df (ps:=["middle","one","other","last"]) X G (fun _ _ _ _ _ _ us hl=>by obtain ⟨_,_,_,_,rfl⟩:=aIu hl;rfl)
 have D28:=h28.df (ps:=["plane","group"]) X G (fun _ _ _ _ _ _ us hl=>by obtain ⟨_,_,rfl⟩:=iU hl;rfl)
 have D29:=h29.df (ps:=["rows"]) X G (fun _ _ _ _ _ _ us hl=>by obtain ⟨_,rfl⟩:=k7 hl;rfl)
 have D30:=h30.df (ps:=["mixture"]) X G (fun _ _ _ _ _ _ us hl=>by obtain ⟨_,rfl⟩:=k7 hl;rfl)
 have D31:=h31.df (ps:=["plane","groups"]) X G (fun _ _ _ _ _ _ us hl=>by obtain ⟨_,_,rfl⟩:=iU hl;rfl)
 have D32:=h32.df (ps:=["roof"]) X G (fun _ _ _ _ _ _ us hl=>by obtain ⟨_,rfl⟩:=k7 hl;rfl)
 have D33:=h33.df (ps:=["_law_script","_law_k"]) X G (fun _ _ _ _ _ _ us hl=>by obtain ⟨_,_,rfl⟩:=iU hl;rfl)
 have D34:=h34.df (ps:=["_law_script"]) X G (fun _ _ _ _ _ _ us hl=>by obtain ⟨_,rfl⟩:=k7 hl;rfl)
 have D35:=h35.df (ps:=["_law_found"]) X G (fun _ _ _ _ _ _ us hl=>by obtain ⟨_,rfl⟩:=k7 hl;rfl)
 have D36:=h36.df (ps:=["_law_top","_law_bottom"]) X G (fun _ _ _ _ _ _ us hl=>by obtain ⟨_,_,rfl⟩:=iU hl;rfl)
 have D37:=h37.df (ps:=["_law_kind","_law_i","_law_j","_law_rest"]) X G (fun _ _ _ _ _ _ us hl=>by obtain ⟨_,_,_,_,rfl⟩:=aIu hl;rfl)
 have D38:=h38.df (ps:=["_law_kind","_law_cells","_law_most","_law_wide"]) X G (fun _ _ _ _ _ _ us hl=>by obtain ⟨_,_,_,_,rfl⟩:=aIu hl;rfl)
 have D39:=h39.df (ps:=["_law_found"]) X G (fun _ _ _ _ _ _ us hl=>by obtain ⟨_,rfl⟩:=k7 hl;rfl)
 have D40:=h40.df (ps:=["_law_one","_law_other"]) X G (fun _ _ _ _ _ _ us hl=>by obtain ⟨_,_,rfl⟩:=iU hl;rfl)
 have D41:=h41.df (ps:=["_law_one","_law_other"]) X G (fun _ _ _ _ _ _ us hl=>by obtain ⟨_,_,rfl⟩:=iU hl;rfl)
 have D42:=h42.df (ps:=["_law_one","_law_other"]) X G (fun _ _ _ _ _ _ us hl=>by obtain ⟨_,_,rfl⟩:=iU hl;rfl)
 have D43:=h43.df (ps:=["_law_plane","_law_parts","_law_planes"]) X G (fun _ _ _ _ _ _ us hl=>by obtain ⟨_,_,_,rfl⟩:=zR hl;rfl)
 have D44:=h44.df (ps:=["_law_roof","_law_planes","_law_found"]) X G (fun _ _ _ _ _ _ us hl=>by obtain ⟨_,_,_,rfl⟩:=zR hl;rfl)
 have B:Blt mg:=⟨PySem.W.mg_none_of X G z0,PySem.W.mg_none_of X G z1,PySem.W.mg_none_of X G z2,PySem.W.mg_none_of X G z3,PySem.W.mg_none_of X G z4,PySem.W.mg_none_of X G z5,PySem.W.mg_none_of X G z6,PySem.W.mg_none_of X G z7,PySem.W.mg_none_of X G z8,PySem.W.mg_none_of X G z9,PySem.W.mg_none_of X G z10,PySem.W.mg_none_of X G z11,PySem.W.mg_none_of X G z12,PySem.W.mg_none_of X G z13,PySem.W.mg_none_of X G z14⟩
 let c:Cls:=⟨CRoofError,CNoFraction⟩
 have C:iR mg c:=⟨PySem.W.mg_of X G nRoofError,PySem.W.mg_of X G nNoFraction⟩
 have hk:gA K c:=⟨xii,xib,xtt,xll⟩
 refine ⟨PySem.W.fnOf "law" "law" (kI u3) (iN u3) (aO u3) .none .none .none m45 none (.ref c45) .none,fun s v=>.of_eq rfl,fun base kb nb=>?_⟩
 have O:iQ mg base c:=⟨aMs kb nb nNoFraction eNoFraction⟩
 have G1:Cal l.prog w K mg base 1 "greatest_divisor" 2 (bA K c):=lI D1 B C O hk
 have G7:Cal l.prog w K mg base 1 "less" 2 (iH K c):=aLb D7 B C O hk
 have G11:Cal l.prog w K mg base 1 "whole" 2 (lJ K c):=aG8 D11 B C O hk
 have G12:Cal l.prog w K mg base 1 "turn" 3 (fV K c):=aJ3 D12 B C O hk
 have G18:Cal l.prog w K mg base 1 "without_y" 1 (dZ K c):=uL D18 B C O hk
 have G19:Cal l.prog w K mg base 1 "gap" 2 (w9 K c):=aL6 D19 B C O hk
 have G24:Cal l.prog w K mg base 1 "pairs_and_triples" 1 (bC K c):=kZ D24 B C O hk
 have G25:Cal l.prog w K mg base 1 "dot" 3 (uF K c):=aOm D25 B C O hk
 have G33:Cal l.prog w K mg base 1 "_law_cell_at" 2 (bL K c):=oT D33 B C O hk
 have G35:Cal l.prog w K mg base 1 "_law_whole" 1 (cJ K c):=qU D35 B C O hk
 have G36:Cal l.prog w K mg base 1 "_law_low" 2 (cI K c):=wI D36 B C O hk
 have G40:Cal l.prog w K mg base 1 "_law_under" 2 (d8 K c):=rB D40 B C O hk
 have G2:Cal l.prog w K mg base 2 "fraction" 2 (bB K c):=xD D2 B C O hk G1
 have G8:Cal l.prog w K mg base 2 "greatest" 1 (eI K c):=xE D8 B C O hk G7
 have G9:Cal l.prog w K mg base 2 "least" 1 (jU K c):=aGk D9 B C O hk G7
 have G10:Cal l.prog w K mg base 2 "common_bottom" 1 (cM K c):=nN D10 B C O hk G1
 have G14:Cal l.prog w K mg base 2 "blown_up" 2 (fD K c):=w8 D14 B C O hk G11
 have G26:Cal l.prog w K mg base 2 "pair_weights" 3 (cC K c):=pD D26 B C O hk G25 G12
 have G27:Cal l.prog w K mg base 2 "triple_weights" 4 (bM K c):=mO D27 B C O hk G12
 have G34:Cal l.prog w K mg base 2 "_law_stirred" 1 (cA K c):=oO D34 B C O hk G33
 have G37:Cal l.prog w K mg base 2 "_law_height_by" 4 (bK K c):=mP D37 B C O hk G36
 have G39:Cal l.prog w K mg base 2 "_law_is_fraction" 1 (bO K c):=lR D39 B C O hk G36 G35
 have G41:Cal l.prog w K mg base 2 "_law_sum" 2 (fE K c):=w5 D41 B C O hk G36
 have G42:Cal l.prog w K mg base 2 "_law_product" 2 (cX K c):=pG D42 B C O hk G36
 have G3:Cal l.prog w K mg base 3 "plus" 2 (jY K c):=aKr D3 B C O hk G2
 have G4:Cal l.prog w K mg base 3 "minus" 2 (jV K c):=aFe D4 B C O hk G2
 have G5:Cal l.prog w K mg base 3 "times" 2 (lL K c):=aGf D5 B C O hk G2
 have G6:Cal l.prog w K mg base 3 "over" 2 (nG K c):=aJ7 D6 B C O hk G2
 have G13:Cal l.prog w K mg base 3 "whole_factor" 1 (bP K c):=o6 D13 B C O hk G10
 have G15:Cal l.prog w K mg base 3 "shrunk" 2 (jS K c):=aC0 D15 B C O hk G2
 have G28:Cal l.prog w K mg base 3 "weights_of" 2 (cG K c):=sX D28 B C O hk G27 G26
 have G38:Cal l.prog w K mg base 3 "_law_roof_by" 4 (bZ K c):=oE D38 B C O hk G37
 have G43:Cal l.prog w K mg base 3 "_law_parts_right" 3 (a6 K c):=lE D43 B C O hk G40 G41 G42 G39
 have G16:Cal l.prog w K mg base 4 "between" 2 (iO K c):=aAd D16 B C O hk G7 G6 G3 G9 G8 G4
 have G29:Cal l.prog w K mg base 4 "shared_sum" 1 (dA K c):=rY D29 B C O hk G3 G5
 have G44:Cal l.prog w K mg base 4 "_law_right" 3 (cK K c):=rV D44 B C O hk G43
 have G17:Cal l.prog w K mg base 5 "solved" 1 (gL K c):=aCa D17 B C O hk G16 G2
 have G30:Cal l.prog w K mg base 5 "mixture_height" 1 (bJ K c):=mD D30 B C O hk G29
 have G20:Cal l.prog w K mg base 6 "lone_point" 2 (d6 K c):=qZ D20 B C O hk G17 G18 G19
 have G31:Cal l.prog w K mg base 6 "mixture_of" 2 (dB K c):=sM D31 B C O hk G7 G30 G2 G28
 have G21:Cal l.prog w K mg base 7 "lone_points" 2 (b5 K c):=pS D21 B C O hk G20 G14
 have G22:Cal l.prog w K mg base 8 "staying" 1 (gQ K c):=aAe D22 B C O hk G15 G21 G13
 have G23:Cal l.prog w K mg base 8 "thinned" 1 (fF K c):=zW D23 B C O hk G21 G13
 have G32:Cal l.prog w K mg base 9 "struck" 1 (fS K c):=aEb D32 B C O hk G31 G24 G23
 exact aNy hk (aNo (aHs (st:=u3) h45.l h45.c h45.k) B C O hk G32 G44 G22 G38 G33 G34)
theorem walk {l:PySem.W.OpenLaw} {q:Program} {loose:List Str} {XP:(Str->Option Value)->Heap->Prop} {YP:World->Heap->Prop} {d:DefRec} {K:Params->PySem.W.Frag} (hn:l.most=some 63) (hdf:d.params.defaults=[])
  (hY:∀ (w:World) (h:Heap),YP w h->(K w.params).In h) (hK:∀ w:World,aB1 (K w.params)=true)
  (F:∀ (w:World) (mg:Str->Option Value) (fa:Addr) (h:Heap),(K w.params).In h->h.Ns mainGlobals mg->mg d.name=some (.ref fa) ->
   ∃ fd:FuncData,(∀ (s:Shared) (u:Value),BindsTo s fd ⟨[u],[]⟩ [("_law_script",u)])/\∀ base:Heap,(K w.params).In base->base.Ns mainGlobals mg->FnOk l.prog w (K w.params) mg base (CXr l.prog w) 10 fa fd ["_law_script"] aFt) :
  PySem.W.WalkO q loose XP YP l.row.toRowW d [] (fun f vs=>PySem.call f vs) :=
 L2.aKt (n:=63) (k:=10) (x:="_law_script") (CX:=fun w=>CXr l.prog w) (sp:=fun _=>aFt) hn (by decide) hdf ⟨rfl,by decide,by decide⟩ hY F (fun w _ a ns hl _ hS=>⟨a,ns,rfl,hS.elim id (fun ⟨_,_,_,e,hc,_⟩=>(aAl (hK w) e hc).elim),hl,fun _=>rfl⟩) fun _ _ _ _ _ ⟨_,_,_,_,_,_,_,z⟩=>z
end My
namespace Hd
open PySem PySem.W PyProof.Rows L2 My
abbrev pr:Program:=PySem.Challenge.pw_creasecurve_k09_planes_struck_out
noncomputable def vs (s:String) (t:Nat):Value:=.str (Str.ofString s) t
noncomputable def en (P:Params) (s:String) (t:Nat) (v:Value):DictEntry:=⟨PyData.keyHash P (Str.ofString s),.str (Str.ofString s) t,v⟩
noncomputable def fd (n q:String) (a:Arguments) (b:FuncBody) (s:Scope) (g:Nat) (c:List (Str×Nat)) (d k dc m:Value) (an:Option Nat) (co ct:Value) (bl:Nat):FuncData:=⟨Str.ofString n,Str.ofString q,a,b,s,g,c,d,k,dc,m,an,co,ct,bl⟩
noncomputable def pE (e:DictEntry):Obj->Obj
 | ⟨c,d,.dict es n,s⟩=>⟨c,d,.dict (es.push e) (n+1),s⟩
 | o=>o
noncomputable def rE (i:Nat) (v:Value):Obj->Obj
 | ⟨c,d,.dict es n,s⟩=>⟨c,d,.dict (es.modify i fun e=>⟨e.hash,e.key,v⟩) n,s⟩
 | o=>o
noncomputable def pF (vs:List Value):Obj->Obj
 | ⟨c,d,.fields xs,s⟩=>⟨c,d,.fields (xs++vs.toArray),s⟩
 | o=>o
noncomputable def tu (xs:List Value):Obj:=⟨.type "tuple",none,.seq xs.toArray 0,#[]⟩
noncomputable def fl (xs:List Value):Obj:=⟨.none,none,.fields xs.toArray,#[]⟩
noncomputable def fo (i:Nat) (nm:String) (g:Nat) (m co c:Value):Obj:=⟨c,none,.func (fd nm nm (kI (top i)) (.stmts (iN (top i))) (aO (top i)) g [] .none .none .none m none co .none 0),#[]⟩
noncomputable def co (nm:String) (t u l k a c:Nat) (v x:Value) (f:Nat):Obj:=⟨.type "code",none,.fields #[vs nm t,vs nm (t+1),vs "/claim/cut.py" (t+2),.int l 0,.int k 0,.int 0 0,.int 0 0,.int 3 0,.ref a,.bool true,.int 181 0,.ref c,.none,v,x,.ref f,.int u 0,.int l 0,vs "/claim/cut.py" (u+1)],#[]⟩
noncomputable def vL (t:Nat):List String->List Value
 | []=>[]
 | s :: r=>vs s t :: vL (t+1) r
noncomputable def d7 (P:Params) (i:Nat) (nm:String) (m:Value) (l k:Nat) (vn:List String) (n t u:Nat) (T:BT):BT:=((((((((T.set 3 (pE (en P nm (u+2) (.ref (n+6))))).set 12 (pF [.int l 0,.int 0 0,.ref (n+5)])).ins n (tu [])).ins (n+1) (fl [])).ins (n+2) (tu (vL (t+3) vn))).ins (n+3) (tu [])).ins (n+4) (fo i nm 0 .none .none .none)).ins (n+5) (co nm t u l k n (n+1) (.ref (n+2)) (.ref (n+3)) (n+4))).ins (n+6) (fo i nm 3 m (.ref (n+5)) (.type "function"))
noncomputable def d5 (P:Params) (i:Nat) (nm:String) (m:Value) (l k n t u:Nat) (T:BT):BT:=((((((T.set 3 (pE (en P nm (u+2) (.ref (n+4))))).set 12 (pF [.int l 0,.int 0 0,.ref (n+3)])).ins n (tu [])).ins (n+1) (fl [])).ins (n+2) (fo i nm 0 .none .none .none)).ins (n+3) (co nm t u l k n (n+1) .none .none (n+2))).ins (n+4) (fo i nm 3 m (.ref (n+3)) (.type "function"))
noncomputable def aIs:Env:={ scope:=pr.main.scope,locals:=mainNs,globals:=mainNs,cells:=[],code:=(.ref 13),frame:=some 14 }
noncomputable def cE:Code:=.body (behindTheImports pr) aIs
noncomputable def ol (P:Params):List Obj:=[boot_o_0 P,boot_o_1 P,boot_o_2 P,boot_o_3 P,boot_o_4 P,boot_o_5 P,boot_o_6 P,boot_o_7 P,boot_o_8 P,boot_o_9 P,boot_o_10 P,(⟨(.type "tuple"),none,(.seq #[] 0),#[]⟩:Obj),(⟨.none,none,(.fields #[]),#[]⟩:Obj),(⟨(.type "code"),none,(.fields #[(vs "<module>" 182),(vs "<module>" 183),(vs "/claim/cut.py" 184),(.int 1 0),(.int 0 0),(.int 0 0),(.int 0 0),(.int 0 0),(.ref 11),(.bool false),(.int 181 0),(.ref 12),.none,.none,.none,.none,(.int 185 0),(.int 1 0),(vs "/claim/cut.py" 186)]),#[]⟩:Obj),(⟨(.type "frame"),none,.plain,#[(some (.ref 13)),(some (.ref 3)),(some (.ref 3)),none,(some (vs "__main__" 164)),none,(some (.ref 0))]⟩:Obj)]
noncomputable def bt:Nat->List Obj->BT->BT
 | _,[],T=>T
 | i,o :: r,T=>bt (i+1) r (T.ins i o)
noncomputable def t0 (P:Params):BT:=bt 0 (ol P) .nil
noncomputable abbrev sT (t:Params->BT) (n k:Nat) (w:World) (os:OsState):SharedT:=⟨t w.params,n,{},⟨[]⟩,boot_drawn,k,os⟩
abbrev B:List Frame:=[topFrame ⟨0,0,0,0⟩]
theorem aLj (w:World):(fun os=>topGo treeTable pr w 11 (some (.ref 6)) 12 ⟨boot_heap w.params,⟨[]⟩,boot_drawn,boot_toks,os⟩ (topStub pr))=(fun os=>some ((⟨⟨⟨ol w.params⟩,{}⟩,⟨[]⟩,boot_drawn,187,os⟩:Shared),⟨denote treeTable cE,cE,⟨0,0,0,0⟩,B⟩)):=by
 rw [PySem.W.Fast.te15667345088766844465,PySem.W.Fast.te14364793385576792824,PySem.W.Fast.te11892475500146522536]
 kernel_rfl
theorem aO7 (w:World):(fun os=>segRun treeTable pr w 11 (some (.ref 6)) 1 1 ⟨⟨⟨ol w.params⟩,{}⟩,⟨[]⟩,boot_drawn,187,os⟩ (blockOf (behindTheImports pr) aIs cE ⟨0,0,0,0⟩ B))=(fun os=>some (.next,(sT t0 15 187 w os).abs,cE,⟨0,0,0,0⟩)):=by
 rw [PySem.W.Fast.te14374325043358763698,PySem.W.Fast.te14364793385576792824]
 kernel_rfl
noncomputable def t1 (P:Params):BT :=
 (t0 P) |>
 (fun T=>T.set 3 (rE 0 (vs "creasecurve.errors" 187))) |>
 (fun T=>T.set 3 (pE (en P "RoofError" 206 (.ref 24)))) |>
 (fun T=>T.set 12 (pF [(.int 2 0),(.int 0 0),(.ref 20)])) |>
 (fun T=>T.ins 15 (tu [(.type "ValueError")])) |>
 (fun T=>T.ins 16 ⟨(.type "builtin_function_or_method"),none,(.fields #[(.builtin "type.__prepare__"),(.type "type")]),#[]⟩) |>
 (fun T=>T.ins 17 ⟨(.type "dict"),none,(.dict #[en P "__module__" 196 (vs "creasecurve.errors" 187),en P "__qualname__" 198 (vs "RoofError" 197),en P "__firstlineno__" 200 (.int 2 199),en P "__static_attributes__" 201 (.ref 22)] 4),#[]⟩) |>
 (fun T=>T.ins 18 (tu [])) |>
 (fun T=>T.ins 19 (fl [])) |>
 (fun T=>T.ins 20 ⟨(.type "code"),none,(.fields #[(vs "RoofError" 191),(vs "RoofError" 192),(vs "/claim/cut.py" 193),(.int 2 0),(.int 0 0),(.int 0 0),(.int 0 0),(.int 0 0),(.ref 18),(.bool false),(.int 181 0),(.ref 19),.none,.none,.none,.none,(.int 194 0),(.int 2 0),(vs "/claim/cut.py" 195)]),#[]⟩) |>
 (fun T=>T.ins 21 ⟨(.type "frame"),none,.plain,#[(some (.ref 20)),(some (.ref 3)),(some (.ref 17)),none,(some (vs "creasecurve.errors" 187)),none,(some (.ref 0))]⟩) |>
 (fun T=>T.ins 22 (tu [])) |>
 (fun T=>T.ins 23 ⟨(.type "dict"),none,(.dict #[en P "__module__" 196 (vs "creasecurve.errors" 187),en P "__firstlineno__" 200 (.int 2 199),en P "__static_attributes__" 201 (.ref 22),en P "__weakref__" 203 (.ref 25),en P "__doc__" 204 .none] 3),#[]⟩) |>
 (fun T=>T.ins 24 ⟨(.type "type"),none,(.cls ⟨"RoofError",[(.type "ValueError")],[(.ref 24),(.type "ValueError"),(.type "Exception"),(.type "BaseException"),(.type "object")],23,"RoofError",true,[],[],false,none,false⟩),#[(some (.ref 15)),none,(some (vs "RoofError" 189)),(some (vs "RoofError" 197)),(some (.builtin "ValueError.__new__")),(some (.bool true))]⟩) |>
 (fun T=>T.ins 25 ⟨(.type "getset_descriptor"),none,(.fields #[(vs "__weakref__" 202),(.ref 24),(.builtin "ExceptionGroup.__weakref__"),.none]),#[]⟩) |>
 (fun T=>T.ins 26 ⟨(.type "super"),none,(.fields #[(.ref 24),(.ref 24),(.ref 24)]),#[]⟩) |>
 (fun T=>T.ins 27 ⟨(.type "builtin_function_or_method"),none,(.fields #[(.builtin "object.__init_subclass__"),(.ref 24)]),#[]⟩)
noncomputable def g0:List Stmt:=[top 0,top 1]
theorem hg0 (w:World):(fun os=>segRunT treeTable pr w 11 (some (.ref 6)) 1 196 (sT t0 15 187 w os) (piecesOf g0 aIs cE ⟨0,0,0,0⟩ B))=(fun os=>some (.next,sT t1 28 207 w os,cE,⟨2,0,3,8⟩)):=by
 rw [PySem.W.Fast.te10110043849684766642,PySem.W.Fast.te14364793385576792824]
 kernel_rfl
noncomputable def t2 (P:Params):BT :=
 (t1 P) |>
 (fun T=>T.set 3 (pE (en P "NoFraction" 222 (.ref 37)))) |>
 (fun T=>T.set 12 (pF [(.int 4 0),(.int 0 0),(.ref 33)])) |>
 (fun T=>T.set 24 (fun _=>⟨(.type "type"),none,(.cls ⟨"RoofError",[(.type "ValueError")],[(.ref 24),(.type "ValueError"),(.type "Exception"),(.type "BaseException"),(.type "object")],23,"RoofError",true,[],[(.ref 37)],false,none,false⟩),#[(some (.ref 15)),none,(some (vs "RoofError" 189)),(some (vs "RoofError" 197)),(some (.builtin "ValueError.__new__")),(some (.bool true))]⟩)) |>
 (fun T=>T.ins 28 (tu [(.ref 24)])) |>
 (fun T=>T.ins 29 ⟨(.type "builtin_function_or_method"),none,(.fields #[(.builtin "type.__prepare__"),(.type "type")]),#[]⟩) |>
 (fun T=>T.ins 30 ⟨(.type "dict"),none,(.dict #[en P "__module__" 214 (vs "creasecurve.errors" 187),en P "__qualname__" 216 (vs "NoFraction" 215),en P "__firstlineno__" 218 (.int 4 217),en P "__static_attributes__" 219 (.ref 35)] 4),#[]⟩) |>
 (fun T=>T.ins 31 (tu [])) |>
 (fun T=>T.ins 32 (fl [])) |>
 (fun T=>T.ins 33 ⟨(.type "code"),none,(.fields #[(vs "NoFraction" 209),(vs "NoFraction" 210),(vs "/claim/cut.py" 211),(.int 4 0),(.int 0 0),(.int 0 0),(.int 0 0),(.int 0 0),(.ref 31),(.bool false),(.int 181 0),(.ref 32),.none,.none,.none,.none,(.int 212 0),(.int 4 0),(vs "/claim/cut.py" 213)]),#[]⟩) |>
 (fun T=>T.ins 34 ⟨(.type "frame"),none,.plain,#[(some (.ref 33)),(some (.ref 3)),(some (.ref 30)),none,(some (vs "creasecurve.errors" 187)),none,(some (.ref 0))]⟩) |>
 (fun T=>T.ins 35 (tu [])) |>
 (fun T=>T.ins 36 ⟨(.type "dict"),none,(.dict #[en P "__module__" 214 (vs "creasecurve.errors" 187),en P "__firstlineno__" 218 (.int 4 217),en P "__static_attributes__" 219 (.ref 35),en P "__doc__" 220 .none] 2),#[]⟩) |>
 (fun T=>T.ins 37 ⟨(.type "type"),none,(.cls ⟨"NoFraction",[(.ref 24)],[(.ref 37),(.ref 24),(.type "ValueError"),(.type "Exception"),(.type "BaseException"),(.type "object")],36,"NoFraction",true,[],[],false,none,false⟩),#[(some (.ref 28)),none,(some (vs "NoFraction" 207)),(some (vs "NoFraction" 215)),(some (.builtin "ValueError.__new__")),(some (.bool true))]⟩) |>
 (fun T=>T.ins 38 ⟨(.type "super"),none,(.fields #[(.ref 37),(.ref 37),(.ref 37)]),#[]⟩) |>
 (fun T=>T.ins 39 ⟨(.type "builtin_function_or_method"),none,(.fields #[(.builtin "object.__init_subclass__"),(.ref 37)]),#[]⟩) |>
 (fun T=>T.set 3 (rE 0 (vs "creasecurve.fractions" 223))) |>
 (d7 P 4 "greatest_divisor" (vs "creasecurve.fractions" 223) 7 2 ["a","b","larger","smaller","rest"] 40 225 233) |>
 (d7 P 5 "fraction" (vs "creasecurve.fractions" 223) 15 2 ["top","bottom","divisor"] 47 236 242) |>
 (d7 P 6 "plus" (vs "creasecurve.fractions" 223) 22 2 ["a","b"] 54 245 250) |>
 (d7 P 7 "minus" (vs "creasecurve.fractions" 223) 24 2 ["a","b"] 61 253 258) |>
 (d7 P 8 "times" (vs "creasecurve.fractions" 223) 26 2 ["a","b"] 68 261 266)
noncomputable def g1:List Stmt:=[top 2,top 3,top 4,top 5,top 6,top 7,top 8]
theorem hg1 (w:World):(fun os=>segRunT treeTable pr w 11 (some (.ref 6)) 1 377 (sT t1 28 207 w os) (piecesOf g1 aIs cE ⟨2,0,3,8⟩ B))=(fun os=>some (.next,sT t2 75 269 w os,cE,⟨26,0,27,45⟩)):=by
 rw [PySem.W.Fast.te10110043849684766642,PySem.W.Fast.te14364793385576792824]
 kernel_rfl
noncomputable def t3 (P:Params):BT :=
 (t2 P) |>
 (d7 P 9 "over" (vs "creasecurve.fractions" 223) 28 2 ["a","b"] 75 269 274) |>
 (d7 P 10 "less" (vs "creasecurve.fractions" 223) 30 2 ["a","b"] 82 277 282) |>
 (d7 P 11 "greatest" (vs "creasecurve.fractions" 223) 32 1 ["numbers","best","number"] 89 285 291) |>
 (d7 P 12 "least" (vs "creasecurve.fractions" 223) 38 1 ["numbers","best","number"] 96 294 300) |>
 (d7 P 13 "common_bottom" (vs "creasecurve.fractions" 223) 44 1 ["numbers","common","number"] 103 303 309) |>
 (d7 P 14 "whole" (vs "creasecurve.fractions" 223) 49 2 ["number","factor"] 110 312 317) |>
 (fun T=>T.set 3 (rE 0 (vs "creasecurve.hulls" 320))) |>
 (d7 P 16 "turn" (vs "creasecurve.hulls" 320) 52 3 ["start","middle","end","along","across"] 117 322 330) |>
 (fun T=>T.set 3 (rE 0 (vs "creasecurve.roofs" 333))) |>
 (d5 P 18 "whole_factor" (vs "creasecurve.roofs" 333) 57 1 124 335 338) |>
 (d5 P 19 "blown_up" (vs "creasecurve.roofs" 333) 59 2 129 341 344) |>
 (d7 P 20 "shrunk" (vs "creasecurve.roofs" 333) 61 2 ["point","factor"] 134 347 352) |>
 (fun T=>T.set 3 (rE 0 (vs "creasecurve.thinning" 355))) |>
 (d7 P 22 "between" (vs "creasecurve.thinning" 355) 64 2 ["lows","highs","low","high"] 141 357 364) |>
 (d5 P 23 "solved" (vs "creasecurve.thinning" 355) 74 1 148 367 370)
noncomputable def g2:List Stmt:=[top 9,top 10,top 11,top 12,top 13,top 14,top 15,top 16,top 17,top 18,top 19,top 20,top 21,top 22,top 23]
theorem hg2 (w:World):(fun os=>segRunT treeTable pr w 11 (some (.ref 6)) 1 384 (sT t2 75 269 w os) (piecesOf g2 aIs cE ⟨26,0,27,45⟩ B))=(fun os=>some (.next,sT t3 153 373 w os,cE,⟨74,0,79,31⟩)):=by
 rw [PySem.W.Fast.te10110043849684766642,PySem.W.Fast.te14364793385576792824]
 kernel_rfl
noncomputable def t4 (P:Params):BT :=
 (t3 P) |>
 (d5 P 24 "without_y" (vs "creasecurve.thinning" 355) 80 1 153 373 376) |>
 (d7 P 25 "gap" (vs "creasecurve.thinning" 355) 87 2 ["plane","other"] 158 379 384) |>
 (d5 P 26 "lone_point" (vs "creasecurve.thinning" 355) 89 2 165 387 390) |>
 (d5 P 27 "lone_points" (vs "creasecurve.thinning" 355) 96 2 170 393 396) |>
 (d5 P 28 "staying" (vs "creasecurve.thinning" 355) 99 1 175 399 402) |>
 (d5 P 29 "thinned" (vs "creasecurve.thinning" 355) 103 1 180 405 408) |>
 (d5 P 30 "pairs_and_triples" (vs "creasecurve.thinning" 355) 106 1 185 411 414) |>
 (d7 P 31 "dot" (vs "creasecurve.thinning" 355) 114 3 ["middle","one","other"] 190 417 423) |>
 (d7 P 32 "pair_weights" (vs "creasecurve.thinning" 355) 116 3 ["middle","one","other"] 197 426 432) |>
 (d5 P 33 "triple_weights" (vs "creasecurve.thinning" 355) 120 4 204 435 438) |>
 (d7 P 34 "weights_of" (vs "creasecurve.thinning" 355) 123 2 ["plane","group"] 209 441 446) |>
 (d7 P 35 "shared_sum" (vs "creasecurve.thinning" 355) 127 1 ["rows","total","share","number"] 216 449 456) |>
 (d5 P 36 "mixture_height" (vs "creasecurve.thinning" 355) 132 1 223 459 462) |>
 (d5 P 37 "mixture_of" (vs "creasecurve.thinning" 355) 134 2 228 465 468)
noncomputable def g3:List Stmt:=[top 24,top 25,top 26,top 27,top 28,top 29,top 30,top 31,top 32,top 33,top 34,top 35,top 36,top 37]
theorem hg3 (w:World):(fun os=>segRunT treeTable pr w 11 (some (.ref 6)) 1 389 (sT t3 153 373 w os) (piecesOf g3 aIs cE ⟨74,0,79,31⟩ B))=(fun os=>some (.next,sT t4 233 471 w os,cE,⟨134,0,140,30⟩)):=by
 rw [PySem.W.Fast.te10110043849684766642,PySem.W.Fast.te14364793385576792824]
 kernel_rfl
noncomputable def t5 (P:Params):BT :=
 (t4 P) |>
 (d5 P 38 "struck" (vs "creasecurve.thinning" 355) 141 1 233 471 474) |>
 (fun T=>T.set 3 (rE 0 (vs "law_creasecurve_k09_planes_struck_out" 477))) |>
 (d7 P 40 "_law_cell_at" (vs "law_creasecurve_k09_planes_struck_out" 477) 146 2 ["_law_script","_law_k"] 238 479 484) |>
 (d7 P 41 "_law_stirred" (vs "law_creasecurve_k09_planes_struck_out" 477) 150 1 ["_law_script","_law_prime","_law_made","_law_k","_law_cell"] 245 487 495) |>
 (d7 P 42 "_law_whole" (vs "law_creasecurve_k09_planes_struck_out" 477) 158 1 ["_law_found"] 252 498 502) |>
 (d7 P 43 "_law_low" (vs "law_creasecurve_k09_planes_struck_out" 477) 160 2 ["_law_top","_law_bottom","_law_one","_law_other"] 259 505 512) |>
 (d7 P 44 "_law_height_by" (vs "law_creasecurve_k09_planes_struck_out" 477) 168 4 ["_law_kind","_law_i","_law_j","_law_rest"] 266 515 522) |>
 (d5 P 45 "_law_roof_by" (vs "law_creasecurve_k09_planes_struck_out" 477) 176 4 273 525 528) |>
 (d7 P 46 "_law_is_fraction" (vs "law_creasecurve_k09_planes_struck_out" 477) 193 1 ["_law_found"] 278 531 535) |>
 (d7 P 47 "_law_under" (vs "law_creasecurve_k09_planes_struck_out" 477) 197 2 ["_law_one","_law_other"] 285 538 543) |>
 (d7 P 48 "_law_sum" (vs "law_creasecurve_k09_planes_struck_out" 477) 199 2 ["_law_one","_law_other"] 292 546 551) |>
 (d7 P 49 "_law_product" (vs "law_creasecurve_k09_planes_struck_out" 477) 201 2 ["_law_one","_law_other"] 299 554 559) |>
 (d5 P 50 "_law_parts_right" (vs "law_creasecurve_k09_planes_struck_out" 477) 203 3 306 562 565) |>
 (d5 P 51 "_law_right" (vs "law_creasecurve_k09_planes_struck_out" 477) 220 3 311 568 571)
noncomputable def g4:List Stmt:=[top 38,top 39,top 40,top 41,top 42,top 43,top 44,top 45,top 46,top 47,top 48,top 49,top 50,top 51]
theorem hg4 (w:World):(fun os=>segRunT treeTable pr w 11 (some (.ref 6)) 1 389 (sT t4 233 471 w os) (piecesOf g4 aIs cE ⟨134,0,140,30⟩ B))=(fun os=>some (.next,sT t5 316 574 w os,cE,⟨220,0,226,128⟩)):=by
 rw [PySem.W.Fast.te10110043849684766642,PySem.W.Fast.te14364793385576792824]
 kernel_rfl
noncomputable def t6 (P:Params):BT :=
 (t5 P) |>
 (d5 P 52 "law" (vs "law_creasecurve_k09_planes_struck_out" 477) 227 1 316 574 577)
noncomputable def g5:List Stmt:=[top 52]
theorem hg5 (w:World):(fun os=>segRunT treeTable pr w 11 (some (.ref 6)) 1 27 (sT t5 316 574 w os) (piecesOf g5 aIs cE ⟨220,0,226,128⟩ B))=(fun os=>some (.next,sT t6 321 580 w os,cE,⟨227,0,239,91⟩)):=by
 rw [PySem.W.Fast.te10110043849684766642,PySem.W.Fast.te14364793385576792824]
 kernel_rfl
noncomputable def hF (P:Params):Heap:=absHeap (t6 P) 321 {}
theorem aP9 (w:World):(fun os=>topRun treeTable pr w 11 (some (.ref 6)) 2 (sT t6 321 580 w os).abs ⟨doneF .next,cE,⟨227,0,239,91⟩,B⟩)=(fun os=>some ((⟨hF w.params,⟨[]⟩,boot_drawn,580,os⟩:Shared))):=by
 rw [PySem.W.Fast.te14082659384304107361,PySem.W.Fast.te14364793385576792824]
 kernel_rfl
theorem hb:behindTheImports pr=g0++(g1++(g2++(g3++(g4++(g5++[]))))):=by kernel_rfl
theorem aSe (w:World) (os:OsState):topRun treeTable pr w 11 (some (.ref 6)) (12+(1+(196+(377+(384+(389+(389+(27+(2))))))))) ⟨boot_heap w.params,⟨[]⟩,boot_drawn,boot_toks,os⟩ (topStub pr)=some ⟨hF w.params,⟨[]⟩,boot_drawn,580,os⟩:=go_top (congrFun (aLj w) os) (piece_block (congrFun (aO7 w) os) (by
 rw [hb]
 exact piece_app (segRun_of (congrFun (hg0 w) os)) (piece_app (segRun_of (congrFun (hg1 w) os)) (piece_app (segRun_of (congrFun (hg2 w) os)) (piece_app (segRun_of (congrFun (hg3 w) os)) (piece_app (segRun_of (congrFun (hg4 w) os)) (piece_app (segRun_of (congrFun (hg5 w) os)) (piece_nil (congrFun (aP9 w) os)))))))))
noncomputable def qv:Program:={ pr with main:={ pr.main with body:=[top 1,top 2,top 4,top 5,top 6,top 7,top 8,top 9,top 10,top 11,top 12,top 13,top 14,top 16,top 18,top 19,top 20,top 22,top 23,top 24,top 25,top 26,top 27,top 28,top 29,top 30,top 31,top 32,top 33,top 34,top 35,top 36,top 37,top 38,top 40,top 41,top 42,top 43,top 44,top 45,top 46,top 47,top 48,top 49,top 50,top 51,top 52] } }
noncomputable def ks:List Nat:=[3,20,23,24,33,36,37,45,46,52,53,59,60,66,67,73,74,80,81,87,88,94,95,101,102,108,109,115,116,122,123,127,128,132,133,139,140,146,147,151,152,156,157,163,164,168,169,173,174,178,179,183,184,188,189,195,196,202,203,207,208,214,215,221,222,226,227,231,232,236,237,243,244,250,251,257,258,264,265,271,272,276,277,283,284,290,291,297,298,304,305,309,310,314,315,319,320]
noncomputable def K (P:Params):Frag:=ks.map fun a=>(a,((t6 P).get a).getD default)
theorem ksE (P:Params):ks=(K P).map (·.1):=by kernel_rfl
noncomputable abbrev hk:Hook:=kHook K ks ksE
noncomputable abbrev xt:Shared->Bool:=fun s=>xlAt qv [] s && recOk [] s
theorem aP5 (w:World):((boot_heap w.params).isNs mainGlobals && (⟨[]⟩:Array GenState).size == 0,(boot_heap w.params).objs.size,(boot_heap w.params).nsMap mainGlobals "__annotations__")=(true,11,(some (.ref 6))):=by kernel_rfl
theorem aQ6 (w:World):(fun os:OsState=>(staticsOk (importedModules pr.main.body) (boot_heap w.params) (hF w.params) && namesBound pr (hF w.params) && gensDone ⟨hF w.params,⟨[]⟩,boot_drawn,580,os⟩ && laidKept (boot_heap w.params) (hF w.params)))=fun _=>true:=by
 rw [PySem.W.Fast.te5923862056798008813]
 kernel_rfl
theorem aQp (w:World):(fun os:OsState=>openSeen qv [] (importedModules pr.main.body) xt true ⟨hF w.params,⟨[]⟩,boot_drawn,580,os⟩)=fun _=>openGood qv []:=by
 rw [PySem.W.Fast.te4187177175401517315,PySem.W.Fast.te5923862056798008813]
 kernel_rfl
theorem aQb (w:World):(fun os:OsState=>hk.obs ⟨hF w.params,⟨[]⟩,boot_drawn,580,os⟩)=fun _=>hk.val w:=by kernel_rfl
theorem left:LeftO pr qv [] xt hk.obs hk.val 3638:=LeftO.of_pieces (boot_open (by kernel_rfl) (by decide) (fun _=>by kernel_rfl)) aP5 aSe (by decide) fun w=>funext fun os=>looks_pair (congrFun (aQ6 w) os) (looks_pair (congrFun (aQp w) os) (congrFun (aQb w) os))
theorem h1 (w:World):FnAt (K w.params) "greatest_divisor" dN 46 (vs "creasecurve.fractions" 223) 45:=by constructor<;>kernel_rfl
theorem h2 (w:World):FnAt (K w.params) "fraction" kS 53 (vs "creasecurve.fractions" 223) 52:=by constructor<;>kernel_rfl
theorem h3 (w:World):FnAt (K w.params) "plus" xM 60 (vs "creasecurve.fractions" 223) 59:=by constructor<;>kernel_rfl
theorem h4 (w:World):FnAt (K w.params) "minus" s8 67 (vs "creasecurve.fractions" 223) 66:=by constructor<;>kernel_rfl
theorem h5 (w:World):FnAt (K w.params) "times" rM 74 (vs "creasecurve.fractions" 223) 73:=by constructor<;>kernel_rfl
theorem h6 (w:World):FnAt (K w.params) "over" zF 81 (vs "creasecurve.fractions" 223) 80:=by constructor<;>kernel_rfl
theorem h7 (w:World):FnAt (K w.params) "less" yT 88 (vs "creasecurve.fractions" 223) 87:=by constructor<;>kernel_rfl
theorem h8 (w:World):FnAt (K w.params) "greatest" kO 95 (vs "creasecurve.fractions" 223) 94:=by constructor<;>kernel_rfl
theorem h9 (w:World):FnAt (K w.params) "least" qW 102 (vs "creasecurve.fractions" 223) 101:=by constructor<;>kernel_rfl
theorem h10 (w:World):FnAt (K w.params) "common_bottom" fJ 109 (vs "creasecurve.fractions" 223) 108:=by constructor<;>kernel_rfl
theorem h11 (w:World):FnAt (K w.params) "whole" rW 116 (vs "creasecurve.fractions" 223) 115:=by constructor<;>kernel_rfl
theorem h12 (w:World):FnAt (K w.params) "turn" yG 123 (vs "creasecurve.hulls" 320) 122:=by constructor<;>kernel_rfl
theorem h13 (w:World):FnAt (K w.params) "whole_factor" gI 128 (vs "creasecurve.roofs" 333) 127:=by constructor<;>kernel_rfl
theorem h14 (w:World):FnAt (K w.params) "blown_up" kW 133 (vs "creasecurve.roofs" 333) 132:=by constructor<;>kernel_rfl
theorem h15 (w:World):FnAt (K w.params) "shrunk" nV 140 (vs "creasecurve.roofs" 333) 139:=by constructor<;>kernel_rfl
theorem h16 (w:World):FnAt (K w.params) "between" l8 147 (vs "creasecurve.thinning" 355) 146:=by constructor<;>kernel_rfl
theorem h17 (w:World):FnAt (K w.params) "solved" nT 152 (vs "creasecurve.thinning" 355) 151:=by constructor<;>kernel_rfl
theorem h18 (w:World):FnAt (K w.params) "without_y" jO 157 (vs "creasecurve.thinning" 355) 156:=by constructor<;>kernel_rfl
theorem h19 (w:World):FnAt (K w.params) "gap" aHe 164 (vs "creasecurve.thinning" 355) 163:=by constructor<;>kernel_rfl
theorem h20 (w:World):FnAt (K w.params) "lone_point" i6 169 (vs "creasecurve.thinning" 355) 168:=by constructor<;>kernel_rfl
theorem h21 (w:World):FnAt (K w.params) "lone_points" hX 174 (vs "creasecurve.thinning" 355) 173:=by constructor<;>kernel_rfl
theorem h22 (w:World):FnAt (K w.params) "staying" mB 179 (vs "creasecurve.thinning" 355) 178:=by constructor<;>kernel_rfl
theorem h23 (w:World):FnAt (K w.params) "thinned" lV 184 (vs "creasecurve.thinning" 355) 183:=by constructor<;>kernel_rfl
theorem h24 (w:World):FnAt (K w.params) "pairs_and_triples" dC 189 (vs "creasecurve.thinning" 355) 188:=by constructor<;>kernel_rfl
theorem h25 (w:World):FnAt (K w.params) "dot" aFg 196 (vs "creasecurve.thinning" 355) 195:=by constructor<;>kernel_rfl
theorem h26 (w:World):FnAt (K w.params) "pair_weights" gK 203 (vs "creasecurve.thinning" 355) 202:=by constructor<;>kernel_rfl
theorem h27 (w:World):FnAt (K w.params) "triple_weights" eT 208 (vs "creasecurve.thinning" 355) 207:=by constructor<;>kernel_rfl
theorem h28 (w:World):FnAt (K w.params) "weights_of" i4 215 (vs "creasecurve.thinning" 355) 214:=by constructor<;>kernel_rfl
theorem h29 (w:World):FnAt (K w.params) "shared_sum" i7 222 (vs "creasecurve.thinning" 355) 221:=by constructor<;>kernel_rfl
theorem h30 (w:World):FnAt (K w.params) "mixture_height" eV 227 (vs "creasecurve.thinning" 355) 226:=by constructor<;>kernel_rfl
theorem h31 (w:World):FnAt (K w.params) "mixture_of" iW 232 (vs "creasecurve.thinning" 355) 231:=by constructor<;>kernel_rfl
theorem h32 (w:World):FnAt (K w.params) "struck" nW 237 (vs "creasecurve.thinning" 355) 236:=by constructor<;>kernel_rfl
theorem h33 (w:World):FnAt (K w.params) "_law_cell_at" gM 244 (vs "law_creasecurve_k09_planes_struck_out" 477) 243:=by constructor<;>kernel_rfl
theorem h34 (w:World):FnAt (K w.params) "_law_stirred" gN 251 (vs "law_creasecurve_k09_planes_struck_out" 477) 250:=by constructor<;>kernel_rfl
theorem h35 (w:World):FnAt (K w.params) "_law_whole" iY 258 (vs "law_creasecurve_k09_planes_struck_out" 477) 257:=by constructor<;>kernel_rfl
theorem h36 (w:World):FnAt (K w.params) "_law_low" kU 265 (vs "law_creasecurve_k09_planes_struck_out" 477) 264:=by constructor<;>kernel_rfl
theorem h37 (w:World):FnAt (K w.params) "_law_height_by" eW 272 (vs "law_creasecurve_k09_planes_struck_out" 477) 271:=by constructor<;>kernel_rfl
theorem h38 (w:World):FnAt (K w.params) "_law_roof_by" gJ 277 (vs "law_creasecurve_k09_planes_struck_out" 477) 276:=by constructor<;>kernel_rfl
theorem h39 (w:World):FnAt (K w.params) "_law_is_fraction" dS 284 (vs "law_creasecurve_k09_planes_struck_out" 477) 283:=by constructor<;>kernel_rfl
theorem h40 (w:World):FnAt (K w.params) "_law_under" i5 291 (vs "law_creasecurve_k09_planes_struck_out" 477) 290:=by constructor<;>kernel_rfl
theorem h41 (w:World):FnAt (K w.params) "_law_sum" kQ 298 (vs "law_creasecurve_k09_planes_struck_out" 477) 297:=by constructor<;>kernel_rfl
theorem h42 (w:World):FnAt (K w.params) "_law_product" gG 305 (vs "law_creasecurve_k09_planes_struck_out" 477) 304:=by constructor<;>kernel_rfl
theorem h43 (w:World):FnAt (K w.params) "_law_parts_right" dQ 310 (vs "law_creasecurve_k09_planes_struck_out" 477) 309:=by constructor<;>kernel_rfl
theorem h44 (w:World):FnAt (K w.params) "_law_right" i9 315 (vs "law_creasecurve_k09_planes_struck_out" 477) 314:=by constructor<;>kernel_rfl
theorem h45 (w:World):FnAt (K w.params) "law" u3 320 (vs "law_creasecurve_k09_planes_struck_out" 477) 319:=by constructor<;>kernel_rfl
end Hd
open PySem PySem.W PyProof.Rows
theorem Hd.said:PySem.Challenge.rw_creasecurve_k09_planes_struck_out.wellSaid=true:=by kernel_rfl
set_option maxRecDepth 100000 in
set_option maxHeartbeats 0 in
theorem PySem.Challenge.cw_creasecurve_k09_planes_struck_out_holds : PySem.Challenge.rw_creasecurve_k09_planes_struck_out.Holds := by
 refine holds_law Hd.said fun said=>?_
 refine holds_open (q:=Hd.qv) (Xt:=Hd.xt) (XP:=XL Hd.qv []) (YP:=Hd.hk.says) (N:=3638) Hd.left Hd.hk.of Hd.hk.keeps (fun s e=>xl_of s (Bool.and_eq_true_iff.mp e).1) XL.keeps (by rfl) (by rfl) (by rfl) (fun s e=>recFacts_of (Bool.and_eq_true_iff.mp e).2) (by rfl) said (by decide +kernel) ⟨rfl,rfl,rfl,rfl,rfl,by decide +kernel⟩ ?hw ?hc
 case hw=>w_witness2
 refine My.walk (l:=PySem.Challenge.rw_creasecurve_k09_planes_struck_out) rfl rfl (fun w h Y=>PySem.W.kIn_of Y) (fun w=>by kernel_rfl) ?F
 case F =>
  intro w mg fa h KX G hmg
  exact My.all_mk (CRoofError:=24) (CNoFraction:=37) KX G hmg (Hd.h1 w) (Hd.h2 w) (Hd.h3 w) (Hd.h4 w) (Hd.h5 w) (Hd.h6 w) (Hd.h7 w) (Hd.h8 w) (Hd.h9 w) (Hd.h10 w) (Hd.h11 w) (Hd.h12 w) (Hd.h13 w) (Hd.h14 w) (Hd.h15 w) (Hd.h16 w) (Hd.h17 w) (Hd.h18 w) (Hd.h19 w) (Hd.h20 w) (Hd.h21 w) (Hd.h22 w) (Hd.h23 w) (Hd.h24 w) (Hd.h25 w) (Hd.h26 w) (Hd.h27 w) (Hd.h28 w) (Hd.h29 w) (Hd.h30 w) (Hd.h31 w) (Hd.h32 w) (Hd.h33 w) (Hd.h34 w) (Hd.h35 w) (Hd.h36 w) (Hd.h37 w) (Hd.h38 w) (Hd.h39 w) (Hd.h40 w) (Hd.h41 w) (Hd.h42 w) (Hd.h43 w) (Hd.h44 w) (Hd.h45 w) (by kernel_rfl) (by kernel_rfl) (by kernel_rfl) (by kernel_rfl) (by kernel_rfl) (by kernel_rfl) (by kernel_rfl) (by kernel_rfl) (by kernel_rfl) (by kernel_rfl) (by kernel_rfl) (by kernel_rfl) (by kernel_rfl) (by kernel_rfl) (by kernel_rfl) (by kernel_rfl) (by kernel_rfl) (by kernel_rfl) (by kernel_rfl) (by kernel_rfl) (by kernel_rfl) (by kernel_rfl)

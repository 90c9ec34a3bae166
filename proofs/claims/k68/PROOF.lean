import PyProof.Rows.All
import Wide.All
import OpenK.AllK
import Wide.FinOn
import Lean
import PyProof.EqAt
import PyProof.EqKinds
import PyProof.TupleCall
import PySem.Challenge.RW_creasecurve_k68_whole_lines_cut_creases
abbrev aZz:=PySem.W.Frag
abbrev aZ0:=@List.length_map
abbrev aZ1:=@PySem.wpAny_bind
abbrev aZ2:=@List.length_cons
abbrev aZ3:=@List.mem_cons
abbrev aZ4:=@PySem.Heap.get?_push_of_some
abbrev aZ5:=@List.getElem?_eq_getElem
abbrev aZ6:=@List.getElem?_cons_succ
abbrev aZ7:=@decide_eq_false
abbrev aZ8:=@decide_eq_true
abbrev aZ9:=@PySem.Heap.lt_size
abbrev bAa:=@List.mem_map
abbrev bAb:=@List.map_cons
abbrev bAc:=@if_pos
abbrev bAd:=@List.pairwise_cons
abbrev bAe:=@List.size_toArray
abbrev bAf:=@Nat.le_refl
abbrev bAg:=@if_neg
abbrev bAh:=@List.forall_mem_cons
abbrev bAi:=@List.length_append
abbrev bAj:=@List.mem_singleton
abbrev bAk:=@List.getElem?_cons_zero
abbrev bAl:=@PySem.wpAny_pure
abbrev bAm:=@List.cons_append
abbrev bAn:=@Option.some.inj
abbrev bAo:=@List.mem_append_right
abbrev bAp:=@List.set_cons_succ
abbrev bAq:=@List.mem_of_getElem?
abbrev bAr:=@PySem.W.Fast.te14364793385576792824
abbrev bAs:=@Bool.false_ne_true
abbrev bAt:=@List.set_cons_zero
abbrev bAu:=@Nat.ne_of_lt
abbrev bAv:=@List.length_nil
abbrev bAw:=@List.nil_append
abbrev bAx:=@PySem.Heap.get?_push_size
abbrev bAy:=@Nat.lt_of_lt_of_le
abbrev bAz:=@List.Pairwise.sublist
abbrev bA0:=@List.getElem?_map
abbrev bA1:=@PySem.W.Fast.te10110043849684766642
abbrev bA2:=@PySem.W.mg_none_of
abbrev bA3:=@List.map_map
abbrev bA4:=@List.map_append
abbrev bA5:=@Nat.le_trans
abbrev bA6:=@Bool.false_eq_true
abbrev bA7:=@PySem.natAbs_fdiv_le
abbrev bA8:=@List.mem_filter
abbrev bA9:=@List.length_replicate
abbrev bBa:=@of_decide_eq_true
abbrev bBb:=@PySem.PassesOwn.leaving
abbrev bBc:=@Array.length_toList
abbrev bBd:=@Bool.and_eq_true_iff
abbrev bBe:=@List.getElem?_eq_some_iff
abbrev bBf:=PySem.W.nsIn
abbrev bBg:=@List.getElem?_append_right
abbrev bBh:=@List.length_eq_zero_iff
abbrev bBi:=@PyProof.Rows.callWith_type1
abbrev bBj:=@Int.mul_fdiv_cancel_left
abbrev bBk:=@List.length_filter_le
abbrev bBl:=@List.getElem?_append_left
abbrev bBm:=@Int.mul_nonneg
abbrev bBn:=@List.mem_cons_of_mem
abbrev bBo:=@Nat.zero_le
abbrev bBp:=@Option.isSome_iff_exists
abbrev bBq:=@Prod.ext
abbrev bBr:=@List.getElem?_eq_none
abbrev bBs:=@Int.mul_pos
abbrev bBt:=@List.not_mem_nil
abbrev bBu:=@PySem.wpAny_mono
abbrev bBv:=@PySem.F.plain_max_loop
abbrev bBw:=@PySem.boot_len
abbrev bBx:=@PySem.mem_of_lookup
abbrev bBy:=@List.length_singleton
abbrev bBz:=@List.reverse_cons
abbrev bB0:=@PySem.F.slot_dict_keyiterator_next
abbrev bB1:=@List.mem_append
abbrev bB2:=@PySem.F.plainAttrs_list
abbrev bB3:=@List.cons_ne_nil
abbrev bB4:=@Nat.zero_add
abbrev bB5:=@List.length_range
abbrev bB6:=@Bool.eq_false_iff
abbrev bB7:=@Nat.lt_irrefl
abbrev bB8:=@List.map_nil
abbrev bB9:=@List.foldl_cons
abbrev bCa:=@Bool.and_eq_true
abbrev bCb:=@PySem.wpAny_typeNameOfWhole_keyiter
abbrev bCc:=@List.getElem?_replicate
abbrev bCd:=@Int.gcd_pos_of_ne_zero_right
abbrev bCe:=@List.getLast?_cons_cons
abbrev bCf:=@PySem.wpAny_truthy_bool
abbrev bCg:=@List.append_assoc
abbrev bCh:=@beq_eq_false_iff_ne
abbrev bCi:=@PySem.W.hideAll_get
abbrev bCj:=@List.length_reverse
abbrev bCk:=@Int.le_refl
abbrev bCl:=@congrArg
abbrev bCm:=@if_false
abbrev bCn:=@PySem.Heap.get?_update_other
abbrev bCo:=@Int.eq_of_mul_eq_mul_right
abbrev bCp:=@of_decide_eq_false
abbrev bCq:=@PySem.wpAny_passesOwn
abbrev bCr:=@List.append_nil
abbrev bCs:=@PySem.wpAny_newObj_type
abbrev bCt:=@PySem.wpAny_typeNameOf_keyiter
abbrev bCu:=@Int.pos_of_mul_pos_right
abbrev bCv:=@Int.le_of_lt
abbrev bCw:=@Int.mul_le_mul_of_nonneg_right
abbrev bCx:=@decide_false
abbrev bCy:=@PySem.sizeLine_eq
abbrev bCz:=@List.all_eq_true
abbrev bC0:=@PySem.wpAny_Call_Name_kw
abbrev bC1:=@Nat.lt_of_le_of_lt
abbrev bC2:=@decide_eq_true_iff
abbrev bC3:=@Array.getElem?_toList
abbrev bC4:=@List.find?_cons
abbrev bC5:=@PySem.Heap.get?_update_self
abbrev bC6:=@Int.mul_eq_zero
abbrev bC7:=@Int.natAbs_dvd_natAbs
abbrev bC8:=@decide_true
abbrev bC9:=@List.any_cons
abbrev bDa:=@PySem.wpAny_holding
abbrev bDb:=@List.ext_getElem?
abbrev bDc:=@congrFun
abbrev bDd:=@List.mem_append_left
abbrev bDe:=@List.mem_of_getLast?
abbrev bDf:=@Int.mul_neg_of_pos_of_neg
abbrev bDg:=@List.getLast?_eq_none_iff
abbrev bDh:=@List.any_eq_true
abbrev bDi:=@PySem.wpAny_call_entry
abbrev bDj:=@decide_eq_decide
abbrev bDk:=@List.filterMap_cons
abbrev bDl:=@PySem.Heap.get?_update_ne
abbrev bDm:=@List.toList_toArray
abbrev bDn:=@Nat.le_of_eq
abbrev bDo:=@PySem.W.Fast.te5923862056798008813
abbrev bDp:=@List.mem_cons_self
abbrev bDq:=@if_true
abbrev bDr:=@PySem.tupleKind_room_in1
abbrev bDs:=@List.length_set
abbrev bDt:=@PySem.W.KasT.kasWp_bind
abbrev bDu:=@List.pairwise_singleton
abbrev bDv:=@Int.pos_of_mul_pos_left
abbrev bDw:=@PySem.W.mg_of
abbrev bDx:=@Option.map_eq_some_iff
abbrev bDy:=@PySem.F.entry_max_loop
abbrev bDz:=@PySem.SeqAt.canLay_of_shaped
abbrev bD0:=@Ne.symm
abbrev bD1:=@Int.toNat_natCast
abbrev bD2:=@Option.isSome_map
abbrev bD3:=@beq_iff_eq
abbrev bD4:=@List.getElem?_set
abbrev bD5:=@List.pairwise_map
abbrev bD6:=@or_false
abbrev bD7:=@Nat.ne_of_gt
abbrev bD8:=@PySem.F.args_dict_keyiterator_next_1
abbrev bD9:=@Nat.succ.inj
abbrev bEa:=@ite_false
abbrev bEb:=@List.length_take
abbrev bEc:=@PySem.F.entry_dict_keyiterator_next
abbrev bEd:=@Nat.le_add_right
abbrev bEe:=@List.mem_reverse
abbrev bEf:=@List.getElem?_set_ne
abbrev bEg:=@List.mem_iff_getElem
abbrev bEh:=@PySem.Around.under_plainId
abbrev bEi:=@PySem.plainId_quiet
abbrev bEj:=@PySem.wpAny_execs_nil
abbrev bEk:=@Int.mul_one
abbrev bEl:=@List.nodup_cons
abbrev bEm:=@List.getElem?_range
abbrev bEn:=@Array.getD_eq_getD_getElem?
abbrev bEo:=@Nat.le_succ
abbrev bEp:=@List.length_pos_iff
abbrev bEq:=@PySem.wpAny_updateSeq
abbrev bEr:=@Int.mul_lt_mul_of_pos_right
abbrev bEs:=@PySem.W.piece_app
abbrev bEt:=@PySem.W.segRun_of
abbrev bEu:=@Option.ne_none_iff_exists'
abbrev bEv:=@Int.fmod_eq_emod_of_nonneg
abbrev bEw:=@Int.le_of_mul_le_mul_right
abbrev bEx:=@PySem.F.excBase_ValueError
abbrev bEy:=@Array.append_assoc
abbrev bEz:=@Nat.le_of_lt
abbrev bE0:=@List.mem_filterMap
abbrev bE1:=@PySem.Calls.spliced_cons
abbrev bE2:=@ite_true
abbrev bE3:=@Int.natAbs_natCast
abbrev bE4:=@List.mem_range
abbrev bE5:=@List.mem_of_find?_eq_some
abbrev bE6:=@Int.natAbs_mul
abbrev bE7:=@Array.getElem?_eq_getElem
abbrev bE8:=@List.drop_eq_getElem_cons
abbrev bE9:=@PySem.wpAny_seqItems
abbrev bFa:=@PySem.wpAny_tryCatch
abbrev bFb:=@Int.mul_neg_of_neg_of_pos
abbrev bFc:=@List.getLast?_eq_getElem?
abbrev bFd:=@PySem.Calls.spliced_nil
abbrev bFe:=@Int.gcd_dvd_right
abbrev bFf:=@PySem.wpAny_dictEntries
abbrev bFg:=@List.foldl_append
abbrev bFh:=@Int.gcd_dvd_natAbs_right
abbrev bFi:=@List.mem_of_head?
abbrev bFj:=@PySem.F.slot_list_append
abbrev bFk:=@PySem.F.type_list_append
abbrev bFl:=@PySem.F.slot_list_extend
abbrev bFm:=@PySem.F.type_list_extend
abbrev bFn:=@List.all_cons
abbrev bFo:=@Int.eq_ofNat_of_zero_le
abbrev bFp:=@Int.gcd_natCast_natCast
abbrev bFq:=@Int.mul_neg
abbrev bFr:=@Int.mul_assoc
abbrev bFs:=@PySem.wpAny_letGo
abbrev bFt:=@PySem.F.slot_list_index
abbrev bFu:=@Int.one_mul
abbrev bFv:=@Nat.le_of_dvd
abbrev bFw:=@Int.dvd_trans
abbrev bFx:=@List.length_drop
abbrev bFy:=@Int.gcd_dvd_left
abbrev bFz:=@Nat.lt_succ_self
abbrev bF0:=@Nat.succ_le_succ
abbrev bF1:=@List.suffix_refl
abbrev bF2:=@List.suffix_cons
abbrev bF3:=@beq_self_eq_true
abbrev bF4:=@List.getElem?_set_self
abbrev bF5:=@PySem.W.cellsFrom_some
abbrev bF6:=@Array.getElem?_eq_none
abbrev bF7:=@List.of_mem_zip
abbrev bF8:=@beq_false_of_ne
abbrev bF9:=@Int.le_of_eq
abbrev bGa:=@Option.map_some
abbrev bGb:=@List.nodup_nil
abbrev bGc:=@Int.natAbs_neg
abbrev bGd:=@Int.add_mul
abbrev bGe:=@Int.not_lt
set_option Elab.async false
set_option linter.all false
set_option maxRecDepth 100000
namespace L2
open PySem PySem.Spec PyProof.Rows
abbrev Key:=Sum Int Str
def aAl:Key->Value->Bool
 | .inl k,v=>Value.isInt k v
 | .inr x,v=>Value.isStrOf x v
def aYe(w:World):Key->Int
 | .inl k=>hashInt k
 | .inr x=>hashStr w x
theorem eU:∀ {k:Key} {v:Value},aAl k v=true->(∃ i t,k=Sum.inl i/\v=Value.int i t)\/(∃ x t,k=Sum.inr x/\v=Value.str x t)
 | .inl i,v,h=>by
  obtain ⟨t,e⟩:=Value.isInt_shape (k:=i) (v:=v) h
  exact .inl ⟨i,t,rfl,e⟩
 | .inr x,v,h=>by
  obtain ⟨t,e⟩:=Value.isStrOf_shape (x:=x) (v:=v) h
  exact .inr ⟨x,t,rfl,e⟩
theorem aJq(i:Int)(t:Tok):aAl (.inl i) (.int i t)=true:=by simp [aAl,Value.isInt]
theorem aGz(x:Str)(t:Tok):aAl (.inr x) (.str x t)=true:=by simp [aAl,Value.isStrOf]
theorem aU4(a b:Int):decide ((Sum.inl a:Key)=Sum.inl b)=(a == b):=by
 by_cases e:a=b
 ·subst e;simp
 ·have h:¬ (Sum.inl a:Key)=Sum.inl b:=fun q=>e (Sum.inl.inj q)
  rw [aZ7 h]
  exact (bCh.mpr e).symm
theorem aT6(a b:Str):decide ((Sum.inr a:Key)=Sum.inr b)=decide (a=b):=by
 by_cases e:a=b
 ·subst e;simp
 ·have h:¬ (Sum.inr a:Key)=Sum.inr b:=fun q=>e (Sum.inr.inj q)
  rw [aZ7 h,aZ7 e]
theorem aVw(a:Int)(b:Str):decide ((Sum.inl a:Key)=Sum.inr b)=false:=aZ7 (fun q=>nomatch q)
theorem aTx(a:Str)(b:Int):decide ((Sum.inr a:Key)=Sum.inl b)=false:=aZ7 (fun q=>nomatch q)
def g8(prog:Program)(w:World):PySem.KeyKind prog w Key where
 is:=aAl
 hash:=aYe w
 inj:=fun v a b ha hb=>by
  rcases eU ha with ⟨i,t,rfl,rfl⟩ | ⟨x,t,rfl,rfl⟩
  ·rcases eU hb with ⟨j,u,rfl,e⟩ | ⟨y,u,rfl,e⟩
   ·injection e with e1 _;rw [e1]
   ·exact nomatch e
  ·rcases eU hb with ⟨j,u,rfl,e⟩ | ⟨y,u,rfl,e⟩
   ·exact nomatch e
   ·injection e with e1 _;rw [e1]
 byValue:=fun k v h=>by
  rcases eU h with ⟨i,t,rfl,rfl⟩ | ⟨x,t,rfl,rfl⟩<;>rfl
 pyHash:=fun hv h=>by
  rcases eU hv with ⟨i,t,rfl,rfl⟩ | ⟨x,t,rfl,rfl⟩
  ·exact wpAny_pyHash_int h
  ·exact wpAny_pyHash_str h
 eqBool:=fun hu hv h=>by
  rcases eU hu with ⟨i,t,rfl,rfl⟩ | ⟨x,t,rfl,rfl⟩
  ·rcases eU hv with ⟨j,u,rfl,rfl⟩ | ⟨y,u,rfl,rfl⟩
   ·rw [aU4] at h;exact wpAny_eqBool_int h
   ·rw [aVw] at h;exact SeqAt.EqAt.int_str i t y u _ _ _ _ h
  ·rcases eU hv with ⟨j,u,rfl,rfl⟩ | ⟨y,u,rfl,rfl⟩
   ·rw [aTx] at h;exact SeqAt.EqAt.str_int x t j u _ _ _ _ h
   ·rw [aT6] at h;exact wpAny_eqBool_str h
 «strs»:=fun k x t v h=>by
  rcases eU h with ⟨i,u,rfl,e⟩ | ⟨y,u,rfl,e⟩
  ·exact nomatch e
  ·injection e with e1 _
   subst e1
   cases v<;>rfl
theorem aBs(prog:Program)(w:World)(i:Int)(t:Tok):(g8 prog w).is (.inl i) (.int i t)=true:=aJq i t
theorem aCk(prog:Program)(w:World)(x:Str)(t:Tok):(g8 prog w).is (.inr x) (.str x t)=true:=aGz x t
inductive V where
 | non | bl (b:Bool) | int (i:Int) | str (x:Str) | byt (b:Array UInt8) | flt (b:UInt64) | ref (a:Addr) | ty (n:String)
 deriving DecidableEq
def RelV:V->Value->Prop
 | .non,u=>u=Value.none
 | .bl b,u=>u=Value.bool b
 | .int i,u=>∃ t,u=Value.int i t
 | .str x,u=>∃ t,u=Value.str x t
 | .byt b,u=>∃ t,u=Value.bytes b t
 | .flt b,u=>∃ t,u=Value.float b t
 | .ref a,u=>u=Value.ref a
 | .ty n,u=>u=Value.type n
abbrev Vals:List V->List Value->Prop:=Paired RelV
theorem Vals.length{xs:List V}{us:List Value}(r:Vals xs us):xs.length=us.length:=Paired.length r
theorem Vals.get:∀ {xs:List V} {us:List Value} {i:Nat} {x:V},Vals xs us->xs[i]? = some x->∃ u,us[i]? = some u/\RelV x u
 | _,_,_,_,.nil,e=>by simp at e
 | _,_,0,_,.cons r _,e=>by simp at e;subst e;exact ⟨_,rfl,r⟩
 | _,_,i+1,x,.cons _ t,e=>by
  obtain ⟨u,h1,h2⟩:=Vals.get (i:=i) (x:=x) t (by simpa using e)
  exact ⟨u,by simpa using h1,h2⟩
theorem Vals.append:∀ {xs ys:List V} {us ws:List Value},Vals xs us->Vals ys ws->Vals (xs++ys) (us++ws)
 | _,_,_,_,.nil,s=>s
 | _,_,_,_,.cons r t,s=>.cons r (Vals.append t s)
theorem Vals.take:∀ {xs:List V} {us:List Value} (n:Nat),Vals xs us->Vals (xs.take n) (us.take n)
 | _,_,0,_=>.nil
 | _,_,_+1,.nil=>.nil
 | _,_,n+1,.cons r t=>.cons r (Vals.take n t)
theorem Vals.drop:∀ {xs:List V} {us:List Value} (n:Nat),Vals xs us->Vals (xs.drop n) (us.drop n)
 | _,_,0,r=>r
 | _,_,_+1,.nil=>.nil
 | _,_,n+1,.cons _ t=>Vals.drop n t
def RelO:Option V->Option Value->Prop
 | some v,some u=>RelV v u
 | none,none=>True
 | _,_=>False
def KV{κ:Type}:List (κ×V)->List (κ×Value)->Prop:=Paired fun (p:κ×V) (q:κ×Value)=>p.1=q.1/\RelV p.2 q.2
def kV:Key->V
 | .inl i=>.int i
 | .inr x=>.str x
inductive HO where
 /-- a list -/
 | lst (xs:List V)
 /-- a tuple (never changes) -/
 | tup (xs:List V)
 /-- a dict whose keys are ints and texts;one whose keys are tuples of ints and texts (the empty one is both) -/
 | dK (kvs:List (Key×V)) | dT (kvs:List (List Key×V))
 /-- a set of ints: its members,its size -/
 | set (S:Int->Bool) (n:Nat)
 /-- an instance of the class at C,its dict at dx,its attributes -/
 | ins (C dx:Addr) (fs:List (Str×V))
 /-- the dict of the instance at x -/
 | own (x:Addr)
 /-- the dict of an exception -/
 | xd (fs:List (Str×V))
 /-- a bound method,f of x -/
 | met (f x:Addr)
 /-- a range object lo,lo+1,.. below hi -/
 | rng (lo hi:Int)
 /-- a thing that is known to the object (the script;a dict while a loop walks it): read,never written while it is so -/
 | frz (o:Obj) (u:HO)
 /-- a code object's table -/
 | tbl (ps:Array Value)
 /-- any other thing,by what is true of its one object (a def of one's own: SetO a S n:=HO.ext fun h=>..) -/
 | ext (φ:Heap->Prop)
abbrev Hp:=Addr->Option HO
def upd(H:Hp)(a:Addr)(o:HO):Hp:=fun b=>if b=a then some o else H b
theorem b7{H:Hp}{a:Addr}{o:HO}:upd H a o a=some o:=by unfold upd;rw [bAc rfl]
theorem bK{H:Hp}{a b:Addr}{o:HO}(h:b≠a):upd H a o b=H b:=by unfold upd;rw [bAg h]
theorem aW9{H:Hp}{a b:Addr}{o u:HO}(h:H a=some o)(h':H b=some u)(d:o≠u):a≠b:=by
 intro e;subst e;rw [h] at h';exact d (bAn h')
theorem dS{H:Hp}{a b:Addr}{o:HO}(h:H a=some o)(h':H b=none):a≠b:=by
 intro e;subst e;rw [h] at h';cases h'
section
variable (P:Program)(w:World)
def ObjOk(H:Hp)(h:Heap)(a:Addr):HO->Prop
 | .lst xs=>xs.length<=sizeLine/\∃ (its:List Value) (n:Nat),Vals xs its/\h.get? a=some { cls:=.type "list",data:=.seq its.toArray n }
 | .tup xs=>xs.length<=sizeLine/\∃ its:List Value,Vals xs its/\IsTup h a its.toArray
 | .dK kvs=>kvs.length<=sizeLine/\(a == sysModules)=false/\∃ vs,KV kvs vs/\h.DictOf (g8 P w) a vs
 | .dT kvs=>kvs.length<=sizeLine/\(a == sysModules)=false/\∃ xs:List (List Key×Addr×Value),
   Paired (fun (p:List Key×V) (q:List Key×Addr×Value)=>p.1=q.1/\H q.2.1=some (.tup (p.1.map kV))/\RelV p.2 q.2.2) kvs xs /\
   ∃ o es ep,h.get? a=some o/\o.ExactDict/\o.data=.dict es ep/\es.toList=xs.map (entryOfKey (tupleKind (g8 P w)))/\(xs.map (·.1)).Nodup
 | .set S n=>h.SetOf (intKind P w) a S n
 | .ins C dx fs=>H dx=some (.own a)/\fs.length<=1000/\dx≠a/\h.get? a=some (PySem.W.instObj C dx) /\
   ∃ mA,h.Ns1 dx mA/\(∀ f,RelO (fs.lookup f) (mA f))/\PySem.Within mA (fs.map (·.1))
 | .own _=>∃ o,h.get? a=some o
 | .xd fs=>∃ mA,h.Ns1 a mA/\∀ f,RelO (fs.lookup f) (mA f)
 | .rng lo hi=>∃ t u v,h.get? a=some { cls:=.type "range",data:=.fields #[.int lo t,.int hi u,.int 1 v] }
 | .frz o u=>h.get? a=some o/\ObjOk H h a u
 | .tbl ps=>∃ qs,h.get? a=some { cls:=.none,data:=.fields qs }/\TriplesOk qs.toList/\∀ n t,ps[0]? = some (.str n t)->∀ pos cv,codeAmong pos qs.toList=some cv ->
   ∃ c oc vs u,cv=.ref c/\H c=some (.frz oc (.own a))/\oc.data=.fields vs/\vs[1]? = some (.str (n++".<locals>."++"<lambda>") u)
 | .met f x=>h.get? a=some (PySem.W.methodObj (.ref f) (.ref x))
 | .ext φ=>φ h/\(∃ o,h.get? a=some o)/\∀ h1 h2:Heap,φ h1->(∀ o,h1.get? a=some o->h2.get? a=some o)->φ h2
def HOk(H:Hp)(h:Heap):Prop:=∀ a o,H a=some o->ObjOk P w H h a o
end
section
variable {P:Program}{w:World}{H H':Hp}{h h':Heap}{a:Addr}{o:HO}
theorem ObjOk.lt(x:ObjOk P w H h a o):a < h.objs.size:=by
 cases o with
 | lst xs=>obtain ⟨_,_,_,_,e⟩:=x;exact aZ9 e
 | tup xs=>obtain ⟨_,_,_,p⟩:=x;exact p.lt
 | dK kvs=>obtain ⟨_,_,_,_,o,_,_,e,_⟩:=x;exact aZ9 e
 | dT kvs=>obtain ⟨_,_,_,_,o,_,_,e,_⟩:=x;exact aZ9 e
 | set S n=>obtain ⟨o,_,_,_,e,_⟩:=x;exact aZ9 e
 | ins C dx fs=>obtain ⟨_,_,_,e,_⟩:=x;exact aZ9 e
 | own y=>obtain ⟨_,e⟩:=x;exact aZ9 e
 | xd fs=>obtain ⟨_,⟨_,_,_,e,_⟩,_⟩:=x;exact aZ9 e
 | rng lo hi=>obtain ⟨_,_,_,e⟩:=x;exact aZ9 e
 | frz ob u=>obtain ⟨e,_⟩:=x;exact aZ9 e
 | tbl ps=>obtain ⟨_,e,_⟩:=x;exact aZ9 e
 | met f y=>exact aZ9 (show h.get? a=some _ from x)
 | ext φ=>obtain ⟨_,⟨_,e⟩,_⟩:=x;exact aZ9 e
theorem Paired.mapP{α β:Type}{F G:α->β->Prop}:∀ {l₁:List α} {l₂:List β},Paired F l₁ l₂->(∀ a b,F a b->G a b)->Paired G l₁ l₂
 | _,_,.nil,_=>.nil
 | _,_,.cons r t,f=>.cons (f _ _ r) (Paired.mapP t f)
theorem ObjOk.stay(x:ObjOk P w H h a o)(k:∀ b u,(b=a\/H b=some (.own a))->h.get? b=some u->h'.get? b=some u)
  (ho:∀ b,H b=some (.own a)->H' b=some (.own a)) (ht:∀ b xs,H b=some (.tup xs)->H' b=some (.tup xs)) (hz:∀ b o,H b=some (.frz o (.own a))->H' b=some (.frz o (.own a)):=by exact fun _ _ q=>q):ObjOk P w H' h' a o:=by
 induction o with
 | lst xs=>obtain ⟨z,its,n,r,e⟩:=x;exact ⟨z,its,n,r,k _ _ (.inl rfl) e⟩
 | tup xs=>obtain ⟨z,its,r,ob,e,c⟩:=x;exact ⟨z,its,r,ob,k _ _ (.inl rfl) e,c⟩
 | dK kvs=>obtain ⟨z,y,vs,r,ob,es,ep,e,c⟩:=x;exact ⟨z,y,vs,r,ob,es,ep,k _ _ (.inl rfl) e,c⟩
 | dT kvs =>
  obtain ⟨z,y,xs,r,ob,es,ep,e,c⟩:=x
  exact ⟨z,y,xs,Paired.mapP r fun p q z=>⟨z.1,ht _ _ z.2.1,z.2.2⟩,ob,es,ep,k _ _ (.inl rfl) e,c⟩
 | set S n=>obtain ⟨ob,es,ep,t,e,c⟩:=x;exact ⟨ob,es,ep,t,k _ _ (.inl rfl) e,c⟩
 | ins C dx fs =>
  obtain ⟨d,z,ne,e,mA,⟨od,es,ep,e2,c⟩,r⟩:=x
  exact ⟨ho _ d,z,ne,k _ _ (.inl rfl) e,mA,⟨od,es,ep,k _ _ (.inr d) e2,c⟩,r⟩
 | own y=>obtain ⟨ob,e⟩:=x;exact ⟨ob,k _ _ (.inl rfl) e⟩
 | xd fs=>obtain ⟨mA,⟨od,es,ep,e,c⟩,r⟩:=x;exact ⟨mA,⟨od,es,ep,k _ _ (.inl rfl) e,c⟩,r⟩
 | rng lo hi=>obtain ⟨t,u,v,e⟩:=x;exact ⟨t,u,v,k _ _ (.inl rfl) e⟩
 | frz ob u ih=>obtain ⟨e,q⟩:=x;exact ⟨k _ _ (.inl rfl) e,ih q⟩
 | tbl ps =>
  obtain ⟨qs,e,t,z⟩:=x
  refine ⟨qs,k a _ (.inl rfl) e,t,fun n u en pos cv ec=>?_⟩
  obtain ⟨c,oc,vs,v,e1,e2,e3⟩:=z n u en pos cv ec
  exact ⟨c,oc,vs,v,e1,hz c oc e2,e3⟩
 | met f y =>
  have e:h.get? a=some (PySem.W.methodObj (.ref f) (.ref y)):=x
  show h'.get? a=some (PySem.W.methodObj (.ref f) (.ref y))
  exact k a _ (.inl rfl) e
 | ext φ=>obtain ⟨p,⟨o,e⟩,st⟩:=x;exact ⟨st _ _ p fun o q=>k _ _ (.inl rfl) q,⟨o,k _ _ (.inl rfl) e⟩,st⟩
theorem HOk.lt(x:HOk P w H h)(e:H a=some o):a < h.objs.size:=(x a o e).lt
theorem HOk.fresh(x:HOk P w H h)(e:h.objs.size<=a):H a=none:=by
 cases q:H a with
 | none=>rfl
 | some u=>exact absurd (bAy (x.lt q) e) (bB7 _)
theorem HOk.kept(x:HOk P w H h)(k:∀ b u,h.get? b=some u->h'.get? b=some u):HOk P w H h':=fun a o e =>
 (x a o e).stay (fun b u _ q=>k b u q) (fun _ q=>q) fun _ _ q=>q
theorem HOk.laid(x:HOk P w H h)(k:∀ b u,h.get? b=some u->h'.get? b=some u)(hp:h.objs.size<=a)(new:ObjOk P w (upd H a o) h' a o):HOk P w (upd H a o) h':=fun b u e=>by
 have hn:=x.fresh hp
 by_cases hb:b=a
 ·subst hb;rw [b7] at e;cases e;exact new
 ·rw [bK hb] at e
  exact (x b u e).stay (fun c v _ q=>k c v q) (fun c q=>by rw [bK (dS q hn)];exact q) (fun c xs q=>by rw [bK (dS q hn)];exact q) fun c xs q=>by rw [bK (dS q hn)];exact q
end
def Rd(H:Hp)(a:Addr)(u:HO):Prop:=H a=some u\/∃ o,H a=some (.frz o u)
theorem Rd.ok{P:Program}{w:World}{H:Hp}{h:Heap}{a:Addr}{u:HO}(r:Rd H a u)(x:HOk P w H h):ObjOk P w H h a u:=by
 rcases r with r | ⟨o,r⟩
 ·exact x a u r
 ·obtain ⟨_,q⟩:=x a _ r
  exact q
def Mut:Option HO->Prop
 | some (.lst _)=>True
 | some (.dK _)=>True
 | some (.dT _)=>True
 | some (.set _ _)=>True
 | some (.ins _ _ _)=>True
 | some (.ext _)=>True
 | _=>False
section
variable {P:Program}{w:World}{H:Hp}{h h':Heap}{x e:Addr}{o':HO}
theorem HOk.write(ok:HOk P w H h)(mu:Mut (H x))(he:e=x\/H e=some (.own x))(k:∀ b u,b≠e->h.get? b=some u->h'.get? b=some u)(heo:∃ u,h'.get? e=some u)
  (new:ObjOk P w (upd H x o') h' x o'):HOk P w (upd H x o') h':=fun b u q=>by
 have nown:∀ c y,H c=some (.own y)->c≠x:=fun c y r z=>by subst z;rw [r] at mu;exact mu
 have ntup:∀ c xs,H c=some (.tup xs)->c≠x:=fun c xs r z=>by subst z;rw [r] at mu;exact mu
 by_cases hb:b=x
 ·subst hb;rw [b7] at q;cases q;exact new
 ·rw [bK hb] at q
  by_cases hbe:b=e
  ·have q':H b=some (.own x):=by
    rcases he with z | z
    ·exact absurd (hbe.trans z) hb
    ·rw [hbe];exact z
   rw [q] at q';cases q'
   obtain ⟨v,hv⟩:=heo
   exact ⟨v,by rw [hbe];exact hv⟩
  ·refine (ok b u q).stay (fun c v hc r=>k c v ?_ r) (fun c r=>by rw [bK (nown c b r)];exact r) (fun c xs r=>by rw [bK (ntup c xs r)];exact r) fun c xs r=>by rw [bK (by rintro rfl;rw [r] at mu;exact mu)];exact r
   rcases hc with rfl | hc
   ·exact hbe
   ·rintro rfl
    rcases he with z | z
    ·exact nown c b hc z
    ·rw [hc] at z;cases z;exact hb rfl
end
structure Un(fs ex:List Addr)(H H':Hp)(h h':Heap):Prop where
 keep:∀ b o,h.get? b=some o->H b=none->b∉fs->b∉ex->h'.get? b=some o
 slot:∀ b o,h.get? b=some o->H b=none->b∈fs->b∉ex->∃ sl,h'.get? b=some { o with slots:=sl }
 free:∀ b o,h.get? b=some o->H b=none->b∉ex->H' b=none
 there:∀ b o,h.get? b=some o->b∉ex->∃ o',h'.get? b=some o'
 tups:∀ b xs,H b=some (.tup xs)->H' b=some (.tup xs)
 frzs:∀ b o u,H b=some (.frz o u)->H' b=some (.frz o u)
 tbls:∀ b ps,H b=some (.tbl ps)->∃ more,H' b=some (.tbl (ps++more))
section
variable {fs fs' ex ex':List Addr}{H H1 H2:Hp}{h h1 h2 h':Heap}{a x e:Addr}{o:HO}
theorem Un.any(u:Un fs ex H H1 h h1){b:Addr}{ob:Obj}(q:h.get? b=some ob)(n:H b=none)(hx:b∉ex):∃ sl,h1.get? b=some { ob with slots:=sl }:=by
 by_cases hb:b∈fs
 ·exact u.slot b ob q n hb hx
 ·exact ⟨ob.slots,u.keep b ob q n hb hx⟩
theorem Un.kept(k:∀ b u,h.get? b=some u->h'.get? b=some u):Un fs ex H H h h' :=
 ⟨fun b ob q _ _ _=>k b ob q,fun b ob q _ _ _=>⟨ob.slots,k b ob q⟩,fun _ _ _ n _=>n,fun b ob q _=>⟨ob,k b ob q⟩,fun _ _ q=>q,fun _ _ _ q=>q,fun _ ps q=>⟨#[],by rw [q];simp⟩⟩
theorem Un.refl:Un fs ex H H h h:=Un.kept fun _ _ q=>q
theorem Un.laid(k:∀ b u,h.get? b=some u->h'.get? b=some u)(hp:h.objs.size<=a)(hn:H a=none):Un fs ex H (upd H a o) h h' where
 keep:=fun b u q _ _ _=>k b u q
 slot:=fun b u q _ _ _=>⟨u.slots,k b u q⟩
 free:=fun b u q n _=>by rw [bK (bAu (bAy (aZ9 q) hp))];exact n
 there:=fun b u q _=>⟨u,k b u q⟩
 tups:=fun b xs q=>by rw [bK (dS q hn)];exact q
 frzs:=fun b u xs q=>by rw [bK (dS q hn)];exact q
 tbls:=fun b ps q=>⟨#[],by rw [bK (dS q hn),q];simp⟩
theorem Un.write(mu:Mut (H x))(he:e=x\/H e=some (.own x))(k:∀ b u,b≠e->h.get? b=some u->h'.get? b=some u)(heo:∃ u,h'.get? e=some u):Un fs ex H (upd H x o) h h':=by
 have hx:∀ b,H b=none->b≠x:=fun b n z=>by subst z;rw [n] at mu;exact mu
 have hb:∀ b,H b=none->b≠e:=fun b n z=>by
  subst z
  rcases he with r | r
  ·exact hx b n r
  ·rw [n] at r;cases r
 have hm:∀ b u,H b=some u->¬ Mut (some u)->b≠x:=fun b u q nm z=>by subst z;rw [q] at mu;exact nm mu
 refine ⟨fun b u q n _ _=>k b u (hb b n) q,fun b u q n _ _=>⟨u.slots,k b u (hb b n) q⟩,fun b u q n _=>by rw [bK (hx b n)];exact n,fun b u q _=>?_,
  fun b xs q=>by rw [bK (hm b _ q fun z=>z)];exact q,fun b u xs q=>by rw [bK (hm b _ q fun z=>z)];exact q,fun b ps q=>⟨#[],by rw [bK (hm b _ q fun z=>z),q];simp⟩⟩
 by_cases hbe:b=e
 ·subst hbe;exact heo
 ·exact ⟨u,k b u hbe q⟩
end
def trk(h:Heap)(H:Hp):List Addr:=(List.range h.objs.size).filter fun a=>(H a).isSome
def aMc(h:Heap)(H:Hp):Heap:=PySem.W.hideAll h (trk h H)
theorem aIj(h:Heap)(H:Hp):(aMc h H).objs.size=h.objs.size:=PySem.W.hideAll_size _ _
theorem aMl{h:Heap}{H:Hp}{b:Addr}{o:Obj}(e:h.get? b=some o)(n:H b=none):(aMc h H).get? b=some o :=
 bCi _ e fun hm=>by
  have q:(H b).isSome=true:=(bA8.mp hm).2
  rw [n] at q;simp at q
theorem aR6{h:Heap}{H:Hp}{b:Addr}{o:Obj}(e:(aMc h H).get? b=some o):h.get? b=some o/\H b=none:=by
 have e':h.get? b=some o:=PySem.W.of_hideAll (trk h H) e
 refine ⟨e',?_⟩
 cases q:H b with
 | none=>rfl
 | some x =>
  have hm:b∈trk h H:=bA8.mpr ⟨bE4.mpr (aZ9 e'),by simp [q]⟩
  have z:(aMc h H).get? b=none:=PySem.W.hideAll_none (trk h H) hm
  rw [z] at e;cases e
def aPa(g h:Heap)(L:Addr):List (Addr×Obj):=(List.range h.objs.size).filterMap fun a=>if a=L\/(g.get? a).isSome=true then none else (h.get? a).map fun o=>(a,o)
def rest(g h:Heap)(L d:Addr):List (Addr×Obj):=(aPa g h L).filter fun p=>decide (p.1≠d)
def lamsOf:List Str:=["rising","points_in_order"]
def tbs(K:aZz):List (Addr×Addr×Str):=K.filterMap fun p=>match p.2.data with
 | .fields vs=>match (vs[11]?:Option Value),(vs[1]?:Option Value) with
  | some (.ref P),some (.str n _)=>if lamsOf.contains n then some (p.1,P,n) else none
  | _,_=>none
 | _=>none
def Tbs(K:aZz)(H:Hp):Prop:=∀ p∈tbs K,∃ more,H p.2.1=some (.tbl (#[.str p.2.2 0]++more))
def aPj(K:aZz)(ts:List Addr):Bool:=(tbs K).all fun p=>PySem.W.codeHdIn K p.1 p.2.1 && (K.lookup p.2.1).isNone && ts.contains p.2.1 && (tbs K).all fun q=>p.2.1 != q.2.1 || p.2.2 == q.2.2
structure Mod(K:aZz)(mg:Str->Option Value)(base:Heap):Prop where
 kin:K.In base
 glob:base.Ns mainGlobals mg
 blt:∃ mb,base.Ns builtinsNs mb/\∀ x:Str,x≠"__name__"->mb x=bootBuiltins x
 nolimit:base.NoLimit
 bm:∃ bm ob,mg "__builtins__" = some (.ref bm)/\bm≠builtinsNs/\base.get? bm=some ob/\ob.cls=.type "module"/\ob.dict=some builtinsNs/\ob.data=.plain
structure Cx where
 prog:Program
 w:World
 K:aZz
 mg:Str->Option Value
 base:Heap
 A:Around
 N:List Str
 s₀:Shared
 H₀:Hp
 env:Env
 outer:List Env
 stack:List Env
 ex:List Addr
 fn:Str->Bool
 calm:Bool
 pn:List (Addr×Obj)
 xe:Value->Shared->Prop
def frs(l:List Env):List Addr:=l.filterMap (·.frame)
abbrev Cx.fs(X:Cx):List Addr:=frs X.outer
def Vis(sc:Scope)(x:Str):Prop:=sc.names.lookup x=some .local\/sc.names.lookup x=some .cell\/sc.names.lookup x=some .free
def Loc(sc:Scope)(x:Str):Prop:=sc.names.lookup x=some .local\/sc.names.lookup x=some .cell
def Look(env:Env)(h:Heap)(m:Str->Option Value)(x:Str)(u:Value):Prop :=
 (env.kindOf x=some .local/\m x=some u)\/((env.kindOf x=some .cell\/env.kindOf x=some .free)/\∃ c,env.cells.lookup x=some c/\h.IsCell c (some u))
structure Cx.Ok(X:Cx):Prop where
 mod:Mod X.K X.mg X.base
 kind:X.env.scope.kind=.function
 glob:X.env.globals=mainGlobals
 blt:X.env.builtins=builtinsNs
 above:X.s₀.heap.objs.size<=X.env.locals
 inj:∀ x y c,X.env.cells.lookup x=some c->X.env.cells.lookup y=some c->x=y
 has:∀ x,(X.env.kindOf x=some .cell\/X.env.kindOf x=some .free)->∃ c,X.env.cells.lookup x=some c
 cab:∀ x c,X.fn x=true->X.env.cells.lookup x=some c->X.s₀.heap.objs.size<=c
 hd:X.calm=true->X.A.handled=none
 frames:X.A.frames=some X.stack
 stk:X.stack=X.outer\/(X.stack=X.env :: X.outer/\X.env.frame=some X.env.locals)
 exf:∀ b∈X.ex,b≠X.env.locals/\∀ x c,X.env.cells.lookup x=some c->c≠b
 bs:∀ b o,X.base.get? b=some o->X.s₀.heap.get? b=some o/\X.H₀ b=none
 bsz:X.base.objs.size<=X.s₀.heap.objs.size
 noex:∀ b o,X.base.get? b=some o->b∉X.ex
 exfs:∀ b∈X.ex,b∉X.fs
 funs:X.s₀.heap.FunFrames X.base X.outer
 frf:∀ b∈X.fs,X.H₀ b=none
 tab:Tbs X.K X.H₀
structure Inv(X:Cx)(pins:List (Addr×Obj))(σ:List (Option V))(H:Hp)(s:Shared):Prop where
 ok:X.Ok
 os:s.os=X.s₀.os
 bare:AllBare s.gens
 base:Un X.fs X.ex X.H₀ H X.s₀.heap s.heap
 loc:∃ m,s.heap.Ns X.env.locals m/\∀ (i:Nat) (x:Str) (v:V),X.N[i]? = some x->σ[i]? = some (some v)->Vis X.env.scope x->∃ u,RelV v u/\Look X.env s.heap m x u
 cell:∀ x c,X.env.cells.lookup x=some c->∃ v,s.heap.IsCell c v
 free:H X.env.locals=none
 freeC:∀ x c,X.env.cells.lookup x=some c->H c=none
 pin:∀ p∈X.pn++pins,s.heap.get? p.1=some p.2/\H p.1=none/\p.1≠X.env.locals/\p.1∉X.fs/\∀ v,p.2.data≠.cell v
 hok:HOk X.prog X.w H s.heap
 len:σ.length=X.N.length
section
variable {X:Cx}{pins:List (Addr×Obj)}{σ:List (Option V)}{H H':Hp}{s:Shared}{h':Heap}
theorem Cx.Ok.nofr(ok:X.Ok){b:Addr}{o:Obj}(e:X.base.get? b=some o):b∉X.fs:=fun hb=>by
 have:=(ok.funs.mem hb).1
 rw [e] at this;cases this
theorem Inv.tab(I:Inv X pins σ H s):Tbs X.K H:=fun p hp=>by
 obtain ⟨m,e⟩:=I.ok.tab p hp
 obtain ⟨m2,e2⟩:=I.base.tbls _ _ e
 exact ⟨m++m2,by rw [e2,bEy]⟩
theorem Inv.bs(I:Inv X pins σ H s):∀ b o,X.base.get? b=some o->s.heap.get? b=some o/\H b=none:=fun b o e =>
 ⟨I.base.keep b o (I.ok.bs b o e).1 (I.ok.bs b o e).2 (I.ok.nofr e) (I.ok.noex b o e),I.base.free b o (I.ok.bs b o e).1 (I.ok.bs b o e).2 (I.ok.noex b o e)⟩
theorem Inv.bk(I:Inv X pins σ H s):∀ b o,X.base.get? b=some o->s.heap.get? b=some o:=fun b o e=>(I.bs b o e).1
theorem Inv.mod(I:Inv X pins σ H s):Mod X.K X.mg X.base:=I.ok.mod
theorem Inv.kIn(I:Inv X pins σ H s):X.K.In s.heap:=I.ok.mod.kin.keeps I.bk
theorem Inv.lt(I:Inv X pins σ H s):X.env.locals < s.heap.objs.size:=let ⟨_,hn,_⟩:=I.loc;hn.lt
theorem Inv.sz(I:Inv X pins σ H s):X.s₀.heap.objs.size<=s.heap.objs.size:=bA5 I.ok.above (bEz I.lt)
theorem Inv.nofs(I:Inv X pins σ H s){a:Addr}(h:s.heap.objs.size<=a):a∉X.fs:=fun hb=>by
 obtain ⟨_,o,ho,_⟩:=I.ok.funs.mem hb
 exact absurd (bAy (aZ9 ho) (bA5 I.sz h)) (bB7 _)
theorem Inv.cne(I:Inv X pins σ H s):∀ x c,X.env.cells.lookup x=some c->c≠X.env.locals:=fun x c e z=>by
 obtain ⟨v,o,ho,hd⟩:=I.cell x c e
 obtain ⟨m,⟨o',es,ep,ho',hd',_⟩,_⟩:=I.loc
 rw [z,ho'] at ho;cases ho;rw [hd'] at hd;cases hd
theorem Inv.funs(I:Inv X pins σ H s):s.heap.FunFrames X.base X.outer:=by
 have all:∀ (l:List Env),(∀ b∈frs l,b∈X.fs)->X.s₀.heap.FunFrames X.base l->s.heap.FunFrames X.base l:=by
  intro l
  induction l with
  | nil=>intro _ _;trivial
  | cons env r ih =>
   intro hs hl
   obtain ⟨hk,⟨L,o,hf,hn,ho,hd⟩,hr⟩:=hl
   have hL:L∈X.fs:=hs L (by unfold frs;rw [bDk,hf];exact bDp)
   obtain ⟨sl,e⟩:=I.base.slot L o ho (I.ok.frf L hL) hL fun z=>I.ok.exfs L z hL
   exact ⟨hk,⟨L,_,hf,hn,e,hd⟩,ih (fun b hb=>hs b (by unfold frs;rw [bDk,hf];exact bBn _ hb)) hr⟩
 exact all X.outer (fun _ hb=>hb) I.ok.funs
theorem Inv.stack(I:Inv X pins σ H s):s.heap.FunFrames X.base X.stack:=by
 rcases I.ok.stk with e | ⟨e,hf⟩
 ·rw [e];exact I.funs
 ·rw [e]
  obtain ⟨m,hn,_⟩:=I.loc
  refine .cons (by rw [I.ok.kind];decide) hf hn ?_ I.funs
  exact Heap.get?_none_of_le (bA5 I.ok.bsz I.ok.above)
theorem Inv.stkSub(I:Inv X pins σ H s):∀ b∈frs X.stack,b∈X.env.locals :: X.fs:=fun b hb=>by
 rcases I.ok.stk with e | ⟨e,hf⟩
 ·rw [e] at hb;exact bBn _ hb
 ·rw [e] at hb
  unfold frs at hb
  rw [bDk,hf] at hb
  exact hb
theorem Inv.stkFree(I:Inv X pins σ H s):∀ b∈frs X.stack,H b=none:=fun b hb=>by
 rcases aZ3.mp (I.stkSub b hb) with e | hb
 ·rw [e];exact I.free
 ·obtain ⟨_,o,ho,_⟩:=I.ok.funs.mem hb
  exact I.base.free b o ho (I.ok.frf b hb) fun z=>I.ok.exfs b z hb
theorem Inv.step{g':Array GenState}{t':Nat}{d':Drawn}{ch:List Addr}(I:Inv X pins σ H s)
  (hch:∀ b∈ch,(b∈X.ex\/X.s₀.heap.objs.size<=b)/\b≠X.env.locals/\(∀ x c,X.env.cells.lookup x=some c->c≠b)/\∀ p∈X.pn++pins,p.1≠b)
  (keep:∀ b o,b≠X.env.locals->b∉X.fs->b∉ch->s.heap.get? b=some o->H b=none->h'.get? b=some o)
  (slot:∀ b o,b≠X.env.locals->b∈X.fs->b∉ch->s.heap.get? b=some o->H b=none->∃ sl,h'.get? b=some { o with slots:=sl }) (free:∀ b o,b∉ch->s.heap.get? b=some o->H b=none->H' b=none)
  (there:∀ b o,b∉ch->s.heap.get? b=some o->∃ o',h'.get? b=some o')
  (tups:∀ b xs,H b=some (.tup xs)->H' b=some (.tup xs)) (frzs:∀ b o u,H b=some (.frz o u)->H' b=some (.frz o u)) (tbls:∀ b ps,H b=some (.tbl ps)->∃ more,H' b=some (.tbl (ps++more)))
  (ns:∀ m,s.heap.Ns X.env.locals m->h'.Ns X.env.locals m) (hok:HOk X.prog X.w H' h') (hg:AllBare g') :
  Inv X pins σ H' { s with heap:=h',gens:=g',drawn:=d',toks:=t' }:=by
 have neL:∀ b o,X.s₀.heap.get? b=some o->b≠X.env.locals:=fun b o e=>bAu (bAy (aZ9 e) I.ok.above)
 have neC:∀ b o,X.s₀.heap.get? b=some o->b∉X.ex->b∉ch:=fun b o e hx hb=>by
  rcases (hch b hb).1 with z | z
  ·exact hx z
  ·exact absurd (bAy (aZ9 e) z) (bB7 _)
 have cellK:∀ x c,X.env.cells.lookup x=some c->∀ v,s.heap.IsCell c v->h'.IsCell c v:=fun x c e v ⟨o,ho,hd⟩=>by
  have nch:c∉ch:=fun z=>(hch c z).2.2.1 x c e rfl
  by_cases hc:c∈X.fs
  ·obtain ⟨sl,q⟩:=slot c o (I.cne x c e) hc nch ho (I.freeC x c e)
   exact ⟨_,q,hd⟩
  ·exact ⟨o,keep c o (I.cne x c e) hc nch ho (I.freeC x c e),hd⟩
 refine ⟨I.ok,I.os,hg,⟨fun b o e n hb hx=>?_,fun b o e n hb hx=>?_,fun b o e n hx=>?_,fun b o e hx=>?_,fun b xs e=>tups b xs (I.base.tups b xs e),fun b o xs e=>frzs b o xs (I.base.frzs b o xs e),fun b ps e=>?_⟩,?_,fun x c e=>?_,?_,fun x c e=>?_,fun p hp=>?_,hok,I.len⟩
 ·exact keep b o (neL b o e) hb (neC b o e hx) (I.base.keep b o e n hb hx) (I.base.free b o e n hx)
 ·obtain ⟨sl,e1⟩:=I.base.slot b o e n hb hx
  obtain ⟨sl',e2⟩:=slot b _ (neL b o e) hb (neC b o e hx) e1 (I.base.free b o e n hx)
  exact ⟨sl',e2⟩
 ·obtain ⟨o',e1⟩:=I.base.there b o e hx
  exact free b o' (neC b o e hx) e1 (I.base.free b o e n hx)
 ·obtain ⟨o',e1⟩:=I.base.there b o e hx
  exact there b o' (neC b o e hx) e1
 ·obtain ⟨m1,e1⟩:=I.base.tbls b ps e
  obtain ⟨m2,e2⟩:=tbls b _ e1
  exact ⟨m1++m2,by rw [e2,bEy]⟩
 ·obtain ⟨m,hn,hl⟩:=I.loc
  refine ⟨m,ns m hn,fun i x v e1 e2 e3=>?_⟩
  obtain ⟨u,r,l⟩:=hl i x v e1 e2 e3
  refine ⟨u,r,?_⟩
  rcases l with l | ⟨k,c,e,z⟩
  ·exact .inl l
  ·exact .inr ⟨k,c,e,cellK x c e _ z⟩
 ·obtain ⟨v,z⟩:=I.cell x c e
  exact ⟨v,cellK x c e v z⟩
 ·obtain ⟨m,⟨o,_,_,ho,_⟩,_⟩:=I.loc
  exact free _ o (fun z=>(hch _ z).2.1 rfl) ho I.free
 ·obtain ⟨v,o,ho,hd⟩:=I.cell x c e
  exact free c o (fun z=>(hch c z).2.2.1 x c e rfl) ho (I.freeC x c e)
 ·obtain ⟨e,n,ne,nf,d⟩:=I.pin p hp
  have nch:p.1∉ch:=fun z=>(hch p.1 z).2.2.2 p hp rfl
  exact ⟨keep p.1 p.2 ne nf nch e n,free p.1 p.2 nch e n,ne,nf,d⟩
theorem Inv.un{t':Nat}(I:Inv X pins σ H s)(u:Un X.fs [] H H' s.heap h')(hok:HOk X.prog X.w H' h'):Inv X pins σ H' { s with heap:=h',toks:=t' }:=by
 obtain ⟨m,⟨o,es,ep,ho,r⟩,_⟩:=id I.loc
 obtain ⟨sl,hL⟩:=u.any ho I.free (by simp)
 exact I.step (g':=s.gens) (d':=s.drawn) (ch:=[]) (fun _ z=>nomatch z) (fun b o _ hb _ e n=>u.keep b o e n hb (by simp)) (fun b o _ hb _ e n=>u.slot b o e n hb (by simp)) (fun b o _ e n=>u.free b o e n (by simp)) (fun b o _ e=>u.there b o e (by simp)) u.tups u.frzs u.tbls (fun m' hm=>by
  obtain ⟨o',es',ep',ho',r'⟩:=hm
  rw [ho] at ho';cases ho'
  exact ⟨_,es',ep',hL,r'⟩) hok I.bare
theorem Inv.call{g':Array GenState}{t':Nat}{d':Drawn}{ch:List Addr}(I:Inv X pins σ H s)(u:Un (frs X.stack) ch H H' s.heap h')(hok:HOk X.prog X.w H' h')(hg:AllBare g')
  (hch:∀ b∈ch,(b∈X.ex\/X.s₀.heap.objs.size<=b)/\b≠X.env.locals/\(∀ x c,X.env.cells.lookup x=some c->c≠b)/\∀ p∈X.pn++pins,p.1≠b) :
  Inv X pins σ H' { s with heap:=h',gens:=g',drawn:=d',toks:=t' }:=by
 obtain ⟨m,⟨o,es,ep,ho,r⟩,_⟩:=id I.loc
 obtain ⟨sl,hL⟩:=u.any ho I.free fun z=>(hch _ z).2.1 rfl
 exact I.step (ch:=ch) hch (fun b o hL hb hc e n=>u.keep b o e n (fun z=>(aZ3.mp (I.stkSub b z)).elim hL hb) hc) (fun b o _ _ hc e n=>u.any e n hc) (fun b o hc e n=>u.free b o e n hc) (fun b o hc e=>u.there b o e hc) u.tups u.frzs u.tbls (fun m' hm=>by
  obtain ⟨o',es',ep',ho',r'⟩:=hm
  rw [ho] at ho';cases ho'
  exact ⟨_,es',ep',hL,r'⟩) hok hg
theorem Inv.turned{t':Nat}{it:Addr}(I:Inv X pins σ H s)(k:∀ b o,b≠it->s.heap.get? b=some o->h'.get? b=some o)(hn:H it=none)(hL:it≠X.env.locals)
  (h1:it∈X.ex\/X.s₀.heap.objs.size<=it) (h2:∀ x c,X.env.cells.lookup x=some c->c≠it) (h3:∀ p∈X.pn++pins,p.1≠it):Inv X pins σ H { s with heap:=h',toks:=t' }:=by
 have nit:∀ b u,H b=some u->b≠it:=fun b u e z=>by rw [z,hn] at e;cases e
 refine I.step (g':=s.gens) (d':=s.drawn) (ch:=[it]) (fun b hb=>?_) (fun b o _ _ hc e _=>k b o (fun z=>hc (by simp [z])) e) (fun b o _ _ hc e _=>⟨o.slots,k b o (fun z=>hc (by simp [z])) e⟩) (fun _ _ _ _ n=>n)
  (fun b o hc e=>⟨o,k b o (fun z=>hc (by simp [z])) e⟩) (fun _ _ e=>e) (fun _ _ _ e=>e) (fun b ps e=>⟨#[],by rw [e];simp⟩) (fun m hm=>?_) (fun b u e=>?_) I.bare
 ·have e:b=it:=by simpa using hb
  subst e
  exact ⟨h1,hL,h2,h3⟩
 ·obtain ⟨o,es,ep,ho,r⟩:=hm
  exact ⟨o,es,ep,k _ o (bD0 hL) ho,r⟩
 ·refine (I.hok b u e).stay (fun c v hc q=>k c v ?_ q) (fun _ q=>q) fun _ _ q=>q
  rcases hc with z | z
  ·rw [z];exact nit b u e
  ·exact nit c _ z
theorem Inv.tok(I:Inv X pins σ H s)(t:Nat):Inv X pins σ H { s with toks:=t }:=I.un (h':=s.heap) (t':=t) Un.refl I.hok
theorem Inv.kept{t':Nat}(I:Inv X pins σ H s)(k:∀ b u,s.heap.get? b=some u->h'.get? b=some u):Inv X pins σ H { s with heap:=h',toks:=t' }:=I.un (Un.kept k) (I.hok.kept k)
theorem Inv.laid{a:Addr}{o:HO}{t':Nat}(I:Inv X pins σ H s)(k:∀ b u,s.heap.get? b=some u->h'.get? b=some u)(hp:s.heap.objs.size<=a)(new:ObjOk X.prog X.w (upd H a o) h' a o) :
  Inv X pins σ (upd H a o) { s with heap:=h',toks:=t' }:=I.un (Un.laid k hp (I.hok.fresh hp)) (I.hok.laid k hp new)
theorem Inv.write{x e:Addr}{o:HO}{t':Nat}(I:Inv X pins σ H s)(mu:Mut (H x))(he:e=x\/H e=some (.own x))(k:∀ b u,b≠e->s.heap.get? b=some u->h'.get? b=some u)(heo:∃ u,h'.get? e=some u)
  (new:ObjOk X.prog X.w (upd H x o) h' x o):Inv X pins σ (upd H x o) { s with heap:=h',toks:=t' }:=I.un (Un.write mu he k heo) (I.hok.write mu he k heo new)
theorem Inv.weak{σ':List (Option V)}(I:Inv X pins σ H s)(hl:σ'.length=σ.length)(w:∀ (i:Nat) v,σ'[i]? = some (some v)->σ[i]? = some (some v)):Inv X pins σ' H s :=
 ⟨I.ok,I.os,I.bare,I.base,let ⟨m,hn,hl'⟩:=I.loc;⟨m,hn,fun i x v e1 e2 e3=>hl' i x v e1 (w i v e2) e3⟩,I.cell,I.free,I.freeC,I.pin,I.hok,hl.trans I.len⟩
theorem Inv.pins_of{pins':List (Addr×Obj)}(I:Inv X pins σ H s)(h:∀ p∈pins',s.heap.get? p.1=some p.2/\H p.1=none/\p.1≠X.env.locals/\p.1∉X.fs/\∀ v,p.2.data≠.cell v):Inv X pins' σ H s :=
 ⟨I.ok,I.os,I.bare,I.base,I.loc,I.cell,I.free,I.freeC,fun p hp=>(bB1.mp hp).elim (fun z=>I.pin p (bDd _ z)) (h p),I.hok,I.len⟩
theorem aDz{N:List Str}(hN:N.Nodup){i j:Nat}{x:Str}(a:N[i]? = some x)(b:N[j]? = some x):i=j:=by
 obtain ⟨h1,e1⟩:=bBe.mp a
 obtain ⟨h2,e2⟩:=bBe.mp b
 exact (List.getElem_inj hN).mp (e1.trans e2.symm)
theorem aF9{M:Model}{A:Around}{E:Value->Shared->Prop}{i:Nat}{x:Str}{v:V}{u:Value}{Q:Unit->Shared->Prop}(I:Inv X pins σ H s)(hN:X.N.Nodup)(hi:X.N[i]? = some x)(hx:Loc X.env.scope x)(r:RelV v u)
  (h:∀ s',Inv X pins (σ.set i (some v)) H s'->(∃ a,Heap.SameBut a s.heap s'.heap/\(a=X.env.locals\/X.env.cells.lookup x=some a))->Q () s') (hf:X.fn x=true\/X.env.scope.names.lookup x=some .local:=by first | exact .inl rfl | exact .inr rfl | assumption):wpAny M A (storeName X.env x u) Q E s:=by
 obtain ⟨m,hn,hl⟩:=id I.loc
 have hcls:(X.env.scope.kind == .class || (X.env.scope.kind == .module && X.env.locals != X.env.globals))=false:=by rw [I.ok.kind];rfl
 have hiσ:i < σ.length:=by rw [I.len];exact (bBe.mp hi).1
 have cne:=I.cne
 have tracked:∀ {a:Addr} {h':Heap},(∃ o,s.heap.get? a=some o/\H a=none)->Heap.SameBut a s.heap h'->HOk X.prog X.w H h':=fun {a h'} ha hs b ob e=>by
  obtain ⟨_,_,hfree⟩:=ha
  refine (I.hok b ob e).stay (fun c w' hc q=>(hs.2 c ?_).trans q) (fun _ q=>q) fun _ _ q=>q
  rintro rfl
  rcases hc with rfl | hc
  ·rw [hfree] at e;cases e
  ·rw [hfree] at hc;cases hc
 rcases hx with hk | hk
 ·refine wpAny_storeName_local hk hn (fun h' hn' hs=>?_) hcls
  obtain ⟨oL,_,_,hoL,_⟩:=id hn
  refine h _ ⟨I.ok,I.os,I.bare,⟨fun b o e n hb hx=>?_,fun b o e n hb hx=>?_,I.base.free,fun b o e hx=>?_,I.base.tups,I.base.frzs,I.base.tbls⟩,⟨_,hn',fun j y v' e1 e2 e3=>?_⟩,fun y c e=>?_,I.free,I.freeC,fun p hp=>?_,tracked ⟨oL,hoL,I.free⟩ hs,by simpa using I.len⟩ ⟨_,hs,.inl rfl⟩
  ·exact (hs.2 b (bAu (bAy (aZ9 e) I.ok.above))).trans (I.base.keep b o e n hb hx)
  ·obtain ⟨sl,e1⟩:=I.base.slot b o e n hb hx
   exact ⟨sl,(hs.2 b (bAu (bAy (aZ9 e) I.ok.above))).trans e1⟩
  ·obtain ⟨o',e1⟩:=I.base.there b o e hx
   exact ⟨o',(hs.2 b (bAu (bAy (aZ9 e) I.ok.above))).trans e1⟩
  ·by_cases hj:j=i
   ·subst hj
    rw [hi] at e1;cases e1
    rw [bF4 hiσ] at e2
    cases e2
    exact ⟨u,r,.inl ⟨hk,by simp⟩⟩
   ·rw [bEf (bD0 hj)] at e2
    obtain ⟨u',r',q⟩:=hl j y v' e1 e2 e3
    refine ⟨u',r',?_⟩
    rcases q with ⟨k,e⟩ | ⟨k,c,e,z⟩
    ·refine .inl ⟨k,?_⟩
     have:y≠x:=fun e=>hj (aDz hN e1 (e▸hi))
     simp [this,e]
    ·exact .inr ⟨k,c,e,z.sameBut hs (cne y c e)⟩
  ·obtain ⟨w',z⟩:=I.cell y c e
   exact ⟨w',z.sameBut hs (cne y c e)⟩
  ·obtain ⟨e,n,ne,nf,d⟩:=I.pin p hp
   exact ⟨(hs.2 p.1 ne).trans e,n,ne,nf,d⟩
 ·have hfn:X.fn x=true:=by
   rcases hf with z | z
   ·exact z
   ·rw [z] at hk;cases hk
  obtain ⟨c,hc⟩:=I.ok.has x (.inl hk)
  obtain ⟨w',z⟩:=I.cell x c hc
  refine wpAny_storeName_cell I.ok.kind hk hc z (fun h' hc' hs=>?_)
  obtain ⟨oc,hoc,hocd⟩:=id z
  refine h { s with heap:=h' } ⟨I.ok,I.os,I.bare,⟨fun b o e n hb hx=>?_,fun b o e n hb hx=>?_,I.base.free,fun b o e hx=>?_,I.base.tups,I.base.frzs,I.base.tbls⟩,⟨m,hn.sameBut hs (bD0 (cne x c hc)),fun j y v' e1 e2 e3=>?_⟩,fun y c' e=>?_,I.free,I.freeC,fun p hp=>?_,tracked ⟨oc,hoc,I.freeC x c hc⟩ hs,by simpa using I.len⟩ ⟨c,hs,.inr hc⟩
  ·exact (hs.2 b (bAu (bAy (aZ9 e) (I.ok.cab x c hfn hc)))).trans (I.base.keep b o e n hb hx)
  ·obtain ⟨sl,e1⟩:=I.base.slot b o e n hb hx
   exact ⟨sl,(hs.2 b (bAu (bAy (aZ9 e) (I.ok.cab x c hfn hc)))).trans e1⟩
  ·obtain ⟨o',e1⟩:=I.base.there b o e hx
   exact ⟨o',(hs.2 b (bAu (bAy (aZ9 e) (I.ok.cab x c hfn hc)))).trans e1⟩
  ·by_cases hj:j=i
   ·subst hj
    rw [hi] at e1;cases e1
    rw [bF4 hiσ] at e2
    cases e2
    exact ⟨u,r,.inr ⟨.inl hk,c,hc,hc'⟩⟩
   ·rw [bEf (bD0 hj)] at e2
    obtain ⟨u',r',q⟩:=hl j y v' e1 e2 e3
    refine ⟨u',r',?_⟩
    rcases q with q | ⟨k,c',e,z'⟩
    ·exact .inl q
    ·refine .inr ⟨k,c',e,z'.sameBut hs ?_⟩
     rintro rfl
     exact hj (aDz hN e1 (I.ok.inj _ _ _ e hc▸hi))
  ·by_cases hcc:c'=c
   ·subst hcc;exact ⟨_,hc'⟩
   ·obtain ⟨w2,z2⟩:=I.cell y c' e
    exact ⟨w2,z2.sameBut hs hcc⟩
  ·obtain ⟨e,n,ne,nf,d⟩:=I.pin p hp
   refine ⟨(hs.2 p.1 ?_).trans e,n,ne,nf,d⟩
   intro q
   rw [q,hoc] at e
   have q':oc=p.2:=bAn e
   exact d w' (by rw [<- q'];exact hocd)
theorem aEo{M:Model}{A:Around}{E:Value->Shared->Prop}{i:Nat}{x:Str}{v:V}{u:Value}{Q:Unit->Shared->Prop}(I:Inv X pins σ H s)(hN:X.N.Nodup)(hi:X.N[i]? = some x)(hx:Loc X.env.scope x)(r:RelV v u)
  (h:∀ s',Inv X pins (σ.set i (some v)) H s'->Q () s') (hf:X.fn x=true\/X.env.scope.names.lookup x=some .local:=by first | exact .inl rfl | exact .inr rfl | assumption):wpAny M A (storeName X.env x u) Q E s :=
 aF9 I hN hi hx r (fun s' I' _=>h s' I') hf
theorem Inv.call'{s':Shared}{ch:List Addr}(I:Inv X pins σ H s)(ho:s'.os=s.os)(u:Un (frs X.stack) ch H H' s.heap s'.heap)(hok:HOk X.prog X.w H' s'.heap)(hg:AllBare s'.gens)
  (hch:∀ b∈ch,(b∈X.ex\/X.s₀.heap.objs.size<=b)/\b≠X.env.locals/\(∀ x c,X.env.cells.lookup x=some c->c≠b)/\∀ p∈X.pn++pins,p.1≠b):Inv X pins σ H' s':=by
 obtain ⟨h',g',d',t',o'⟩:=s'
 have e:o'=s.os:=ho
 subst e
 exact I.call (g':=g') (t':=t') (d':=d') u hok hg hch
end
abbrev XK:=Value->Option Addr->Hp->Prop
abbrev St:=List (Option V)
abbrev VK:=V->Hp->Prop
abbrev TE:=St->Hp->VK->Prop
abbrev TT:=St->Hp->(Bool->Hp->Prop)->Prop
abbrev TA:=St->Hp->(List V->Hp->Prop)->Prop
structure Ends where
 nx:St->Hp->Prop
 rt:VK
 bk:St->Hp->Prop:=fun _ _=>False
 ct:St->Hp->Prop:=fun _ _=>False
abbrev TS:=Ends->St->Hp->Prop
def EP(X:Cx)(pins:List (Addr×Obj))(σ:St)(Q:VK)(u:Value)(s':Shared):Prop:=∃ v H',Inv X pins σ H' s'/\RelV v u/\Q v H'
def TP(X:Cx)(pins:List (Addr×Obj))(σ:St)(Q:Bool->Hp->Prop)(b:Bool)(s':Shared):Prop:=∃ H',Inv X pins σ H' s'/\Q b H'
def AP(X:Cx)(pins:List (Addr×Obj))(σ:St)(Q:List V->Hp->Prop)(us:List Value)(s':Shared):Prop:=∃ vs H',Inv X pins σ H' s'/\Vals vs us/\Q vs H'
def SP(X:Cx)(pins:List (Addr×Obj))(D:Ends)(f:Flow)(s':Shared):Prop :=
 match f with
 | .next=>∃ σ' H',Inv X pins σ' H' s'/\D.nx σ' H'
 | .brk=>∃ σ' H',Inv X pins σ' H' s'/\D.bk σ' H'
 | .cont=>∃ σ' H',Inv X pins σ' H' s'/\D.ct σ' H'
 | .ret u=>∃ v σ' H',Inv X pins σ' H' s'/\RelV v u/\D.rt v H'
def PE(X:Cx)(e:Expr)(t:TE):Prop :=
 ∀ (pins:List (Addr×Obj)) (s:Shared) (σ:St) (H:Hp) (Q:VK),Inv X pins σ H s->t σ H Q->wpAny (model X.prog X.w) X.A (eval e X.env) (EP X pins σ Q) X.xe s
def PT(X:Cx)(e:Expr)(t:TT):Prop :=
 ∀ (pins:List (Addr×Obj)) (s:Shared) (σ:St) (H:Hp) (Q:Bool->Hp->Prop),Inv X pins σ H s->t σ H Q->wpAny (model X.prog X.w) X.A (isTrue e X.env (eval e X.env)) (TP X pins σ Q) X.xe s
def PW(X:Cx)(e:Expr)(t:TT):Prop :=
 ∀ (whole:Sem Value) (pins:List (Addr×Obj)) (s:Shared) (σ:St) (H:Hp) (Q:Bool->Hp->Prop),Inv X pins σ H s->t σ H Q->wpAny (model X.prog X.w) X.A (isTrue e X.env whole) (TP X pins σ Q) X.xe s
def PA(X:Cx)(es:List Expr)(t:TA):Prop :=
 ∀ (pos:Pos) (pins:List (Addr×Obj)) (s:Shared) (σ:St) (H:Hp) (Q:List V->Hp->Prop),Inv X pins σ H s->t σ H Q->wpAny (model X.prog X.w) X.A (spliced (backTo pos (starEach es X.env))) (AP X pins σ Q) X.xe s
def PS(X:Cx)(st:Stmt)(t:TS):Prop :=
 ∀ (pins:List (Addr×Obj)) (s:Shared) (σ:St) (H:Hp) (D:Ends),Inv X pins σ H s->t D σ H->wpAny (model X.prog X.w) X.A (exec st X.env) (SP X pins D) X.xe s
def PSs(X:Cx)(st:List Stmt)(t:TS):Prop :=
 ∀ (pins:List (Addr×Obj)) (s:Shared) (σ:St) (H:Hp) (D:Ends),Inv X pins σ H s->t D σ H->wpAny (model X.prog X.w) X.A (execs st X.env) (SP X pins D) X.xe s
theorem thn{α:Type}{t:Sem α}{Q Q':α->Shared->Prop}{M:Model}{A:Around}{E:Value->Shared->Prop}{s:Shared}(h:wpAny M A t Q E s)(hQ:∀ a s,Q a s->Q' a s):wpAny M A t Q' E s:=bBu h hQ fun _ _ x=>x
section
variable {X:Cx}
def aRt(i:Nat):TE:=fun σ H Q=>∃ v,σ[i]? = some (some v)/\Q v H
def tC(v:V):TE:=fun _ H Q=>Q v H
theorem aOn{i:Nat}{x:Str}{pos:Pos}(hN:X.N[i]? = some x)(hv:Vis X.env.scope x)(hd:(x == ("__debug__" : Str))=false:=by decide)(hcd:(x == ("__classdict__" : Str))=false:=by decide):PE X (.Name x pos) (aRt i):=by
 intro pins s σ H Q I h
 obtain ⟨v,e,h⟩:=h
 obtain ⟨m,hn,hl⟩:=I.loc
 obtain ⟨u,r,l⟩:=hl i x v hN e hv
 have fin:EP X pins σ Q u s:=⟨v,H,I,r,h⟩
 rcases l with ⟨hk,hm⟩ | ⟨hk,c,hc,hcell⟩
 ·exact wpAny_Name (wpAny_loadName_local I.ok.kind hk hn hm fin) hd
 ·rcases hk with hk | hk
  ·exact wpAny_Name (wpAny_loadName_cell I.ok.kind hk hc hcell fin) hd
  ·exact wpAny_Name (wpAny_loadName_free I.ok.kind hk hc hcell fin hcd) hd
theorem aTw{i j pos}:PE X (.Constant (.int i) j pos) (tC (.int i)):=fun _ _ _ H _ I h=>wpAny_Constant_int ⟨.int i,H,I.tok _,⟨_,rfl⟩,h⟩
theorem aYf{b j pos}:PE X (.Constant (.bool b) j pos) (tC (.bl b)):=fun _ _ _ H _ I h=>Constant_bool ⟨.bl b,H,I,rfl,h⟩
theorem aTy{j pos}:PE X (.Constant .none j pos) (tC .non):=fun _ _ _ H _ I h=>Constant_none ⟨.non,H,I,rfl,h⟩
theorem aVd{x j pos}:PE X (.Constant (.str x) j pos) (tC (.str x)):=fun _ _ _ H _ I h=>Calls.Constant_str ⟨.str x,H,I.tok _,⟨_,rfl⟩,h⟩
def Gl(X:Cx)(x:Str):Prop:=X.env.kindOf x=some .globalImplicit
theorem aJ2{E:Value->Shared->Prop}{pins:List (Addr×Obj)}{s:Shared}{σ:St}{H:Hp}{x:Str}{u:Value}{pos:Pos}{Q:Value->Shared->Prop}(I:Inv X pins σ H s)(hg:Gl X x)(hm:X.mg x=some u)(h:Q u s)
  (hd:(x == ("__debug__" : Str))=false:=by decide):wpAny (model X.prog X.w) X.A (eval (.Name x pos) X.env) Q E s :=
 Calls.Name_function_global I.ok.kind hg (Calls.loadGlobal_global (by rw [I.ok.glob];exact I.mod.glob.keeps I.bk) hm h) hd
theorem qO{E:Value->Shared->Prop}{pins:List (Addr×Obj)}{s:Shared}{σ:St}{H:Hp}{x:Str}{u:Value}{pos:Pos}{Q:Value->Shared->Prop}(I:Inv X pins σ H s)(hg:Gl X x)(hm:X.mg x=none)(hv:bootBuiltins x=some u)(h:Q u s)
  (hn:x≠"__name__":=by decide) (hd:(x == ("__debug__" : Str))=false:=by decide):wpAny (model X.prog X.w) X.A (eval (.Name x pos) X.env) Q E s:=by
 obtain ⟨mb,h1,h2⟩:=I.mod.blt
 exact Calls.Name_function_global I.ok.kind hg (Calls.loadGlobal_builtin (by rw [I.ok.glob];exact I.mod.glob.keeps I.bk) hm (by rw [I.ok.blt];exact h1.keeps I.bk) ((h2 x hn).trans hv) h) hd
variable {a b:Expr}{ta tb:TE}{pos:Pos}
def PC(X:Cx)(op:CmpOp)(a b:Expr)(t:TE):Prop :=
 ∀ (pins:List (Addr×Obj)) (s:Shared) (σ:St) (H:Hp) (Q:VK),Inv X pins σ H s->t σ H Q ->
  wpAny (model X.prog X.w) X.A (eval a X.env) (fun v s₁=>wpAny (model X.prog X.w) X.A (eval b X.env) (fun u s₂=>wpAny (model X.prog X.w) X.A (compareOp op v u) (EP X pins σ Q) X.xe s₂) X.xe s₁) X.xe s
theorem aCz(b:Expr){op:CmpOp}(h:op≠.In)(h2:op≠.NotIn):behindInMarks op b=false:=by
 have e1:(op == CmpOp.In)=false:=by cases op<;>first | rfl | exact absurd rfl h
 have e2:(op == CmpOp.NotIn)=false:=by cases op<;>first | rfl | exact absurd rfl h2
 cases b<;>simp [behindInMarks,e1,e2]
def aYp(ta:TE):TE:=fun σ H Q=>ta σ H fun x H1=>Q (.bl (decide (x=.non))) H1
def aSu(ta:TE):TE:=fun σ H Q=>ta σ H fun x H1=>Q (.bl (!decide (x=.non))) H1
theorem RelV.none_iff{x:V}{v:Value}(r:RelV x v):(v == Value.none)=decide (x=.non):=by
 cases x with
 | non=>cases r;rfl
 | bl _=>cases r;rfl
 | int _=>obtain ⟨t,rfl⟩:=r;rfl
 | str _=>obtain ⟨t,rfl⟩:=r;rfl
 | byt _=>obtain ⟨t,rfl⟩:=r;rfl
 | flt _=>obtain ⟨t,rfl⟩:=r;rfl
 | ref _=>cases r;rfl
 | ty _=>cases r;rfl
theorem aOa{j pos'}(ha:PE X a ta):PC X .Is a (.Constant .none j pos') (aYp ta):=by
 intro pins s σ H Q I h
 refine thn (ha pins s σ H _ I h) fun v s1 ⟨x,H1,I1,r1,q1⟩=>?_
 exact Constant_none (is_none_gen ⟨.bl _,H1,I1,by rw [r1.none_iff];rfl,q1⟩)
theorem aPr{j pos'}(ha:PE X a ta):PC X .IsNot a (.Constant .none j pos') (aSu ta):=by
 intro pins s σ H Q I h
 refine thn (ha pins s σ H _ I h) fun v s1 ⟨x,H1,I1,r1,q1⟩=>?_
 exact Constant_none (isnot_none_gen ⟨.bl _,H1,I1,by rw [r1.none_iff];rfl,q1⟩)
def tB(t:TE):TT:=fun σ H Q=>t σ H fun x H1=>∃ c,x=.bl c/\Q c H1
theorem aTn{op:CmpOp}{t:TE}(h:PC X op a b t)(h1:behindInMarks op b=false:=by first | exact aCz _ (by decide) (by decide) | rfl):PE X (.Compare a [op] [b] pos) t:=fun pins s σ H Q I hw=>wpAny_Compare1 (h pins s σ H Q I hw) h1
theorem aDk{op:CmpOp}{t:TE}(h:PC X op a b t)(h1:behindInMarks op b=false:=by first | exact aCz _ (by decide) (by decide) | rfl):PT X (.Compare a [op] [b] pos) (tB t):=by
 intro pins s σ H Q I hw
 refine wpAny_isTrue_Compare1 (thn (h pins s σ H _ I hw) fun v s1 h1=>thn h1 fun u s2 h2=>thn h2 fun c s3 ⟨x,H1,I1,r1,q1⟩=>?_) h1
 obtain ⟨d,rfl,q⟩:=q1
 cases r1
 exact bCf ⟨H1,I1,q⟩
theorem aS2{e:Expr}{t:TE}(h:PE X e t)(he:∀ whole,isTrue e X.env whole=(do let v <- whole;standAt e.pos;holding [v] (truthy v)):=by intro _;rfl):PT X e (tB t):=by
 intro pins s σ H Q I hw
 refine isTrue_plain (thn (h pins s σ H _ I hw) fun v s1 ⟨x,H1,I1,r1,q1⟩=>?_) (he _)
 obtain ⟨d,rfl,q⟩:=q1
 cases r1
 exact bCf ⟨H1,I1,q⟩
variable {tA tB':TT}{rest:List Expr}
def aZd(t u:TT):TT:=fun σ H Q=>t σ H fun c H1=>if c=true then u σ H1 Q else Q false H1
def tOr(t u:TT):TT:=fun σ H Q=>t σ H fun c H1=>if c=true then Q true H1 else u σ H1 Q
def aZn(t:TT):TT:=fun σ H Q=>t σ H fun c H1=>Q (!c) H1
theorem aRf(ha:PT X a tA):PW X (.BoolOp .And [a] pos) tA:=by
 intro wh pins s σ H Q I h
 refine isTrue_and (thn (ha pins s σ H Q I h) fun c s1 e=>?_)
 cases c with
 | true=>exact isTrue_and_nil e
 | false=>exact e
theorem aUa(ha:PT X a tA):PW X (.BoolOp .Or [a] pos) tA:=by
 intro wh pins s σ H Q I h
 refine isTrue_or (thn (ha pins s σ H Q I h) fun c s1 e=>?_)
 cases c with
 | false=>exact isTrue_or_nil e
 | true=>exact e
theorem aSl(ha:PT X a tA)(hb:PW X (.BoolOp .And (b :: rest) pos) tB'):PW X (.BoolOp .And (a :: b :: rest) pos) (aZd tA tB'):=by
 intro wh pins s σ H Q I h
 refine isTrue_and (thn (ha pins s σ H _ I h) fun c s1 ⟨H1,I1,q1⟩=>?_)
 cases c with
 | true=>exact hb wh pins s1 σ H1 Q I1 q1
 | false=>exact ⟨H1,I1,q1⟩
theorem aXj(ha:PT X a tA)(hb:PW X (.BoolOp .Or (b :: rest) pos) tB'):PW X (.BoolOp .Or (a :: b :: rest) pos) (tOr tA tB'):=by
 intro wh pins s σ H Q I h
 refine isTrue_or (thn (ha pins s σ H _ I h) fun c s1 ⟨H1,I1,q1⟩=>?_)
 cases c with
 | true=>exact ⟨H1,I1,q1⟩
 | false=>exact hb wh pins s1 σ H1 Q I1 q1
theorem aTe(ha:PT X a tA):PT X (.UnaryOp .Not a pos) (aZn tA):=by
 intro pins s σ H Q I h
 exact isTrue_not (ha pins s σ H (fun c H1=>Q (!c) H1) I h)
def aWm(ta tb:TE):TE:=fun σ H Q=>ta σ H fun x H1=>∃ c,x=.bl c/\if c=true then tb σ H1 Q else Q (.bl false) H1
def aZa(ta tb:TE):TE:=fun σ H Q=>ta σ H fun x H1=>∃ c,x=.bl c/\if c=true then Q (.bl true) H1 else tb σ H1 Q
theorem aS3{op}{t:TE}(h:PE X a t):PE X (.BoolOp op [a] pos) t:=fun pins s σ H Q I hw=>BoolOp_one (h pins s σ H Q I hw)
theorem aSj(ha:PE X a ta)(hb:PE X (.BoolOp .And (b :: rest) pos) tb):PE X (.BoolOp .And (a :: b :: rest) pos) (aWm ta tb):=by
 intro pins s σ H Q I h
 refine BoolOp_and (thn (ha pins s σ H _ I h) fun v s1 ⟨x,H1,I1,r1,q1⟩=>?_)
 obtain ⟨c,rfl,q1⟩:=q1
 cases r1
 refine bCf ?_
 cases c with
 | true=>exact hb pins s1 σ H1 Q I1 q1
 | false=>exact ⟨.bl false,H1,I1,rfl,q1⟩
theorem aX5(ha:PE X a ta)(hb:PE X (.BoolOp .Or (b :: rest) pos) tb):PE X (.BoolOp .Or (a :: b :: rest) pos) (aZa ta tb):=by
 intro pins s σ H Q I h
 refine BoolOp_or (thn (ha pins s σ H _ I h) fun v s1 ⟨x,H1,I1,r1,q1⟩=>?_)
 obtain ⟨c,rfl,q1⟩:=q1
 cases r1
 refine bCf ?_
 cases c with
 | false=>exact hb pins s1 σ H1 Q I1 q1
 | true=>exact ⟨.bl true,H1,I1,rfl,q1⟩
def tIf(t:TT)(ta tb:TE):TE:=fun σ H Q=>t σ H fun c H1=>if c=true then ta σ H1 Q else tb σ H1 Q
theorem aMg{c:Expr}(hc:PT X c tA)(ha:PE X a ta)(hb:PE X b tb):PE X (.IfExp c a b pos) (tIf tA ta tb):=by
 intro pins s σ H Q I h
 refine wpAny_IfExp (thn (hc pins s σ H _ I h) fun d s1 ⟨H1,I1,q1⟩=>?_)
 cases d with
 | true=>exact ha pins s1 σ H1 Q I1 q1
 | false=>exact hb pins s1 σ H1 Q I1 q1
end
def SqL(K:aZz)(H:Hp)(a:Addr)(xs:List V):Prop :=
 Rd H a (.lst xs) \/
  ∃ (o:Obj) (its:Array Value) (n:Nat),K.lookup a=some o/\o.cls=.type "list"/\o.dict=none/\o.data=.seq its n/\its.size<=sizeLine/\Vals xs its.toList
def SqT(K:aZz)(H:Hp)(a:Addr)(xs:List V):Prop :=
 Rd H a (.tup xs) \/
  ∃ (o:Obj) (its:Array Value) (n:Nat),K.lookup a=some o/\o.cls=.type "tuple"/\o.data=.seq its n/\its.size<=sizeLine/\Vals xs its.toList
def aZu:Value->Option V
 | .none=>some .non
 | .bool b=>some (.bl b)
 | .int i _=>some (.int i)
 | .str x _=>some (.str x)
 | .bytes b _=>some (.byt b)
 | .float b _=>some (.flt b)
 | .ref a=>some (.ref a)
 | .type n=>some (.ty n)
 | _=>none
theorem RelV.abs{x:V}{u:Value}(r:RelV x u):aZu u=some x:=by
 cases x with
 | non=>cases r;rfl
 | bl _=>cases r;rfl
 | int _=>obtain ⟨t,rfl⟩:=r;rfl
 | str _=>obtain ⟨t,rfl⟩:=r;rfl
 | byt _=>obtain ⟨t,rfl⟩:=r;rfl
 | flt _=>obtain ⟨t,rfl⟩:=r;rfl
 | ref _=>cases r;rfl
 | ty _=>cases r;rfl
theorem RelV.inj{x y:V}{u:Value}(r:RelV x u)(q:RelV y u):x=y:=bAn (r.abs.symm.trans q.abs)
theorem Vals.inj:∀ {xs ys:List V} {us:List Value},Vals xs us->Vals ys us->xs=ys
 | _,_,_,.nil,.nil=>rfl
 | _,_,_,.cons r t,.cons r' t'=>by rw [r.inj r',Vals.inj t t']
section
variable {X:Cx}{pins:List (Addr×Obj)}{σ:St}{H:Hp}{s:Shared}{a:Addr}{xs ys:List V}
theorem SqL.of{K:aZz}(h:H a=some (.lst xs)):SqL K H a xs:=.inl (.inl h)
theorem SqT.of{K:aZz}(h:H a=some (.tup xs)):SqT K H a xs:=.inl (.inl h)
theorem Inv.list(I:Inv X pins σ H s)(h:SqL X.K H a xs):∃ its:List Value,Vals xs its/\PlainL s.heap a its.toArray/\xs.length<=sizeLine:=by
 rcases h with h | ⟨o,its,n,hk,hc,hd,hs,hz,r⟩
 ·obtain ⟨z,its,n,r,e⟩:=h.ok I.hok
  exact ⟨its,r,⟨_,n,e,rfl,rfl,rfl⟩,z⟩
 ·refine ⟨its.toList,r,⟨o,n,I.kIn a o hk,hc,hd,by simpa using hs⟩,?_⟩
  have e:=r.length
  simp only [bBc] at e
  omega
theorem Inv.tuple(I:Inv X pins σ H s)(h:SqT X.K H a xs):∃ its:List Value,Vals xs its/\IsTup s.heap a its.toArray/\xs.length<=sizeLine:=by
 rcases h with h | ⟨o,its,n,hk,hc,hs,hz,r⟩
 ·obtain ⟨z,its,r,p⟩:=h.ok I.hok
  exact ⟨its,r,p,z⟩
 ·refine ⟨its.toList,r,⟨o,I.kIn a o hk,hc,n,by simpa using hs⟩,?_⟩
  have e:=r.length
  simp only [bBc] at e
  omega
theorem Inv.list_inj(I:Inv X pins σ H s)(h:SqL X.K H a xs)(h':SqL X.K H a ys):xs=ys:=by
 obtain ⟨its,r,⟨o,n,e,_,_,d⟩,_⟩:=I.list h
 obtain ⟨its',r',⟨o',n',e',_,_,d'⟩,_⟩:=I.list h'
 rw [e] at e';cases e'
 rw [d] at d'
 injection d' with d1 _
 have:its=its':=by simpa using bCl Array.toList d1
 subst this
 exact r.inj r'
end
section
variable {X:Cx}{pins:List (Addr×Obj)}{σ:St}{H:Hp}{s:Shared}{E:Value->Shared->Prop}
end
section
variable {X:Cx}{st:Stmt}{rest:List Stmt}{t u:TS}{e:Expr}{te:TE}{pos:Pos}
def aWw:TS:=fun D σ H=>D.nx σ H
def aY7(t u:TS):TS:=fun D σ H=>t { D with nx:=u D } σ H
theorem aP6:PSs X [] aWw:=fun _ _ σ H _ I h=>bEj ⟨σ,H,I,h⟩
theorem aMx(h1:PS X st t)(h2:PSs X rest u):PSs X (st :: rest) (aY7 t u):=by
 intro pins s σ H D I h
 refine wpAny_execs_cons (thn (h1 pins s σ H { D with nx:=u D } I h) fun f s1 q=>?_)
 cases f with
 | next =>
  obtain ⟨σ',H',I',q⟩:=q
  exact h2 pins s1 σ' H' D I' q
 | ret v=>exact q
 | brk=>exact q
 | cont=>exact q
theorem aPy(h1:PS X st t):PSs X [st] t:=by
 intro pins s σ H D I h
 refine wpAny_execs_cons (thn (h1 pins s σ H D I h) fun f s1 q=>?_)
 cases f with
 | next=>exact bEj q
 | ret v=>exact q
 | brk=>exact q
 | cont=>exact q
theorem Inv.quiet{pins:List (Addr×Obj)}{σ:St}{H:Hp}{s:Shared}(I:Inv X pins σ H s):interactive X.env=false:=by simp [interactive,I.ok.kind]
def aIb(te:TE):TS:=fun D σ H=>te σ H fun _ H1=>D.nx σ H1
theorem sW(he:PE X e te)(hs:swapsWith e none pos.line X.env=pure false:=by rfl):PS X (.Expr e pos) (aIb te):=by
 intro pins s σ H D I h
 exact wpAny_Expr_any (thn (he pins s σ H _ I h) fun v s1 ⟨x,H1,I1,r1,q1⟩=>⟨σ,H1,I1,q1⟩) I.quiet hs
def aZj(te:TE):TS:=fun D σ H=>te σ H D.rt
theorem aTa(he:PE X e te):PS X (.Return (some e) pos) (aZj te):=by
 intro pins s σ H D I h
 exact wpAny_Return_some (thn (he pins s σ H _ I h) fun v s1 ⟨x,H1,I1,r1,q1⟩=>⟨x,σ,H1,I1,r1,q1⟩)
def aY8(c:TT)(t u:TS):TS:=fun D σ H=>c σ H fun b H1=>if b=true then t D σ H1 else u D σ H1
theorem aWz{c:Expr}{a b:List Stmt}{tc:TT}(hc:PT X c tc)(ha:PSs X a t)(hb:PSs X b u):PS X (.If c a b pos) (aY8 tc t u):=by
 intro pins s σ H D I h
 refine wpAny_If (thn (hc pins s σ H _ I h) fun d s1 ⟨H1,I1,q1⟩=>?_)
 cases d with
 | true=>exact ha pins s1 σ H1 D I1 q1
 | false=>exact hb pins s1 σ H1 D I1 q1
end
abbrev TG:=V->St->Hp->(St->Hp->Prop)->Prop
abbrev TGs:=List V->St->Hp->(St->Hp->Prop)->Prop
def PG(X:Cx)(target:Expr)(t:TG):Prop :=
 ∀ (pins:List (Addr×Obj)) (s:Shared) (σ:St) (H:Hp) (v:V) (u:Value) (Q:St->Hp->Prop),Inv X pins σ H s->RelV v u->t v σ H Q ->
  wpAny (model X.prog X.w) X.A (assign target X.env u) (fun _ s'=>∃ σ' H',Inv X pins σ' H' s'/\Q σ' H') X.xe s
def PGs(X:Cx)(ts:List Expr)(t:TGs):Prop :=
 ∀ (pins:List (Addr×Obj)) (s:Shared) (σ:St) (H:Hp) (vs:List V) (us:List Value) (Q:St->Hp->Prop),Inv X pins σ H s->Vals vs us->t vs σ H Q ->
  wpAny (model X.prog X.w) X.A (assignInOrder ((assignEach ts X.env).map (·.2)) us) (fun _ s'=>∃ σ' H',Inv X pins σ' H' s'/\Q σ' H') X.xe s
section
variable {X:Cx}{pos:Pos}
def aRz(i:Nat):TG:=fun v σ H Q=>Q (σ.set i (some v)) H
theorem aJu{i:Nat}{x:Str}(hN:X.N.Nodup)(hi:X.N[i]? = some x)(hx:Loc X.env.scope x)(hf:X.fn x=true\/X.env.scope.names.lookup x=some .local:=by first | exact .inl rfl | exact .inr rfl | assumption):PG X (.Name x pos) (aRz i):=by
 intro pins s σ H v u Q I r h
 exact wpAny_assign_Name (aEo I hN hi hx r (fun s' I'=>⟨_,H,I',h⟩) hf)
def aZh:TGs:=fun vs σ H Q=>vs=[]/\Q σ H
def aXs(t:TG)(u:TGs):TGs:=fun vs σ H Q=>∃ v r,vs=v :: r/\t v σ H fun σ' H'=>u r σ' H' Q
theorem aQa:PGs X [] aZh:=by
 intro pins s σ H vs us Q I r h
 obtain ⟨e,h⟩:=h
 subst e
 cases r
 exact assignInOrder_nil ⟨σ,H,I,h⟩
theorem aLd{e:Expr}{es:List Expr}{t:TG}{u:TGs}(h1:PG X e t)(h2:PGs X es u)
  (hs:(assignEach (e :: es) X.env).map (·.2)=assign e X.env :: (assignEach es X.env).map (·.2):=by rfl):PGs X (e :: es) (aXs t u):=by
 intro pins s σ H vs us Q I r h
 obtain ⟨v,vr,e1,h⟩:=h
 subst e1
 cases r with
 | cons r rr =>
  rw [hs]
  refine assignInOrder_cons (thn (h1 pins s σ H _ _ _ I r h) fun _ s1 ⟨σ1,H1,I1,q1⟩=>?_)
  exact h2 pins s1 σ1 H1 _ _ Q I1 rr q1
def aZy(K:aZz)(n:Nat)(t:TGs):TG:=fun v σ H Q=>∃ a xs,v=.ref a/\SqT K H a xs/\xs.length=n/\t xs σ H Q
theorem aVt{es:List Expr}{k:Nat}{t:TGs}{n:Nat}(hc:X.calm=true)(h:PGs X es t)
  (hn:(assignEach es X.env).length=n:=by rfl) (hst:(assignEach es X.env).findIdx? (·.1)=none:=by rfl):PG X (.Tuple es k pos) (aZy X.K n t):=by
 intro pins s σ H v u Q I r hw
 obtain ⟨a,xs,e1,hq,hl,hw⟩:=hw
 subst e1
 cases r
 obtain ⟨its,rv,ht,hz⟩:=I.tuple hq
 refine assign_Tuple_tuple (I.ok.hd hc) ht (by simp [hn,<- hl,rv.length]) hst fun h' hx=>?_
 have I1:Inv X pins σ H { s with heap:=h' }:=I.kept (t':=s.toks) fun b o e=>hx b o (bAu (aZ9 e)) e
 exact h pins _ σ H xs _ Q I1 (by simpa using rv) hw
def aXb(te:TE)(g:TG):TS:=fun D σ H=>te σ H fun x H1=>g x σ H1 D.nx
theorem aUn{tg e:Expr}{te:TE}{g:TG}(he:PE X e te)(hg:PG X tg g)(hs:swapsWithSole [tg] e pos.line X.env=pure false:=by rfl)(hw:swappedStores [tg] e X.env=pure none:=by rfl)
  (h1:(assignEach [tg] X.env).map (·.2)=[assign tg X.env]:=by rfl):PS X (.Assign [tg] e pos) (aXb te g):=by
 intro pins s σ H D I h
 refine wpAny_Assign_stores (thn (he pins s σ H _ I h) fun v s1 ⟨x,H1,I1,r1,q1⟩=>?_) hs hw
 rw [h1]
 exact thn (hg pins s1 σ H1 x v _ I1 r1 q1) fun _ s2 q=>q
theorem aSy{i:Nat}{x:Str}{e:Expr}{te:TE}{pos':Pos}(hN:X.N.Nodup)(hi:X.N[i]? = some x)(hx:Loc X.env.scope x)(he:PE X e te)(hs:swapsWith e (some (.Name x pos')) pos.line X.env=pure false:=by rfl)(hf:X.fn x=true\/X.env.scope.names.lookup x=some .local:=by first | exact .inl rfl | exact .inr rfl | assumption) :
  PS X (.Assign [.Name x pos'] e pos) (aXb te (aRz i)):=by
 intro pins s σ H D I h
 refine wpAny_Assign_Name (thn (he pins s σ H _ I h) fun v s1 ⟨y,H1,I1,r1,q1⟩=>?_) hs
 exact aEo I1 hN hi hx r1 (fun s2 I2=>⟨_,H1,I2,q1⟩) hf
end
section
variable {X:Cx}{pos:Pos}
def aS6(c:TT)(tb:TS):TS:=fun D σ H=>∃ W:Nat->St->Hp->Prop,(∃ m,W m σ H)/\∀ m σ H,W m σ H ->
 c σ H fun b H1=>if b=true then ∃ N:St->Hp->Prop,(∀ σ' H',N σ' H'->∃ m',m' < m/\W m' σ' H')/\tb { D with nx:=N,ct:=N,bk:=D.nx } σ H1 else D.nx σ H1
theorem aLv{c:Expr}{body:List Stmt}{tc:TT}{tb:TS}(hp:PassesOwn (model X.prog X.w) X.A X.env X.xe)(hc:PT X c tc)(hb:PSs X body tb):PS X (.While c body [] pos) (aS6 tc tb):=by
 intro pins s σ H D I h
 obtain ⟨W,⟨m0,w0⟩,turn⟩:=h
 refine wpAny_While (codeAny_whileLoop (fun n s'=>∃ σ' H',Inv X pins σ' H' s'/\W n σ' H') ?_ m0 ⟨σ,H,I,w0⟩)
 rintro n s1 ⟨σ1,H1,I1,w1⟩
 refine bCq hp (thn (hc pins s1 σ1 H1 _ I1 (turn n σ1 H1 w1)) fun b s2 ⟨H2,I2,q2⟩=>?_)
 cases b with
 | true =>
  obtain ⟨N,hN,q2⟩:=q2
  rw [bAc rfl]
  refine bCq hp (thn (hb pins s2 σ1 H2 _ I2 q2) fun f s3 q3=>?_)
  cases f with
  | next =>
   obtain ⟨σ3,H3,I3,n3⟩:=q3
   obtain ⟨m',hm,w3⟩:=hN σ3 H3 n3
   exact ⟨m',hm,σ3,H3,I3,w3⟩
  | cont =>
   obtain ⟨σ3,H3,I3,n3⟩:=q3
   obtain ⟨m',hm,w3⟩:=hN σ3 H3 n3
   exact ⟨m',hm,σ3,H3,I3,w3⟩
  | brk=>exact q3
  | ret v=>exact q3
 | false =>
  rw [bAg bAs]
  exact bEj ⟨σ1,H2,I2,q2⟩
end
structure It where
 go:Nat->Hp->Prop
 yld:Nat->Hp->V->Hp->Prop
 stop:Nat->Hp->Prop
def aM9(X:Cx)(pins:List (Addr×Obj))(H:Hp)(b:Addr):Prop :=
 H b=none/\b≠X.env.locals/\b∉X.fs/\(b∈X.ex\/X.s₀.heap.objs.size<=b)/\(∀ x c,X.env.cells.lookup x=some c->c≠b)/\∀ p∈X.pn++pins,p.1≠b
theorem Inv.fpOk{X:Cx}{pins:List (Addr×Obj)}{σ:St}{H H':Hp}{s:Shared}{b:Addr}(I:Inv X pins σ H s)(hb:s.heap.objs.size<=b)(hn:H' b=none):aM9 X pins H' b:=by
 refine ⟨hn,bD7 (bAy I.lt hb),I.nofs hb,.inr (bA5 I.sz hb),fun x c e z=>?_,fun p hp z=>?_⟩
 ·obtain ⟨v,q⟩:=I.cell x c e
  exact absurd (bAy q.lt (by rw [z];exact hb)) (bB7 _)
 ·exact absurd (bAy (aZ9 (I.pin p hp).1) (by rw [z];exact hb)) (bB7 _)
structure Turn(P:Program)(w:World)(K:aZz)(tg:Expr)(J:It)(fp:List Addr)(it:Addr)(tn:Nat->Heap->Prop):Prop where
 mem:it∈fp
 obj:∀ i h,tn i h->∀ b∈fp,∃ o,h.get? b=some o/\∀ v,o.data≠.cell v
 keep:∀ i h h',tn i h->(∀ b∈fp,∀ o,h.get? b=some o->h'.get? b=some o)->tn i h'
 item:∀ (X:Cx),X.prog=P->X.w=w->X.K=K->X.calm=true->∀ (i:Nat) (pins:List (Addr×Obj)) (s:Shared) (σ:St) (H:Hp) (E:Value->Shared->Prop),Inv X pins σ H s->(∀ b∈fp,aM9 X pins H b)->tn i s.heap->J.go i H ->
  wpAny (model P w) X.A (pyNext (.ref it)) (fun r s1=>∃ u,r=some u /\
   wpAny (model P w) X.A (letOwnedTupleGo tg (.ref it) u) (fun _ s2=>∃ x H',Inv X pins σ H' s2/\RelV x u/\J.yld i H x H'/\tn (i+1) s2.heap/\∀ b∈fp,H' b=none) E s1) E s
 done:∀ (X:Cx),X.prog=P->X.w=w->X.K=K->X.calm=true->∀ (i:Nat) (pins:List (Addr×Obj)) (s:Shared) (σ:St) (H:Hp) (E:Value->Shared->Prop),Inv X pins σ H s->(∀ b∈fp,aM9 X pins H b)->tn i s.heap->J.stop i H ->
  wpAny (model P w) X.A (pyNext (.ref it)) (fun r s1=>r=none/\Inv X pins σ H s1) E s
 self:∀ (A:Around) (i:Nat) (s:Shared) (Q:Value->Shared->Prop) (E:Value->Shared->Prop),tn i s.heap->Q (.ref it) s->wpAny (model P w) A (pyIter (.ref it)) Q E s
abbrev TI:=St->Hp->(It->Hp->Prop)->Prop
def PIE(X:Cx)(pins:List (Addr×Obj))(σ:St)(tg:Expr)(R:It->Hp->Prop)(itv:Value)(s2:Shared):Prop :=
 ∃ (it:Addr) (fp:List Addr) (tn:Nat->Heap->Prop) (J:It) (H':Hp),itv=.ref it/\Inv X pins σ H' s2/\Turn X.prog X.w X.K tg J fp it tn/\tn 0 s2.heap/\(∀ b∈fp,aM9 X pins H' b)/\R J H'
def PI(X:Cx)(tg iter:Expr)(wi:TI):Prop :=
 ∀ (pins:List (Addr×Obj)) (s:Shared) (σ:St) (H:Hp) (R:It->Hp->Prop),Inv X pins σ H s->wi σ H R ->
  wpAny (model X.prog X.w) X.A (eval iter X.env) (fun v s1=>wpAny (model X.prog X.w) X.A (pyIter v) (PIE X pins σ tg R) X.xe s1) X.xe s
theorem aU7{M:Model}{A:Around}{E:Value->Shared->Prop}{s:Shared}{tg:Expr}{it:Addr}{u:Value}{o:Obj}{n:String}{vs:Array Value}{Q:Unit->Shared->Prop}(ho:s.heap.get? it=some o)(hc:o.cls=.type n)(hd:o.data=.fields vs)
  (hn:["enumerate","zip","dict_itemiterator","dict_reverseitemiterator","odict_iterator","itertools.zip_longest","itertools.pairwise"].contains n=false) (hQ:Q () s):wpAny M A (letOwnedTupleGo tg (.ref it) u) Q E s:=by
 unfold letOwnedTupleGo
 cases tg<;>first
  | exact bAl hQ
  | (cases u<;>first
    | exact bAl hQ
    | (refine aZ1 (wpAny_load ho ?_)
       rw [hc,hd]
       show wpAny M A (if (["enumerate","zip","dict_itemiterator","dict_reverseitemiterator","odict_iterator","itertools.zip_longest","itertools.pairwise"].contains n && vs[0]? == some (rawInt _))=true then _ else _) Q E s
       rw [bAg (by intro h;rw [hn,Bool.false_and] at h;cases h)]
       exact bAl hQ))
def Itl(K:aZz)(a:Addr):It :=
 ⟨fun i H=>∃ xs x,SqL K H a xs/\xs[i]? = some x,fun i H x H'=>H'=H/\∀ xs,SqL K H a xs->xs[i]? = some x,fun i H=>∃ xs,SqL K H a xs/\xs.length<=i⟩
def Itr(lo:Int)(n:Nat):It:=⟨fun i _=>i < n,fun i H x H'=>H'=H/\x=.int (lo+i),fun i _=>n<=i⟩
theorem aIf{P:Program}{w:World}{K:aZz}{tg:Expr}(a it:Addr):Turn P w K tg (Itl K a) [it] it (fun i h=>h.IsListIter it a i) where
 mem:=by simp
 obj:=fun i h st b hb=>by
  have e:b=it:=by simpa using hb
  subst e
  obtain ⟨o,e,c,d⟩:=st
  exact ⟨o,e,fun v z=>by rw [d] at z;cases z⟩
 keep:=fun i h h' st k=>st.at fun o e=>k it (by simp) o e
 item:=by
  intro X hP hw hK hc i pins s σ H E I hf st hg
  subst hP hw hK
  obtain ⟨xs,x,hq,hx⟩:=hg
  obtain ⟨its,rv,p,hz⟩:=I.list hq
  obtain ⟨u,hu,ru⟩:=rv.get hx
  obtain ⟨f0,f1,f2,f3,f4,f5⟩:=hf it (by simp)
  refine wpAny_pyNext_list_item st p.isList (x:=u) (by simpa using hu) fun h' st' sb=>?_
  have I1:Inv X pins σ H { s with heap:=h' }:=I.turned (t':=s.toks) (fun b o hb e=>(sb.2 b hb).trans e) f0 f1 f3 f4 f5
  obtain ⟨o,e,c,d⟩:=id st'
  exact ⟨u,rfl,aU7 (s:={ s with heap:=h' }) e c d (by decide) ⟨x,H,I1,ru,⟨rfl,fun ys hy=>by rw [I.list_inj hy hq];exact hx⟩,st',fun b hb=>(hf b hb).1⟩⟩
 done:=by
  intro X hP hw hK hc i pins s σ H E I hf st hg
  subst hP hw hK
  obtain ⟨xs,hq,hx⟩:=hg
  obtain ⟨its,rv,p,hz⟩:=I.list hq
  obtain ⟨f0,f1,f2,f3,f4,f5⟩:=hf it (by simp)
  have hl:=rv.length
  exact wpAny_pyNext_list_end (I.ok.hd hc) st p.isList (by simp;omega) fun h' eb=>⟨rfl,I.turned (t':=s.toks) (fun b o hb e=>eb b o hb e) f0 f1 f3 f4 f5⟩
 self:=fun _ _ _ _ _ st h=>wpAny_pyIter_listiter st h
theorem aFe{P:Program}{w:World}{K:aZz}{tg:Expr}(it:Addr)(lo:Int)(n:Nat):Turn P w K tg (Itr lo n) [it] it (fun i h=>IsRangeIter h it (lo+(i:Nat)*1) ((n:Int) - (i:Nat)) 1) where
 mem:=by simp
 obj:=fun i h st b hb=>by
  have e:b=it:=by simpa using hb
  subst e
  exact ⟨_,st,fun v z=>by
   have z':Data.fields _=Data.cell v:=z
   cases z'⟩
 keep:=fun i h h' st k=>k it (by simp) _ st
 item:=by
  intro X hP hw hK hc i pins s σ H E I hf st hg
  subst hP hw hK
  obtain ⟨f0,f1,f2,f3,f4,f5⟩:=hf it (by simp)
  have W:=Walks.range (prog:=X.prog) (w:=X.w) (I.ok.hd hc) it lo 1 n
  refine W.item i s _ _ hg st fun v h' tk hv st' kk=>?_
  obtain ⟨t,rfl⟩:=hv
  have I1:Inv X pins σ H { s with heap:=h',toks:=tk }:=I.turned (fun b o hb e=>kk b o (by simpa using hb) e) f0 f1 f3 f4 f5
  refine ⟨_,rfl,aU7 (s:={ s with heap:=h',toks:=tk }) (n:="range_iterator") st' rfl rfl (by decide) ⟨.int (lo+i),H,I1,⟨t,?_⟩,⟨rfl,rfl⟩,st',fun b hb=>(hf b hb).1⟩⟩
  rw [bEk]
 done:=by
  intro X hP hw hK hc i pins s σ H E I hf st hg
  subst hP hw hK
  obtain ⟨f0,f1,f2,f3,f4,f5⟩:=hf it (by simp)
  exact wpAny_pyNext_range_end (I.ok.hd hc) st (by have:n<=i:=hg;omega) fun h' eb=>⟨rfl,I.turned (t':=s.toks) (fun b o hb e=>eb b o hb e) f0 f1 f3 f4 f5⟩
 self:=fun _ _ _ _ _ st h=>wpAny_pyIter_rangeiter st h
section
variable {X:Cx}{tg:Expr}
def aYa(K:aZz)(tl:TE):TI:=fun σ H R=>tl σ H fun x H1=>∃ a,x=.ref a/\(∃ xs,SqL K H1 a xs)/\R (Itl K a) H1
theorem aQ6{l:Expr}{tl:TE}(hl:PE X l tl):PI X tg l (aYa X.K tl):=by
 intro pins s σ H R I h
 refine thn (hl pins s σ H _ I h) fun v s1 ⟨x,H1,I1,r1,q1⟩=>?_
 obtain ⟨a,e,⟨xs,hq⟩,q⟩:=q1
 subst e
 cases r1
 obtain ⟨its,rv,p,hz⟩:=I1.list hq
 refine wpAny_pyIter_list p.isList ?_
 refine ⟨s1.heap.objs.size,[s1.heap.objs.size],_,_,H1,rfl,I1.kept (t':=s1.toks) fun b o e=>aZ4 _ e,aIf a _,⟨_,bAx _ rfl,rfl,rfl⟩,fun b hb=>?_,q⟩
 have e:b=s1.heap.objs.size:=by simpa using hb
 subst e
 exact I1.fpOk (bAf _) (I1.hok.fresh (bAf _))
theorem aEf{pins:List (Addr×Obj)}{σ:St}{H:Hp}{s:Shared}{R:It->Hp->Prop}{E:Value->Shared->Prop}{lo hi:Int}{t u v:Tok}{tk:Nat}(I:Inv X pins σ H s)(h1:-(2 ^ 62)<=lo)(h2:lo < 2 ^ 62)(h3:-(2 ^ 62)<=hi)(h4:hi < 2 ^ 62)
  (q:R (Itr lo (hi - lo).toNat) H):wpAny (model X.prog X.w) X.A (pyIter (.ref s.heap.objs.size)) (PIE X pins σ tg R) E { s with heap:=s.heap.push { cls:=.type "range",data:=.fields #[.int lo t,.int hi u,.int 1 v] },toks:=tk }:=by
 refine wpAny_pyIter_range (IsRange.new ..) (small_one h1 h2 h3 h4) ?_
 have I1:Inv X pins σ H { s with heap:=s.heap.push { cls:=.type "range",data:=.fields #[.int lo t,.int hi u,.int 1 v] },toks:=tk }:=I.kept fun b o e=>aZ4 _ e
 refine ⟨(s.heap.push { cls:=.type "range",data:=.fields #[.int lo t,.int hi u,.int 1 v] }).objs.size,[(s.heap.push { cls:=.type "range",data:=.fields #[.int lo t,.int hi u,.int 1 v] }).objs.size],_,_,H,rfl,
  I1.kept (t':=tk) fun b o e=>aZ4 _ e,aFe _ lo (hi - lo).toNat,?_,fun b hb=>?_,q⟩
 ·have e1:lo+((0:Nat):Int)*1=lo:=by simp
  have e2:(((hi - lo).toNat:Nat):Int) - ((0:Nat):Int)=Builtin.Range.rangeSize lo hi 1:=by rw [rangeSize_one];split<;>omega
  show IsRangeIter _ _ (lo+((0:Nat):Int)*1) ((((hi - lo).toNat:Nat):Int) - ((0:Nat):Int)) 1
  rw [e1,e2]
  exact bAx _ rfl
 ·have e:b=(s.heap.push { cls:=.type "range",data:=.fields #[.int lo t,.int hi u,.int 1 v] }).objs.size:=by simpa using hb
  subst e
  exact I1.fpOk (bAf _) (I1.hok.fresh (bAf _))
def aWu(ta:TA):TI:=fun σ H R=>ta σ H fun vs H1=>∃ j:Int,vs=[.int j]/\-(2 ^ 62)<=j/\j < 2 ^ 62/\R (Itr 0 j.toNat) H1
def aWt(ta:TA):TI:=fun σ H R=>ta σ H fun vs H1=>∃ i j:Int,vs=[.int i,.int j]/\(-(2 ^ 62)<=i/\i < 2 ^ 62/\-(2 ^ 62)<=j/\j < 2 ^ 62)/\R (Itr i (j - i).toNat) H1
theorem aH8{a:Expr}{ta:TA}{p pos:Pos}(hg:Gl X "range")(hm:X.mg "range" = none)(ha:PA X [a] ta)(hs:starEach [a] X.env=[(false,eval a X.env)]:=by rfl):PI X tg (.Call (.Name "range" p) [a] [] pos) (aWu ta):=by
 intro pins s σ H R I h
 refine Call_ (qO I hg hm boot_range (bBi (thn (ha pos pins s σ H _ I h) fun us s1 ⟨vs,H1,I1,r1,q1⟩=>?_) hs rfl))
 obtain ⟨j,e,q1,q2,q⟩:=q1
 subst e
 cases r1 with
 | cons r rr =>
  cases rr
  obtain ⟨t,rfl⟩:=r
  exact call_range_1 (aEf I1 (by omega) (by omega) q1 q2 (by simpa using q))
theorem aIq{a b:Expr}{ta:TA}{p pos:Pos}(hg:Gl X "range")(hm:X.mg "range" = none)(ha:PA X [a,b] ta)(hs:starEach [a,b] X.env=[(false,eval a X.env),(false,eval b X.env)]:=by rfl)(hs2:starEach [b] X.env=[(false,eval b X.env)]:=by rfl) :
  PI X tg (.Call (.Name "range" p) [a,b] [] pos) (aWt ta):=by
 intro pins s σ H R I h
 refine Call_ (qO I hg hm boot_range (bBi (thn (ha pos pins s σ H _ I h) fun us s1 ⟨vs,H1,I1,r1,q1⟩=>?_) (by rw [hs,hs2]) (by rw [hs2];rfl)))
 obtain ⟨i,j,e,⟨q1,q2,q3,q4⟩,q⟩:=q1
 subst e
 cases r1 with
 | cons r rr =>
  cases rr with
  | cons r' rr =>
   cases rr
   obtain ⟨t,rfl⟩:=r
   obtain ⟨t',rfl⟩:=r'
   exact call_range_2 (aEf I1 q1 q2 q3 q4 q)
def aZs(wi:TI)(g:TG)(tb:TS):TS:=fun D σ H=>wi σ H fun J H1=>∃ W:Nat->Nat->St->Hp->Prop,(∃ m,W 0 m σ H1)/\∀ i m σ H,W i m σ H ->
 (J.stop i H/\D.nx σ H)\/(J.go i H/\∃ N:St->Hp->Prop,(∀ σ' H',N σ' H'->∃ m',m' < m/\W (i+1) m' σ' H')/\∀ x H',J.yld i H x H'->g x σ H' fun σ2 H2=>tb { D with nx:=N,ct:=N,bk:=D.nx } σ2 H2)
def aDi(fp:List Addr)(h:Heap):List (Addr×Obj):=fp.filterMap fun b=>(h.get? b).map fun o=>(b,o)
theorem iI{fp:List Addr}{h:Heap}{b:Addr}{o:Obj}(hb:b∈fp)(e:h.get? b=some o):(b,o)∈aDi fp h:=bE0.mpr ⟨b,hb,by rw [e];rfl⟩
theorem aHw{fp:List Addr}{h:Heap}{p:Addr×Obj}(hp:p∈aDi fp h):p.1∈fp/\h.get? p.1=some p.2:=by
 obtain ⟨b,hb,e⟩:=bE0.mp hp
 cases q:h.get? b with
 | none=>rw [q] at e;cases e
 | some o =>
  rw [q] at e
  have e':(b,o)=p:=bAn e
  subst e'
  exact ⟨hb,q⟩
theorem Inv.pinned{pins:List (Addr×Obj)}{σ:St}{H:Hp}{s:Shared}{fp:List Addr}(I:Inv X pins σ H s)(hf:∀ b∈fp,aM9 X pins H b)(ho:∀ b∈fp,∃ o,s.heap.get? b=some o/\∀ v,o.data≠.cell v):Inv X (pins++aDi fp s.heap) σ H s :=
 I.pins_of fun p hp=>(bB1.mp hp).elim (fun z=>I.pin p (bAo _ z)) fun z=>by
  obtain ⟨hb,e⟩:=aHw z
  obtain ⟨f0,f1,f2,_⟩:=hf p.1 hb
  obtain ⟨o,e',d⟩:=ho p.1 hb
  rw [e] at e';cases e'
  exact ⟨e,f0,f1,f2,d⟩
theorem Inv.unpinned{pins pl:List (Addr×Obj)}{σ:St}{H:Hp}{s:Shared}(I:Inv X (pins++pl) σ H s):Inv X pins σ H s:=I.pins_of fun p hp=>I.pin p (bAo _ (bDd _ hp))
theorem aVp{iter:Expr}{body:List Stmt}{wi:TI}{g:TG}{tb:TS}{pos:Pos}(hp:PassesOwn (model X.prog X.w) X.A X.env X.xe)(hc:X.calm=true)(hi:PI X tg iter wi)(hg:PG X tg g)(hb:PSs X body tb)
  (hs:∀ x,foldedSetIterable iter X.env x=pure x:=by intro _;rfl):PS X (.For tg iter body [] pos) (aZs wi g tb):=by
 intro pins s σ H D I h
 refine wpAny_For (thn (hi pins s σ H _ I h) fun v s1 h1=>thn h1 fun itv s2 h2=>?_) hs
 obtain ⟨it,fp,tn,J,H2,e,I2,T,st2,f2,W,⟨m0,w0⟩,turn⟩:=h2
 subst e
 have stat:∀ {H':Hp},(∀ b∈fp,H' b=none)->∀ b∈fp,aM9 X pins H' b:=fun hn b hb=>⟨hn b hb,(f2 b hb).2⟩
 refine codeAny_forLoop_any (fun n s'=>∃ i σ' H',Inv X pins σ' H' s'/\tn i s'.heap/\(∀ b∈fp,H' b=none)/\W i n σ' H') ?_ m0 ⟨0,σ,H2,I2,st2,fun b hb=>(f2 b hb).1,w0⟩
 rintro n s3 ⟨i,σ3,H3,I3,st3,fr3,w3⟩
 rcases turn i n σ3 H3 w3 with ⟨stop,qn⟩ | ⟨go,N,hN,step⟩
 ·refine bCq hp (thn (T.done X rfl rfl rfl hc i pins s3 σ3 H3 X.xe I3 (stat fr3) st3 stop) fun r s4 ⟨hr,I4⟩=>?_)
  subst hr
  exact bEj ⟨σ3,H3,I4,qn⟩
 ·refine bCq hp (thn (T.item X rfl rfl rfl hc i pins s3 σ3 H3 X.xe I3 (stat fr3) st3 go) fun r s4 ⟨u,hr,h4⟩=>?_)
  subst hr
  refine bCq hp (thn h4 fun _ s5 ⟨x,H5,I5,r5,y5,st5,fr5⟩=>?_)
  have I5':=I5.pinned (stat fr5) (T.obj _ _ st5)
  refine bCq hp (thn (hg _ s5 σ3 H5 x u _ I5' r5 (step x H5 y5)) fun _ s6 ⟨σ6,H6,I6,q6⟩=>?_)
  refine bCq hp (thn (hb _ s6 σ6 H6 _ I6 q6) fun f s7 q7=>?_)
  have again:∀ {σ7:St} {H7:Hp},Inv X (pins++aDi fp s5.heap) σ7 H7 s7->N σ7 H7->∃ m,m < n/\∃ i σ' H',Inv X pins σ' H' s7/\tn i s7.heap/\(∀ b∈fp,H' b=none)/\W i m σ' H':=fun {σ7 H7} I7 n7=>by
   obtain ⟨m',hm,w7⟩:=hN σ7 H7 n7
   refine ⟨m',hm,i+1,σ7,H7,I7.unpinned,T.keep _ _ _ st5 fun b hb o e=>(I7.pin (b,o) (bAo _ (bAo _ (iI hb e)))).1,fun b hb=>?_,w7⟩
   obtain ⟨o,e,d⟩:=T.obj _ _ st5 b hb
   exact (I7.pin (b,o) (bAo _ (bAo _ (iI hb e)))).2.1
  cases f with
  | next=>obtain ⟨σ7,H7,I7,n7⟩:=q7;exact again I7 n7
  | cont=>obtain ⟨σ7,H7,I7,n7⟩:=q7;exact again I7 n7
  | brk=>obtain ⟨σ7,H7,I7,q7⟩:=q7;exact ⟨σ7,H7,I7.unpinned,q7⟩
  | ret v=>obtain ⟨x7,σ7,H7,I7,r7,q7⟩:=q7;exact ⟨x7,σ7,H7,I7.unpinned,r7,q7⟩
end
abbrev R2:=V->V->Hp->VK->Prop
def OpR(X:Cx)(f:Value->Value->Sem Value)(r:R2):Prop :=
 ∀ (pins:List (Addr×Obj)) (s:Shared) (σ:St) (H:Hp) (x y:V) (v u:Value) (Q:VK),Inv X pins σ H s->RelV x v->RelV y u->r x y H Q ->
  wpAny (model X.prog X.w) X.A (f v u) (EP X pins σ Q) X.xe s
def UnR(X:Cx)(f:Value->Sem Value)(r:V->Hp->VK->Prop):Prop :=
 ∀ (pins:List (Addr×Obj)) (s:Shared) (σ:St) (H:Hp) (x:V) (v:Value) (Q:VK),Inv X pins σ H s->RelV x v->r x H Q ->
  wpAny (model X.prog X.w) X.A (f v) (EP X pins σ Q) X.xe s
def nU(X:Cx)(f:Value)(r:List V->Hp->VK->Prop):Prop :=
 ∀ (pins:List (Addr×Obj)) (s:Shared) (σ:St) (H:Hp) (xs:List V) (us:List Value) (Q:VK),Inv X pins σ H s->Vals xs us->r xs H Q ->
  wpAny (model X.prog X.w) X.A (call f us) (EP X pins σ Q) X.xe s
def tOp(r:R2)(ta tb:TE):TE:=fun σ H Q=>ta σ H fun x H1=>tb σ H1 fun y H2=>r x y H2 Q
def tUn(r:V->Hp->VK->Prop)(ta:TE):TE:=fun σ H Q=>ta σ H fun x H1=>r x H1 Q
def rI(C:Int->Int->Prop)(g:Int->Int->V):R2:=fun x y H Q=>∃ i j,x=.int i/\y=.int j/\C i j/\Q (g i j) H
def rI0(g:Int->Int->V):R2:=fun x y H Q=>∃ i j,x=.int i/\y=.int j/\Q (g i j) H
def rU(g:Int->V):V->Hp->VK->Prop:=fun x H Q=>∃ i,x=.int i/\Q (g i) H
section
variable {X:Cx}{a b c:Expr}{ta tb tc:TE}{pos:Pos}
theorem aYb(ha:PE X a ta)(hb:PE X b tb){pins:List (Addr×Obj)}{s:Shared}{σ:St}{H:Hp}{R:V->V->Hp->Prop}(I:Inv X pins σ H s)
  (h:ta σ H fun x H1=>tb σ H1 fun y H2=>R x y H2) {Q:Value->Shared->Prop} {f:Value->Value->Sem Value}
  (hf:∀ v u s2 x y H2,Inv X pins σ H2 s2->RelV x v->RelV y u->R x y H2->wpAny (model X.prog X.w) X.A (f v u) Q X.xe s2) :
  wpAny (model X.prog X.w) X.A (eval a X.env) (fun v s₁=>wpAny (model X.prog X.w) X.A (eval b X.env) (fun u s₂=>wpAny (model X.prog X.w) X.A (f v u) Q X.xe s₂) X.xe s₁) X.xe s:=by
 refine thn (ha pins s σ H _ I h) fun v s1 ⟨x,H1,I1,r1,q1⟩=>?_
 refine thn (hb pins s1 σ H1 _ I1 q1) fun u s2 ⟨y,H2,I2,r2,q2⟩=>?_
 exact hf v u s2 x y H2 I2 r1 r2 q2
theorem aV8{op:Operator}{r:R2}(ho:OpR X (binaryOp op) r)(ha:PE X a ta)(hb:PE X b tb):PE X (.BinOp a op b pos) (tOp r ta tb):=by
 intro pins s σ H Q I h
 exact wpAny_BinOp (aYb ha hb I h fun v u s2 x y H2 I2 rx ry q=>ho pins s2 σ H2 x y v u Q I2 rx ry q)
theorem aXt{op:UnaryOp}{r:V->Hp->VK->Prop}(ho:UnR X (unaryOp op) r)(ha:PE X a ta):PE X (.UnaryOp op a pos) (tUn r ta):=by
 intro pins s σ H Q I h
 exact UnaryOp_ (thn (ha pins s σ H _ I h) fun v s1 ⟨x,H1,I1,r1,q1⟩=>ho pins s1 σ H1 x v Q I1 r1 q1)
theorem opI{f:Value->Value->Sem Value}{C:Int->Int->Prop}{g:Int->Int->Int}
  (rule:∀ (i j:Int) (t u:Tok) (s:Shared) (Q:Value->Shared->Prop) (E:Value->Shared->Prop),C i j->Q (.int (g i j) s.toks) { s with toks:=s.toks+1 }->wpAny (model X.prog X.w) X.A (f (.int i t) (.int j u)) Q E s) :
  OpR X f (rI C fun i j=>.int (g i j)):=by
 intro pins s σ H x y v u Q I rx ry h
 obtain ⟨i,j,rfl,rfl,hc,q⟩:=h
 obtain ⟨t,rfl⟩:=rx
 obtain ⟨t',rfl⟩:=ry
 exact rule i j t t' s _ _ hc ⟨.int (g i j),H,I.tok _,⟨_,rfl⟩,q⟩
theorem aYw{f:Value->Value->Sem Value}{g:Int->Int->Int}
  (rule:∀ (i j:Int) (t u:Tok) (s:Shared) (Q:Value->Shared->Prop) (E:Value->Shared->Prop),Q (.int (g i j) s.toks) { s with toks:=s.toks+1 }->wpAny (model X.prog X.w) X.A (f (.int i t) (.int j u)) Q E s) :
  OpR X f (rI0 fun i j=>.int (g i j)):=by
 intro pins s σ H x y v u Q I rx ry h
 obtain ⟨i,j,rfl,rfl,q⟩:=h
 obtain ⟨t,rfl⟩:=rx
 obtain ⟨t',rfl⟩:=ry
 exact rule i j t t' s _ _ ⟨.int (g i j),H,I.tok _,⟨_,rfl⟩,q⟩
theorem aYg{f:Value->Value->Sem Value}{g:Int->Int->Bool}
  (rule:∀ (i j:Int) (t u:Tok) (s:Shared) (Q:Value->Shared->Prop) (E:Value->Shared->Prop),Q (.bool (g i j)) s->wpAny (model X.prog X.w) X.A (f (.int i t) (.int j u)) Q E s) :
  OpR X f (rI0 fun i j=>.bl (g i j)):=by
 intro pins s σ H x y v u Q I rx ry h
 obtain ⟨i,j,rfl,rfl,q⟩:=h
 obtain ⟨t,rfl⟩:=rx
 obtain ⟨t',rfl⟩:=ry
 exact rule i j t t' s _ _ ⟨.bl (g i j),H,I,rfl,q⟩
def aJd(i j:Int):Prop:=0<=j/\j<=1000000/\i.natAbs < 2 ^ 64
def CMul(i j:Int):Prop:=(-(2 ^ 64) < i/\i < 2 ^ 64)\/(-(2 ^ 64) < j/\j < 2 ^ 64)
theorem CMul.ok{i j:Int}(h:CMul i j):IntMulOk i j:=by
 rcases h with ⟨h1,h2⟩ | ⟨h1,h2⟩
 ·exact .of_left (intBits_le_64 h1 h2)
 ·exact .of_right (intBits_le_64 h1 h2)
theorem aTi:OpR X (binaryOp .Add) (rI0 fun i j=>.int (i+j)):=aYw fun _ _ _ _ _ _ _ q=>add_int q
theorem dH:OpR X (binaryOp .Sub) (rI0 fun i j=>.int (i - j)):=aYw fun _ _ _ _ _ _ _ q=>sub_int q
theorem cD:OpR X (binaryOp .Mod) (rI (fun _ j=>j≠0) fun i j=>.int (i.fmod j)):=opI fun _ _ _ _ _ _ _ hc q=>mod_int' hc q
theorem l9:OpR X (binaryOp .Pow) (rI aJd fun i j=>.int (i ^ j.toNat)):=opI fun _ _ _ _ _ _ _ hc q=>pow_int_small hc.1 hc.2.1 hc.2.2 q
theorem unI{f:Value->Sem Value}{g:Int->Int}
  (rule:∀ (i:Int) (t:Tok) (s:Shared) (Q:Value->Shared->Prop) (E:Value->Shared->Prop),Q (.int (g i) s.toks) { s with toks:=s.toks+1 }->wpAny (model X.prog X.w) X.A (f (.int i t)) Q E s) :
  UnR X f (rU fun i=>.int (g i)):=by
 intro pins s σ H x v Q I rx h
 obtain ⟨i,rfl,q⟩:=h
 obtain ⟨t,rfl⟩:=rx
 exact rule i t s _ _ ⟨.int (g i),H,I.tok _,⟨_,rfl⟩,q⟩
theorem aUz:UnR X (unaryOp .USub) (rU fun i=>.int (-i)):=unI fun _ _ _ _ _ q=>neg_int q
end
section
variable {X:Cx}{a b c:Expr}{ta tb tc:TE}{pos:Pos}
theorem xU:OpR X (compareOp .Lt) (rI0 fun i j=>.bl (decide (i < j))):=aYg fun _ _ _ _ _ _ _ q=>lt_int q
theorem aVv:OpR X (compareOp .LtE) (rI0 fun i j=>.bl (decide (i<=j))):=aYg fun _ _ _ _ _ _ _ q=>le_int q
theorem aIe:OpR X (compareOp .Gt) (rI0 fun i j=>.bl (decide (j < i))):=aYg fun _ _ _ _ _ _ _ q=>gt_int q
theorem OpR.or{f:Value->Value->Sem Value}{r r':R2}(h:OpR X f r)(h':OpR X f r'):OpR X f (fun x y H Q=>r x y H Q\/r' x y H Q):=by
 intro pins s σ H x y v u Q I rx ry q
 rcases q with q | q
 ·exact h pins s σ H x y v u Q I rx ry q
 ·exact h' pins s σ H x y v u Q I rx ry q
theorem cN(b:Expr){op:CmpOp}(h:op≠.In:=by decide)(h2:op≠.NotIn:=by decide):behindInMarks op b=false:=by
 have e1:(op == CmpOp.In)=false:=by cases op<;>first | rfl | exact absurd rfl h
 have e2:(op == CmpOp.NotIn)=false:=by cases op<;>first | rfl | exact absurd rfl h2
 cases b<;>simp [behindInMarks,e1,e2]
theorem aQk{op:CmpOp}{r:R2}(ho:OpR X (compareOp op) r)(ha:PE X a ta)(hb:PE X b tb)(hm:behindInMarks op b=false):PE X (.Compare a [op] [b] pos) (tOp r ta tb):=by
 intro pins s σ H Q I h
 exact wpAny_Compare1 (aYb ha hb I h fun v u s2 x y H2 I2 rx ry q=>ho pins s2 σ H2 x y v u Q I2 rx ry q) hm
def aXc(t:TE):TT:=fun σ H Q=>t σ H fun x H'=>∃ k,x=.bl k/\Q k H'
theorem aRi{op:CmpOp}{r:R2}(ho:OpR X (compareOp op) r)(ha:PE X a ta)(hb:PE X b tb)(hm:behindInMarks op b=false):PT X (.Compare a [op] [b] pos) (aXc (tOp r ta tb)):=by
 intro pins s σ H Q I h
 refine wpAny_isTrue_Compare1 (thn (ha pins s σ H _ I h) fun v s1 ⟨x,H1,I1,r1,q1⟩=>thn (hb pins s1 σ H1 _ I1 q1) fun u s2 ⟨y,H2,I2,r2,q2⟩ =>
  thn (ho pins s2 σ H2 x y v u _ I2 r1 r2 q2) fun c s3 ⟨z,H3,I3,r3,k,e,q3⟩=>?_) hm
 subst e
 cases r3
 exact bCf ⟨H3,I3,q3⟩
theorem aD0:(sizeLine:Nat) < 2 ^ 63:=by rw [bCy];decide
theorem aFs:OpR X (binaryOp .Add) (fun x y H Q=>∃ i j,x=.str i/\y=.str j/\i.length+j.length<=sizeLine/\Q (.str (i++j)) H):=by
 intro pins s σ H x y v u Q I rx ry h
 obtain ⟨i,j,rfl,rfl,hz,q⟩:=h
 obtain ⟨t,rfl⟩:=rx
 obtain ⟨t',rfl⟩:=ry
 exact add_str (fun t' tk=>⟨.str (i++j),H,I.tok _,⟨_,rfl⟩,q⟩) hz
theorem vals1{x:V}{us:List Value}(r:Vals [x] us):∃ u,us=[u]/\RelV x u:=by
 cases r with
 | cons r1 r2=>cases r2;exact ⟨_,rfl,r1⟩
theorem vals2{x y:V}{us:List Value}(r:Vals [x,y] us):∃ u w',us=[u,w']/\RelV x u/\RelV y w':=by
 cases r with
 | cons r1 r2 =>
  cases r2 with
  | cons r3 r4=>cases r4;exact ⟨_,_,rfl,r1,r3⟩
theorem pT:nU X (.builtin "abs") (fun xs H Q=>∃ i,xs=[.int i]/\Q (.int (if i < 0 then -i else i)) H):=by
 intro pins s σ H xs us Q I r h
 obtain ⟨i,rfl,q⟩:=h
 obtain ⟨u,rfl,t,rfl⟩:=vals1 r
 exact call_abs_int fun u tk=>⟨.int (if i < 0 then -i else i),H,I.tok _,⟨_,rfl⟩,q⟩
theorem tQ(hc:X.calm=true):nU X (.builtin "max") (fun xs H Q=>∃ i j,xs=[.int i,.int j]/\Q (.int (if j > i then j else i)) H):=by
 intro pins s σ H xs us Q I r h
 obtain ⟨i,j,rfl,q⟩:=h
 obtain ⟨u,w',rfl,⟨t,rfl⟩,⟨t',rfl⟩⟩:=vals2 r
 refine max_two_ints (I.ok.hd hc) fun h' tk k=>⟨_,H,I.kept k,?_,q⟩
 by_cases hj:j > i
 ·rw [bAc hj,bAc hj];exact ⟨_,rfl⟩
 ·rw [bAg hj,bAg hj];exact ⟨_,rfl⟩
end
section
variable {prog:Program}{w:World}{A:Around}{E:Value->Shared->Prop}{s:Shared}{K:aZz}{x dx C f:Addr}{mA:Str->Option Value}{name:Str}{v:Value}
end
theorem RelO.some_of{v:V}{o:Option Value}(r:RelO (some v) o):∃ u,o=some u/\RelV v u:=by
 cases o with
 | none=>exact (show False from r).elim
 | some u=>exact ⟨u,rfl,r⟩
section
variable {P:Program}{w:World}{H H':Hp}{h h':Heap}{a C dx:Addr}{fs fs':List (Str×V)}
end
section
variable {X:Cx}{pins:List (Addr×Obj)}{σ:St}{H:Hp}{s:Shared}{a C dx:Addr}{fs:List (Str×V)}{f:Str}{v:V}{A:Around}{E:Value->Shared->Prop}
end
section
variable {X:Cx}{o e value:Expr}{f:Str}{pos pos' tpos:Pos}{ta tv:TE}
end
section
variable {X:Cx}{pins:List (Addr×Obj)}{σ:St}{H:Hp}{s:Shared}{A:Around}{E:Value->Shared->Prop}{Q:Value->Shared->Prop}{c:Value}{b:Bool}
end
structure Room(k:Nat)(A:Around):Prop where
 hd:A.handled=none
 dp:A.depth+3*k+5 < recursionLimit
 un:A.units+16*k+200 < cLine
theorem Room.mono{j k:Nat}{A:Around}(r:Room k A)(h:j<=k):Room j A:=⟨r.hd,by have:=r.dp;omega,by have:=r.un;omega⟩
theorem Room.deeper{k:Nat}{A:Around}(r:Room (k+1) A)(env:Env):Room k (A.deeper env) :=
 ⟨r.hd,by have:=r.dp;show A.depth+1+3*k+5 < _;omega,by have:=r.un;show A.units+3+16*k+200 < _;omega⟩
theorem Room.depth{k:Nat}{A:Around}(r:Room k A):A.depth < recursionLimit:=by have:=r.dp;omega
def aXq:TA:=fun _ H Q=>Q [] H
def aRx(ta:TE)(tr:TA):TA:=fun σ H Q=>ta σ H fun x H1=>tr σ H1 fun xs H2=>Q (x :: xs) H2
section
variable {X:Cx}{e:Expr}{es:List Expr}{te:TE}{t:TA}{pos:Pos}
theorem vP:PA X [] aXq:=fun _ _ _ _ H Q I h=>bFd ⟨[],H,I,.nil,h⟩
theorem qI(ha:PE X e te)(hr:PA X es t)(hs:starEach (e :: es) X.env=(false,eval e X.env) :: starEach es X.env:=by rfl):PA X (e :: es) (aRx te t):=by
 intro pos pins s σ H Q I h
 rw [hs]
 show wpAny _ _ (spliced ((false,eval e X.env) :: backTo pos (starEach es X.env))) _ _ s
 refine bE1 (thn (ha pins s σ H _ I h) fun u s1 ⟨x,H1,I1,r1,q1⟩=>?_)
 exact thn (hr pos pins s1 σ H1 _ I1 q1) fun us s2 ⟨xs,H2,I2,r2,q2⟩=>⟨x :: xs,H2,I2,.cons r1 r2,q2⟩
def aZx(t:TA):TE:=fun σ H Q=>t σ H fun xs H1=>xs.length<=sizeLine/\∀ p,H1 p=none->Q (.ref p) (upd H1 p (.tup xs))
def aZe(t:TA):TE:=fun σ H Q=>t σ H fun xs H1=>xs.length<=sizeLine/\∀ p,H1 p=none->Q (.ref p) (upd H1 p (.lst xs))
theorem aUs{x1}(h:PA X es t):PE X (.Tuple es x1 pos) (aZx t):=by
 intro pins s σ H Q I hq
 refine wpAny_Tuple_spliced (thn (h pos pins s σ H _ I hq) fun us s1 ⟨xs,H1,I1,r,z,q⟩=>⟨by rw [<- r.length];exact z,?_⟩)
 have hf:H1 s1.heap.objs.size=none:=I1.hok.fresh (bAf _)
 refine ⟨.ref s1.heap.objs.size,upd H1 s1.heap.objs.size (.tup xs),I1.laid (t':=s1.toks) (fun b u e=>aZ4 _ e) (bAf _) ?_,rfl,q _ hf⟩
 exact ⟨z,us,r,⟨_,bAx _ rfl,rfl,_,rfl⟩⟩
theorem aU6(h:PA X es t):PE X (.List es pos) (aZe t):=by
 intro pins s σ H Q I hq
 refine wpAny_List_spliced (thn (h pos pins s σ H _ I hq) fun us s1 ⟨xs,H1,I1,r,z,q⟩=>⟨by rw [<- r.length];exact z,?_⟩)
 have hf:H1 s1.heap.objs.size=none:=I1.hok.fresh (bAf _)
 refine ⟨.ref s1.heap.objs.size,upd H1 s1.heap.objs.size (.lst xs),I1.laid (t':=s1.toks) (fun b u e=>aZ4 _ e) (bAf _) ?_,rfl,q _ hf⟩
 exact ⟨z,us,0,r,bAx _ rfl⟩
end
abbrev Sp:=List V->Hp->VK->XK->Prop
abbrev CXT:=List Env->Hp->Shared->XK->Value->Shared->Prop
structure aV6(P:Program)(w:World)(K:aZz)(mg:Str->Option Value)(base:Heap)(A:Around)(outer:List Env)(s:Shared)(H:Hp):Prop where
 frames:A.frames=some outer
 mod:Mod K mg base
 bs:∀ b o,base.get? b=some o->s.heap.get? b=some o/\H b=none
 bsz:base.objs.size<=s.heap.objs.size
 funs:s.heap.FunFrames base outer
 frf:∀ b∈frs outer,H b=none
 hok:HOk P w H s.heap
 bare:AllBare s.gens
 tab:Tbs K H
def CE(outer:List Env)(P:Program)(w:World)(H:Hp)(s:Shared)(Q:VK)(u:Value)(s':Shared):Prop :=
 ∃ v H',s'.os=s.os/\AllBare s'.gens/\Un (frs outer) [] H H' s.heap s'.heap/\HOk P w H' s'.heap/\RelV v u/\Q v H'
def CR(CX:CXT)(outer:List Env)(P:Program)(w:World)(H:Hp)(s:Shared)(Q:VK)(E:XK)(r:Result)(s':Shared):Prop :=
 match r with
 | .ok (.ret u)=>CE outer P w H s Q u s'
 | .ok _=>False
 | .error e=>CX outer H s E e s'
structure FnOk(P:Program)(w:World)(K:aZz)(mg:Str->Option Value)(base:Heap)(CX:CXT)(k:Nat)(f:Addr)(fd:FuncData)(ps:List Str)(sp:Sp):Prop where
 len:∀ vs H Q E,sp vs H Q E->vs.length=ps.length
 run:∀ (A:Around) (outer:List Env) (s:Shared) (H:Hp) (args:Args) (us:List Value) (vs:List V) (Q:VK) (E:XK),Room k A->aV6 P w K mg base A outer s H->BindsTo s fd args (ps.zip us)->Vals vs us->sp vs H Q E ->
  codeAny (model P w) A (.call (.ref f) args) (CR CX outer P w H s Q E) s
theorem FnOk.mono{P:Program}{w:World}{K:aZz}{mg:Str->Option Value}{base:Heap}{CX:CXT}{j k:Nat}{f:Addr}{fd:FuncData}{ps:List Str}{sp:Sp}(F:FnOk P w K mg base CX j f fd ps sp)(h:j<=k) :
  FnOk P w K mg base CX k f fd ps sp:=⟨F.len,fun A outer s H args us vs Q E hr=>F.run A outer s H args us vs Q E (hr.mono h)⟩
theorem FnOk.imp{P:Program}{w:World}{K:aZz}{mg:Str->Option Value}{base:Heap}{CX:CXT}{k:Nat}{f:Addr}{fd:FuncData}{ps:List Str}{sp sp':Sp}(F:FnOk P w K mg base CX k f fd ps sp)
  (h:∀ vs H Q E,sp' vs H Q E->sp vs H Q E):FnOk P w K mg base CX k f fd ps sp' :=
 ⟨fun vs H Q E q=>F.len vs H Q E (h _ _ _ _ q),fun A outer s H args us vs Q E hr he hb hv hs=>F.run A outer s H args us vs Q E hr he hb hv (h _ _ _ _ hs)⟩
section
variable {X:Cx}{pins:List (Addr×Obj)}{σ:St}{H:Hp}{s s':Shared}
theorem Inv.env0(I:Inv X pins σ H s):aV6 X.prog X.w X.K X.mg X.base X.A X.stack s H :=
 ⟨I.ok.frames,I.ok.mod,I.bs,bA5 I.ok.bsz I.sz,I.stack,I.stkFree,I.hok,I.bare,I.tab⟩
theorem Inv.after{Q:VK}{u:Value}(I:Inv X pins σ H s)(h:CE X.stack X.prog X.w H s Q u s'):EP X pins σ Q u s':=by
 obtain ⟨v,H',os,bare,un,hok,r,q⟩:=h
 obtain ⟨hh,g,d,t,os'⟩:=s'
 obtain rfl:os'=s.os:=os
 exact ⟨v,H',I.call (h':=hh) (g':=g) (d':=d) (t':=t) (ch:=[]) un hok bare (fun b z=>absurd z (by simp)),r,q⟩
end
def Binds(K:aZz)(fd:FuncData)(ps:List Str)(ds:List Value):Prop :=
 ∀ (s:Shared) (us:List Value),K.In s.heap->(us++ds).length=ps.length->BindsTo s fd ⟨us,[]⟩ (ps.zip (us++ds))
theorem Binds.all{K:aZz}{fd:FuncData}{ps:List Str}(h:∀ us:List Value,us.length=ps.length->bindArgs fd ⟨us,[]⟩=pure (ps.zip us)):Binds K fd ps []:=fun s us _ hl=>by
 rw [bCr] at hl ⊢
 exact .of_eq (h us hl)
def aU3(CX:CXT)(X:Cx)(E:XK):Prop:=∀ (pins:List (Addr×Obj)) (σ:St) (H:Hp) (s:Shared) (e:Value) (s':Shared),Inv X pins σ H s->CX X.stack H s E e s'->X.xe e s'
section
variable {X:Cx}{CX:CXT}{k:Nat}{f C:Addr}{fd:FuncData}{ps:List Str}{sp:Sp}{dvs:List V}{ds:List Value}{E:XK}{x m:Str}{p pos apos:Pos}{e o:Expr}{es:List Expr}{ta:TE}{t:TA}
end
section
variable {X:Cx}{CX:CXT}{k:Nat}{f C:Addr}{fd:FuncData}{ps ks:List Str}{sp:Sp}{E:XK}{x m:Str}{p pos apos kpos:Pos}{e o:Expr}{es:List Expr}{kws:List Keyword}{te ta:TE}{t tk:TA}{nm:Option Str}
variable {g:List Value->List Value->List Value}{gV:List V->List V->List V}
end
structure aY(N P:List Str)(sc:Scope):Prop where
 kind:sc.kind=.function
 co:sc.isCoroutine=false
 gen:sc.isGenerator=false
 nd:N.Nodup
 pre:N.take P.length=P
 par:∀ x∈P,sc.names.lookup x=some .local\/sc.names.lookup x=some .cell
 nofree:∀ y∈sc.names,y.2≠.free
theorem zJ{kindOf:Str->Option NameKind}{x:Str}:∀ {binds:List (Str×Value)} {m:Str->Option Value},(∀ v,(x,v)∉binds)->bindL kindOf binds m x=m x
 | [],_,_=>rfl
 | (n,v) :: r,m,h=>by
  unfold bindL
  rw [zJ fun w hw=>h w (bBn _ hw)]
  split
  ·have:x≠n:=by rintro rfl;exact h v bDp
   simp [this]
  ·rfl
theorem yM{kindOf:Str->Option NameKind}{x:Str}:∀ {binds:List (Str×Value)} {m:Str->Option Value},(∀ v,(x,v)∉binds)->bindC kindOf binds m x=m x
 | [],_,_=>rfl
 | (n,v) :: r,m,h=>by
  unfold bindC
  rw [yM fun w hw=>h w (bBn _ hw)]
  split
  ·rfl
  ·have:x≠n:=by rintro rfl;exact h v bDp
   simp [this]
theorem zU{kindOf:Str->Option NameKind}{x:Str}{v:Value}:∀ {P:List Str} {vs:List Value} {i:Nat} {m:Str->Option Value},P.Nodup->P[i]? = some x->vs[i]? = some v->kindOf x=some .local ->
  bindL kindOf (P.zip vs) m x=some v
 | [],_,_,_,_,h,_,_=>by simp at h
 | _ :: _,[],_,_,_,_,h,_=>by simp at h
 | p :: P,w :: vs,0,m,nd,h1,h2,hk=>by
  simp at h1 h2;subst h1;subst h2
  show bindL kindOf ((p,w) :: P.zip vs) m p=_
  unfold bindL
  rw [zJ fun v hv=>(bEl.mp nd).1 (bF7 hv).1,bAc hk]
  simp
 | p :: P,w :: vs,i+1,m,nd,h1,h2,hk=>by
  show bindL kindOf ((p,w) :: P.zip vs) m x=_
  unfold bindL
  exact zU (i:=i) (bEl.mp nd).2 (by simpa using h1) (by simpa using h2) hk
theorem yP{kindOf:Str->Option NameKind}{x:Str}{v:Value}:∀ {P:List Str} {vs:List Value} {i:Nat} {m:Str->Option Value},P.Nodup->P[i]? = some x->vs[i]? = some v->kindOf x≠some .local ->
  bindC kindOf (P.zip vs) m x=some v
 | [],_,_,_,_,h,_,_=>by simp at h
 | _ :: _,[],_,_,_,_,h,_=>by simp at h
 | p :: P,w :: vs,0,m,nd,h1,h2,hk=>by
  simp at h1 h2;subst h1;subst h2
  show bindC kindOf ((p,w) :: P.zip vs) m p=_
  unfold bindC
  rw [yM fun v hv=>(bEl.mp nd).1 (bF7 hv).1,bAg hk]
  simp
 | p :: P,w :: vs,i+1,m,nd,h1,h2,hk=>by
  show bindC kindOf ((p,w) :: P.zip vs) m x=_
  unfold bindC
  exact yP (i:=i) (bEl.mp nd).2 (by simpa using h1) (by simpa using h2) hk
def start(N:List Str)(vs:List V):St:=vs.map some++List.replicate (N.length - vs.length) none
def xJ(CX:CXT)(P:Program)(w:World)(K:aZz)(mg:Str->Option Value)(base:Heap)(N:List Str)(qual:Str)(scope:Scope)(f:Addr)(cd:Value)(A:Around)(outer:List Env)(s:Shared)(H:Hp)(E:XK):Cx where
 prog:=P
 w:=w
 K:=K
 mg:=mg
 base:=base
 A:=A.deeper (envOfC qual scope s.heap.objs.size f cd)
 N:=N
 s₀:=s
 H₀:=H
 env:=envOfC qual scope s.heap.objs.size f cd
 outer:=outer
 stack:=envOfC qual scope s.heap.objs.size f cd :: outer
 ex:=[]
 calm:=true
 fn:=fun _=>true
 pn:=[]
 xe:=fun e s'=>wpAny (model P w) (A.deeper (envOfC qual scope s.heap.objs.size f cd)) (leaving (envOfC qual scope s.heap.objs.size f cd) e) (fun _ s''=>CX outer H s E e s'') (fun e' s''=>CX outer H s E e' s'') s'
theorem aDe{sc:Scope}{n:Nat}{x:Str}(h:sc.names.lookup x=some .cell):∃ c,(cellsFrom n sc.names []).lookup x=some c:=by
 have q:=bF5 sc.names n [] (.inl h)
 exact bBp.mp q
theorem aKk{CX:CXT}{P:Program}{w:World}{K:aZz}{mg:Str->Option Value}{base:Heap}{N ps:List Str}{qual:Str}{scope:Scope}{f:Addr}{cd:Value}{A:Around}{outer:List Env}{s s1:Shared}{H:Hp}{E:XK}{us:List Value}{vs:List V}
  (S:aY N ps scope) (hd:A.handled=none) (e0:aV6 P w K mg base A outer s H) (hl:vs.length=ps.length) (r:Vals vs us)
  (x:InCallC s s.heap.objs.size (bindL (envOfC qual scope s.heap.objs.size f cd).kindOf (ps.zip us) fun _=>none) (cellsFrom (s.heap.objs.size+1) scope.names []) (bindC (envOfC qual scope s.heap.objs.size f cd).kindOf (ps.zip us) fun _=>none) s1) :
  Inv (xJ CX P w K mg base N qual scope f cd A outer s H E) [] (start N vs) H s1:=by
 have hpl:ps.length<=N.length:=by have:=bCl List.length S.pre;rw [bEb] at this;omega
 obtain ⟨h1,tk,rfl,hk⟩:=x.done
 have noA:∀ b:Addr,b∉(xJ CX P w K mg base N qual scope f cd A outer s H E).ex:=fun b z=>absurd (show b∈([]:List Addr) from z) (by simp)
 refine ⟨⟨e0.mod,S.kind,rfl,rfl,bAf _,fun y z c h1 h2=>?_,fun y hy=>?_,fun y c _ h=>?_,fun _=>hd,Around.frames_deeper e0.frames,.inr ⟨rfl,rfl⟩,fun b z=>absurd z (noA b),e0.bs,e0.bsz,fun b _ _=>noA b,fun b z=>absurd z (noA b),e0.funs,e0.frf,e0.tab⟩,
  rfl,e0.bare,Un.kept hk,⟨_,x.toInCall.ns,fun i y v h1 h2 h3=>?_⟩,fun y c h=>⟨_,x.cell y c h⟩,e0.hok.fresh (bAf _),fun y c h=>?_,fun p hp=>absurd (show p∈([]:List (Addr×Obj)) from hp) (by simp),e0.hok.kept hk,?_⟩
 ·exact name_of_addr x.apart (bBx h1) (bBx h2)
 ·have hy:scope.names.lookup y=some .cell\/scope.names.lookup y=some .free:=hy
  rcases hy with hy | hy
  ·exact aDe hy
  ·exact absurd rfl (S.nofree _ (bBx hy))
 ·exact bEz (x.above y c (bBx h))
 ·have hi:i < vs.length:=by
   unfold start at h2
   by_cases hi:i < vs.length
   ·exact hi
   ·rw [bBg (by simpa using hi)] at h2
    rw [bCc] at h2
    split at h2<;>cases h2
  have ha:vs[i]? = some v:=by
   unfold start at h2
   rw [bBl (by simpa using hi),bA0] at h2
   cases e:vs[i]? with
   | none=>rw [e] at h2;cases h2
   | some a=>rw [e] at h2;cases h2;rfl
  obtain ⟨u,hu,rv⟩:=r.get ha
  have hp:ps[i]? = some y:=by
   rw [<- S.pre,List.getElem?_take_of_lt (by omega)];exact h1
  have ndP:ps.Nodup:=by rw [<- S.pre];exact S.nd.sublist (List.take_sublist _ _)
  refine ⟨u,rv,?_⟩
  rcases S.par y (bAq hp) with k | k
  ·exact .inl ⟨k,zU ndP hp hu k⟩
  ·obtain ⟨c,e⟩:=aDe (n:=s.heap.objs.size+1) k
   refine .inr ⟨.inl k,c,e,?_⟩
   have q:=x.cell y c e
   rw [yP ndP hp hu (by show scope.names.lookup y≠_;rw [k];decide)] at q
   exact q
 ·exact e0.hok.fresh (bEz (x.above y c (bBx h)))
 ·unfold start
  show _=N.length
  rw [bAi,aZ0,bA9]
  omega
theorem aXu{CX:CXT}{P:Program}{w:World}{K:aZz}{mg:Str->Option Value}{base:Heap}{k:Nat}{f:Addr}{name qual:Str}{params:Arguments}{body:List Stmt}{scope:Scope}{dV kV doc pm cdv ct oc:Value}{an od:Option Addr}
  {osl:Array (Option Value)} {N ps:List Str} {sp:Sp} (lk:K.lookup f=some ⟨oc,od,.func (PySem.W.fnOf name qual params body scope dV kV doc pm an cdv ct),osl⟩) (hcd:PySem.W.codeIn K cdv qual=true) (S:aY N ps scope)
  (len:∀ vs H Q E,sp vs H Q E->vs.length=ps.length)
  (hbody:∀ (A:Around) (outer:List Env) (s:Shared) (H:Hp) (vs:List V) (Q:VK) (E:XK),Room k (A.deeper (envOfC qual scope s.heap.objs.size f cdv))->sp vs H Q E ->
   ∃ t,PSs (xJ CX P w K mg base N qual scope f cdv A outer s H E) body t/\t { nx:=fun _ H'=>Q .non H',rt:=Q } (start N vs) H) :
  FnOk P w K mg base CX (k+1) f (PySem.W.fnOf name qual params body scope dV kV doc pm an cdv ct) ps sp:=by
 refine ⟨len,fun A outer s H args us vs Q E hr e0 hb r hsp=>?_⟩
 have hl:=len _ _ _ _ hsp
 have KX:K.In s.heap:=e0.mod.kin.keeps fun b o e=>(e0.bs b o e).1
 have lim:s.heap.NoLimit:=e0.mod.nolimit.keeps fun b o e=>(e0.bs b o e).1
 have hkind:∀ y∈ps.zip us,scope.names.lookup y.1=some .local\/(scope.names.lookup y.1=some .cell/\((cellsFrom (s.heap.objs.size+1) scope.names []).lookup y.1).isSome=true):=fun ⟨n,v⟩ hy=>by
  rcases S.par n (bF7 hy).1 with q | q
  ·exact .inl q
  ·exact .inr ⟨q,bF5 _ _ _ (.inl q)⟩
 refine codeAny_call_function hr.depth (KX _ _ lk) rfl S.co S.gen rfl (PySem.W.codeRec_of KX hcd) (hb _ _ _ _ ?_)
 refine wpAny_newFunctionEnv_cells S.kind hkind fun env he s1 x=>?_
 subst he
 refine ⟨lim.keeps x.toInCall.keep,codeAny_func ?_⟩
 obtain ⟨t,ht,hq⟩:=hbody A outer s H vs Q E (hr.deeper _) hsp
 have I:Inv (xJ CX P w K mg base N qual scope f cdv A outer s H E) [] (start N vs) H s1:=aKk S hr.hd e0 hl r x
 refine bBu (ht [] s1 (start N vs) H _ I hq) (fun fl s' hs=>?_) fun e s' hs=>hs
 have fin:∀ {σ':St} {H':Hp} {v:V} {u:Value},Inv (xJ CX P w K mg base N qual scope f cdv A outer s H E) [] σ' H' s'->RelV v u->Q v H'->CE outer P w H s Q u s' :=
  fun {σ' H' v u} J rv q=>⟨v,H',J.os,J.bare,J.base,J.hok,rv,q⟩
 cases fl with
 | ret u =>
  obtain ⟨v,σ',H',J,rv,q⟩:=hs
  exact fin J rv q
 | next =>
  obtain ⟨σ',H',J,q⟩:=hs
  exact fin (v:=V.non) (u:=Value.none) J rfl q
 | brk =>
  obtain ⟨_,_,_,q⟩:=hs
  exact False.elim q
 | cont =>
  obtain ⟨_,_,_,q⟩:=hs
  exact False.elim q
section
variable {X:Cx}{x:Str}{p pos:Pos}{e:Expr}{es:List Expr}{t:TA}{id T:String}{r:List V->Hp->VK->Prop}
def tCB(r:List V->Hp->VK->Prop)(t:TA):TE:=fun σ H Q=>t σ H fun vs H1=>r vs H1 Q
theorem aL7(hc:nU X (.builtin id) r)(hg:Gl X x)(hm:X.mg x=none)(hv:bootBuiltins x=some (.builtin id))(ha:PA X (e :: es) t)(hn:x≠"__name__":=by decide)(hdb:(x == ("__debug__" : Str))=false:=by decide)
  (he:starEach (e :: es) X.env=(false,eval e X.env) :: starEach es X.env:=by rfl) (hpl:(backTo pos (starEach es X.env)).any (·.1)=false:=by rfl):PE X (.Call (.Name x p) (e :: es) [] pos) (tCB r t):=by
 intro pins s σ H Q I h
 refine bC0 (qO I hg hm hv ?_ hn hdb)
 exact PyProof.Rows.callWith_builtin1 (thn (ha pos pins s σ H _ I h) fun us s1 ⟨vs,H1,I1,r1,q1⟩=>hc pins s1 σ H1 vs us Q I1 r1 q1) he hpl
theorem aF1(hc:nU X (.type T) r)(hg:Gl X x)(hm:X.mg x=none)(hv:bootBuiltins x=some (.type T))(ha:PA X (e :: es) t)(hn:x≠"__name__":=by decide)(hdb:(x == ("__debug__" : Str))=false:=by decide)
  (he:starEach (e :: es) X.env=(false,eval e X.env) :: starEach es X.env:=by rfl) (hpl:(backTo pos (starEach es X.env)).any (·.1)=false:=by rfl):PE X (.Call (.Name x p) (e :: es) [] pos) (tCB r t):=by
 intro pins s σ H Q I h
 refine bC0 (qO I hg hm hv ?_ hn hdb)
 exact bBi (thn (ha pos pins s σ H _ I h) fun us s1 ⟨vs,H1,I1,r1,q1⟩=>hc pins s1 σ H1 vs us Q I1 r1 q1) he hpl
end
end L2
namespace HT
open PySem PyProof.Rows
def lexLt:List Int->List Int->Bool
 | [],[]=>false
 | [],_ :: _=>true
 | _ :: _,[]=>false
 | x :: xs,y :: ys=>if x=y then lexLt xs ys else decide (x < y)
theorem lA(x y:Int)(xs ys:List Int):lexLt (x :: xs) (y :: ys)=if x=y then lexLt xs ys else decide (x < y):=rfl
section
open PySem.SeqAt
open PySem.AutoSeq1 (wpAny_loadPart')
open PySem.MeetsSeq PySem.MeetsSeq2 PySem.MeetsSeq3
end
section
variable {prog:Program}{w:World}{A:Around}{E:Value->Shared->Prop}{s:Shared}
def sIx(n d:Nat):Option Int->Nat
 | none=>d
 | some v=>if v < 0 then (v+(n:Int)).toNat else min v.toNat n
theorem aCm(n d k:Nat):sIx n d (some (k:Int))=min k n:=by
 show (if (k:Int) < 0 then ((k:Int)+(n:Int)).toNat else min (k:Int).toNat n)=min k n
 rw [bAg (by omega),bD1]
end
end HT
namespace L2
open PySem PySem.Spec PyProof.Rows
abbrev TO:=St->Hp->(Option Int->Hp->Prop)->Prop
def PO(X:Cx)(e:Option Expr)(t:TO):Prop :=
 ∀ (pins:List (Addr×Obj)) (s:Shared) (σ:St) (H:Hp) (Q:Option Int->Hp->Prop),Inv X pins σ H s->t σ H Q ->
  wpAny (model X.prog X.w) X.A (evalPart e X.env) (fun u s'=>∃ o H',Inv X pins σ H' s'/\IsPart u o/\Q o H') X.xe s
def aP9:TO:=fun _ H Q=>Q none H
def aXv(t:TE):TO:=fun σ H Q=>t σ H fun x H1=>∃ i,x=.int i/\Q (some i) H1
theorem intsAre_of{ns:List Int}:∀ {us:List Value},Vals (ns.map V.int) us->IntsAre us ns:=by
 induction ns with
 | nil=>intro us r;rw [bB8] at r;cases r;exact .nil
 | cons n ns ih =>
  intro us r
  rw [bAb] at r
  cases r with
  | cons r1 r2 =>
   obtain ⟨t,e⟩:=r1
   subst e
   exact .cons n t (ih r2)
section
variable {X:Cx}{e:Expr}{te:TE}{lo hi:Option Expr}{tl th:TO}{pos p2:Pos}
theorem aRo:PO X none aP9:=by
 intro pins s σ H Q I h
 rw [evalPart_none]
 exact bAl ⟨none,H,I,.none,h⟩
theorem aQe(h:PE X e te):PO X (some e) (aXv te):=by
 intro pins s σ H Q I hw
 rw [evalPart_some]
 refine thn (h pins s σ H _ I hw) fun u s1 ⟨x,H1,I1,r1,q1⟩=>?_
 obtain ⟨i,rfl,q⟩:=q1
 obtain ⟨t,rfl⟩:=r1
 exact ⟨some i,H1,I1,.int i t,q⟩
def SlR(X:Cx)(r:V->Option Int->Option Int->Hp->VK->Prop):Prop :=
 ∀ (pins:List (Addr×Obj)) (s:Shared) (σ:St) (H:Hp) (x:V) (v vl vu:Value) (lo hi:Option Int) (sl:Addr) (Q:VK),Inv X pins σ H s->RelV x v->s.heap.IsSliceOf sl vl vu .none->IsPart vl lo->IsPart vu hi->r x lo hi H Q ->
  ∃ T id,typeLookup (.type T) "__getitem__" = pure (some (.builtin id))/\s.TypeIs v T/\wpAny (model X.prog X.w) X.A (getItem v (.ref sl)) (EP X pins σ Q) X.xe s
def tSl(r:V->Option Int->Option Int->Hp->VK->Prop)(te:TE)(tl th:TO):TE:=fun σ H Q=>te σ H fun x H1=>tl σ H1 fun l H2=>th σ H2 fun u H3=>r x l u H3 Q
theorem aNc{r:V->Option Int->Option Int->Hp->VK->Prop}(hr:SlR X r)(he:PE X e te)(hl:PO X lo tl)(hu:PO X hi th):PE X (.Subscript e (.Slice lo hi none p2) pos) (tSl r te tl th):=by
 intro pins s σ H Q I h
 refine Subscript_ (thn (he pins s σ H _ I h) fun v s1 ⟨x,H1,I1,r1,q1⟩=>?_)
 refine wpAny_Slice (thn (hl pins s1 σ H1 _ I1 q1) fun vl s2 ⟨l,H2,I2,pl,q2⟩=>thn (hu pins s2 σ H2 _ I2 q2) fun vu s3 ⟨u,H3,I3,pu,q3⟩=>?_)
 rw [evalPart_none]
 refine bAl ?_
 have I4:Inv X pins σ H3 { s3 with heap:=s3.heap.push { cls:=.type "slice",data:=.fields #[vl,vu,.none] } }:=I3.kept (t':=s3.toks) fun b ob q=>aZ4 _ q
 obtain ⟨T,id,hT,ht,hg⟩:=hr pins { s3 with heap:=s3.heap.push { cls:=.type "slice",data:=.fields #[vl,vu,.none] } } σ H3 x v vl vu l u s3.heap.objs.size Q I4 r1 (Heap.IsSliceOf.new ..) pl pu q3
 show wpAny (model X.prog X.w) X.A (subscriptTail e (.Slice lo hi none p2) v (.ref s3.heap.objs.size)) (EP X pins σ Q) X.xe { s3 with heap:=s3.heap.push { cls:=.type "slice",data:=.fields #[vl,vu,.none] } }
 exact tail_any (ops:=[.ref s3.heap.objs.size,v]) ht hT hg (by with_unfolding_all rfl)
def aSb(xs:List V)(lo hi:Option Int):List V:=(xs.drop (HT.sIx xs.length 0 lo)).take (HT.sIx xs.length xs.length hi - HT.sIx xs.length 0 lo)
theorem aCh(xs:List V)(lo hi:Option Int):(aSb xs lo hi).length<=xs.length:=by
 unfold aSb
 rw [bEb,bFx]
 omega
end
def ixN(n:Nat)(i:Int):Option Nat:=if 0<=i then (if i < n then some i.toNat else none) else if -(n:Int)<=i then some (i+n).toNat else none
def atI{α:Type}(xs:List α)(i:Int):Option α:=(ixN xs.length i).bind fun j=>xs[j]?
theorem aRk{n:Nat}{i:Int}{j:Nat}(h:ixN n i=some j):seqIndex? i n=some j/\j < n/\-(n:Int)<=i/\i < n:=by
 unfold ixN at h
 by_cases h0:0<=i
 ·rw [bAc h0] at h
  by_cases h1:i < n
  ·rw [bAc h1] at h
   have e:i.toNat=j:=bAn h
   exact ⟨by rw [seqIndex_of h0 h1,e],by omega,by omega,h1⟩
  ·rw [bAg h1] at h;cases h
 ·rw [bAg h0] at h
  by_cases h1:-(n:Int)<=i
  ·rw [bAc h1] at h
   have e:(i+n).toNat=j:=bAn h
   exact ⟨by rw [seqIndex_neg (by omega) h1,e],by omega,h1,by omega⟩
  ·rw [bAg h1] at h;cases h
theorem aH5{α:Type}{xs:List α}{i:Int}{v:α}(h:atI xs i=some v):∃ j,seqIndex? i xs.length=some j/\xs[j]? = some v/\j < xs.length/\-(xs.length:Int)<=i/\i < xs.length:=by
 unfold atI at h
 cases e:ixN xs.length i with
 | none=>rw [e] at h;cases h
 | some j =>
  rw [e] at h
  obtain ⟨h1,h2,h3,h4⟩:=aRk e
  exact ⟨j,h1,h,h2,h3,h4⟩
theorem xQ{α:Type}{xs:List α}{j:Nat}{v:α}(h:xs[j]? = some v):atI xs (j:Int)=some v:=by
 have hj:j < xs.length:=(bBe.mp h).1
 have e:ixN xs.length (j:Int)=some j:=by
  unfold ixN
  rw [bAc (by omega),bAc (by omega)];simp
 unfold atI;rw [e];exact h
theorem aMs{α:Type}(xs:List α)(v:α):atI (xs++[v]) (-1)=some v:=by
 have hl:(xs++[v]).length=xs.length+1:=by simp
 have e:ixN (xs++[v]).length (-1)=some xs.length:=by
  unfold ixN
  rw [hl,bAg (by decide),bAc (by omega)]
  congr 1
  omega
 unfold atI
 rw [e]
 show (xs++[v])[xs.length]? = some v
 simp
def aKq(b:Expr):Prop:=∀ o i,subscripted b false o i=operate [o,i] (getItem o i)
def IxR(X:Cx)(r:R2):Prop :=
 ∀ (value slice:Expr) (pins:List (Addr×Obj)) (s:Shared) (σ:St) (H:Hp) (x y:V) (v u:Value) (Q:VK),Inv X pins σ H s->RelV x v->RelV y u->r x y H Q ->
  subscripted slice false v u=operate [v,u] (getItem v u)->wpAny (model X.prog X.w) X.A (subscriptTail value slice v u) (EP X pins σ Q) X.xe s
def MtR(X:Cx)(id:String)(r:V->List V->Hp->VK->Prop):Prop :=
 ∀ (pins:List (Addr×Obj)) (s:Shared) (σ:St) (H:Hp) (x:V) (xs:List V) (v:Value) (us:List Value) (Q:VK),Inv X pins σ H s->RelV x v->Vals xs us->r x xs H Q ->
  wpAny (model X.prog X.w) X.A (call (.builtin id) (v :: us)) (EP X pins σ Q) X.xe s
section
variable {X:Cx}{a b:Expr}{ta tb:TE}{pos:Pos}
theorem IxR.or{r r':R2}(h:IxR X r)(h':IxR X r'):IxR X (fun x y H Q=>r x y H Q\/r' x y H Q):=by
 intro value slice pins s σ H x y v u Q I rx ry q hs
 rcases q with q | q
 ·exact h value slice pins s σ H x y v u Q I rx ry q hs
 ·exact h' value slice pins s σ H x y v u Q I rx ry q hs
theorem aXm{r:R2}(hr:IxR X r)(ha:PE X a ta)(hb:PE X b tb)(hs:aKq b):PE X (.Subscript a b pos) (tOp r ta tb):=by
 intro pins s σ H Q I h
 exact Subscript_ (aYb ha hb I h fun v u s2 x y H2 I2 rx ry q=>hr a b pins s2 σ H2 x y v u Q I2 rx ry q (hs _ _))
def aY0(K:aZz):R2:=fun x y H Q=>∃ p xs i v,x=.ref p/\y=.int i/\SqL K H p xs/\atI xs i=some v/\Q v H
def aYr(K:aZz):R2:=fun x y H Q=>∃ p xs i v,x=.ref p/\y=.int i/\SqT K H p xs/\atI xs i=some v/\Q v H
theorem ix_list:IxR X (aY0 X.K):=by
 intro value slice pins s σ H x y v u Q I rx ry h hs
 obtain ⟨p,xs,i,z,rfl,rfl,hq,he,q⟩:=h
 cases rx
 obtain ⟨t,rfl⟩:=ry
 obtain ⟨its,r,pl,hz⟩:=I.list hq
 obtain ⟨j,h1,h2,h3,h4,h5⟩:=aH5 he
 obtain ⟨w,ew,rw'⟩:=r.get h2
 have hl:=r.length
 have hn:=aD0
 have fin:EP X pins σ Q w s:=⟨z,H,I,rw',q⟩
 by_cases h0:0<=i
 ·have hj:i.toNat=j:=by
   rw [seqIndex_of h0 h5] at h1
   exact bAn h1
  exact item_listR pl.isList h0 (by omega) (by rw [hj];simpa using ew) fin hs
 ·have hj:(i+(its.toArray.size:Int)).toNat=j:=by
   rw [seqIndex_neg (by omega) h4] at h1
   rw [bAe,<- hl]
   exact bAn h1
  exact subscriptTail_builtinR (x:=w) pl.isList.typeIs slot_list_getitem.lookup
   (wpAny_getItem_list_neg (Q:=fun r s'=>r=w/\EP X pins σ Q r s') pl.isList (by omega) (by rw [bAe]<;>omega) (by omega) (by rw [hj];simpa using ew) ⟨rfl,fin⟩) hs
theorem aS9:IxR X (aYr X.K):=by
 intro value slice pins s σ H x y v u Q I rx ry h hs
 obtain ⟨p,xs,i,z,rfl,rfl,hq,he,q⟩:=h
 cases rx
 obtain ⟨t,rfl⟩:=ry
 obtain ⟨its,r,pl,hz⟩:=I.tuple hq
 obtain ⟨j,h1,h2,h3,h4,h5⟩:=aH5 he
 obtain ⟨w,ew,rw'⟩:=r.get h2
 have hl:=r.length
 have hn:=aD0
 have fin:EP X pins σ Q w s:=⟨z,H,I,rw',q⟩
 exact subscriptTail_builtinR (x:=w) pl.typeIs slot_tuple_getitem.lookup
  (getItem_tuple (j:=j) (Q:=fun r s'=>r=w/\EP X pins σ Q r s') pl (by omega) (by omega) (by rw [bAe,<- hl];exact h1) (by simpa using ew) ⟨rfl,fin⟩) hs
theorem aAq(lo hi:Option Int)(n:Nat):(sliceBounds lo hi none n).1=((HT.sIx n 0 lo:Nat):Int)/\(sliceBounds lo hi none n).2.1=((HT.sIx n n hi:Nat):Int)/\(sliceBounds lo hi none n).2.2=1:=by
 refine ⟨?_,?_,rfl⟩
 ·cases lo with
  | none=>simp [sliceBounds,HT.sIx]
  | some i =>
   simp only [sliceBounds,HT.sIx,Option.getD_none,show (1:Int) > 0 by decide,bDq]
   by_cases h:i < 0
   ·simp only [h,bDq]<;>omega
   ·simp only [h,bCm]<;>omega
 ·cases hi with
  | none=>simp [sliceBounds,HT.sIx]
  | some i =>
   simp only [sliceBounds,HT.sIx,Option.getD_none,show (1:Int) > 0 by decide,bDq]
   by_cases h:i < 0
   ·simp only [h,bDq]<;>omega
   ·simp only [h,bCm]<;>omega
theorem w5(its:List Value)(lo hi:Option Int):slicePick its.toArray lo hi none=((its.drop (HT.sIx its.length 0 lo)).take (HT.sIx its.length its.length hi - HT.sIx its.length 0 lo)).toArray:=by
 obtain ⟨h1,h2,h3⟩:=aAq lo hi its.toArray.size
 unfold slicePick
 rw [h1,h2,h3]
 simp only [sliceRange_one,pick_run,bAe]<;>rfl
def aY6(K:aZz):V->Option Int->Option Int->Hp->VK->Prop:=fun x lo hi H Q=>∃ a xs,x=.ref a/\SqL K H a xs/\∀ p,H p=none->Q (.ref p) (upd H p (.lst (aSb xs lo hi)))
theorem aPt:SlR X (aY6 X.K):=by
 intro pins s σ H x v vl vu lo hi sl Q I rx hs pl pu h
 obtain ⟨a,xs,rfl,hx,q⟩:=h
 cases rx
 obtain ⟨its,r,ht,hz⟩:=I.list hx
 have hlen:=r.length
 refine ⟨"list",_,slot_list_getitem.lookup,ht.isList.typeIs,?_⟩
 refine wpAny_getItem_list_slice ht.isList hs pl pu .none (by simp) ?_ (by rw [bAe]<;>omega)
 rw [w5,<- hlen]
 refine ⟨.ref s.heap.objs.size,_,I.laid (t':=s.toks) (o:=.lst (aSb xs lo hi)) (fun b ob q=>aZ4 _ q) (bAf _) ?_,rfl,q _ (I.hok.fresh (bAf _))⟩
 exact ⟨bA5 (aCh xs lo hi) hz,_,0,(r.drop (HT.sIx xs.length 0 lo)).take (HT.sIx xs.length xs.length hi - HT.sIx xs.length 0 lo),bAx _ rfl⟩
def tK:V->Bool
 | .non=>true
 | .bl _=>true
 | .int _=>true
 | .str _=>true
 | _=>false
def eqV:V->V->Bool
 | .non,.non=>true
 | .bl a,.bl b=>a == b
 | .bl a,.int b=>(if a then 1 else 0) == b
 | .int a,.bl b=>a == (if b then 1 else 0)
 | .int a,.int b=>a == b
 | .str a,.str b=>a == b
 | _,_=>false
theorem aS8{A:Around}{s:Shared}{y x:V}{u v:Value}(ry:RelV y u)(rx:RelV x v)(fy:tK y=true)(fx:tK x=true):SeqAt.EqAt A s u v (eqV y x):=by
 cases y with
 | non =>
  cases ry
  cases x with
  | non=>cases rx;exact SeqAt.EqAt.same _
  | bl b=>cases rx;exact SeqAt.EqAt.none_bool b
  | int b=>obtain ⟨t,rfl⟩:=rx;exact SeqAt.EqAt.none_int b t
  | str b=>obtain ⟨t,rfl⟩:=rx;exact SeqAt.EqAt.none_str b t
  | _=>exact absurd (show false=true from fx) bAs
 | bl a =>
  cases ry
  cases x with
  | non=>cases rx;exact SeqAt.EqAt.bool_none a
  | bl b=>cases rx;exact SeqAt.EqAt.bool_bool a b
  | int b=>obtain ⟨t,rfl⟩:=rx;exact SeqAt.EqAt.bool_int a b t
  | str b=>obtain ⟨t,rfl⟩:=rx;exact SeqAt.EqAt.bool_str a b t
  | _=>exact absurd (show false=true from fx) bAs
 | int a =>
  obtain ⟨t',rfl⟩:=ry
  cases x with
  | non=>cases rx;exact SeqAt.EqAt.int_none a t'
  | bl b=>cases rx;exact SeqAt.EqAt.int_bool a t' b
  | int b=>obtain ⟨t,rfl⟩:=rx;exact SeqAt.EqAt.int_int a t' b t
  | str b=>obtain ⟨t,rfl⟩:=rx;exact SeqAt.EqAt.int_str a t' b t
  | _=>exact absurd (show false=true from fx) bAs
 | str a =>
  obtain ⟨t',rfl⟩:=ry
  cases x with
  | non=>cases rx;exact SeqAt.EqAt.str_none a t'
  | bl b=>cases rx;exact SeqAt.EqAt.str_bool a t' b
  | int b=>obtain ⟨t,rfl⟩:=rx;exact SeqAt.EqAt.str_int a t' b t
  | str b=>obtain ⟨t,rfl⟩:=rx;exact SeqAt.EqAt.str_str a t' b t
  | _=>exact absurd (show false=true from fx) bAs
 | _=>exact absurd (show false=true from fy) bAs
def eqU(x:V)(u:Value):Bool:=match u with
 | .none=>eqV .non x
 | .bool b=>eqV (.bl b) x
 | .int i _=>eqV (.int i) x
 | .str z _=>eqV (.str z) x
 | _=>false
theorem aOg{x y:V}{u:Value}(r:RelV y u)(f:tK y=true):eqU x u=eqV y x:=by
 cases y with
 | non=>cases r;rfl
 | bl b=>cases r;rfl
 | int i=>obtain ⟨t,rfl⟩:=r;rfl
 | str z=>obtain ⟨t,rfl⟩:=r;rfl
 | _=>exact absurd (show false=true from f) bAs
theorem aCq{x:V}:∀ {xs:List V} {us:List Value},Vals xs us->xs.all tK=true->us.any (eqU x)=xs.any fun y=>eqV y x
 | _,_,.nil,_=>rfl
 | y :: xs,u :: us,.cons r t,f=>by
  rw [bFn,bCa] at f
  rw [bC9,bC9,aOg r f.1,aCq t f.2]
theorem xW{A:Around}{s:Shared}{x:V}{v:Value}(rx:RelV x v)(fx:tK x=true):∀ {xs:List V} {us:List Value},Vals xs us->xs.all tK=true->∀ u∈us,SeqAt.EqAt A s u v (eqU x u)
 | _,_,.nil,_=>fun u hu=>by cases hu
 | y :: xs,u :: us,.cons r t,f=>fun u' hu=>by
  rw [bFn,bCa] at f
  rcases aZ3.mp hu with rfl | hu
  ·rw [aOg r f.1];exact aS8 r rx f.1 fx
  ·exact xW rx fx t f.2 u' hu
def inV(x:V)(xs:List V):Bool:=xs.any fun y=>eqV y x
def rIn(K:aZz)(neg:Bool):R2:=fun x y H Q=>∃ p xs,y=.ref p/\(SqL K H p xs\/SqT K H p xs)/\tK x=true/\xs.all tK=true/\Q (.bl (if neg then !inV x xs else inV x xs)) H
theorem aGd:OpR X (compareOp .In) (rIn X.K false):=by
 intro pins s σ H x y v u Q I rx ry h
 obtain ⟨p,xs,rfl,hq,fx,fs,q⟩:=h
 cases ry
 rcases hq with hq | hq
 ·obtain ⟨its,r,pl,hz⟩:=I.list hq
  refine SeqAt.in_listAt (eqU x) pl.isList (fun w hw=>xW rx fx r fs w (by simpa using hw)) ⟨.bl _,H,I,rfl,?_⟩
  rw [show its.toArray.any (eqU x)=its.any (eqU x) by simp,aCq r fs]
  exact q
 ·obtain ⟨its,r,pl,hz⟩:=I.tuple hq
  refine SeqAt.in_tupleAt (eqU x) pl (fun w hw=>xW rx fx r fs w (by simpa using hw)) ⟨.bl _,H,I,rfl,?_⟩
  rw [show its.toArray.any (eqU x)=its.any (eqU x) by simp,aCq r fs]
  exact q
theorem cY:nU X (.builtin "len") (fun xs H Q=>∃ p ys,xs=[.ref p]/\(SqL X.K H p ys\/SqT X.K H p ys)/\Q (.int ys.length) H):=by
 intro pins s σ H xs us Q I r h
 obtain ⟨p,ys,rfl,hq,q⟩:=h
 obtain ⟨u,rfl,rx⟩:=vals1 r
 cases rx
 have hn:=aD0
 rcases hq with hq | hq
 ·obtain ⟨its,r',pl,hz⟩:=I.list hq
  have hlen:=r'.length
  exact Calls.call_len_list pl.isList (by simp only [bAe]<;>omega) ⟨.int ys.length,H,I.tok _,⟨s.toks+1,by rw [bAe,hlen]⟩,q⟩
 ·obtain ⟨its,r',pl,hz⟩:=I.tuple hq
  have hlen:=r'.length
  exact len_tuple pl (by simp only [bAe]<;>omega) ⟨.int ys.length,H,I.tok _,⟨s.toks+1,by rw [bAe,hlen]⟩,q⟩
theorem qT:nU X (.type "list") (fun xs H Q=>∃ p ys,xs=[.ref p]/\(SqL X.K H p ys\/SqT X.K H p ys)/\∀ l,H l=none->Q (.ref l) (upd H l (.lst ys))):=by
 intro pins s σ H xs us Q I r h
 obtain ⟨p,ys,rfl,hq,q⟩:=h
 obtain ⟨u,rfl,rx⟩:=vals1 r
 cases rx
 have fin:∀ (its:List Value),Vals ys its->ys.length<=sizeLine->∀ (h':Heap) (c':Nat),(∀ b o',s.heap.get? b=some o'->h'.get? b=some o') ->
   h'.get? s.heap.objs.size=some { cls:=.type "list",dict:=none,data:=.seq its.toArray c',slots:=#[] }->EP X pins σ Q (.ref s.heap.objs.size) { s with heap:=h' }:=fun its r' hz h' c' kp e =>
  ⟨.ref s.heap.objs.size,_,I.laid (t':=s.toks) kp (bAf _) (show ObjOk X.prog X.w _ h' _ (.lst ys) from ⟨hz,its,c',r',e⟩),rfl,q _ (I.hok.fresh (bAf _))⟩
 rcases hq with hq | hq
 ·obtain ⟨its,r',pl,hz⟩:=I.list hq
  have hlen:=r'.length
  obtain ⟨o,ho,hc,n,hd⟩:=pl.isList
  exact call_list_seq p (.inl rfl) ho hc hd (fun h' c' kp e=>fin its r' hz h' c' kp e) (by simp only [bAe]<;>omega)
 ·obtain ⟨its,r',pl,hz⟩:=I.tuple hq
  have hlen:=r'.length
  obtain ⟨o,ho,hc,n,hd⟩:=pl
  exact call_list_seq p (.inr rfl) ho hc hd (fun h' c' kp e=>fin its r' hz h' c' kp e) (by simp only [bAe]<;>omega)
def tyV(K:aZz)(T:String)(x:V)(H:Hp):Prop:=match x with
 | .str _=>T = "str"
 | .int _=>T = "int"
 | .ref p=>(T = "list"/\∃ xs,SqL K H p xs)\/(T = "tuple"/\∃ o,K.lookup p=some o/\o.cls=.type "tuple"/\o.dict=none) \/
   (T = "dict"/\((∃ kvs,H p=some (.dK kvs))\/∃ kvs,H p=some (.dT kvs)))\/(T = "set"/\∃ S n,H p=some (.set S n))
 | _=>False
theorem aNt{pins:List (Addr×Obj)}{σ:St}{H:Hp}{s:Shared}{T:String}{x:V}{v:Value}(I:Inv X pins σ H s)(r:RelV x v)(ty:tyV X.K T x H) :
  s.TypeIs v T/\∀ a,v=.ref a->∃ ob,s.heap.get? a=some ob/\ob.dict=none:=by
 cases x with
 | str z =>
  obtain ⟨t,rfl⟩:=r
  cases (show T = "str" from ty)
  exact ⟨typeIs_str s z t,fun _ e=>nomatch e⟩
 | int i =>
  obtain ⟨t,rfl⟩:=r
  cases (show T = "int" from ty)
  exact ⟨typeIs_int s i t,fun _ e=>nomatch e⟩
 | ref p =>
  cases r
  rcases ty with ⟨rfl,xs,hq⟩ | ⟨rfl,o,hk,hc,hd⟩ | ⟨rfl,hk⟩ | ⟨rfl,S,n,hk⟩
  ·obtain ⟨its,_,pl,_⟩:=I.list hq
   refine ⟨pl.isList.typeIs,fun a e=>?_⟩
   cases e
   obtain ⟨o,n,e,c,hd,_⟩:=pl
   exact ⟨o,e,hd⟩
  ·refine ⟨⟨o,I.kIn p o hk,hc⟩,fun a e=>?_⟩
   cases e
   exact ⟨o,I.kIn _ o hk,hd⟩
  ·have z:∃ o,s.heap.get? p=some o/\o.ExactDict:=by
    rcases hk with ⟨kvs,hk⟩ | ⟨kvs,hk⟩
    ·obtain ⟨_,_,_,_,o,_,_,e,ex,_⟩:=I.hok p _ hk
     exact ⟨o,e,ex⟩
    ·obtain ⟨_,_,_,_,o,_,_,e,ex,_⟩:=I.hok p _ hk
     exact ⟨o,e,ex⟩
   obtain ⟨o,e,ex⟩:=z
   refine ⟨⟨o,e,ex.1⟩,fun a e2=>?_⟩
   cases e2
   exact ⟨o,e,ex.2.1⟩
  ·obtain ⟨o,_,_,_,e,ex,_⟩:=I.hok p _ hk
   refine ⟨⟨o,e,ex.1⟩,fun a e2=>?_⟩
   cases e2
   exact ⟨o,e,ex.2.1⟩
 | _=>exact False.elim ty
def aW5(K:aZz)(T:String)(r:V->List V->Hp->VK->Prop)(to:TE):TE:=fun σ H Q=>to σ H fun x H1=>tyV K T x H1/\r x [] H1 Q
def tBM(K:aZz)(T:String)(r:V->List V->Hp->VK->Prop)(to:TE)(t:TA):TE:=fun σ H Q=>to σ H fun x H1=>tyV K T x H1/\t σ H1 fun xs H2=>r x xs H2 Q
variable {o e:Expr}{es:List Expr}{to:TE}{t:TA}{name:Str}{apos cpos:Pos}{T id:String}{r:V->List V->Hp->VK->Prop}
theorem aT9(pa:PlainAttrs T)(slot:Slot T name id)(hty:typeOf (.builtin id)=pure (.type "method_descriptor"))(hm:MtR X id r)(ho:PE X o to)
  (hbase:attributeBase o name X.env (eval o X.env)=eval o X.env:=by rfl) (hline:(apos.endLine == cpos.line)=true:=by rfl):PE X (.Call (.Attribute o name apos) [] [] cpos) (aW5 X.K T r to):=by
 intro pins s σ H Q I h
 refine wpAny_Call_method0_late hbase hline (thn (ho pins s σ H _ I h) fun v s1 ⟨x,H1,I1,r1,ty,q1⟩=>?_)
 obtain ⟨h1,h2⟩:=aNt I1 r1 ty
 exact ⟨T,id,pa,slot,hty,h1,h2,Calls.callWith_builtin rfl (PySem.evalArgs_none (hm pins s1 σ H1 x [] v [] Q I1 r1 .nil q1))⟩
theorem aGr(pa:PlainAttrs T)(slot:Slot T name id)(hty:typeOf (.builtin id)=pure (.type "method_descriptor"))(hm:MtR X id r)(ho:PE X o to)(ha:PA X (e :: es) t)
  (hbase:attributeBase o name X.env (eval o X.env)=eval o X.env:=by rfl)
  (hfew:((backTo cpos (starEach (e :: es) X.env)).all (fun x=>!x.1) && (backToKw cpos (keywordEach [] X.env)).all (fun x=>x.1.isSome)
   && decide ((e :: es).length+([]:List Keyword).length+(if ([]:List Keyword).isEmpty then 0 else 1) < 30))=true:=by rfl)
  (hline:(apos.endLine == cpos.line)=true:=by rfl) (hs:starEach (e :: es) X.env=(false,eval e X.env) :: starEach es X.env:=by rfl) (hplain:(backTo cpos (starEach es X.env)).any (·.1)=false:=by rfl) :
  PE X (.Call (.Attribute o name apos) (e :: es) [] cpos) (tBM X.K T r to t):=by
 intro pins s σ H Q I h
 refine wpAny_Call_method_late hbase hfew hline rfl (thn (ho pins s σ H _ I h) fun v s1 ⟨x,H1,I1,r1,ty,q1⟩=>?_)
 obtain ⟨h1,h2⟩:=aNt I1 r1 ty
 refine ⟨T,id,pa,slot,hty,h1,h2,?_⟩
 have hA:=ha cpos pins s1 σ H1 _ I1 q1
 rw [hs] at hA ⊢
 refine Calls.callWith_builtin (by show (false || (backTo cpos (starEach es X.env)).any (·.1))=false;rw [hplain]<;>rfl) (Calls.evalArgs_plain ?_)
 exact thn hA fun us s2 ⟨vs,H2,I2,r2,q2⟩=>hm pins s2 σ H2 x vs v us Q I2 r1 r2 q2
end
def MtM(X:Cx)(id:String)(r:V->List V->Hp->VK->Prop):Prop :=
 ∀ (pins:List (Addr×Obj)) (s:Shared) (σ:St) (H:Hp) (x:V) (xs:List V) (v:Value) (us:List Value) (Q:VK),Inv X pins σ H s->RelV x v->Vals xs us->r x xs H Q ->
  wpAny (model X.prog X.w) X.A (call (.builtin id) (v :: us)) (EP X pins σ Q) X.xe s
theorem Vals.one:∀ {x:V} {us:List Value},Vals [x] us->∃ u,us=[u]/\RelV x u
 | _,_,.cons r .nil=>⟨_,rfl,r⟩
theorem Vals.zero:∀ {us:List Value},Vals [] us->us=[]
 | _,.nil=>rfl
theorem Vals.dropLast{xs:List V}{us:List Value}(h:Vals xs us):Vals xs.dropLast us.dropLast:=by
 induction h with
 | nil=>exact .nil
 | cons r t ih =>
  cases t with
  | nil=>exact .nil
  | cons q t'=>exact .cons r ih
theorem aE2{α:Type}(l:List α):l.eraseIdx (l.length - 1)=l.dropLast:=by
 induction l with
 | nil=>rfl
 | cons a r ih =>
  cases r with
  | nil=>rfl
  | cons b r =>
   have e:(a :: b :: r).length - 1=((b :: r).length - 1)+1:=by
    have h1:(a :: b :: r).length=r.length+2:=rfl
    have h2:(b :: r).length=r.length+1:=rfl
    omega
   rw [e,List.eraseIdx_cons_succ,ih]
   all_goals rfl
section
variable {X:Cx}{pins:List (Addr×Obj)}{σ:St}{H:Hp}{s:Shared}{l b:Addr}{xs ys zs:List V}
theorem Inv.lset{its its':List Value}{n:Nat}{f:Array Value->Array Value}{t':Nat}(I:Inv X pins σ H s)(hH:H l=some (.lst xs))
  (e:s.heap.get? l=some { cls:=.type "list",data:=.seq its.toArray n }) (hf:f its.toArray=its'.toArray) (hv:Vals ys its') (hz:ys.length<=sizeLine) :
  Inv X pins σ (upd H l (.lst ys)) { s with heap:=s.heap.update l (Obj.mapSeq f),toks:=t' }:=by
 have q:=PySem.IsL.update e f
 rw [hf] at q
 refine I.write (x:=l) (e:=l) (by rw [hH];exact trivial) (.inl rfl) (fun b' u hb hu=>(bCn s.heap (Obj.mapSeq f) (bD0 hb)).trans hu) ⟨_,q⟩ ?_
 exact ⟨hz,its',_,hv,q⟩
theorem Inv.lnew{its:List Value}{t':Nat}(I:Inv X pins σ H s)(hv:Vals ys its)(hz:ys.length<=sizeLine) :
  Inv X pins σ (upd H s.heap.objs.size (.lst ys)) { s with heap:=s.heap.push { cls:=.type "list",data:=.seq its.toArray },toks:=t' } :=
 I.laid (fun _ _ q=>aZ4 _ q) (bAf _) ⟨hz,its,0,hv,bAx _ rfl⟩
theorem Inv.fresh(I:Inv X pins σ H s):H s.heap.objs.size=none:=I.hok.fresh (bAf _)
theorem Inv.lstM(I:Inv X pins σ H s)(hH:H l=some (.lst xs)):xs.length<=sizeLine/\∃ (its:List Value) (n:Nat),Vals xs its/\xs.length=its.length/\s.heap.get? l=some { cls:=.type "list",data:=.seq its.toArray n }:=by
 obtain ⟨z,its,n,r,e⟩:=I.hok l _ hH
 exact ⟨z,its,n,r,r.length,e⟩
theorem aL9{n:Nat}(h:n<=sizeLine):Builtin.List.listTooLong n=false:=by
 unfold Builtin.List.listTooLong
 exact aZ7 (by omega)
end
section
variable {X:Cx}
def aI9:V->List V->Hp->VK->Prop:=fun x vs H Q=>∃ l xs y,x=.ref l/\vs=[y]/\H l=some (.lst xs)/\xs.length < sizeLine/\Q .non (upd H l (.lst (xs++[y])))
theorem aAb:MtM X "list.append" aI9:=by
 intro pins s σ H x vs v us Q I rx rv h
 obtain ⟨l,xs,y,rfl,rfl,hH,hz,q⟩:=h
 cases rx
 obtain ⟨u,rfl,ru⟩:=rv.one
 obtain ⟨z,its,n,r,hl,e⟩:=I.lstM hH
 refine call_meets F.slot_list_append ⟨_,e,rfl⟩ F.entry_list_append (F.args_list_append_2 _ _) (PySem.list_append l its.toArray n u (by rw [bAe];omega)) ⟨e,?_⟩
 refine ⟨.non,_,I.lset (its':=its++[u]) hH e (by simp) (r.append (.cons ru .nil)) ?_,rfl,q⟩
 rw [bAi,bBy]
 omega
def aGm:V->List V->Hp->VK->Prop:=fun x vs H Q=>∃ l b xs zs,x=.ref l/\vs=[.ref b]/\H l=some (.lst xs)/\H b=some (.lst zs)/\xs.length+zs.length<=sizeLine/\Q .non (upd H l (.lst (xs++zs)))
theorem zR:MtM X "list.extend" aGm:=by
 intro pins s σ H x vs v us Q I rx rv h
 obtain ⟨l,b,xs,zs,rfl,rfl,hH,hB,hz,q⟩:=h
 cases rx
 obtain ⟨u,rfl,ru⟩:=rv.one
 cases ru
 obtain ⟨z,its,n,r,hl,e⟩:=I.lstM hH
 obtain ⟨z2,its2,n2,r2,hl2,e2⟩:=I.lstM hB
 have hsz:its.toArray.size+its2.toArray.size<=sizeLine:=by rw [bAe,bAe];omega
 have hlong:¬ (!its.toArray.isEmpty && Builtin.List.listTooLong (its.toArray.size+its2.toArray.size))=true:=by
  rw [aL9 hsz,Bool.and_false]
  exact bAs
 refine call_meets F.slot_list_extend ⟨_,e,rfl⟩ F.entry_list_extend (F.args_list_extend_2 _ _)
  (AutoSeq1.list_extend_list_list_0 l its.toArray n b its2.toArray n2 hlong (by rw [bAe];omega) (by omega)) ⟨e,e2,?_⟩
 refine ⟨.non,_,I.lset (its':=its++its2) hH e (by simp) (r.append r2) ?_,rfl,q⟩
 rw [bAi]
 omega
def aYv:V->List V->Hp->VK->Prop:=fun x vs H Q=>∃ l xs y,x=.ref l/\vs=[]/\H l=some (.lst xs)/\xs[xs.length - 1]? = some y/\Q y (upd H l (.lst xs.dropLast))
theorem aUh:MtM X "list.pop" aYv:=by
 intro pins s σ H x vs v us Q I rx rv h
 obtain ⟨l,xs,y,rfl,rfl,hH,hy,q⟩:=h
 cases rx
 have hus:=rv.zero
 subst hus
 obtain ⟨z,its,n,r,hl,e⟩:=I.lstM hH
 obtain ⟨u,hu,ru⟩:=r.get hy
 have hy':its.toArray[its.toArray.size - 1]? = some u:=by
  show its.toArray[its.length - 1]? = some u
  rw [<- bC3,<- hl]
  exact hu
 refine call_meets F.slot_list_pop ⟨_,e,rfl⟩ F.entry_list_pop (F.args_list_pop_1 _) (MeetsSeq.list_pop_last l its.toArray n u hy' (by rw [bAe];omega)) ⟨e,?_⟩
 refine ⟨y,_,I.lset (its':=its.dropLast) hH e ?_ r.dropLast ?_,ru,q⟩
 ·show its.toArray.eraseIdxIfInBounds (its.toArray.size - 1)=its.dropLast.toArray
  rw [bAe,List.eraseIdxIfInBounds_toArray,aE2]
 ·rw [List.length_dropLast]
  omega
end
section
variable {prog:Program}{w:World}{A:Around}{E:Value->Shared->Prop}{s:Shared}
set_option maxRecDepth 100000 in
end
section
variable {X:Cx}
end
section
variable {κ:Type}[DecidableEq κ]
def yI(kvs:List (κ×V))(k:κ):Option V:=(kvs.find? fun kv=>decide (kv.1=k)).map (·.2)
def putK(kvs:List (κ×V))(k:κ)(v:V):List (κ×V) :=
 if (kvs.any fun kv=>decide (kv.1=k))=true then kvs.map (fun kv=>if kv.1=k then (kv.1,v) else kv) else kvs++[(k,v)]
theorem pB{p:κ×V}{r:List (κ×V)}{k:κ}(e:p.1=k):yI (p :: r) k=some p.2:=by simp [yI,bC4,e]
theorem oY{p:κ×V}{r:List (κ×V)}{k:κ}(e:¬ p.1=k):yI (p :: r) k=yI r k:=by simp [yI,bC4,e]
theorem rY(k:κ):∀ kvs:List (κ×V),(kvs.any fun kv=>decide (kv.1=k))=(yI kvs k).isSome
 | []=>rfl
 | p :: r=>by
  rw [bC9]
  by_cases e:p.1=k
  ·simp only [pB e,aZ8 e,Bool.true_or,Option.isSome_some]
  ·rw [oY e,aZ7 e,Bool.false_or];exact rY k r
theorem sM(kvs:List (κ×V))(k:κ)(v:V):(putK kvs k v).length<=kvs.length+1:=by
 unfold putK
 split
 ·rw [aZ0];omega
 ·rw [bAi,aZ2,bAv];omega
theorem RelO.isSome_eq{o:Option V}{u:Option Value}(r:RelO o u):o.isSome=u.isSome:=by
 cases o with
 | none=>cases u with
  | none=>rfl
  | some _=>exact (show False from r).elim
 | some _=>cases u with
  | none=>exact (show False from r).elim
  | some _=>rfl
theorem KV.val{kvs:List (κ×V)}{vs:List (κ×Value)}(r:KV kvs vs)(k:κ):RelO (yI kvs k) (valueAt vs k):=by
 unfold KV at r
 induction r with
 | nil=>exact True.intro
 | @cons p q ps qs h t ih =>
  obtain ⟨h1,h2⟩:=h
  by_cases e:p.1=k
  ·have e':q.1=k:=h1.symm.trans e
   have b:valueAt (q :: qs) k=some q.2:=by simp [valueAt,bC4,e']
   rw [pB e,b];exact h2
  ·have e':¬ q.1=k:=fun z=>e (h1.trans z)
   have b:valueAt (q :: qs) k=valueAt qs k:=by simp [valueAt,bC4,e']
   rw [oY e,b];exact ih
theorem KV.any{kvs:List (κ×V)}{vs:List (κ×Value)}(r:KV kvs vs)(k:κ):(kvs.any fun kv=>decide (kv.1=k))=vs.any fun kv=>decide (kv.1=k):=by
 unfold KV at r
 induction r with
 | nil=>rfl
 | cons h t ih=>rw [bC9,bC9,ih,h.1]
theorem KV.repl{kvs:List (κ×V)}{vs:List (κ×Value)}(r:KV kvs vs)(k:κ){y:V}{u:Value}(ry:RelV y u) :
  KV (kvs.map fun kv=>if kv.1=k then (kv.1,y) else kv) (vs.map fun kv=>if kv.1=k then (kv.1,u) else kv):=by
 unfold KV at r ⊢
 induction r with
 | nil=>exact .nil
 | @cons p q ps qs h t ih =>
  rw [bAb,bAb]
  refine .cons ?_ ih
  obtain ⟨h1,h2⟩:=h
  by_cases e:p.1=k
  ·rw [bAc e,bAc (h1.symm.trans e)];exact ⟨h1,ry⟩
  ·rw [bAg e,bAg (fun z=>e (h1.trans z))];exact ⟨h1,h2⟩
theorem KV.put{kvs:List (κ×V)}{vs:List (κ×Value)}(r:KV kvs vs)(k:κ){y:V}{u:Value}(ry:RelV y u):KV (putK kvs k y) (stored vs k u):=by
 unfold putK stored
 rw [r.any k]
 by_cases e:(vs.any fun kv=>decide (kv.1=k))=true
 ·rw [bAc e,bAc e];exact r.repl k ry
 ·rw [bAg e,bAg e];exact Paired.snoc r ⟨rfl,ry⟩
theorem KV.length{kvs:List (κ×V)}{vs:List (κ×Value)}(r:KV kvs vs):kvs.length=vs.length:=Paired.length r
end
theorem aI8{P:Program}{w:World}{k:Key}{u:Value}(r:RelV (kV k) u):(g8 P w).is k u=true:=by
 cases k with
 | inl i=>obtain ⟨t,e⟩:=(show ∃ t,u=Value.int i t from r);subst e;exact aBs P w i t
 | inr x=>obtain ⟨t,e⟩:=(show ∃ t,u=Value.str x t from r);subst e;exact aCk P w x t
theorem zT{P:Program}{w:World}:∀ {ks:List Key} {us:List Value},Vals (ks.map kV) us->ItemsAre (g8 P w) ks us
 | [],_,r=>by rw [bB8] at r;cases r;exact .nil
 | k :: ks,_,r=>by
  rw [bAb] at r
  cases r with
  | cons h t=>exact .cons (aI8 h) (zT t)
abbrev KT(H:Hp):List (List Key×V)->List (List Key×Addr×Value)->Prop:=Paired fun p q=>p.1=q.1/\H q.2.1=some (.tup (p.1.map kV))/\RelV p.2 q.2.2
theorem KT.val{H:Hp}{kvs:List (List Key×V)}{xs:List (List Key×Addr×Value)}(r:KT H kvs xs)(k:List Key):RelO (yI kvs k) ((atKey xs k).map (·.2)):=by
 induction r with
 | nil=>exact True.intro
 | @cons p q ps qs h t ih =>
  obtain ⟨h1,_,h2⟩:=h
  by_cases e:p.1=k
  ·have e':q.1=k:=h1.symm.trans e
   have b:atKey (q :: qs) k=some q.2:=by simp [atKey,bC4,e']
   rw [pB e,b];exact h2
  ·have e':¬ q.1=k:=fun z=>e (h1.trans z)
   have b:atKey (q :: qs) k=atKey qs k:=by simp [atKey,bC4,e']
   rw [oY e,b];exact ih
theorem KT.repl{H:Hp}{kvs:List (List Key×V)}{xs:List (List Key×Addr×Value)}(r:KT H kvs xs)(k:List Key){y:V}{u:Value}(ry:RelV y u) :
  KT H (kvs.map fun kv=>if kv.1=k then (kv.1,y) else kv) (xs.map (putAt k u)):=by
 induction r with
 | nil=>exact .nil
 | @cons p q ps qs h t ih =>
  rw [bAb,bAb]
  refine .cons ?_ ih
  obtain ⟨h1,h2,h3⟩:=h
  unfold putAt
  by_cases e:p.1=k
  ·rw [bAc e,bAc (h1.symm.trans e)];exact ⟨h1,h2,ry⟩
  ·rw [bAg e,bAg (fun z=>e (h1.trans z))];exact ⟨h1,h2,h3⟩
theorem KT.put{H:Hp}{kvs:List (List Key×V)}{xs:List (List Key×Addr×Value)}(r:KT H kvs xs)(k:List Key){b:Addr}{y:V}{u:Value}(hb:H b=some (.tup (k.map kV)))(ry:RelV y u) :
  KT H (putK kvs k y) (storedH xs k b u):=by
 have e:(kvs.any fun kv=>decide (kv.1=k))=(atKey xs k).isSome:=by
  rw [rY,(r.val k).isSome_eq,bD2]
 unfold putK storedH
 rw [e]
 by_cases q:(atKey xs k).isSome=true
 ·rw [bAc q,bAc q];exact r.repl k ry
 ·rw [bAg q,bAg q];exact Paired.snoc r ⟨rfl,hb,ry⟩
theorem KT.keeps{H H':Hp}{kvs:List (List Key×V)}{xs:List (List Key×Addr×Value)}(r:KT H kvs xs)(ht:∀ b ys,H b=some (.tup ys)->H' b=some (.tup ys)):KT H' kvs xs :=
 Paired.mapP r fun _ _ z=>⟨z.1,ht _ _ z.2.1,z.2.2⟩
section
variable {P:Program}{w:World}{H:Hp}{h:Heap}{a:Addr}
theorem aVy{u:HO}(ok:HOk P w H h)(e:Rd H a u):ObjOk P w H h a u:=e.ok ok
theorem aEy{kvs:List (Key×V)}(ok:HOk P w H h)(e:Rd H a (.dK kvs)):kvs.length<=sizeLine/\(a == sysModules)=false/\∃ vs,KV kvs vs/\h.DictOf (g8 P w) a vs :=
 show ObjOk P w H h a (.dK kvs) from aVy ok e
theorem aX0{kvs:List (Key×V)}(ok:HOk P w H h)(e:H a=some (.dK kvs)):kvs.length<=sizeLine/\(a == sysModules)=false/\∃ vs,KV kvs vs/\h.DictOf (g8 P w) a vs:=aEy ok (.inl e)
theorem zL{ks:List Key}(ok:HOk P w H h)(e:H a=some (.tup (ks.map kV))):(tupleKind (g8 P w)).is h ks a:=by
 obtain ⟨_,its,r,o,h1,h2,n,h3⟩:=(show ObjOk P w H h a (.tup (ks.map kV)) from ok a _ e)
 exact ⟨o,its.toArray,n,h1,h2,h3,by simpa using zT r⟩
theorem aGs{kvs:List (List Key×V)}(ok:HOk P w H h)(e:Rd H a (.dT kvs)):kvs.length<=sizeLine/\(a == sysModules)=false /\
  ∃ xs,KT H kvs xs/\h.DictOfH (tupleKind (g8 P w)) a xs:=by
 obtain ⟨z,y,xs,r,o,es,ep,h1,h2,h3,h4,h5⟩:=(show ObjOk P w H h a (.dT kvs) from aVy ok e)
 refine ⟨z,y,xs,r,o,es,ep,h1,h2,h3,h4,fun x hx=>?_,h5⟩
 have all:∀ {l:List (List Key×V)} {m:List (List Key×Addr×Value)},KT H l m->∀ x∈m,(tupleKind (g8 P w)).is h x.1 x.2.1:=by
  intro l m q
  induction q with
  | nil=>intro x hx;exact nomatch hx
  | @cons p q ps qs hq t ih =>
   intro x hx
   rcases aZ3.mp hx with e | hx
   ·subst e
    exact zL ok (by rw [<- hq.1];exact hq.2.1)
   ·exact ih x hx
 exact all r x hx
theorem aWx{kvs:List (List Key×V)}(ok:HOk P w H h)(e:H a=some (.dT kvs)):kvs.length<=sizeLine/\(a == sysModules)=false /\
  ∃ xs,KT H kvs xs/\h.DictOfH (tupleKind (g8 P w)) a xs:=aGs ok (.inl e)
end
def DGet(H:Hp)(a:Addr)(y:V)(r:Option V):Prop :=
 (∃ kvs k,Rd H a (.dK kvs)/\y=kV k/\r=yI kvs k)\/∃ kvs k b,Rd H a (.dT kvs)/\y=.ref b/\H b=some (.tup (k.map kV))/\r=yI kvs k
def DPut(H:Hp)(a:Addr)(y v:V)(H':Hp):Prop :=
 (∃ kvs k,H a=some (.dK kvs)/\y=kV k/\kvs.length < sizeLine/\H'=upd H a (.dK (putK kvs k v))) \/
 ∃ kvs k b,H a=some (.dT kvs)/\y=.ref b/\H b=some (.tup (k.map kV))/\kvs.length < sizeLine/\H'=upd H a (.dT (putK kvs k v))
theorem DGet.k{H:Hp}{a:Addr}{kvs:List (Key×V)}{k:Key}(e:H a=some (.dK kvs)):DGet H a (kV k) (yI kvs k):=.inl ⟨kvs,k,.inl e,rfl,rfl⟩
theorem DGet.t{H:Hp}{a b:Addr}{kvs:List (List Key×V)}{k:List Key}(e:H a=some (.dT kvs))(eb:H b=some (.tup (k.map kV))):DGet H a (.ref b) (yI kvs k):=.inr ⟨kvs,k,b,.inl e,rfl,eb,rfl⟩
theorem DPut.k{H:Hp}{a:Addr}{kvs:List (Key×V)}{k:Key}{v:V}(e:H a=some (.dK kvs))(hl:kvs.length < sizeLine):DPut H a (kV k) v (upd H a (.dK (putK kvs k v))):=.inl ⟨kvs,k,e,rfl,hl,rfl⟩
theorem DPut.t{H:Hp}{a b:Addr}{kvs:List (List Key×V)}{k:List Key}{v:V}(e:H a=some (.dT kvs))(eb:H b=some (.tup (k.map kV)))(hl:kvs.length < sizeLine) :
  DPut H a (.ref b) v (upd H a (.dT (putK kvs k v))):=.inr ⟨kvs,k,b,e,rfl,eb,hl,rfl⟩
section
variable {X:Cx}{pins:List (Addr×Obj)}{σ:St}{H:Hp}{s:Shared}{a:Addr}{y v:V}{u r:Value}{o:Option V}{A:Around}{E:Value->Shared->Prop}
theorem Inv.big(I:Inv X pins σ H s):sysModules < s.heap.objs.size:=by
 have h:mainGlobals < s.heap.objs.size:=(I.mod.glob.keeps I.bk).lt
 exact Nat.lt_trans (by decide) h
theorem aIk{Q:Value->Shared->Prop}(hu:A.units+1 < cLine)(I:Inv X pins σ H s)(g:DGet H a y (some v))(ry:RelV y u)(h:∀ w' s',Inv X pins σ H s'->RelV v w'->Q w' s') :
  wpAny (model X.prog X.w) A (getItem (.ref a) u) Q E s:=by
 rcases g with ⟨kvs,k,e,ey,l⟩ | ⟨kvs,k,b,e,ey,eb,l⟩
 ·subst ey
  obtain ⟨z,hd,vs,rel,dd⟩:=aEy I.hok e
  obtain ⟨w',hw,rw'⟩:=RelO.some_of (v:=v) (o:=valueAt vs k) (by rw [l];exact rel.val k)
  exact wpAny_getItem_of (aI8 ry) dd.mapOf hw (h w' _ (I.tok _) rw')
 ·subst ey
  cases (show u=Value.ref b from ry)
  obtain ⟨z,hd,xs,rel,dd⟩:=aGs I.hok e
  obtain ⟨w',hw,rw'⟩:=RelO.some_of (v:=v) (o:=(atKey xs k).map (·.2)) (by rw [l];exact rel.val k)
  obtain ⟨p,hp,hp2⟩:=bDx.mp hw
  refine wpAny_getItem_heap (bDr hu) (zL I.hok eb) dd hp ?_
  rw [hp2]
  exact h w' _ (I.tok _) rw'
theorem aZi{Q:Value->Shared->Prop}(hu:A.units+1 < cLine)(I:Inv X pins σ H s)(g:DGet H a y o)(ry:RelV y u)(h:∀ s',Inv X pins σ H s'->Q (.bool o.isSome) s') :
  wpAny (model X.prog X.w) A (compareOp .In u (.ref a)) Q E s:=by
 rcases g with ⟨kvs,k,e,ey,l⟩ | ⟨kvs,k,b,e,ey,eb,l⟩
 ·subst ey
  obtain ⟨z,hd,vs,rel,dd⟩:=aEy I.hok e
  refine wpAny_in_of (aI8 ry) hd dd.mapOf ?_
  rw [<- (rel.val k).isSome_eq,<- l]
  exact h _ (I.tok _)
 ·subst ey
  cases (show u=Value.ref b from ry)
  obtain ⟨z,hd,xs,rel,dd⟩:=aGs I.hok e
  refine wpAny_in_heap (bDr hu) (zL I.hok eb) hd dd ?_
  have q:=(rel.val k).isSome_eq
  rw [bD2] at q
  rw [<- q,<- l]
  exact h _ (I.tok _)
theorem aR1{Q:Value->Shared->Prop}(hu:A.units+1 < cLine)(I:Inv X pins σ H s)(g:DGet H a y o)(ry:RelV y u)(h:∀ s',Inv X pins σ H s'->Q (.bool (!o.isSome)) s') :
  wpAny (model X.prog X.w) A (compareOp .NotIn u (.ref a)) Q E s:=by
 rcases g with ⟨kvs,k,e,ey,l⟩ | ⟨kvs,k,b,e,ey,eb,l⟩
 ·subst ey
  obtain ⟨z,hd,vs,rel,dd⟩:=aEy I.hok e
  refine wpAny_notIn_of (aI8 ry) hd dd.mapOf ?_
  rw [<- (rel.val k).isSome_eq,<- l]
  exact h _ (I.tok _)
 ·subst ey
  cases (show u=Value.ref b from ry)
  obtain ⟨z,hd,xs,rel,dd⟩:=aGs I.hok e
  refine wpAny_notIn_heap (bDr hu) (zL I.hok eb) hd dd ?_
  have q:=(rel.val k).isSome_eq
  rw [bD2] at q
  rw [<- q,<- l]
  exact h _ (I.tok _)
theorem aHj{h':Heap}{t':Nat}{ob:HO}(I:Inv X pins σ H s)(mu:Mut (H a))(hs:Heap.SameBut a s.heap h')(he:∃ q,h'.get? a=some q)(new:ObjOk X.prog X.w (upd H a ob) h' a ob) :
  Inv X pins σ (upd H a ob) { s with heap:=h',toks:=t' } :=
 I.write (x:=a) (e:=a) mu (.inl rfl) (fun b q hb z=>(hs.2 b hb).trans z) he new
theorem aS1{P:Program}{w:World}{H':Hp}{h':Heap}{kvs:List (Key×V)}{vs:List (Key×Value)}(z:kvs.length<=sizeLine)(hd:(a == sysModules)=false)(rel:KV kvs vs)(dd:h'.DictOf (g8 P w) a vs) :
  ObjOk P w H' h' a (.dK kvs):=⟨z,hd,vs,rel,dd⟩
theorem aGo{H':Hp}{Q:Unit->Shared->Prop}(hu:A.units+1 < cLine)(I:Inv X pins σ H s)(g:DPut H a y v H')(ry:RelV y u)(rv:RelV v r)(h:∀ s',Inv X pins σ H' s'->Q () s') :
  wpAny (model X.prog X.w) A (setItem (.ref a) u r) Q E s:=by
 rcases g with ⟨kvs,k,e,ey,l,eH⟩ | ⟨kvs,k,b,e,ey,eb,l,eH⟩
 ·subst ey eH
  obtain ⟨z,hd,vs,rel,dd⟩:=aX0 I.hok e
  have hz:vs.length<=sizeLine:=by rw [<- rel.length];exact z
  have hl:(putK kvs k v).length<=sizeLine:=by have:=sM kvs k v;omega
  refine wpAny_setItem_pairs (hsz:=hz) (aI8 ry) dd fun h' dd' hs=>h _ ?_
  have he:∃ q,h'.get? a=some q:=let ⟨q,_,_,hq,_⟩:=dd';⟨q,hq⟩
  exact aHj I (by rw [e];exact True.intro) hs he (aS1 hl hd (rel.put k rv) dd')
 ·subst ey eH
  cases (show u=Value.ref b from ry)
  obtain ⟨z,hd,xs,rel,dd⟩:=aWx I.hok e
  have hz:xs.length<=sizeLine:=by rw [<- Paired.length rel];exact z
  have hl:(putK kvs k v).length<=sizeLine:=by have:=sM kvs k v;omega
  refine wpAny_setItem_heap (hsz:=hz) (bDr hu) (zL I.hok eb) dd fun h' dd' hs=>h _ ?_
  obtain ⟨q,es,ep,hq,h2,h3,h4,_,h5⟩:=dd'
  refine aHj I (by rw [e];exact True.intro) hs ⟨q,hq⟩ ⟨hl,hd,_,(rel.put k eb rv).keeps fun c ys ec=>?_,q,es,ep,hq,h2,h3,h4,h5⟩
  rw [bK (aW9 ec e (fun z=>nomatch z))]
  exact ec
end
section
variable {X:Cx}{pins:List (Addr×Obj)}{σ:St}{H:Hp}{s:Shared}{a:Addr}{kvs:List (Key×V)}{k:Key}{u:Value}{A:Around}{E:Value->Shared->Prop}
end
def aXf(i:Expr):Prop:=∀ ov iv,subscripted i false ov iv=operate [ov,iv] (getItem ov iv)
theorem aQp{prog:Program}{w:World}{A:Around}{E:Value->Shared->Prop}{s:Shared}{env:Env}{value slice:Expr}{pos:Pos}{T id:String}{Q:Value->Shared->Prop}
  (hl:typeLookup (.type T) "__getitem__" = pure (some (.builtin id))) (hs:aXf slice)
  (h:wpAny (model prog w) A (eval value env) (fun o s₁=>wpAny (model prog w) A (eval slice env) (fun i s₂=>s₂.TypeIs o T/\wpAny (model prog w) A (getItem o i) Q E s₂) E s₁) E s) :
  wpAny (model prog w) A (eval (.Subscript value slice pos) env) Q E s:=by
 refine Subscript_ (bBu h (fun o s₁ h₁=>bBu h₁ (fun i s₂ h₂=>?_) fun _ _ x=>x) fun _ _ x=>x)
 obtain ⟨hT,h₂⟩:=h₂
 unfold subscriptTail
 refine aZ1 ?_
 rw [getitemInPython_of_ne hT.not_modules]
 refine aZ1 (wpAny_specialOf hT hl ?_)
 have fin:wpAny (model prog w) A (subscripted slice false o i) (fun r s₃=>wpAny (model prog w) A (letTemporaryGo value o r >>= fun _=>pure r) Q E s₃) E s₂:=by
  rw [hs o i]
  exact wpAny_operating (bBu h₂ (fun r s₃ h₃=>aZ1 (wpAny_letTemporaryGo (bAl h₃))) fun _ _ x=>x)
 first
  | exact bAl (aZ1 fin)
  | exact aZ1 (bAl (aZ1 fin))
  | exact aZ1 fin
theorem aB9{X:Cx}{pins:List (Addr×Obj)}{σ:St}{H:Hp}{s:Shared}{a:Addr}{y:V}{o:Option V}(I:Inv X pins σ H s)(g:DGet H a y o):s.TypeIs (.ref a) "dict":=by
 rcases g with ⟨kvs,k,e,_,_⟩ | ⟨kvs,k,b,e,_,_,_⟩
 ·obtain ⟨_,_,vs,_,dd⟩:=aEy I.hok e
  exact dd.typeIs
 ·obtain ⟨_,_,xs,_,dd⟩:=aGs I.hok e
  exact dd.typeIs
def aX6(td ty:TE):TE:=fun σ H Q=>td σ H fun x H1=>ty σ H1 fun y H2=>∃ a v,x=.ref a/\DGet H2 a y (some v)/\Q v H2
def aYt(ty td:TE):TE:=fun σ H Q=>ty σ H fun y H1=>td σ H1 fun x H2=>∃ a o,x=.ref a/\DGet H2 a y o/\Q (.bl o.isSome) H2
def aIc(ty td:TE):TE:=fun σ H Q=>ty σ H fun y H1=>td σ H1 fun x H2=>∃ a o,x=.ref a/\DGet H2 a y o/\Q (.bl (!o.isSome)) H2
def aW8(td ty tv:TE):TS:=fun D σ H=>tv σ H fun v H1=>td σ H1 fun x H2=>ty σ H2 fun y H3=>∃ a H4,x=.ref a/\DPut H3 a y v H4/\D.nx σ H4
section
variable {X:Cx}{o i e value:Expr}{pos pos' tpos:Pos}{td ty tv:TE}
theorem aPk(hu:X.A.units+1 < cLine)(ho:PE X o td)(hi:PE X i ty)(hs:aXf i):PE X (.Subscript o i pos) (aX6 td ty):=by
 intro pins s σ H Q I h
 refine aQp PySem.F.slot_dict_getitem.lookup hs (thn (ho pins s σ H _ I h) fun u s1 ⟨x,H1,I1,rx,q1⟩=>thn (hi pins s1 σ H1 _ I1 q1) fun iv s2 ⟨y,H2,I2,ry,a,v,ex,g,q2⟩=>?_)
 subst ex
 obtain rfl:u=Value.ref a:=rx
 exact ⟨aB9 I2 g,aIk hu I2 g ry fun w' s3 I3 rw'=>⟨v,H2,I3,rw',q2⟩⟩
theorem aUo(hu:X.A.units+1 < cLine)(hi:PE X i ty)(ho:PE X o td):PC X .In i o (aYt ty td):=by
 intro pins s σ H Q I h
 refine thn (hi pins s σ H _ I h) fun iv s1 ⟨y,H1,I1,ry,q1⟩=>thn (ho pins s1 σ H1 _ I1 q1) fun u s2 ⟨x,H2,I2,rx,a,ov,ex,g,q2⟩=>?_
 subst ex
 obtain rfl:u=Value.ref a:=rx
 exact aZi hu I2 g ry fun s3 I3=>⟨.bl ov.isSome,H2,I3,rfl,q2⟩
theorem aJ7(hu:X.A.units+1 < cLine)(hi:PE X i ty)(ho:PE X o td):PC X .NotIn i o (aIc ty td):=by
 intro pins s σ H Q I h
 refine thn (hi pins s σ H _ I h) fun iv s1 ⟨y,H1,I1,ry,q1⟩=>thn (ho pins s1 σ H1 _ I1 q1) fun u s2 ⟨x,H2,I2,rx,a,ov,ex,g,q2⟩=>?_
 subst ex
 obtain rfl:u=Value.ref a:=rx
 exact aR1 hu I2 g ry fun s3 I3=>⟨.bl (!ov.isSome),H2,I3,rfl,q2⟩
theorem aQ8(hu:X.A.units+1 < cLine)(ho:PE X o td)(hi:PE X i ty)(hv:PE X value tv)(hs:swapsWith value (some (.Subscript o i pos')) pos.line X.env=pure false) :
  PS X (.Assign [.Subscript o i pos'] value pos) (aW8 td ty tv):=by
 intro pins s σ H D I h
 refine wpAny_Assign_Subscript (thn (hv pins s σ H _ I h) fun r s1 ⟨v,H1,I1,rv,q1⟩=>thn (ho pins s1 σ H1 _ I1 q1) fun u s2 ⟨x,H2,I2,rx,q2⟩=>thn (hi pins s2 σ H2 _ I2 q2) fun iv s3 ⟨y,H3,I3,ry,a,H4,ex,g,q3⟩=>?_) hs
 subst ex
 obtain rfl:u=Value.ref a:=rx
 exact aGo hu I3 g ry rv fun s4 I4=>⟨σ,H4,I4,q3⟩
end
theorem aMv{P:Program}{w:World}{H:Hp}(h:Heap)(hb:sysModules < h.objs.size):ObjOk P w H (h.push { cls:=.type "dict",data:=.dict #[] }) h.objs.size (.dK []) :=
 ⟨bBo _,bCh.mpr (bD0 (bAu hb)),[],.nil,Heap.DictOf.new h⟩
theorem aMu{P:Program}{w:World}{H:Hp}(h:Heap)(hb:sysModules < h.objs.size):ObjOk P w H (h.push { cls:=.type "dict",data:=.dict #[] }) h.objs.size (.dT []) :=
 ⟨bBo _,bCh.mpr (bD0 (bAu hb)),[],.nil,_,#[],0,bAx _ rfl,⟨rfl,rfl,rfl⟩,rfl,rfl,bGb⟩
def aUp:TE:=fun _ H Q=>∀ p,H p=none->Q (.ref p) (upd H p (.dK []))
def aVr:TE:=fun _ H Q=>∀ p,H p=none->Q (.ref p) (upd H p (.dT []))
section
variable {X:Cx}{pos:Pos}
theorem aM8:PE X (.Dict [] [] pos) aUp:=fun pins s σ H Q I h =>
 wpAny_Dict_empty ⟨.ref s.heap.objs.size,_,I.laid (a:=s.heap.objs.size) (o:=.dK []) (t':=s.toks) (fun _ _ q=>aZ4 _ q) (bAf _) (aMv s.heap I.big),rfl,h _ (I.hok.fresh (bAf _))⟩
theorem aMa:PE X (.Dict [] [] pos) aVr:=fun pins s σ H Q I h =>
 wpAny_Dict_empty ⟨.ref s.heap.objs.size,_,I.laid (a:=s.heap.objs.size) (o:=.dT []) (t':=s.toks) (fun _ _ q=>aZ4 _ q) (bAf _) (aMu s.heap I.big),rfl,h _ (I.hok.fresh (bAf _))⟩
end
structure M1(X:Cx)(o:Expr)(m:Str)(apos:Pos)(e:Expr)(cpos:Pos):Prop where
 base:attributeBase o m X.env (eval o X.env)=eval o X.env
 few:((backTo cpos (starEach [e] X.env)).all (fun x=>!x.1) && (backToKw cpos (keywordEach [] X.env)).all (fun x=>x.1.isSome)
  && decide (([e]:List Expr).length+([]:List Keyword).length+(if ([]:List Keyword).isEmpty then 0 else 1) < 30))=true
 line:(apos.endLine == cpos.line)=true
 trees:backTo cpos (starEach [e] X.env)=[(false,eval e X.env)]
section
variable {X:Cx}{pins:List (Addr×Obj)}{σ:St}{H:Hp}{s:Shared}{a:Addr}{y d:V}{u r:Value}{o:Option V}{A:Around}{E:Value->Shared->Prop}
end
section
variable {X:Cx}{o e f:Expr}{apos cpos:Pos}{td ty tx:TE}
end
section
variable {X:Cx}{pins:List (Addr×Obj)}{σ:St}{H:Hp}{s:Shared}{a:Addr}{kvs:List (Key×V)}{A:Around}{E:Value->Shared->Prop}
end
section
variable {X:Cx}{pins:List (Addr×Obj)}{σ:St}{H:Hp}{s:Shared}{a:Addr}{y:V}{u:Value}{A:Around}{E:Value->Shared->Prop}
end
end L2
namespace Att
open PySem PySem.W PySem.Calls PyProof.Rows
theorem tF{P:Params}{h:Heap}:∀ (ns:List Int) (vs:List Value),WellAll P h vs (ns.map WData.int)->IntsAre vs ns:=by
 intro ns
 induction ns with
 | nil =>
  intro vs w
  rw [bB8] at w
  cases w
  exact .nil
 | cons n ns ih =>
  intro vs w
  rw [bAb] at w
  cases w with
  | cons a b =>
   cases a
   exact .cons _ _ (ih _ b)
theorem aH1{l:OpenLaw}{n:Nat}(hn:l.most=some n){P:Params}{h:Heap}{args:List WData}{vals:List Value}
  (aSc:l.row.toRowW.claim.pre args=true) (hwl:WellAll P h vals args) :
  ∃ a vs ns,vals=[Value.ref a]/\args=[WData.list (ns.map WData.int)]/\h.get? a=some { cls:=.type "list",data:=.seq vs.toArray }/\IntsAre vs ns/\ns.length<=n:=by
 have hsh:WShape.hasAll [] args [.list .int]=true:=(pre_splitW aSc).1
 have hc:l.pre.holds [] { args:=args }=true:=(pre_splitW aSc).2
 obtain ⟨d,r,rfl,h1,h2⟩:=hasAllW_cons hsh
 obtain rfl:=hasAllW_nil h2
 obtain ⟨xs,rfl,h3⟩:=hasW_list h1
 obtain ⟨ns,rfl⟩:=items_int h3
 have hlen:ns.length<=n:=by
  unfold OpenLaw.pre at hc
  have h4:(WTm.not (.lt (.lit (.int (n:Int))) (.len (.arg 0)))).holds [] { args:=[.list (ns.map .int)] }=true:=by
   have h4:=(holds_andW hc).1
   rw [hn] at h4
   exact h4
  have h5:=condW_of h4 (w_not (w_lt w_lit (w_len_list (w_arg rfl))))
  rw [aZ0] at h5
  refine Nat.le_of_not_lt fun q=>?_
  have q':(n:Int) < ((ns.length:Nat):Int):=by omega
  first
   | (rw [aZ8 q'] at h5;exact absurd h5 (by decide))
   | (simp at h5;omega)
 cases hwl with
 | cons w1 w2 =>
  cases w2
  cases w1 with
  | list ho hall=>exact ⟨_,_,ns,rfl,rfl,ho,tF ns _ hall,hlen⟩
theorem aI0(l:OpenLaw)(args:List WData):l.row.toRowW.claim.post args (.bool true) args=true :=
 postW_of (r:=l.row.toRowW) (X:=(true == true))
  (show WShape.has [] (.bool true) .bool=true by first | rfl | decide | simp [WShape.has,WShape.arms,WShape.armsAll])
  (show (WTm.eq .res (.lit (.bool true))).value [] { args:=args,res:=some (.bool true),after:=args }=some (.bool (true == true)) from w_eq_bool (w_res rfl) w_lit) rfl
theorem aCu{l:OpenLaw}{n:Nat}{q:Program}{loose:List Str}{XP:(Str->Option Value)->Heap->Prop}{YP:World->Heap->Prop}{d:DefRec}
  (hn:l.most=some n) (hdf:d.params.defaults=[])
  (call:∀ (w:World) (s₀ s₁:Shared) (mg mb:Str->Option Value) (fa:Addr) (o:Obj) (pm cd doc:Value) (a:Addr) (vs:List Value) (ns:List Int),
   Ground q loose [] XP w s₀ mg mb s₁.heap->YP w s₁.heap ->
   s₁.heap.get? fa=some o->o.data=.func (docDef d.name d.params d.body d.scope pm cd doc)->s₁.heap.CodeRec cd d.name->mg d.name=some (.ref fa) ->
   s₁.heap.get? a=some { cls:=.type "list",data:=.seq vs.toArray }->IntsAre vs ns->ns.length<=n->s₁.gens=#[] ->
   codeAny (model l.prog w) callerA (.call (.ref fa) ⟨[.ref a],[]⟩) (fun r s'=>r=.ok (.ret (.bool true))/\OldK s₁.heap s'.heap/\s'.os=s₁.os/\AllBare s'.gens) s₁) :
  WalkO q loose XP YP l.row.toRowW d [] (fun f vs=>PySem.call f vs):=by
 intro w s₀ s₁ mg mb G Y fa o pm cd doc dV kV ho hd hcd hD hmg hg args vals as aSc hlay hrd hwl hlo
 obtain rfl:dV=.none:=Dflts.none hD hdf
 obtain rfl:kV=.none:=Dflts.noKw hD
 obtain ⟨a,vs,ns,rfl,rfl,hobj,hints,hlen⟩:=aH1 hn aSc hwl
 refine enter_call (codeAny_mono (call w s₀ s₁ mg mb fa o pm cd doc a vs ns G Y ho (fd_plain hd) hcd hmg hobj hints hlen hg) fun r s' hq=>?_)
 obtain ⟨rfl,h2,h3,h4⟩:=hq
 exact ⟨.inl ⟨.bool true,.bool true,[],rfl,fun _=>rfl,.bool true,aI0 l _,fun _=>⟨List.Pairwise.nil,fun _ hm=>(nomatch hm)⟩⟩,h2,h3,h4⟩
section
variable {prog:Program}{w:World}{A:Around}{E:Value->Shared->Prop}{s:Shared}{K:Frag}
end
end Att
namespace L2
open PySem PySem.Spec PyProof.Rows
theorem zO:∀ {vs:List Value} {ns:List Int},IntsAre vs ns->Vals (ns.map V.int) vs
 | _,_,.nil=>.nil
 | _,_,.cons n t h=>.cons ⟨t,rfl⟩ (zO h)
def aXr(H:Hp):Prop:=∀ b,H b=none\/(∃ o xs,H b=some (.frz o (.lst xs)))\/∃ ps,H b=some (.tbl ps)
theorem aM2{P:Program}{w:World}{K:aZz}{mg mb:Str->Option Value}{CX:CXT}{k:Nat}{fa a:Addr}{fd:FuncData}{x:Str}{sp:Sp}{s₁:Shared}{vs:List Value}{ns:List Int}{ts:List Addr}
  (hT:aPj K ts=true) (hT2:∀ P∈ts,s₁.heap.get? P=some (PySem.W.tabObj #[])) (hbm:∃ bm ob,mg "__builtins__" = some (.ref bm)/\bm≠builtinsNs/\s₁.heap.get? bm=some ob/\ob.cls=.type "module"/\ob.dict=some builtinsNs/\ob.data=.plain)
  (KX:K.In s₁.heap) (hns:s₁.heap.Ns mainGlobals mg) (hb:s₁.heap.Ns builtinsNs mb) (hbb:∀ x:Str,x≠"__name__"->mb x=bootBuiltins x) (hlim:s₁.heap.NoLimit) (hg:s₁.gens=#[])
  (ha:s₁.heap.get? a=some { cls:=.type "list",data:=.seq vs.toArray }) (hi:IntsAre vs ns) (hl:ns.length<=sizeLine) (hr:Room k callerA)
  (F:∀ base:Heap,K.In base->base.Ns mainGlobals mg->FnOk P w K mg base CX k fa fd [x] sp) (hbind:∀ (s:Shared) (u:Value),BindsTo s fd ⟨[u],[]⟩ [(x,u)])
  (hsp:∀ H:Hp,aXr H->SqL K H a (ns.map V.int)->sp [.ref a] H (fun v _=>v=.bl true) fun _ _ _=>False)
  (hCX:∀ H e s',CX [] H s₁ (fun _ _ _=>False) e s'->False) :
  codeAny (model P w) callerA (.call (.ref fa) ⟨[.ref a],[]⟩) (fun r s'=>r=.ok (.ret (.bool true))/\OldK s₁.heap s'.heap/\s'.os=s₁.os/\AllBare s'.gens) s₁:=by
 have rv:=zO hi
 have lenV:=hi.length
 have tk:∀ p∈tbs K,PySem.W.CodeHd s₁.heap p.1 p.2.1/\K.lookup p.2.1=none/\s₁.heap.get? p.2.1=some (PySem.W.tabObj #[])/\∀ q∈tbs K,p.2.1=q.2.1->p.2.2=q.2.2:=fun p hp=>by
  have z:=bCz.mp hT p hp
  simp only [bCa] at z
  obtain ⟨⟨⟨z1,z2⟩,z3⟩,z4⟩:=z
  refine ⟨PySem.W.codeHd_of_K KX z1,by simpa using z2,hT2 _ (by simpa using z3),fun q hq e=>?_⟩
  have y:=bCz.mp z4 q hq
  rw [Bool.or_eq_true] at y
  rcases y with y | y
  ·rw [e] at y;simp at y
  ·exact bD3.mp y
 have aP:∀ p∈tbs K,a≠p.2.1:=fun p hp z=>by
  have e:=(tk p hp).2.2.1
  rw [<- z,ha] at e
  cases e
 have core:∀ H:Hp,aXr H->SqL K H a (ns.map V.int)->HOk P w H s₁.heap->(∀ b,H b≠none->b=a\/∃ p∈tbs K,b=p.2.1)->(H a≠none->K.lookup a=none)->Tbs K H ->
   codeAny (model P w) callerA (.call (.ref fa) ⟨[.ref a],[]⟩) (fun r s'=>r=.ok (.ret (.bool true))/\OldK s₁.heap s'.heap/\s'.os=s₁.os/\AllBare s'.gens) s₁:=by
  intro H hO hS hok hA hK hTb
  have base_of:∀ {b:Addr} {o:Obj},s₁.heap.get? b=some o->H b=none->(aMc s₁.heap H).get? b=some o:=fun e n=>aMl e n
  have noT:∀ {b:Addr} {o:Obj},s₁.heap.get? b=some o->o≠{ cls:=.type "list",data:=.seq vs.toArray }->o≠PySem.W.tabObj #[]->H b=none:=fun {b o} e d1 d2=>by
   cases q:H b with
   | none=>rfl
   | some u =>
    rcases hA b (by rw [q];simp) with e' | ⟨p,hp,e'⟩
    ·subst e'
     rw [ha] at e;cases e
     exact absurd rfl d1
    ·subst e'
     rw [(tk p hp).2.2.1] at e;cases e
     exact absurd rfl d2
  have noA:∀ {b:Addr} {o:Obj} {es:Array DictEntry} {ep:Nat},s₁.heap.get? b=some o->o.data=.dict es ep->H b=none:=fun {b o es ep} e d =>
   noT e (fun z=>by subst z;cases d) fun z=>by subst z;cases d
  have nsK:∀ {b:Addr} {m:Str->Option Value},s₁.heap.Ns b m->(aMc s₁.heap H).Ns b m:=fun {b m} ⟨o,es,ep,e,d,r⟩=>⟨o,es,ep,base_of e (noA e d),d,r⟩
  have hKb:K.In (aMc s₁.heap H):=fun b o e=>base_of (KX b o e) (by
   cases q:H b with
   | none=>rfl
   | some u =>
    rcases hA b (by rw [q];simp) with e' | ⟨p,hp,e'⟩
    ·subst e'
     rw [hK (by rw [q];simp)] at e;cases e
    ·subst e'
     rw [(tk p hp).2.1] at e;cases e)
  have hM:Mod K mg (aMc s₁.heap H):=⟨hKb,nsK hns,⟨mb,nsK hb,hbb⟩,(let ⟨mc,h1,h2⟩:=hlim;⟨mc,nsK h1,h2⟩),(let ⟨bm,ob,b1,b2,b3,b4,b5⟩:=hbm;⟨bm,ob,b1,b2,base_of b3 (noT b3 (fun z=>by subst z;simp at b4) fun z=>by subst z;simp at b4),b4,b5⟩)⟩
  have e0:aV6 P w K mg (aMc s₁.heap H) callerA [] s₁ H:=⟨rfl,hM,fun b o e=>aR6 e,bDn (aIj _ _),trivial,fun b hb=>absurd (show b∈([]:List Addr) from hb) (by simp),hok,.of_eq hg,hTb⟩
  refine codeAny_mono ((F _ hKb (nsK hns)).run callerA [] s₁ H ⟨[.ref a],[]⟩ [.ref a] [.ref a] _ _ hr e0 (hbind s₁ (.ref a)) (.cons rfl .nil) (hsp H hO hS)) fun r s' h=>?_
  cases r with
  | error e=>exact (hCX H e s' h).elim
  | ok fl =>
   cases fl with
   | next=>exact False.elim h
   | brk=>exact False.elim h
   | cont=>exact False.elim h
   | ret u =>
    obtain ⟨v,H',os,bare,un,hok',r',q⟩:=h
    have q':v=.bl true:=q
    subst q'
    obtain rfl:u=Value.bool true:=r'
    have old:∀ b o,s₁.heap.get? b=some o->s'.heap.get? b=some o\/∃ p∈tbs K,∃ qs,b=p.2.1/\o=PySem.W.tabObj #[]/\s'.heap.get? b=some (PySem.W.tabObj qs):=fun b o e=>by
     cases q:H b with
     | none=>exact .inl (un.keep b o e q (by intro z;exact absurd (show b∈([]:List Addr) from z) (by simp)) (by simp))
     | some u =>
      rcases hO b with z | ⟨ob,xs,z⟩ | ⟨ps,z⟩
      ·rw [q] at z;cases z
      ·have z2:=un.frzs b ob _ z
       obtain ⟨e1,_⟩:=hok b _ z
       obtain ⟨e2,_⟩:=hok' b _ z2
       rw [e] at e1;cases e1
       exact .inl e2
      ·obtain ⟨more,z2⟩:=un.tbls b ps z
       obtain ⟨qs,e2,_⟩:=hok' b _ z2
       rcases hA b (by rw [z];simp) with e' | ⟨p,hp,e'⟩
       ·subst e'
        obtain ⟨qs0,e3,_⟩:=hok b _ z
        rw [ha] at e3;cases e3
       ·subst e'
        rw [(tk p hp).2.2.1] at e;cases e
        exact .inr ⟨p,hp,qs,rfl,rfl,e2⟩
    refine ⟨rfl,⟨fun b o e=>?_,fun b o e=>?_⟩,os,bare⟩
    ·rcases old b o e with z | ⟨p,hp,qs,rfl,rfl,z⟩
     ·exact .inl z
     ·exact .inr (.inl ⟨((tk p hp).1.tab (tk p hp).2.2.1).isCodeTable,rfl,#[],qs,rfl,by rw [z];simp⟩)
    ·rcases old b o e with z | ⟨p,hp,qs,rfl,rfl,z⟩
     ·exact ⟨_,z⟩
     ·exact ⟨_,z⟩
 have tab:∀ {b:Addr} {u:HO},((tbs K).find? (fun p=>p.2.1 == b)).map (fun p=>HO.tbl #[.str p.2.2 0])=some u->∃ p∈tbs K,b=p.2.1/\u=.tbl #[.str p.2.2 0]:=fun {b u} e=>by
  obtain ⟨p,e1,e2⟩:=bDx.mp e
  have:=List.find?_some e1
  exact ⟨p,bE5 e1,(bD3.mp this).symm,e2.symm⟩
 have tabTb:∀ p∈tbs K,((tbs K).find? (fun q=>q.2.1 == p.2.1)).map (fun p=>HO.tbl #[.str p.2.2 0])=some (.tbl (#[.str p.2.2 0]++#[])):=fun p hp=>by
  cases e:(tbs K).find? (fun q=>q.2.1 == p.2.1) with
  | none=>exact absurd (List.find?_eq_none.mp e p hp) (by simp)
  | some q =>
   have e1:=List.find?_some e
   have e2:=(tk p hp).2.2.2 q (bE5 e) (bD3.mp e1).symm
   simp [e2]
 have tabOk:∀ {H:Hp} {p:Addr×Addr×Str},p∈tbs K->ObjOk P w H s₁.heap p.2.1 (.tbl #[.str p.2.2 0]):=fun hp=>⟨#[],(tk _ hp).2.2.1,trivial,fun n t _ pos cv e=>by cases e⟩
 have tabA:((tbs K).find? (fun p=>p.2.1 == a)).map (fun p=>HO.tbl #[.str p.2.2 0])=none:=by
  cases e:((tbs K).find? (fun p=>p.2.1 == a)).map (fun p=>HO.tbl #[.str p.2.2 0]) with
  | none=>rfl
  | some u=>obtain ⟨p,hp,z,_⟩:=tab e;exact absurd z (aP p hp)
 cases hk:K.lookup a with
 | some o =>
  have e:=KX a o hk
  rw [ha] at e
  cases e
  refine core (fun b=>((tbs K).find? (fun p=>p.2.1 == b)).map (fun p=>HO.tbl #[.str p.2.2 0])) (fun b=>?_) (.inr ⟨_,vs.toArray,_,hk,rfl,rfl,rfl,by rw [bAe,lenV];exact hl,by simpa using rv⟩) (fun b u z=>?_) (fun b z=>?_) (fun z=>absurd tabA z) fun p hp=>⟨#[],tabTb p hp⟩
  ·dsimp only
   cases e:((tbs K).find? (fun p=>p.2.1 == b)).map (fun p=>HO.tbl #[.str p.2.2 0]) with
   | none=>exact .inl rfl
   | some u=>obtain ⟨p,_,_,rfl⟩:=tab e;exact .inr (.inr ⟨_,rfl⟩)
  ·obtain ⟨p,hp,rfl,rfl⟩:=tab z
   exact tabOk hp
  ·obtain ⟨u,e⟩:=bEu.mp z
   obtain ⟨p,hp,e1,_⟩:=tab e
   exact .inr ⟨p,hp,e1⟩
 | none =>
  refine core (fun b=>if b=a then some (.frz { cls:=.type "list",data:=.seq vs.toArray } (.lst (ns.map V.int))) else ((tbs K).find? (fun p=>p.2.1 == b)).map (fun p=>HO.tbl #[.str p.2.2 0])) (fun b=>?_) (.inl (.inr ⟨{ cls:=.type "list",data:=.seq vs.toArray },bAc rfl⟩)) (fun b u z=>?_) (fun b z=>?_) (fun _=>hk) fun p hp=>⟨#[],(bAg (aP p hp).symm).trans (tabTb p hp)⟩
  ·dsimp only
   by_cases hb:b=a
   ·exact .inr (.inl ⟨_,_,bAc hb⟩)
   ·rw [bAg hb]
    cases e:((tbs K).find? (fun p=>p.2.1 == b)).map (fun p=>HO.tbl #[.str p.2.2 0]) with
    | none=>exact .inl rfl
    | some u=>obtain ⟨p,_,_,rfl⟩:=tab e;exact .inr (.inr ⟨_,rfl⟩)
  ·by_cases hb:b=a
   ·have z':=(bAc hb).symm.trans z
    cases z'
    subst hb
    exact ⟨ha,by rw [aZ0];exact hl,vs,_,rv,ha⟩
   ·have z':=(bAg hb).symm.trans z
    obtain ⟨p,hp,rfl,rfl⟩:=tab z'
    exact tabOk hp
  ·by_cases hb:b=a
   ·exact .inl hb
   ·rw [bAg hb] at z
    obtain ⟨u,e⟩:=bEu.mp z
    obtain ⟨p,hp,e1,_⟩:=tab e
    exact .inr ⟨p,hp,e1⟩
theorem aPb{l:PySem.W.OpenLaw}{n k:Nat}{q:Program}{loose:List Str}{XP:(Str->Option Value)->Heap->Prop}{YP:World->Heap->Prop}{d:DefRec}{K:Params->aZz}{CX:World->CXT}{sp:World->Sp}{x:Str}
  (hn:l.most=some n) (hn2:n<=sizeLine) (hdf:d.params.defaults=[]) (hr:Room k callerA)
  {ts:List Addr} (hY:∀ (w:World) (h:Heap),YP w h->(K w.params).In h/\∀ P∈ts,h.get? P=some (PySem.W.tabObj #[])) (hK:∀ w:World,aPj (K w.params) ts=true)
  (F:∀ (w:World) (mg:Str->Option Value) (fa:Addr) (h:Heap),(K w.params).In h->h.Ns mainGlobals mg->mg d.name=some (.ref fa) ->
   ∃ fd:FuncData,(∀ (s:Shared) (u:Value),BindsTo s fd ⟨[u],[]⟩ [(x,u)]) /\
    ∀ base:Heap,(K w.params).In base->base.Ns mainGlobals mg->FnOk l.prog w (K w.params) mg base (CX w) k fa fd [x] (sp w))
  (hsp:∀ (w:World) (H:Hp) (a:Addr) (ns:List Int),ns.length<=n->aXr H->SqL (K w.params) H a (ns.map V.int)->sp w [.ref a] H (fun v _=>v=.bl true) fun _ _ _=>False)
  (hCX:∀ (w:World) (H:Hp) (s:Shared) (e:Value) (s':Shared),CX w [] H s (fun _ _ _=>False) e s'->False) :
  PySem.W.WalkO q loose XP YP l.row.toRowW d [] (fun f vs=>PySem.call f vs):=by
 refine Att.aCu hn hdf fun w s₀ s₁ mg mb fa o pm cd doc a vs ns G Y ho hd hcd hmg hobj hints hlen hg=>?_
 obtain ⟨KX,TX⟩:=hY w _ Y
 obtain ⟨fd,hb,hF⟩:=F w mg fa _ KX G.T.g hmg
 exact aM2 (hK w) TX G.T.bmain KX G.T.g G.T.b G.T.builtins G.T.nolimit hg hobj hints (bA5 hlen hn2) hr hF hb (fun H hO hS=>hsp w H a ns hlen hO hS) fun H e s'=>hCX w H s₁ e s'
def mW(s:Stmt):Arguments:=match s with
 | .FunctionDef _ a _ _ _ _ _ _ _ _=>a
 | _=>{ posonlyargs:=[],args:=[],vararg:=none,kwonlyargs:=[],kw_defaults:=[],kwarg:=none,defaults:=[] }
def jW(s:Stmt):List Stmt:=match s with
 | .FunctionDef _ _ b _ _ _ _ _ _ _=>b
 | _=>[]
def aR(s:Stmt):Scope:=match s with
 | .FunctionDef _ _ _ _ _ _ sc _ _ _=>sc
 | _=>{ kind:=.function,names:=[],isGenerator:=false,isCoroutine:=false }
abbrev E0:XK:=fun _ _ _=>False
structure Fun(K:aZz)(x qual:Str)(st:Stmt)(f:Addr)(fd:FuncData):Prop where
 ex:∃ (oc:Value) (od:Option Addr) (kV doc pm:Value) (an:Option Addr) (cdv ct:Value) (osl:Array (Option Value)),
  fd=PySem.W.fnOf x qual (mW st) (jW st) (aR st) .none kV doc pm an cdv ct/\K.lookup f=some ⟨oc,od,.func fd,osl⟩/\PySem.W.codeIn K cdv qual=true
 kp:PySem.W.keepIn K (.ref f)=true
section
variable {P:Program}{w:World}{K:aZz}{mg:Str->Option Value}{base:Heap}
theorem Fun.binds{x qual:Str}{st:Stmt}{f:Addr}{fd:FuncData}{ps:List Str}(F:Fun K x qual st f fd)
  (h:∀ (kV doc pm:Value) (an:Option Addr) (cdv ct:Value) (us:List Value),us.length=ps.length->bindArgs (PySem.W.fnOf x qual (mW st) (jW st) (aR st) .none kV doc pm an cdv ct) ⟨us,[]⟩=pure (ps.zip us)):Binds K fd ps []:=by
 obtain ⟨oc,od,kV,doc,pm,an,cdv,ct,osl,rfl,lk,hcd⟩:=F.ex
 exact .all (h kV doc pm an cdv ct)
theorem aOl{x qual:Str}{st:Stmt}{f:Addr}{oc:Value}{od an:Option Addr}{osl:Array (Option Value)}{kV doc pm cdv ct:Value}(l:K.lookup f=some ⟨oc,od,.func (PySem.W.fnOf x qual (mW st) (jW st) (aR st) .none kV doc pm an cdv ct),osl⟩)
  (c:PySem.W.codeIn K cdv qual=true) (k:PySem.W.keepIn K (.ref f)=true):Fun K x qual st f (PySem.W.fnOf x qual (mW st) (jW st) (aR st) .none kV doc pm an cdv ct):=⟨⟨oc,od,kV,doc,pm,an,cdv,ct,osl,rfl,l,c⟩,k⟩
end
section
variable {X:Cx}
theorem pv(i:Nat){x:Str}{pos:Pos}(hN:X.N[i]? = some x:=by rfl)(hv:Vis X.env.scope x:=by first | exact Or.inl rfl | exact Or.inr (Or.inl rfl) | exact Or.inr (Or.inr rfl))(hd:(x == ("__debug__" : Str))=false:=by decide)
  (hcd:(x == ("__classdict__" : Str))=false:=by decide):PE X (.Name x pos) (aRt i):=aOn hN hv hd hcd
end
def Same(H H':Hp):Prop:=∀ b o,H b=some o->H' b=some o
theorem Same.refl(H:Hp):Same H H:=fun _ _ h=>h
theorem Same.trans{H H1 H2:Hp}(a:Same H H1)(b:Same H1 H2):Same H H2:=fun c o h=>b c o (a c o h)
theorem Same.free{H H':Hp}(e:Same H H'){l:Addr}(h:H' l=Option.none):H l=Option.none:=by
 cases q:H l with
 | none=>rfl
 | some o =>
  rw [e l o q] at h
  cases h
theorem Same.seq{K:aZz}{H H':Hp}{a:Addr}{xs:List V}(e:Same H H')(h:SqL K H a xs):SqL K H' a xs:=by
 rcases h with (h | ⟨o,h⟩) | h
 ·exact .inl (.inl (e _ _ h))
 ·exact .inl (.inr ⟨o,e _ _ h⟩)
 ·exact .inr h
section
variable {X:Cx}
end
section
variable {κ:Type}[DecidableEq κ]
end
end L2
set_option maxHeartbeats 4000000
namespace PySem.W
open PySem PySem.Spec PySem.Calls PyProof.Rows Builtin Builtin.ObjectAttr Builtin.Getset_descriptor
section
variable {prog:Program}{w:World}{A:Around}{E:Value->Shared->Prop}{K:Frag}{h:Heap}{g:Array GenState}{d:Drawn}{t:Nat}{os:OsState}{a C:Addr}
end
end PySem.W
namespace L2
open PySem PySem.Spec PyProof.Rows
structure aSg(P:Program)(w:World)(outer:List Env)(H:Hp)(s:Shared)(ea:Addr)(cls:Value)(H':Hp)(B:Heap)(a0:Value)(s':Shared):Prop where
 os:s'.os=s.os
 bare:AllBare s'.gens
 un:Un (frs outer) [] H H' s.heap s'.heap
 hok:HOk P w H' s'.heap
 fly:Heap.FlyingW B outer ea cls a0 s'.heap
 inB:∀ b o,s'.heap.get? b=some o->(H' b≠none\/((∃ u,s.heap.get? b=some u)/\b∉frs outer))->B.get? b=some o
 new:s.heap.get? ea=none
 nt:H' ea=none
def CXr(P:Program)(w:World):CXT:=fun outer H s E e s' =>
 ∃ (ea:Addr) (cls:Value) (H':Hp) (B:Heap) (a0:Value),e=.ref ea/\aSg P w outer H s ea cls H' B a0 s'/\E cls none H'
theorem wZ{P:Program}{w:World}{H:Hp}{h h':Heap}(ok:HOk P w H h)(k:∀ b o,H b≠none->h.get? b=some o->h'.get? b=some o):HOk P w H h':=fun a o e =>
 (ok a o e).stay (fun b u hb q=>k b u (by
  rcases hb with z | z
  ·rw [z,e];exact fun q=>nomatch q
  ·rw [z];exact fun q=>nomatch q) q) (fun _ q=>q) fun _ _ q=>q
theorem rZ{P:Program}{w:World}{H:Hp}{h:Heap}{a:Addr}{o:HO}(x:ObjOk P w H h a o):∃ ob,h.get? a=some ob:=by
 cases o with
 | lst xs=>obtain ⟨_,_,_,_,e⟩:=x;exact ⟨_,e⟩
 | tup xs=>obtain ⟨_,_,_,ob,e,_⟩:=x;exact ⟨_,e⟩
 | dK kvs=>obtain ⟨_,_,_,_,o,_,_,e,_⟩:=x;exact ⟨_,e⟩
 | dT kvs=>obtain ⟨_,_,_,_,o,_,_,e,_⟩:=x;exact ⟨_,e⟩
 | set S n=>obtain ⟨o,_,_,_,e,_⟩:=x;exact ⟨_,e⟩
 | ins C dx fs=>obtain ⟨_,_,_,e,_⟩:=x;exact ⟨_,e⟩
 | own y=>exact x
 | xd fs=>obtain ⟨_,⟨_,_,_,e,_⟩,_⟩:=x;exact ⟨_,e⟩
 | rng lo hi=>obtain ⟨_,_,_,e⟩:=x;exact ⟨_,e⟩
 | frz ob u=>obtain ⟨e,_⟩:=x;exact ⟨_,e⟩
 | tbl ps=>obtain ⟨_,e,_⟩:=x;exact ⟨_,e⟩
 | met f y=>exact ⟨_,(show h.get? a=some _ from x)⟩
 | ext φ=>obtain ⟨_,e,_⟩:=x;exact e
theorem HOk.there{P:Program}{w:World}{H:Hp}{h:Heap}{a:Addr}(x:HOk P w H h)(n:H a≠none):∃ ob,h.get? a=some ob:=by
 cases q:H a with
 | none=>exact absurd q n
 | some u=>exact rZ (x a u q)
section
variable {P:Program}{w:World}{K:aZz}{mg:Str->Option Value}{base:Heap}{N:List Str}{qual:Str}{scope:Scope}{f:Addr}{cd:Value}{A:Around}{outer:List Env}{s:Shared}{H:Hp}{E:XK}
theorem w8{env:Env}{l:List Env}{L:Addr}(h:env.frame=some L):frs (env :: l)=L :: frs l:=by
 unfold frs
 rw [bDk,h]
theorem aEj{X:Cx}{pins:List (Addr×Obj)}{σ:St}{H1 H':Hp}{s1:Shared}{B h'':Heap}{ea:Addr}{cls a0:Value}{g':Array GenState}{d':Drawn}{t':Nat}{os':OsState}
  (I:Inv X pins σ H1 s1) (hx:X.ex=[]) (hs:X.env.locals∉frs X.outer)
  (ho:os'=X.s₀.os) (hg:AllBare g')
  (fly:Heap.FlyingW B X.outer ea cls a0 h'')
  (kp:∀ b o,s1.heap.get? b=some o->H1 b=none->b∉frs X.outer->b≠X.env.locals->B.get? b=some o)
  (sl:∀ b o,s1.heap.get? b=some o->b∈frs X.outer->∃ sl,h''.get? b=some { o with slots:=sl })
  (fr:∀ b o,s1.heap.get? b=some o->H1 b=none->H' b=none)
  (tups:∀ b xs,H1 b=some (.tup xs)->H' b=some (.tup xs)) (frzs:∀ b o u,H1 b=some (.frz o u)->H' b=some (.frz o u)) (tbls:∀ b ps,H1 b=some (.tbl ps)->∃ more,H' b=some (.tbl (ps++more)))
  (hok:HOk X.prog X.w H' h'') (inH:∀ b o,h''.get? b=some o->H' b≠none->B.get? b=some o)
  (th:∀ b o,s1.heap.get? b=some o->H1 b≠none->∃ o',h''.get? b=some o')
  (inB:∀ b o,s1.heap.get? b=some o->b∉frs X.outer->b≠X.env.locals->∃ o',B.get? b=some o')
  (new:s1.heap.get? ea=none) (nt:H' ea=none) :
  aSg X.prog X.w X.outer X.H₀ X.s₀ ea cls H' B a0 ⟨h'',g',d',t',os'⟩:=by
 have hxn:∀ b:Addr,b∉X.ex:=fun b z=>by rw [hx] at z;cases z
 have neL:∀ b o,X.s₀.heap.get? b=some o->b≠X.env.locals:=fun b o e=>bAu (bAy (aZ9 e) I.ok.above)
 have st:=fly.1
 refine ⟨ho,hg,⟨fun b o e n hb _=>?_,fun b o e n hb _=>?_,fun b o e n _=>?_,fun b o e _=>?_,fun b xs e=>tups b xs (I.base.tups b xs e),fun b o u e=>frzs b o u (I.base.frzs b o u e),fun b ps e=>?_⟩,hok,fly,fun b o e hb=>?_,?_,nt⟩
 ·exact st b o (kp b o (I.base.keep b o e n hb (hxn b)) (I.base.free b o e n (hxn b)) hb (neL b o e))
 ·obtain ⟨l1,e1⟩:=I.base.slot b o e n hb (hxn b)
  obtain ⟨l2,e2⟩:=sl b _ e1 hb
  exact ⟨l2,e2⟩
 ·obtain ⟨o1,e1⟩:=I.base.there b o e (hxn b)
  exact fr b o1 e1 (I.base.free b o e n (hxn b))
 ·obtain ⟨o1,e1⟩:=I.base.there b o e (hxn b)
  by_cases hb:b∈frs X.outer
  ·obtain ⟨l2,e2⟩:=sl b o1 e1 hb
   exact ⟨_,e2⟩
  ·obtain ⟨o2,e2⟩:=inB b o1 e1 hb (neL b o e)
   exact ⟨o2,st b o2 e2⟩
 ·obtain ⟨m1,e1⟩:=I.base.tbls b ps e
  obtain ⟨m2,e2⟩:=tbls b _ e1
  exact ⟨m1++m2,by rw [e2,bEy]⟩
 ·rcases hb with hb | ⟨⟨u,hu⟩,hb⟩
  ·exact inH b o e hb
  ·obtain ⟨o1,e1⟩:=I.base.there b u hu (hxn b)
   obtain ⟨o2,e2⟩:=inB b o1 e1 hb (neL b u hu)
   have e3:=st b o2 e2
   have e4:h''.get? b=some o:=e
   rw [e3] at e4
   cases e4
   exact e2
 ·cases q:X.s₀.heap.get? ea with
  | none=>rfl
  | some o =>
   obtain ⟨o',e'⟩:=I.base.there ea o q (hxn ea)
   rw [new] at e'
   cases e'
theorem aX7:aU3 (CXr P w) (xJ (CXr P w) P w K mg base N qual scope f cd A outer s H E) E:=by
 intro pins σ H1 s1 e s1' I h
 obtain ⟨ea,cls,H',B,a0,rfl,F,want⟩:=h
 have hfr:(xJ (CXr P w) P w K mg base N qual scope f cd A outer s H E).A.frames=some (envOfC qual scope s.heap.objs.size f cd :: outer):=I.ok.frames
 have hstk:frs (xJ (CXr P w) P w K mg base N qual scope f cd A outer s H E).stack=s.heap.objs.size :: frs outer:=w8 rfl
 have hLo:s.heap.objs.size∉frs outer:=fun z=>by
  obtain ⟨_,o,ho,_⟩:=I.ok.funs.mem z
  exact absurd (aZ9 ho) (bB7 _)
 have nst:∀ {b:Addr},b∉frs outer->b≠s.heap.objs.size->b∉frs (xJ (CXr P w) P w K mg base N qual scope f cd A outer s H E).stack:=fun h1 h2 z=>by
  rw [hstk] at z
  rcases aZ3.mp z with z | z
  ·exact h2 z
  ·exact h1 z
 show wpAny (model P w) _ (leaving _ (.ref ea)) _ _ s1'
 refine wpAny_leaves_onW hfr rfl F.fly fun h'' fl' up=>?_
 have inB':∀ b o,s1'.heap.get? b=some o->H' b≠none->h''.get? b=some o:=fun b o e n=>fl'.1 b o (F.inB b o e (.inl n))
 refine ⟨ea,cls,H',B,a0,rfl,aEj (X:=xJ (CXr P w) P w K mg base N qual scope f cd A outer s H E) I rfl hLo (F.os.trans I.os) F.bare fl' (fun b o e n hb hL=>?_) (fun b o e hb=>?_) (fun b o e n=>F.un.free b o e n (by simp)) F.un.tups F.un.frzs F.un.tbls
  (wZ F.hok fun b o n e=>inB' b o e n) (fun b o e n=>?_) (fun b o e n=>?_) (fun b o e hb hL=>?_) F.new F.nt,want⟩
 ·exact F.inB b o (F.un.keep b o e n (nst hb hL) (by simp)) (.inr ⟨⟨o,e⟩,nst hb hL⟩)
 ·have hb':b∈frs outer:=hb
  have n:H1 b=none:=by
   have:=I.stkFree b (by rw [hstk];exact bBn _ hb')
   exact this
  obtain ⟨l1,e1⟩:=F.un.slot b o e n (by rw [hstk];exact bBn _ hb') (by simp)
  obtain ⟨_,o',ho',hd'⟩:=F.fly.2.2.1.mem (b:=b) (by
   have:b∈frs (xJ (CXr P w) P w K mg base N qual scope f cd A outer s H E).stack:=by rw [hstk];exact bBn _ hb'
   exact this)
  rw [e1] at ho'
  cases ho'
  obtain ⟨l2,e2⟩:=up b _ e1 hd'
  exact ⟨l2,e2⟩
 ·obtain ⟨o1,e1⟩:=F.hok.there n
  have e2:=F.inB b o1 e1 (.inl n)
  have e3:=fl'.1 b o1 e2
  rw [e] at e3
  cases e3
  exact e2
 ·obtain ⟨o1,e1⟩:=F.un.there b o e (by simp)
  by_cases hb:b∈frs outer
  ·have hz:H1 b=none:=I.stkFree b (by rw [hstk];exact bBn _ hb)
   exact absurd hz n
  ·by_cases hL:b=s.heap.objs.size
   ·have hz:H1 b=none:=I.stkFree b (by rw [hstk,hL];exact bDp)
    exact absurd hz n
   ·exact ⟨o1,fl'.1 b o1 (F.inB b o1 e1 (.inr ⟨⟨o,e⟩,nst hb hL⟩))⟩
 ·obtain ⟨o1,e1⟩:=F.un.there b o e (by simp)
  exact ⟨o1,F.inB b o1 e1 (.inr ⟨⟨o,e⟩,nst hb hL⟩)⟩
def aHk(X:Cx)(E:XK):Prop:=∀ (pins:List (Addr×Obj)) (σ:St) (H:Hp) (s:Shared) (C:Addr) (h':Heap) (e:Addr) (vs:List Value),Inv X pins σ H s->Heap.MadeExcOf s.heap h' e (.ref C) vs->E (.ref C) none H->X.xe (.ref e) { s with heap:=h' }
theorem aHl:aHk (xJ (CXr P w) P w K mg base N qual scope f cd A outer s H E) E:=by
 intro pins σ H1 s1 C h' e vs I hx want
 have hstk:frs (xJ (CXr P w) P w K mg base N qual scope f cd A outer s H E).stack=s.heap.objs.size :: frs outer:=w8 rfl
 have hfr:(xJ (CXr P w) P w K mg base N qual scope f cd A outer s H E).A.frames=some (envOfC qual scope s.heap.objs.size f cd :: outer):=I.ok.frames
 have hLo:s.heap.objs.size∉frs outer:=fun z=>by
  obtain ⟨_,o,ho,_⟩:=I.ok.funs.mem z
  exact absurd (aZ9 ho) (bB7 _)
 have st:s1.heap.FunFrames base (envOfC qual scope s.heap.objs.size f cd :: outer):=I.stack
 have fin:s1.heap.FunFrames (PySem.W.hideAll s1.heap (s.heap.objs.size :: frs outer)) (envOfC qual scope s.heap.objs.size f cd :: outer) :=
  PySem.W.funFrames_hide st fun env he a ha=>by
   rw [<- hstk]
   exact bE0.mpr ⟨env,he,ha⟩
 have nfr:∀ {b:Addr},H1 b≠none->b∉s.heap.objs.size :: frs outer:=fun n z=>n (I.stkFree _ (by rw [hstk];exact z))
 have nin:∀ {b:Addr},b∉frs outer->b≠s.heap.objs.size->b∉s.heap.objs.size :: frs outer:=fun h1 h2 z=>(aZ3.mp z).elim h2 h1
 show wpAny (model P w) _ (leaving _ (.ref e)) _ _ { s1 with heap:=h' }
 refine wpAny_leaves_madeW (base:=PySem.W.hideAll s1.heap (s.heap.objs.size :: frs outer)) (h:=s1.heap) hfr rfl (fun b o q=>PySem.W.of_hideAll _ q) fin hx fun h'' t fl _ _ up=>?_
 refine ⟨e,.ref C,H1,_,.ref t,rfl,aEj (X:=xJ (CXr P w) P w K mg base N qual scope f cd A outer s H E) I rfl hLo I.os I.bare fl (fun b o q n hb hL=>bCi _ q (nin hb hL)) (fun b o q hb=>?_) (fun _ _ _ n=>n) (fun _ _ q=>q) (fun _ _ _ q=>q)
  (fun b ps q=>⟨#[],by rw [q];simp⟩) (wZ I.hok fun b o n q=>fl.1 b o (bCi _ q (nfr n))) (fun b o q n=>?_) (fun b o q n=>⟨o,fl.1 b o (bCi _ q (nfr n))⟩) (fun b o q hb hL=>⟨o,bCi _ q (nin hb hL)⟩) hx.new ?_,want⟩
 ·obtain ⟨_,o',ho',hd'⟩:=st.mem (b:=b) (by
   have:b∈frs (envOfC qual scope s.heap.objs.size f cd :: outer):=by
    rw [w8 rfl]
    exact bBn _ hb
   exact this)
  rw [q] at ho'
  cases ho'
  exact up b o (hx.keeps b o q) hd'
 ·obtain ⟨o1,e1⟩:=I.hok.there n
  have e2:=bCi _ e1 (nfr n)
  have e3:=fl.1 b o1 e2
  rw [q] at e3
  cases e3
  exact e2
 ·cases q:H1 e with
  | none=>rfl
  | some u =>
   obtain ⟨ob,eo⟩:=rZ (I.hok e u q)
   rw [hx.new] at eo
   cases eo
end
section
variable {X:Cx}{E:XK}
def aVn(C:Addr)(E:XK)(t:TA):TS:=fun _ σ H=>t σ H fun vs H1=>vs.length<=sizeLine/\E (.ref C) none H1
theorem aL2{x:Str}{e₀:Expr}{rest:List Expr}{t:TA}{C:Addr}{bm:List Value}{B newId initId:String}{np cpos pos:Pos}(hx:aHk X E)(hc:X.calm=true)(hg:Gl X x)(O:OwnCls x C bm newId X.mg X.base)
  (FB:ExcBaseFacts B newId initId bm) (ha:PA X (e₀ :: rest) t) (hdb:(x == ("__debug__" : Str))=false:=by decide)
  (he:starEach (e₀ :: rest) X.env=(false,eval e₀ X.env) :: starEach rest X.env:=by rfl) (hpl:(backTo cpos (starEach rest X.env)).any (·.1)=false:=by rfl) :
  PS X (.Raise (some (.Call (.Name x np) (e₀ :: rest) [] cpos)) none pos) (aVn C E t):=by
 intro pins s σ H D I h
 obtain ⟨tl,NN,nm,qn,bs,hdc,sn,sb,ab,cl,dd,z0,z1,z2,z3,z5,mN,hC,hN,hni,T⟩:=O.obj
 have hp:(backTo cpos (starEach (e₀ :: rest) X.env)).any (·.1)=false:=by
  rw [he]
  show (false || (backTo cpos (starEach rest X.env)).any (·.1))=false
  rw [hpl]
  all_goals rfl
 have h2:=ha cpos pins s σ H _ I h
 refine wpAny_Raise_call_subT (bm:=tl) (N:=NN) (nm:=nm) (q:=qn) (bs:=bs) (hdct:=hdc) (sn:=sn) (sub:=sb) (ab:=ab) (col:=cl) (dd:=dd) (k0:=z0) (k1:=z1) (k2:=z2) (k3:=z3) (k5:=z5) FB (T.hasType FB.hasBase) (I.ok.hd hc) hp hni
  (aJ2 I hg O.bound ⟨rfl,?_⟩ hdb)
 rw [he] at h2 ⊢
 refine Calls.evalArgs_plain (thn h2 fun us s2 ⟨vs,H1,I1,r,z,w'⟩=>?_)
 exact ⟨rfl,by rw [<- r.length];exact z,I1.bk _ _ hC,hN.keeps I1.bk,T.keeps I1.bk,fun h' e hm=>hx pins σ H1 s2 C h' e us I1 hm w'⟩
end
def sL(CX:CXT)(X:Cx)(E:St->XK):Prop:=∀ (pins:List (Addr×Obj)) (σ:St) (H:Hp) (s:Shared) (e:Value) (s':Shared),Inv X pins σ H s->CX X.stack H s (E σ) e s'->X.xe e s'
def aVi(sp:Sp)(E:St->XK)(t:TA):TE:=fun σ H Q=>t σ H fun vs H1=>sp vs H1 Q (E σ)
section
variable {X:Cx}{CX:CXT}{k:Nat}{f:Addr}{fd:FuncData}{ps:List Str}{sp:Sp}{E:St->XK}{x:Str}{p pos:Pos}{e:Expr}{es:List Expr}{t:TA}
theorem aNn(F:FnOk X.prog X.w X.K X.mg X.base CX k f fd ps sp)(hr:Room k X.A)(hg:Gl X x)(hm:X.mg x=some (.ref f))(hk:PySem.W.keepIn X.K (.ref f)=true)(hb:Binds X.K fd ps [])(hx:sL CX X E)
  (ha:PA X (e :: es) t) (hdb:(x == ("__debug__" : Str))=false:=by decide) (he:starEach (e :: es) X.env=(false,eval e X.env) :: starEach es X.env:=by rfl) (hpl:(backTo pos (starEach es X.env)).any (·.1)=false:=by rfl) :
  PE X (.Call (.Name x p) (e :: es) [] pos) (aVi sp E t):=by
 intro pins s σ H Q I h
 refine bC0 (aJ2 I hg hm ?_ hdb)
 refine PySem.W.callWith_K (h₀:=X.base) I.ok.mod.kin hk (thn (ha pos pins s σ H _ I h) fun us s1 ⟨vs,H1,I1,r,q⟩=>⟨I1.kIn,?_⟩) he hpl
 have hl:us.length=ps.length:=by rw [<- r.length];exact F.len _ _ _ _ q
 have hb':=hb s1 us I1.kIn (by rw [bCr];exact hl)
 rw [bCr] at hb'
 refine wpAny_call (codeAny_mono (F.run X.A X.stack s1 H1 ⟨us,[]⟩ us vs Q (E σ) hr I1.env0 hb' r q) fun rr s' hq=>?_)
 cases rr with
 | error e'=>exact hx pins σ H1 s1 e' s' I1 hq
 | ok fl =>
  cases fl with
  | ret u=>exact I1.after hq
  | next=>exact False.elim hq
  | brk=>exact False.elim hq
  | cont=>exact False.elim hq
end
section
variable {X:Cx}{k:Nat}{f:Addr}{fd:FuncData}{ps:List Str}{sp:Sp}{x:Str}{p pos:Pos}{e:Expr}{es:List Expr}{t:TA}
end
def aV2(e:Addr)(cls:Value):HO:=.ext fun h=>∃ o,h.get? e=some o/\o.cls=cls/\∃ vs,o.data=.fields vs
abbrev dA(X:Cx)(scope:Scope)(cl:List (Str×Addr))(C:Addr)(N:List Str)(s₀:Shared)(H₀:Hp)(ex:List Addr)(pn:List (Addr×Obj)):Cx :=
 { X with env:=compEnvC scope cl C X.env,N:=N,s₀:=s₀,H₀:=H₀,outer:=X.stack,stack:=X.stack,ex:=ex,fn:=fun _=>false,pn:=pn,xe:=fun _ _=>False }
structure aP5(X:Cx)(scope:Scope)(cl:List (Str×Addr)):Prop where
 clos:closureFor scope X.env=pure cl
 sub:∀ y c,cl.lookup y=some c->X.env.cells.lookup y=some c
 has:∀ y,(relabel scope X.env).names.lookup y=some .cell\/(relabel scope X.env).names.lookup y=some .free->∃ c,cl.lookup y=some c
def aC3(js:List Nat)(σ:St):St:=js.map fun j=>(σ[j]?).getD none
structure vA(X:Cx)(scope:Scope)(cl:List (Str×Addr))(ys:List Str)(js:List Nat):Prop where
 len:ys.length=js.length
 at_:∀ (i:Nat) (y:Str) (j:Nat),ys[i]? = some y->js[i]? = some j->X.N[j]? = some y/\(X.env.kindOf y=some .cell\/X.env.kindOf y=some .free)/\((relabel scope X.env).names.lookup y=some .cell\/(relabel scope X.env).names.lookup y=some .free)/\(X.env.cells.lookup y).isSome=true/\cl.lookup y=X.env.cells.lookup y
section
variable {X:Cx}
end
def Sz(n:Nat)(x:Int):Prop:=x.natAbs < 2 ^ n
theorem Sz.mono{m n:Nat}{x:Int}(h:Sz m x)(l:m<=n):Sz n x:=bAy h (Nat.pow_le_pow_right (by decide) l)
theorem Sz.mul{m n:Nat}{x y:Int}(hx:Sz m x)(hy:Sz n y):Sz (m+n) (x*y):=by
 unfold Sz at *
 rw [bE6,Nat.pow_add]
 exact Nat.mul_lt_mul'' hx hy
theorem Sz.add{n:Nat}{x y:Int}(hx:Sz n x)(hy:Sz n y):Sz (n+1) (x+y):=by
 unfold Sz at *
 have:=Int.natAbs_add_le x y
 rw [Nat.pow_succ]
 omega
theorem Sz.neg{n:Nat}{x:Int}(hx:Sz n x):Sz n (-x):=by
 unfold Sz at *
 rw [bGc]
 exact hx
theorem Sz.sub{n:Nat}{x y:Int}(hx:Sz n x)(hy:Sz n y):Sz (n+1) (x - y):=by
 have:=Sz.add hx hy.neg
 rwa [Int.sub_eq_add_neg]
theorem Sz.le{n:Nat}{x y:Int}(hy:Sz n y)(h:x.natAbs<=y.natAbs):Sz n x:=bC1 h hy
def CMulW(i j:Int):Prop:=Sz 60000 i/\Sz 60000 j
theorem CMulW.ok{i j:Int}(h:CMulW i j):IntMulOk i j:=.of_le (intBits_le_iff.mpr h.1) (intBits_le_iff.mpr h.2) (by decide)
def mG(i j:Int):Prop:=j≠0/\Sz 8000 j
section
variable {X:Cx}
theorem bB:OpR X (binaryOp .Mult) (rI CMulW fun i j=>.int (i*j)):=opI fun _ _ _ _ _ _ _ hc q=>mul_int q hc.ok
theorem log2_small{n:Nat}(h:n < 2 ^ 8000):n.log2 < 9000:=by
 by_cases z:n=0
 ·rw [z];decide
 ·have:n.log2 < 8000:=(Nat.log2_lt z).mpr h
  omega
theorem eL:OpR X (binaryOp .FloorDiv) (rI mG fun i j=>.int (i.fdiv j)):=opI fun _ _ _ _ _ _ _ hc q=>floordiv_int hc.1 q (.inl (PyProof.noPylong_of_log2 (log2_small hc.2)))
end
theorem Fun.okX{P:Program}{w:World}{K:aZz}{mg:Str->Option Value}{base:Heap}{x qual:Str}{st:Stmt}{f:Addr}{fd:FuncData}{N ps:List Str}{k:Nat}{sp:Sp}(F:Fun K x qual st f fd)(S:aY N ps (aR st))(len:∀ vs H Q E,sp vs H Q E->vs.length=ps.length)
  (hbody:∀ (cdv:Value) (A:Around) (outer:List Env) (s:Shared) (H:Hp) (vs:List V) (Q:VK) (E:XK),Room k (A.deeper (envOfC qual (aR st) s.heap.objs.size f cdv))->sp vs H Q E ->
   ∃ t,PSs (xJ (CXr P w) P w K mg base N qual (aR st) f cdv A outer s H E) (jW st) t/\t { nx:=fun _ H'=>Q .non H',rt:=Q } (start N vs) H):FnOk P w K mg base (CXr P w) (k+1) f fd ps sp:=by
 obtain ⟨oc,od,kV,doc,pm,an,cdv,ct,osl,rfl,lk,hcd⟩:=F.ex
 exact aXu lk hcd S len fun A outer s H vs Q E hr hsp=>hbody cdv A outer s H vs Q E hr hsp
theorem Same.upd{H H':Hp}{p:Addr}(h:Same H H')(hp:H' p=none)(o:HO):Same H (upd H' p o):=fun b u q=>by
 have:=h b u q
 rw [bK (dS this hp)]
 exact this
end L2
namespace FR
theorem aLj{a b:Int}(ha:0<=a)(hb:0<=b):Int.gcd b (a % b)=Int.gcd a b:=by
 obtain ⟨m,rfl⟩:=bFo ha
 obtain ⟨n,rfl⟩:=bFo hb
 rw [<- Int.natCast_emod,bFp,bFp,Nat.gcd_comm n,<- Nat.gcd_rec,Nat.gcd_comm]
theorem aKd(a b:Int):Int.gcd (if a < 0 then -a else a) (if b < 0 then -b else b)=Int.gcd a b:=by
 split<;>split<;>simp [Int.gcd_neg,Int.neg_gcd]
theorem aPp{a:Int}(ha:0<=a):((Int.gcd a 0:Nat):Int)=a:=by
 rw [Int.gcd_zero_right]
 omega
def sgn(b:Int)(g:Int):Int:=if b < 0 then -g else g
def mk(t b:Int):Int×Int:=(t.fdiv (sgn b (Int.gcd t b)),b.fdiv (sgn b (Int.gcd t b)))
theorem aB6{t b:Int}(hb:b≠0):0 < Int.gcd t b:=bCd t hb
theorem parts(t b:Int)(hb:b≠0):∃ t' b':Int,t=(Int.gcd t b:Int)*t'/\b=(Int.gcd t b:Int)*b'/\Int.gcd t' b'=1:=by
 obtain ⟨t',ht⟩:=bFy t b
 obtain ⟨b',hb'⟩:=bFe t b
 refine ⟨t',b',ht,hb',?_⟩
 have g0:=aB6 (t:=t) hb
 have e:Int.gcd t b=Int.gcd t b*Int.gcd t' b':=by
  have h:Int.gcd ((Int.gcd t b:Int)*t') ((Int.gcd t b:Int)*b')=(Int.gcd t b:Int).natAbs*Int.gcd t' b':=Int.gcd_mul_left ..
  rw [<- ht,<- hb'] at h
  simpa using h
 have e2:Int.gcd t b*1=Int.gcd t b*Int.gcd t' b':=by omega
 exact (Nat.eq_of_mul_eq_mul_left g0 e2).symm
theorem aLy{t b g t' b':Int}(g0:0 < g)(ht:t=g*t')(hb:b=g*b'):(t.fdiv (sgn b g)=(if b < 0 then -t' else t'))/\(b.fdiv (sgn b g)=if b < 0 then -b' else b'):=by
 unfold sgn
 by_cases h:b < 0
 ·rw [bAc h,bAc h,bAc h]
  have e1:t=(-g)*(-t'):=by rw [ht,Int.neg_mul_neg]
  have e2:b=(-g)*(-b'):=by rw [hb,Int.neg_mul_neg]
  constructor
  ·conv=>lhs;rw [e1]
   exact bBj _ (by omega)
  ·conv=>lhs;rw [e2]
   exact bBj _ (by omega)
 ·rw [bAg h,bAg h,bAg h]
  constructor
  ·conv=>lhs;rw [ht]
   exact bBj _ (by omega)
  ·conv=>lhs;rw [hb]
   exact bBj _ (by omega)
structure Fr(f:Int×Int):Prop where
 pos:1<=f.2
 low:Int.gcd f.1 f.2=1
theorem sS{t b:Int}(hb:b≠0):Fr (mk t b)/\(mk t b).1*b=t*(mk t b).2:=by
 obtain ⟨t',b',e1,e2,e3⟩:=parts t b hb
 have g0:(0:Int) < (Int.gcd t b:Int):=by have:=aB6 (t:=t) hb;omega
 obtain ⟨p1,p2⟩:=aLy g0 e1 e2
 have q1:(mk t b).1=if b < 0 then -t' else t':=p1
 have q2:(mk t b).2=if b < 0 then -b' else b':=p2
 have hs:b < 0↔b' < 0:=by
  constructor
  ·intro h
   rcases Int.lt_or_le b' 0 with z | z
   ·exact z
   ·have:=bBm (bCv g0) z
    omega
  ·intro h
   have:=bDf g0 h
   omega
 have hb':b'≠0:=by
  rintro rfl
  rw [Int.mul_zero] at e2
  exact hb e2
 refine ⟨⟨?_,?_⟩,?_⟩
 ·rw [q2]
  split
  ·rename_i h
   have:=hs.mp h
   omega
  ·rename_i h
   have:¬ b' < 0:=fun z=>h (hs.mpr z)
   omega
 ·rw [q1,q2]
  split
  ·rw [Int.gcd_neg,Int.neg_gcd,e3]
  ·exact e3
 ·rw [q1,q2]
  generalize hg:(Int.gcd t b:Int)=g at *
  rw [e1,e2]
  split
  ·rw [Int.neg_mul,bFq,Int.mul_left_comm,bFr]
  ·rw [Int.mul_left_comm,bFr]
end FR
namespace L2
open PySem PySem.Spec PyProof.Rows
theorem aJj{h h':Heap}{o:Obj}(hk:∀ b x,b∉[h.objs.size]->(h.push o).get? b=some x->h'.get? b=some x):∀ b x,h.get? b=some x->h'.get? b=some x:=fun b x e =>
 hk b x (fun m=>bB7 _ (bAj.mp m▸aZ9 e)) (aZ4 _ e)
section
variable {X:Cx}
def aYl(K:aZz):List V->Hp->VK->Prop:=fun xs H Q=>∃ (a:Addr) (bs:List Bool),xs=[.ref a]/\SqL K H a (bs.map V.bl)/\Q (.bl (bs.any id)) H
theorem aF3:∀ {bs:List Bool} {us:List Value},Vals (bs.map V.bl) us->us=bs.map Value.bool
 | [],_,.nil=>rfl
 | _ :: _,_,.cons r t=>by
  have e:_=Value.bool _:=r
  rw [e,aF3 t];rfl
theorem any_range(bs:List Bool):((List.range bs.length).any fun i=>(bs[i]?).getD false)=bs.any id:=by
 rw [Bool.eq_iff_iff,bDh,bDh]
 constructor
 ·rintro ⟨i,hi,e⟩
  have hi:=bE4.mp hi
  exact ⟨bs[i],List.getElem_mem hi,by simpa [hi] using e⟩
 ·rintro ⟨b,hb,e⟩
  obtain ⟨i,hi,e2⟩:=bEg.mp hb
  exact ⟨i,bE4.mpr hi,by simp [hi,e2];simpa using e⟩
theorem aK2(hc:X.calm=true){K:aZz}(hK:X.K=K):nU X (.builtin "any") (aYl K):=by
 subst hK
 intro pins s σ H xs us Q I r h
 obtain ⟨a,bs,rfl,hq,q⟩:=h
 obtain ⟨u,rfl,ru⟩:=vals1 r
 cases ru
 obtain ⟨its,rv,p,hz⟩:=I.list hq
 have ei:=aF3 rv
 have hl:=p.isList
 have lt:a < s.heap.objs.size:=by obtain ⟨_,e,_⟩:=hl;exact aZ9 e
 refine call_any_walk (wpAny_pyIter_list hl ?_)
 refine ⟨s.heap.objs.size,[s.heap.objs.size,a],[s.heap.objs.size],its.toArray.size,_,_,fun i=>(bs[i]?).getD false,rfl,Walks.list (A:=X.A.in1) (I.ok.hd hc) _ a (bAu lt) its.toArray,
  ⟨⟨_,bAx _ rfl,rfl,rfl⟩,hl.push _⟩,fun i v s' Q' E' hP hQ=>?_,fun h' tk hk=>?_⟩
 ·have e:its[i]? = some v:=by simpa using hP
  rw [ei,bA0] at e
  cases eb:bs[i]? with
  | none=>rw [eb] at e;cases e
  | some b =>
   have hQ:Q' ((bs[i]?).getD false) s':=hQ
   rw [eb] at e hQ
   cases e
   exact bCf hQ
 ·have e:its.toArray.size=bs.length:=by rw [bAe,ei,aZ0]
  rw [e,any_range]
  exact ⟨.bl (bs.any id),H,I.kept (aJj hk),rfl,q⟩
end
open PySem.W (Dat kqdP kqdPs kqdOk kqd_lay kqd_eqv)
section
variable {X:Cx}
end
def RawD(h:Heap)(d:Addr)(es:Array DictEntry)(ep:Nat):Prop:=∃ o,h.get? d=some o/\o.ExactDict/\o.data=.dict es ep
theorem RawD.at{h h':Heap}{d:Addr}{es:Array DictEntry}{ep:Nat}(x:RawD h d es ep)(k:∀ o,h.get? d=some o->h'.get? d=some o):RawD h' d es ep:=let ⟨o,ho,r⟩:=x;⟨o,k o ho,r⟩
theorem RawD.lt{h:Heap}{d:Addr}{es:Array DictEntry}{ep:Nat}(x:RawD h d es ep):d < h.objs.size:=let ⟨_,ho,_⟩:=x;aZ9 ho
theorem RawD.ty{s:Shared}{d:Addr}{es:Array DictEntry}{ep:Nat}(x:RawD s.heap d es ep):s.TypeIs (.ref d) "dict":=let ⟨o,ho,hc,_⟩:=x;⟨o,ho,hc.1⟩
section
variable {prog:Program}{w:World}{A:Around}{E:Value->Shared->Prop}{s:Shared}{d it:Addr}{es:Array DictEntry}{ep i:Nat}
theorem aLi{Q:Value->Shared->Prop}(hd:(d == sysModules)=false)(hm:RawD s.heap d es ep)
  (q:Q (.ref s.heap.objs.size) { s with heap:=s.heap.push { cls:=.type "dict_keyiterator",data:=.fields #[.ref d,.int 0 0,.int es.size 0,.int ep 0] } }):wpAny (model prog w) A (pyIter (.ref d)) Q E s:=by
 have ty:=hm.ty
 obtain ⟨o,ho,hc,hdat⟩:=hm
 refine wpAny_pyIter_slot ty F.slot_dict_iter (bDi F.slot_dict_iter ty F.entry_dict_iter ?_ (F.args_dict_iter_1 _))
 unfold Builtin.«dict.__iter__» Builtin.Dict.dictSlotNone
 refine aZ1 (aZ1 (wpAny_notOrdered_dict ty (bAl ?_)))
 unfold Builtin.Dict.showsAll
 refine aZ1 (m:=Builtin.Dict.addrOf (Value.ref d)) (bAl ?_)
 rw [bAg (by rw [hd];exact bAs)]
 refine aZ1 (bAl (aZ1 (bFf ho hdat (aZ1 (wpAny_dictEpoch ho hdat ?_)))))
 exact aZ1 (bCs (bAl ⟨_,rfl,_,_,⟨_,bAx _ rfl,rfl⟩,bB0.lookup,q⟩))
theorem aNr{Q:Option Value->Shared->Prop}(hit:s.heap.IsKeyIter it d i es.size ep)(hm:RawD s.heap d es ep)(lt:i < es.size)
  (q:∀ h',h'.IsKeyIter it d (i+1) es.size ep->Heap.SameBut it s.heap h'->Q (some es[i].key) { s with heap:=h' }):wpAny (model prog w) A (pyNext (.ref it)) Q E s:=by
 have ty:=hit.typeIs
 obtain ⟨o,ho,hc,hd⟩:=hit
 obtain ⟨od,hod,_,hdd⟩:=hm
 have own:Builtin.Dict_items.ownsTuple "dict_keyiterator" = false:=by decide
 have nn:¬ ((i:Int) < 0):=bGe.mpr (Int.natCast_nonneg i)
 unfold pyNext
 refine aZ1 (wpAny_attempt (wpAny_callSpecial?_slot (name:=Str.ofString "__next__") ty bB0 (bDi bB0 ty bEc ?_ (bD8 _))))
 refine aZ1 (bAl (aZ1 (aZ1 ?_)))
 first | refine aZ1 (bCb ty (bAl ?_)) | refine aZ1 (bCt ty (bAl ?_))
 refine aZ1 (wpAny_fieldsOf ho hd ?_)
 simp only [own,bA6,bCm]
 show wpAny _ _ (if (Value.ref d == Value.none)=true then _ else _) _ _ s
 rw [bAg (by intro z;cases z)]
 refine aZ1 (bAl (aZ1 (bFf hod hdd ?_)))
 rw [bAg (by simp)]
 refine aZ1 (bAl (aZ1 (wpAny_dictEpoch hod hdd ?_)))
 rw [bAg (by simp)]
 refine bAl ?_
 simp only [nn,bCm,bD1,bE7 lt]
 refine aZ1 ?_
 first | refine aZ1 (bCb ty (bAl ?_)) | refine aZ1 (bCt ty (bAl ?_))
 refine aZ1 (wpAny_isOneOf_keyiter ty ?_)
 refine aZ1 (m:=setField (.ref it) 1 (rawInt ((i:Int)+1))) (wpAny_setField ho hd (by simp) ?_)
 have hit':(s.heap.update it (Obj.mapFields (·.setIfInBounds 1 (rawInt ((i:Int)+1))))).IsKeyIter it d (i+1) es.size ep :=
  ⟨_,bC5 _ ho (Obj.isFreed_of_fields (Obj.data_mapFields hd _)),(Obj.cls_mapFields ..).trans hc,(Obj.data_mapFields hd _).trans (by simp [rawInt])⟩
 refine aZ1 (bDa (aZ1 (wpAny_isOneOf_keyiter (s:={ s with heap:=s.heap.update it (Obj.mapFields (·.setIfInBounds 1 (rawInt ((i:Int)+1)))) }) hit'.typeIs ?_)))
 exact bAl (bAl ⟨_,rfl,bAl (q _ hit' (Heap.SameBut.update ..))⟩)
theorem aQ5{Q:Option Value->Shared->Prop}(hh:A.handled=none)(hit:s.heap.IsKeyIter it d es.size es.size ep)(hm:RawD s.heap d es ep)(q:∀ h',Heap.ExtBut it s.heap h'->Q none { s with heap:=h' }):wpAny (model prog w) A (pyNext (.ref it)) Q E s:=by
 have ty:=hit.typeIs
 obtain ⟨o,ho,hc,hd⟩:=hit
 obtain ⟨od,hod,_,hdd⟩:=hm
 have own:Builtin.Dict_items.ownsTuple "dict_keyiterator" = false:=by decide
 have nn:¬ ((es.size:Int) < 0):=bGe.mpr (Int.natCast_nonneg _)
 unfold pyNext
 refine aZ1 (wpAny_attempt (wpAny_callSpecial?_slot (name:=Str.ofString "__next__") ty bB0 (bDi bB0 ty bEc ?_ (bD8 _))))
 refine aZ1 (bAl (aZ1 (aZ1 ?_)))
 first | refine aZ1 (bCb ty (bAl ?_)) | refine aZ1 (bCt ty (bAl ?_))
 refine aZ1 (wpAny_fieldsOf ho hd ?_)
 simp only [own,bA6,bCm]
 show wpAny _ _ (if (Value.ref d == Value.none)=true then _ else _) _ _ s
 rw [bAg (by intro z;cases z)]
 refine aZ1 (bAl (aZ1 (bFf hod hdd ?_)))
 rw [bAg (by simp)]
 refine aZ1 (bAl (aZ1 (wpAny_dictEpoch hod hdd ?_)))
 rw [bAg (by simp)]
 refine bAl ?_
 simp only [nn,bCm,bD1,bF6 (bAf es.size)]
 refine aZ1 ?_
 first | refine aZ1 (bCb ty (bAl ?_)) | refine aZ1 (bCt ty (bAl ?_))
 refine aZ1 (m:=setField (.ref it) 0 .none) (wpAny_setField ho hd (by simp) ?_)
 refine aZ1 (m:=newExc (.type "StopIteration") []) ?_
 simp only [newExc,newTuple]
 refine aZ1 (bCs (aZ1 (m:=firstArgMember _ _) (wpAny_of_eq (a:=Value.none) (by first | rfl | (simp only [firstArgMember];rfl)) ?_)) (by size_fits))
 refine bCs ?_ (by size_fits)
 simp only [raiseNew]
 refine aZ1 (wpAny_handled ?_)
 rw [show A.in1.handled=none from hh]
 refine aZ1 (bAl (wpAny_throw ?_))
 refine aZ1 (wpAny_isInstance (T:="StopIteration") (b:=true) ⟨_,bAx _ rfl,rfl⟩ isSubtype_stop ?_)
 exact bAl (q _ (((Heap.SameBut.update ..).extBut.push _).push _))
theorem aIs(hh:A.handled=none)(I d:Addr)(hne:d≠I)(es:Array DictEntry)(ep:Nat) :
  Walks prog w A I [I,d] [I] es.size (fun i v=>∃ e,es[i]? = some e/\v=e.key) (fun i h=>h.IsKeyIter I d i es.size ep/\RawD h d es ep) where
 sub:=fun b hb=>aZ3.mpr (.inl (bAj.mp hb))
 frame:=fun _ _ _ st hk=>⟨st.1.at fun o e=>hk I (by simp) o e,st.2.at fun o e=>hk d (by simp) o e⟩
 item:=fun i s Q E hi st hQ=>aNr st.1 st.2 hi fun h' hit' sb=>hQ _ h' s.toks ⟨es[i],by simp [hi],rfl⟩ ⟨hit',st.2.at fun o e=>(sb.2 d hne).trans e⟩ fun b o hb e=>(sb.2 b fun z=>hb (by simp [z])).trans e
 done:=fun s Q E st hQ=>aQ5 hh st.1 st.2 fun h' he'=>hQ h' s.toks fun b o hb e=>he' b o (fun z=>hb (by simp [z])) e
 self:=fun _ _ _ _ st hQ=>wpAny_pyIter_keyiter st.1 hQ
theorem aPe(lo:(d == sysModules)=false):PySem.W.KdlSrc prog w "dict" d d es.size (fun i v=>∃ e,es[i]? = some e/\v=e.key) (fun h=>RawD h d es ep) where
 type:=fun _ hm=>hm.ty
 there:=fun _ hm=>⟨hm.lt,hm.lt⟩
 keep:=fun _ _ hm hk=>hm.at fun o e=>hk d (.inl rfl) o e
 notList:=by decide
 notTuple:=by decide
 hint:=fun _ _ _ _ hm hq=>PySem.W.kdl_hint_dict hm.ty hq
 iter:=fun _ _ hh hm=>⟨_,_,(fun _ _ hq=>aLi lo hm hq),aIs hh _ d (bAu hm.lt) es ep,⟨⟨_,bAx _ rfl,rfl,rfl⟩,hm.at fun o e=>aZ4 _ e⟩⟩
end
section
variable {prog:Program}{w:World}{A:Around}{R:Result->Shared->Prop}{s:Shared}
abbrev aG4(ifs:List Expr)(env:Env):Sem Bool:=forIn ifs true fun c r=>if r=true then do let ok <- isTrue c env (eval c env);pure (ForInStep.yield ok) else pure (ForInStep.yield r)
theorem aJ1{elt target iter:Expr}{ifs:List Expr}{scope:Scope}{pos:Pos}{it acc:Value}{env:Env}(I:Nat->Shared->Prop)
  (turn:∀ n s,I n s->wpAny (model prog w) A (pyNext it) (fun r s₁=>match r with
   | none=>R (.ok .next) s₁
   | some v=>wpAny (model prog w) A (letOwnedTupleGo target it v) (fun _ s₀=>wpAny (model prog w) A (assign target env v) (fun _ s₂ =>
     wpAny (model prog w) A (aG4 ifs env) (fun ok s₃ =>
      if ok=true then wpAny (model prog w) A (eval elt env) (fun x s₄ =>
       wpAny (model prog w) A (call (.builtin "list.append") [acc,x]) (fun _ s₅=>∃ m,m < n/\I m s₅) (fun _ _=>False) s₄) (fun _ _=>False) s₃
      else ∃ m,m < n/\I m s₃) (fun _ _=>False) s₂) (fun _ _=>False) s₀) (fun _ _=>False) s₁) (fun _ _=>False) s)
  (n:Nat) (h:I n s):codeAny (model prog w) A (.compLoop (.ListComp elt [⟨target,iter,ifs,0⟩] scope pos) 0 it acc env) R s:=by
 refine codeAny_loop rfl I (fun n s hI=>?_) n h
 show wpAny _ A ((compTurn (.ListComp elt [⟨target,iter,ifs,0⟩] scope pos) 0 it acc env).onRaise (fun x=>do noteFrame x env;theTreesLotGoes x)) _ _ s
 refine wpAny_noted ?_
 rw [compTurn_list]
 refine aZ1 (wpAny_standAt (aZ1 (bBu (turn n s hI) (fun r s₁ h₁=>?_) fun _ _ z=>z.elim)))
 cases r with
 | none=>exact bAl h₁
 | some v =>
  refine aZ1 (bBu h₁ (fun _ s₀ h₀=>?_) fun _ _ z=>z.elim)
  refine aZ1 (bBu h₀ (fun _ s₂ h₂=>aZ1 (bBu h₂ (fun ok s₃ h₃=>?_) fun _ _ z=>z.elim)) fun _ _ z=>z.elim)
  cases ok with
  | false=>exact bAl ⟨rfl,h₃⟩
  | true =>
   exact aZ1 (aZ1 (bBu h₃ (fun x s₄ h₄=>aZ1 (bBu h₄ (fun _ s₅ h₅=>bAl (bAl ⟨rfl,h₅⟩)) fun _ _ z=>z.elim)) fun _ _ z=>z.elim))
end
def PTs(X:Cx)(ifs:List Expr)(t:TT):Prop :=
 ∀ (pins:List (Addr×Obj)) (s:Shared) (σ:St) (H:Hp) (Q:Bool->Hp->Prop),Inv X pins σ H s->t σ H Q->wpAny (model X.prog X.w) X.A (aG4 ifs X.env) (TP X pins σ Q) X.xe s
def aZm:TT:=fun _ H Q=>Q true H
theorem aRl{X:Cx}:PTs X [] aZm:=fun _ _ _ H _ I h=>wpAny_tests_nil ⟨H,I,h⟩
theorem aP7{X:Cx}{c:Expr}{t:TT}(h:PT X c t):PTs X [c] t:=fun pins s σ H Q I hw=>wpAny_tests_one (h pins s σ H Q I hw)
def aCw(wi:TI)(g:TG)(tt:TT)(te:TE)(n:Nat)(js:List Nat):TE:=fun σ H Q=>wi σ H fun J H1=>∀ D,H1 D=none->∃ (N:Nat) (W:Nat->List V->Hp->Prop),W 0 [] (upd H1 D (.lst []))/\∀ i ys H2,W i ys H2 ->
 (J.stop i H2/\Q (.ref D) H2)\/(i < N/\J.go i H2/\∀ v H3,J.yld i H2 v H3->g v (List.replicate n none++aC3 js σ) H3 fun σ2 H4=>(σ2.length=n+js.length/\σ2.drop n=aC3 js σ)/\tt σ2 H4 fun b H5 =>
  if b=true then te σ2 H5 fun y H6=>H6 D=some (.lst ys)/\ys.length < sizeLine/\W (i+1) (ys++[y]) (upd H6 D (.lst (ys++[y]))) else W (i+1) ys H5)
section
variable {X:Cx}
theorem Inv.but{pins:List (Addr×Obj)}{σ:St}{H:Hp}{s:Shared}{C:Addr}{h':Heap}(I:Inv X pins σ H s)(f:aM9 X pins H C)(hs:Heap.SameBut C s.heap h'):Inv X pins σ H { s with heap:=h' }:=by
 have ne:∀ b,b∉[C]->b≠C:=fun b hb z=>hb (by rw [z];exact .head _)
 refine I.call' (s':={ s with heap:=h' }) (ch:=[C]) rfl ⟨fun b o e n hb hx=>(hs.2 b (ne b hx)).trans e,fun b o e n hb hx=>⟨o.slots,(hs.2 b (ne b hx)).trans e⟩,fun b o e n hx=>n,fun b o e hx=>⟨o,(hs.2 b (ne b hx)).trans e⟩,fun b xs e=>e,fun b o u e=>e,fun b ps e=>⟨#[],by rw [Array.append_empty];exact e⟩⟩ (wZ I.hok fun b o nn e=>(hs.2 b (fun z=>nn (by rw [z];exact f.1))).trans e) I.bare fun b hb=>?_
 rw [bAj.mp hb]
 exact ⟨f.2.2.2.1,f.2.1,f.2.2.2.2.1,f.2.2.2.2.2⟩
set_option maxHeartbeats 8000000 in
theorem zB{elt iter tg:Expr}{pos:Pos}{scope:Scope}{ifs:List Expr}{wi:TI}{g:TG}{tt:TT}{te:TE}{xs ys:List Str}{js:List Nat}{cl:List (Str×Addr)}(hc:X.calm=true)(hi:PI X tg iter wi)
  (hcl:aP5 X scope cl) (hcap:vA X scope cl ys js) (hcell:∀ y∈scope.names,y.2≠.cell) (hkind:scope.kind=.function) (hnames:∀ y∈scope.names,y.2=.local->scope.names.lookup y.1=some .local)
  (hg:∀ C s₀ H₀ ex pn,PG (dA X scope cl C (xs++ys) s₀ H₀ ex pn) tg g) (ht:∀ C s₀ H₀ ex pn,PTs (dA X scope cl C (xs++ys) s₀ H₀ ex pn) ifs tt) (hb:∀ C s₀ H₀ ex pn,PE (dA X scope cl C (xs++ys) s₀ H₀ ex pn) elt te)
  (hs:∀ x,foldedSetIterable iter X.env x=pure x) {use:Option (Value->Sem Unit)} {QQ:Value->Shared->Prop} {Q:VK} {pins:List (Addr×Obj)} {s:Shared} {σ:St} {H:Hp} {cp:Pos} (I:Inv X pins σ H s)
  (aXz:∀ (C D:Addr) (s':Shared) (H':Hp),Inv X pins σ H' s'->aM9 X pins H' C->(∃ m,s'.heap.Ns C m)->Q (.ref D) H'->compPost (model X.prog X.w) X.A X.xe use QQ (.ref D) C (.ok .next) s')
  (h:aCw wi g tt te xs.length js σ H Q) :
  wpAny (model X.prog X.w) X.A (comprehension (.ListComp elt [⟨tg,iter,ifs,0⟩] scope pos) scope X.env cp (newList []) false (eval iter X.env) use) QQ X.xe s:=by
 refine wpAny_comprehension_free rfl hs hcl.clos hkind hnames (thn (hi pins s σ H _ I h) fun v s1 h1=>thn h1 fun itv s2 h2=>?_)
 obtain ⟨it,fp,tn,J,H2,e,I2,T,st2,f2,q2⟩:=h2
 subst e
 obtain ⟨n,W,w0,turn⟩:=q2 s2.heap.objs.size I2.fresh
 refine bCs (wpAny_newFunctionEnv hcell (by intro y hy;simp at hy) (fun h₁ hns₁ hsb₁=>?_) hkind)
 dsimp only at hns₁ hsb₁ ⊢
 have I3:=I2.lnew (ys:=[]) (its:=[]) (t':=s2.toks) .nil (bBo _)
 generalize hg3:s2.heap.push { cls:=.type "list",dict:=none,data:=.seq ([]:List Value).toArray }=g3 at hns₁ hsb₁ I3 ⊢
 have sz3:g3.objs.size=s2.heap.objs.size+1:=by rw [<- hg3,Heap.size_push]
 generalize hC:g3.objs.size=C at hns₁ hsb₁ ⊢
 have old3:∀ b o,g3.get? b=some o->h₁.get? b=some o:=fun b o q=>hsb₁.extBut b o (by rw [<- hC];exact bAu (aZ9 q)) (aZ4 _ q)
 have old2:∀ b o,s2.heap.get? b=some o->g3.get? b=some o:=fun b o q=>by rw [<- hg3];exact aZ4 _ q
 have fpl:∀ b∈fp,∃ o,s2.heap.get? b=some o/\∀ v,o.data≠.cell v:=T.obj _ _ st2
 have fplt:∀ b∈fp,b < s2.heap.objs.size:=fun b hb=>let ⟨o,q,_⟩:=fpl b hb;aZ9 q
 have H3n:∀ b,b≠s2.heap.objs.size->upd H2 s2.heap.objs.size (.lst []) b=H2 b:=fun b hb=>bK hb
 have fp3:∀ b∈fp,upd H2 s2.heap.objs.size (.lst []) b=none:=fun b hb=>by rw [H3n b (bAu (fplt b hb))];exact (f2 b hb).1
 have okX:=I3.ok
 have inj:∀ y z c,cl.lookup y=some c->cl.lookup z=some c->y=z:=fun y z c h1 h2=>okX.inj y z c (hcl.sub y c h1) (hcl.sub z c h2)
 have cellE:∀ y c,cl.lookup y=some c->∃ v,g3.IsCell c v:=fun y c q=>I3.cell y c (hcl.sub y c q)
 have st3:g3.FunFrames X.base X.stack:=I3.stack
 have exlt:∀ b∈fp,b≠C:=fun b hb=>by rw [<- hC,sz3];exact bAu (Nat.lt_succ_of_lt (fplt b hb))
 have frlt:∀ b∈frs X.stack,b < g3.objs.size:=fun b hb=>let ⟨_,o,q,_⟩:=st3.mem hb;aZ9 q
 have okB:(dA X scope cl C (xs++ys) { s2 with heap:=g3 } (upd H2 s2.heap.objs.size (.lst [])) fp (X.pn++pins)).Ok:=by
  refine ⟨okX.mod,hkind,okX.glob,okX.blt,bDn hC,inj,fun y hy=>hcl.has y hy,(fun y c hf _=>nomatch hf),okX.hd,okX.frames,.inl rfl,fun b hb=>⟨exlt b hb,fun y c q z=>?_⟩,I3.bs,bA5 okX.bsz I3.sz,fun b o q hb=>?_,fun b hb=>?_,st3,I3.stkFree,I3.tab⟩
  ·subst z
   exact (f2 c hb).2.2.2.2.1 y c (hcl.sub y c q) rfl
  ·rcases (f2 b hb).2.2.2.1 with z | z
   ·exact okX.noex b o q z
   ·have:=aZ9 (okX.bs b o q).1
    exact absurd (bAy this z) (bB7 _)
  ·intro hz
   rcases aZ3.mp (I3.stkSub b hz) with z | z
   ·exact (f2 b hb).2.1 z
   ·exact (f2 b hb).2.2.1 z
 have tot:∀ tk:Nat,Inv (dA X scope cl C (xs++ys) { s2 with heap:=g3 } (upd H2 s2.heap.objs.size (.lst [])) fp (X.pn++pins)) [] (List.replicate xs.length none++aC3 js σ) (upd H2 s2.heap.objs.size (.lst [])) { s2 with heap:=h₁,toks:=tk }:=fun tk=>by
  refine ⟨okB,rfl,I3.bare,Un.kept old3,⟨_,hns₁,fun i y v' e1 e2 e3=>?_⟩,fun y c q=>?_,I3.hok.fresh (bDn hC),fun y c q=>?_,fun p hp=>?_,I3.hok.kept old3,?_⟩
  ·by_cases hix:i < xs.length
   ·rw [bBl (by rw [bA9];exact hix),bCc] at e2
    split at e2<;>cases e2
   ·have hix':xs.length<=i:=by omega
    obtain ⟨k,rfl⟩:∃ k,i=xs.length+k:=⟨i - xs.length,by omega⟩
    have e1':ys[k]? = some y:=by
     rw [bBg (by omega)] at e1
     simpa using e1
    have e2':(aC3 js σ)[k]? = some (some v'):=by
     rw [bBg (by rw [bA9];omega),bA9] at e2
     simpa using e2
    unfold aC3 at e2'
    rw [bA0] at e2'
    cases ej:js[k]? with
    | none=>rw [ej] at e2';cases e2'
    | some j =>
     rw [ej] at e2'
     have e2'':(σ[j]?).getD none=some v':=bAn e2'
     have eσ:σ[j]? = some (some v'):=by
      cases es:σ[j]? with
      | none=>rw [es] at e2'';cases e2''
      | some z=>rw [es] at e2'';have:z=some v':=e2'';rw [this]
     obtain ⟨c1,c2,c3,c4,c5⟩:=hcap.at_ k y j e1' ej
     obtain ⟨m0,hn0,hl0⟩:=I3.loc
     obtain ⟨u,r,l⟩:=hl0 j y v' c1 eσ (c2.elim (fun z=>.inr (.inl z)) fun z=>.inr (.inr z))
     refine ⟨u,r,.inr ⟨c3,?_⟩⟩
     rcases l with ⟨l,_⟩ | ⟨_,c,hcc,z⟩
     ·rcases c2 with c2 | c2
      ·rw [c2] at l;cases l
      ·rw [c2] at l;cases l
     ·obtain ⟨o,ho,hd⟩:=z
      exact ⟨c,c5.trans hcc,o,old3 c o ho,hd⟩
  ·obtain ⟨v0,o,ho,hd⟩:=cellE y c q
   exact ⟨v0,o,old3 c o ho,hd⟩
  ·exact I3.freeC y c (hcl.sub y c q)
  ·have hp':p∈X.pn++pins:=by simpa using hp
   obtain ⟨p1,p2,p3,p4,p5⟩:=I3.pin p hp'
   refine ⟨old3 _ _ p1,p2,?_,fun hz=>?_,p5⟩
   ·show p.1≠C
    rw [<- hC]
    exact bAu (aZ9 p1)
   ·rcases aZ3.mp (I3.stkSub p.1 hz) with z | z
    ·exact p3 z
    ·exact p4 z
  ·show (List.replicate xs.length none++aC3 js σ).length=(xs++ys).length
   unfold aC3
   simp [hcap.len]
 have fpB:∀ {H':Hp},(∀ b∈fp,H' b=none)->∀ b∈fp,aM9 (dA X scope cl C (xs++ys) { s2 with heap:=g3 } (upd H2 s2.heap.objs.size (.lst [])) fp (X.pn++pins)) [] H' b:=fun hn b hb =>
  ⟨hn b hb,exlt b hb,okB.exfs b hb,.inl hb,(okB.exf b hb).2,fun p hp=>(f2 b hb).2.2.2.2.2 p (by simpa using hp)⟩
 have fin:∀ s':Shared,(∃ i zs σ' H',Inv (dA X scope cl C (xs++ys) { s2 with heap:=g3 } (upd H2 s2.heap.objs.size (.lst [])) fp (X.pn++pins)) [] σ' H' s'/\W i zs H'/\J.stop i H'/\Q (.ref s2.heap.objs.size) H') ->
   compPost (model X.prog X.w) X.A X.xe use QQ (.ref s2.heap.objs.size) C (.ok .next) s':=by
  rintro s' ⟨i,zs,σ',H',Ib,w,stop,q⟩
  obtain ⟨m',hn',_⟩:=Ib.loc
  have ub:=Ib.base
  have un:Un (frs X.stack) fp (upd H2 s2.heap.objs.size (.lst [])) H' g3 s'.heap:=ub
  have IX:Inv X pins σ H' s':=I3.call' (s':=s') (ch:=fp) Ib.os un Ib.hok Ib.bare fun b hb=>⟨(f2 b hb).2.2.2.1,(f2 b hb).2.1,(f2 b hb).2.2.2.2.1,(f2 b hb).2.2.2.2.2⟩
  exact aXz C _ s' H' IX (I3.fpOk (bDn hC) Ib.free) ⟨m',hn'⟩ q
 have loop:∀ s₃:Shared,(∃ tk,s₃={ s2 with heap:=h₁,toks:=tk }) ->
   codeAny (model X.prog X.w) X.A (.compLoop (.ListComp elt [⟨tg,iter,ifs,0⟩] scope pos) 0 (.ref it) (.ref s2.heap.objs.size) (compEnvC scope cl C X.env)) (compPost (model X.prog X.w) X.A X.xe use QQ (.ref s2.heap.objs.size) C) s₃:=by
  rintro s₃ ⟨tk,rfl⟩
  refine aJ1 (fun k s'=>∃ i zs H',k=n+1 - i/\i<=n/\Inv (dA X scope cl C (xs++ys) { s2 with heap:=g3 } (upd H2 s2.heap.objs.size (.lst [])) fp (X.pn++pins)) [] (List.replicate xs.length none++aC3 js σ) H' s'/\tn i s'.heap/\(∀ b∈fp,H' b=none)/\W i zs H')
   ?_ (n+1) ⟨0,[],_,rfl,bBo _,tot tk,T.keep _ _ _ st2 fun b hb o q=>old3 b o (old2 b o q),fp3,w0⟩
  rintro k s' ⟨i,zs,H',rfl,hin,Ib,st,fr,w⟩
  rcases turn i zs H' w with ⟨stop,qq⟩ | ⟨hlt,go,step⟩
  ·refine bBu (T.done (dA X scope cl C (xs++ys) { s2 with heap:=g3 } (upd H2 s2.heap.objs.size (.lst [])) fp (X.pn++pins)) rfl rfl rfl hc i [] s' _ H' (fun _ _=>False) Ib (fpB fr) st stop) (fun r s4 ⟨hr,I4⟩=>?_) fun _ _ z=>z.elim
   subst hr
   exact fin s4 ⟨i,zs,_,H',I4,w,stop,qq⟩
  ·refine bBu (T.item (dA X scope cl C (xs++ys) { s2 with heap:=g3 } (upd H2 s2.heap.objs.size (.lst [])) fp (X.pn++pins)) rfl rfl rfl hc i [] s' _ H' (fun _ _=>False) Ib (fpB fr) st go) (fun r s4 ⟨u,hr,h4⟩=>?_) fun _ _ z=>z.elim
   subst hr
   refine bBu h4 (fun _ s5 ⟨v5,H5,I5,r5,y5,st5,fr5⟩=>?_) fun _ _ z=>z.elim
   have I5':=I5.pinned (fpB fr5) (T.obj _ _ st5)
   have hw5:=step v5 H5 y5
   refine bBu (hg C _ _ fp (X.pn++pins) _ s5 _ H5 v5 u _ I5' r5 hw5) (fun _ s6 ⟨σ6,H6,I6,⟨hl6,hd6⟩,e6⟩=>?_) fun _ _ z=>z.elim
   have back:∀ {H':Hp} {s':Shared} {pins':List (Addr×Obj)},Inv (dA X scope cl C (xs++ys) { s2 with heap:=g3 } (upd H2 s2.heap.objs.size (.lst [])) fp (X.pn++pins)) pins' σ6 H' s'->Inv (dA X scope cl C (xs++ys) { s2 with heap:=g3 } (upd H2 s2.heap.objs.size (.lst [])) fp (X.pn++pins)) pins' (List.replicate xs.length none++aC3 js σ) H' s':=fun I'=>by
    refine I'.weak ?_ fun j v' e=>?_
    ·rw [hl6];unfold aC3;simp
    ·by_cases hj:j < xs.length
     ·rw [bBl (by rw [bA9];exact hj),bCc] at e
      split at e<;>cases e
     ·rw [bBg (by rw [bA9];omega),bA9,<- hd6,List.getElem?_drop] at e
      rw [<- e]
      congr 1
      omega
   refine bBu (ht C _ _ fp (X.pn++pins) _ s6 _ _ _ I6 e6) (fun ok s6b ⟨H6b,I6b,e6b⟩=>?_) fun _ _ z=>z.elim
   cases ok with
   | false =>
    rw [bAg bAs]
    have e6c:W (i+1) zs H6b:=by simpa using e6b
    have I8:=back I6b
    refine ⟨n+1 - (i+1),by omega,i+1,zs,_,rfl,hlt,I8.unpinned (pins:=[]),?_,fun b hb=>?_,e6c⟩
    ·exact T.keep _ _ _ st5 fun b hb o q=>(I8.pin (b,o) (bAo _ (bAo _ (iI hb q)))).1
    ·obtain ⟨o,q,d⟩:=T.obj _ _ st5 b hb
     exact (I8.pin (b,o) (bAo _ (bAo _ (iI hb q)))).2.1
   | true =>
    rw [bAc rfl]
    have e6c:=e6b
    rw [bAc rfl] at e6c
    refine bBu (hb C _ _ fp (X.pn++pins) _ s6b _ _ _ I6b e6c) (fun y s7 ⟨yv,H7,I7,r7,hD,hz,w7⟩=>?_) fun _ _ z=>z.elim
    obtain ⟨z7,its,n7,rv7,hl7,e7⟩:=I7.lstM hD
    refine append_at (n:=n7) (its:=its.toArray) e7 (fun h₈ sb8 eD8=>?_) (by rw [bAe,<- hl7];exact bEz hz)
    have I8:Inv _ _ _ (upd H7 s2.heap.objs.size (.lst (zs++[yv]))) { s7 with heap:=h₈,toks:=s7.toks }:=I7.write (x:=s2.heap.objs.size) (e:=s2.heap.objs.size) (by rw [hD];exact trivial) (.inl rfl) (fun b u hb q=>(sb8.2 b hb).trans q) ⟨_,eD8⟩
     ⟨by rw [bAi];exact hz,its++[y],n7+1,rv7.append (.cons r7 .nil),by rw [eD8,List.push_toArray]⟩
    have I9:=back I8
    refine ⟨n+1 - (i+1),by omega,i+1,zs++[yv],_,rfl,hlt,I9.unpinned (pins:=[]),?_,fun b hb=>?_,w7⟩
    ·exact T.keep _ _ _ st5 fun b hb o q=>(I8.pin (b,o) (bAo _ (bAo _ (iI hb q)))).1
    ·obtain ⟨o,q,d⟩:=T.obj _ _ st5 b hb
     exact (I8.pin (b,o) (bAo _ (bAo _ (iI hb q)))).2.1
 exact codeAny_compStart_list (loop _ ⟨_,rfl⟩) (T.self _ 0 _ _ _ (T.keep _ _ _ st2 fun b hb o q=>old3 b o (old2 b o q)) (loop _ ⟨_,rfl⟩))
theorem aMn{elt iter tg:Expr}{pos:Pos}{scope:Scope}{ifs:List Expr}{wi:TI}{g:TG}{tt:TT}{te:TE}{xs ys:List Str}{js:List Nat}{cl:List (Str×Addr)}(hc:X.calm=true)(hi:PI X tg iter wi)
  (hcl:aP5 X scope cl) (hcap:vA X scope cl ys js) (hcell:∀ y∈scope.names,y.2≠.cell) (hkind:scope.kind=.function) (hnames:∀ y∈scope.names,y.2=.local->scope.names.lookup y.1=some .local)
  (hg:∀ C s₀ H₀ ex pn,PG (dA X scope cl C (xs++ys) s₀ H₀ ex pn) tg g) (ht:∀ C s₀ H₀ ex pn,PTs (dA X scope cl C (xs++ys) s₀ H₀ ex pn) ifs tt) (hb:∀ C s₀ H₀ ex pn,PE (dA X scope cl C (xs++ys) s₀ H₀ ex pn) elt te)
  (hs:∀ x,foldedSetIterable iter X.env x=pure x:=by intro _;rfl) :
  PE X (.ListComp elt [⟨tg,iter,ifs,0⟩] scope pos) (aCw wi g tt te xs.length js):=by
 intro pins s σ H Q I h
 rw [eval_ListComp]
 exact zB hc hi hcl hcap hcell hkind hnames hg ht hb hs (use:=none) (QQ:=EP X pins σ Q) (Q:=Q) I (fun C D s' H' IX f ⟨m,hn⟩ q=>⟨m,hn,fun h' hs'=>⟨.ref D,H',IX.but f hs',rfl,q⟩⟩) h
theorem aNh{elt iter tg:Expr}{pos py spos:Pos}{scope:Scope}{ifs:List Expr}{wi:TI}{g:TG}{tt:TT}{te:TE}{xs ys:List Str}{js:List Nat}{cl:List (Str×Addr)}{i:Nat}{y:Str}(hN:X.N.Nodup)(hiN:X.N[i]? = some y)(hx:Loc X.env.scope y)(hc:X.calm=true)(hi:PI X tg iter wi)
  (hcl:aP5 X scope cl) (hcap:vA X scope cl ys js) (hcell:∀ y∈scope.names,y.2≠.cell) (hkind:scope.kind=.function) (hnames:∀ y∈scope.names,y.2=.local->scope.names.lookup y.1=some .local)
  (hg:∀ C s₀ H₀ ex pn,PG (dA X scope cl C (xs++ys) s₀ H₀ ex pn) tg g) (ht:∀ C s₀ H₀ ex pn,PTs (dA X scope cl C (xs++ys) s₀ H₀ ex pn) ifs tt) (hb:∀ C s₀ H₀ ex pn,PE (dA X scope cl C (xs++ys) s₀ H₀ ex pn) elt te)
  (hsw:swapsWith (.ListComp elt [⟨tg,iter,ifs,0⟩] scope pos) (some (.Name y py)) spos.line X.env=pure true) (hs:∀ x,foldedSetIterable iter X.env x=pure x:=by intro _;rfl)
  (hf:X.fn y=true\/X.env.scope.names.lookup y=some .local:=by first | exact .inl rfl | exact .inr rfl | assumption) :
  PS X (.Assign [.Name y py] (.ListComp elt [⟨tg,iter,ifs,0⟩] scope pos) spos) (aXb (aCw wi g tt te xs.length js) (aRz i)):=by
 intro pins s σ H D I h
 rw [exec_Assign_Name_used _ _ _ _ hsw]
 refine aZ1 (wpAny_standAt (aZ1 ?_))
 show wpAny _ X.A (do let _ <- comprehension (.ListComp elt [⟨tg,iter,ifs,0⟩] scope pos) scope X.env _ (newList []) false (eval iter X.env) (some (assign (.Name y py) X.env))) _ _ s
 refine aZ1 (bBu (zB hc hi hcl hcap hcell hkind hnames hg ht hb hs (use:=some (assign (.Name y py) X.env)) (QQ:=fun _ s'=>∃ σ' H',Inv X pins σ' H' s'/\D.nx σ' H') I (fun C L s' H' IX f ⟨m,hn⟩ q=>?_) h) (fun _ s' hq=>bAl (bAl hq)) fun _ _ e=>e)
 obtain ⟨o,es,ep,ho,hd,hr⟩:=id hn
 have IP:=IX.pinned (fp:=[C]) (fun b hb=>by rw [bAj.mp hb];exact f) (fun b hb=>by rw [bAj.mp hb];exact ⟨o,ho,fun v z=>by rw [hd] at z;cases z⟩)
 refine bBu (aJu (pos:=py) hN hiN hx hf _ s' σ H' (.ref L) (.ref L) _ IP rfl q) (fun _ s2 ⟨σ2,H2,I2,q2⟩=>?_) fun _ _ e=>e
 have pc:=I2.pin (C,o) (bAo _ (bAo _ (iI (.head _) ho)))
 exact ⟨m,⟨o,es,ep,pc.1,hd,hr⟩,fun h' hs'=>⟨σ2,H2,(I2.unpinned (pins:=pins)).but ⟨pc.2.1,f.2⟩ hs',q2⟩⟩
end
end L2
namespace M
open PySem PySem.Spec PyProof.Rows L2
abbrev D:=PyData
inductive Res(α:Type) where
 | ok (a:α)
 | exc (C:Addr)
 | bad
def Res.bind{α β:Type}(r:Res α)(f:α->Res β):Res β:=match r with
 | .ok a=>f a
 | .exc C=>.exc C
 | .bad=>.bad
def wpR{α:Type}(r:Res α)(Q:α->Prop)(E:Addr->Prop):Prop:=match r with
 | .ok a=>Q a
 | .exc C=>E C
 | .bad=>False
theorem cU{α β:Type}{r:Res α}{f:α->Res β}{Q:β->Prop}{E:Addr->Prop}:wpR (r.bind f) Q E=wpR r (fun a=>wpR (f a) Q E) E:=by cases r<;>rfl
theorem bT{α:Type}{r:Res α}{Q Q':α->Prop}{E E':Addr->Prop}(h:wpR r Q E)(hQ:∀ a,Q a->Q' a)(hE:∀ C,E C->E' C):wpR r Q' E':=by
 cases r with
 | ok a=>exact hQ a h
 | exc C=>exact hE C h
 | bad=>exact h
inductive L where
 | p (d:D)
 | o (d:D)
 | x (C:Addr)
 | h (a:Addr)
inductive Ev where
 | p (d:D)
 | f (d:D)
 | b (d:D)
 | x (C:Addr)
def Ev.c:Ev->Ev
 | .f d=>.p d
 | r=>r
abbrev En:=List (Option L)
def kD:Key->D
 | .inl i=>.int i
 | .inr x=>.str x
def tkD(ks:List Key):D:=.tuple (ks.map kD)
mutual
inductive Rep(K:aZz)(G:Hp):V->D->Prop
 | non:Rep K G .non .none
 | bl (b:Bool):Rep K G (.bl b) (.bool b)
 | int (i:Int):Rep K G (.int i) (.int i)
 | str (x:Str):Rep K G (.str x) (.str x)
 | tup {a:Addr} {xs:List V} {ds:List D}:G a=some (.tup xs)->Reps K G xs ds->Rep K G (.ref a) (.tuple ds)
 | lst {a:Addr} {xs:List V} {ds:List D}:Rd G a (.lst xs)->Reps K G xs ds->Rep K G (.ref a) (.list ds)
 | dT {a:Addr} {kv:List (List Key×V)} {kvs:List (D×D)}:G a=some (.dT kv)->RepT K G kv kvs->Rep K G (.ref a) (.dict kvs)
 | dK {a:Addr} {kv:List (Key×V)} {kvs:List (D×D)}:G a=some (.dK kv)->RepK K G kv kvs->Rep K G (.ref a) (.dict ((.none,.none) :: kvs))
inductive Reps(K:aZz)(G:Hp):List V->List D->Prop
 | nil:Reps K G [] []
 | cons {x:V} {xs:List V} {d:D} {ds:List D}:Rep K G x d->Reps K G xs ds->Reps K G (x :: xs) (d :: ds)
inductive RepT(K:aZz)(G:Hp):List (List Key×V)->List (D×D)->Prop
 | nil:RepT K G [] []
 | cons {k:List Key} {x:V} {d:D} {kv:List (List Key×V)} {kvs:List (D×D)}:Rep K G x d->RepT K G kv kvs->RepT K G ((k,x) :: kv) ((tkD k,d) :: kvs)
inductive RepK(K:aZz)(G:Hp):List (Key×V)->List (D×D)->Prop
 | nil:RepK K G [] []
 | cons {k:Key} {x:V} {d:D} {kv:List (Key×V)} {kvs:List (D×D)}:Rep K G x d->RepK K G kv kvs->RepK K G ((k,x) :: kv) ((kD k,d) :: kvs)
end
inductive Cont(K:aZz)(G:Hp):HO->D->Prop
 | lst {xs:List V} {ds:List D}:Reps K G xs ds->Cont K G (.lst xs) (.list ds)
 | dT {kv:List (List Key×V)} {kvs:List (D×D)}:RepT K G kv kvs->Cont K G (.dT kv) (.dict kvs)
 | dK {kv:List (Key×V)} {kvs:List (D×D)}:RepK K G kv kvs->Cont K G (.dK kv) (.dict ((.none,.none) :: kvs))
section
variable {K:aZz}{G G' H H':Hp}
theorem gL{a:Addr}{u:HO}(s:Same G G')(h:Rd G a u):Rd G' a u:=by
 rcases h with h | ⟨o,h⟩
 ·exact .inl (s _ _ h)
 ·exact .inr ⟨o,s _ _ h⟩
mutual
theorem Rep.mono(s:Same G G'):∀ {v:V} {d:D},Rep K G v d->Rep K G' v d
 | _,_,.non=>.non
 | _,_,.bl b=>.bl b
 | _,_,.int i=>.int i
 | _,_,.str x=>.str x
 | _,_,.tup h r=>.tup (s _ _ h) (Reps.mono s r)
 | _,_,.lst h r=>.lst (gL s h) (Reps.mono s r)
 | _,_,.dT h r=>.dT (s _ _ h) (RepT.mono s r)
 | _,_,.dK h r=>.dK (s _ _ h) (RepK.mono s r)
theorem Reps.mono(s:Same G G'):∀ {v:List V} {d:List D},Reps K G v d->Reps K G' v d
 | _,_,.nil=>.nil
 | _,_,.cons h r=>.cons (Rep.mono s h) (Reps.mono s r)
theorem RepT.mono(s:Same G G'):∀ {v:List (List Key×V)} {d:List (D×D)},RepT K G v d->RepT K G' v d
 | _,_,.nil=>.nil
 | _,_,.cons h r=>.cons (Rep.mono s h) (RepT.mono s r)
theorem RepK.mono(s:Same G G'):∀ {v:List (Key×V)} {d:List (D×D)},RepK K G v d->RepK K G' v d
 | _,_,.nil=>.nil
 | _,_,.cons h r=>.cons (Rep.mono s h) (RepK.mono s r)
end
theorem Cont.mono(s:Same G G'){o:HO}{d:D}(h:Cont K G o d):Cont K G' o d:=by
 cases h with
 | lst r=>exact .lst (r.mono s)
 | dT r=>exact .dT (r.mono s)
 | dK r=>exact .dK (r.mono s)
theorem Cont.rep{a:Addr}{o:HO}{d:D}(h:Cont K G o d)(e:G a=some o):Rep K G (.ref a) d:=by
 cases h with
 | lst r=>exact .lst (.inl e) r
 | dT r=>exact .dT e r
 | dK r=>exact .dK e r
theorem Reps.length:∀ {xs:List V} {ds:List D},Reps K G xs ds->xs.length=ds.length
 | _,_,.nil=>rfl
 | _,_,.cons _ r=>by rw [aZ2,aZ2,Reps.length r]
theorem Reps.get:∀ {xs:List V} {ds:List D} {i:Nat} {x:V},Reps K G xs ds->xs[i]? = some x->∃ d,ds[i]? = some d/\Rep K G x d
 | _,_,_,_,.nil,e=>by simp at e
 | _,_,0,_,.cons h _,e=>by simp at e;subst e;exact ⟨_,rfl,h⟩
 | _,_,i+1,_,.cons _ r,e=>by
  have:=Reps.get (i:=i) r (by simpa using e)
  simpa using this
theorem Reps.get':∀ {xs:List V} {ds:List D} {i:Nat} {d:D},Reps K G xs ds->ds[i]? = some d->∃ x,xs[i]? = some x/\Rep K G x d
 | _,_,_,_,.nil,e=>by simp at e
 | _,_,0,_,.cons h _,e=>by simp at e;subst e;exact ⟨_,rfl,h⟩
 | _,_,i+1,_,.cons _ r,e=>by
  have:=Reps.get' (i:=i) r (by simpa using e)
  simpa using this
theorem Reps.append:∀ {xs ys:List V} {ds es:List D},Reps K G xs ds->Reps K G ys es->Reps K G (xs++ys) (ds++es)
 | _,_,_,_,.nil,r=>r
 | _,_,_,_,.cons h t,r=>.cons h (Reps.append t r)
theorem Reps.take:∀ {xs:List V} {ds:List D} (n:Nat),Reps K G xs ds->Reps K G (xs.take n) (ds.take n)
 | _,_,0,_=>.nil
 | _,_,_+1,.nil=>.nil
 | _,_,n+1,.cons h t=>.cons h (Reps.take n t)
theorem Reps.drop:∀ {xs:List V} {ds:List D} (n:Nat),Reps K G xs ds->Reps K G (xs.drop n) (ds.drop n)
 | _,_,0,r=>r
 | _,_,_+1,.nil=>.nil
 | _,_,n+1,.cons _ t=>Reps.drop n t
end
structure Step(G H G' H':Hp):Prop where
 g:Same G G'
 h:Same H H'
 gh:Same G' H'
 new:∀ b,H b≠none->G b=none->G' b=none\/∃ xs,H b=some (.tup xs)
theorem Step.off{G H G' H':Hp}(s:Step G H G' H'){b:Addr}{o:HO}(h:H b=some o)(n:∀ xs,o≠.tup xs)(g:G b=none):G' b=none:=by
 rcases s.new b (by rw [h];exact fun z=>nomatch z) g with z | ⟨xs,z⟩
 ·exact z
 ·rw [h] at z;exact absurd (bAn z) (n xs)
theorem aI3{H H':Hp}(s:Same H H'){b:Addr}(h:H b≠none):H' b≠none:=by
 cases e:H b with
 | none=>exact absurd e h
 | some o=>rw [s b o e];exact fun z=>nomatch z
theorem Step.refl{G H:Hp}(s:Same G H):Step G H G H:=⟨Same.refl _,Same.refl _,s,fun _ _ h=>.inl h⟩
theorem Step.trans{G H G1 H1 G2 H2:Hp}(a:Step G H G1 H1)(b:Step G1 H1 G2 H2):Step G H G2 H2 :=
 ⟨a.g.trans b.g,a.h.trans b.h,b.gh,fun c hc hg=>by
  rcases a.new c hc hg with z | z
  ·rcases b.new c (aI3 a.h hc) z with y | ⟨xs,y⟩
   ·exact .inl y
   ·cases e:H c with
    | none=>exact absurd e hc
    | some o =>
     rw [a.h _ _ e] at y
     exact .inr ⟨xs,y⟩
  ·exact .inr z⟩
theorem Step.put{G H:Hp}{a:Addr}{o:HO}(s:Same G H)(e:H a=none):Step G H (upd G a o) (upd H a o) :=
 ⟨Same.upd (Same.refl _) (s.free e) o,Same.upd (Same.refl _) e o,fun b u q=>by
  by_cases z:b=a
  ·subst z;rw [b7] at q ⊢;exact q
  ·rw [bK z] at q ⊢;exact s b u q,fun b hb hg=>by
  have z:b≠a:=fun z=>hb (z▸e)
  rw [bK z];exact .inl hg⟩
theorem Step.lay{G H:Hp}{a:Addr}{o:HO}(s:Same G H)(e:H a=none):Step G H G (upd H a o) :=
 ⟨Same.refl _,Same.upd (Same.refl _) e o,Same.upd s e o,fun _ _ h=>.inl h⟩
def EOk(K:aZz)(W:Addr->Option Nat)(Hs G H:Hp)(v:V):Ev->Prop
 | .p d=>Rep K G v d
 | .f d=>∃ a o,v=.ref a/\Hs a=none/\G a=none/\H a=some o/\Cont K G o d
 | .b d=>∃ a i o,v=.ref a/\W a=some i/\H a=some o/\Cont K G o d
 | .x C=>∃ e,v=.ref e/\G e=some (aV2 e (.ref C))
theorem EOk.step{K:aZz}{W:Addr->Option Nat}{Hs Hs' G H G' H':Hp}{v:V}{r:Ev}(h:EOk K W Hs G H v r.c)(s:Step G H G' H'):EOk K W Hs' G' H' v r.c:=by
 cases r with
 | p d=>exact Rep.mono s.g h
 | f d=>exact Rep.mono s.g h
 | b d =>
  obtain ⟨a,i,o,h1,h2,h3,h4⟩:=h
  exact ⟨a,i,o,h1,h2,s.h _ _ h3,h4.mono s.g⟩
 | x C =>
  obtain ⟨e,h1,h2⟩:=h
  exact ⟨e,h1,s.g _ _ h2⟩
theorem EOk.c{K:aZz}{W:Addr->Option Nat}{G H G1 H1:Hp}{v:V}{r:Ev}(s:Step G H G1 H1)(h:EOk K W H G1 H1 v r):∃ G2,Step G H G2 H1/\EOk K W H G2 H1 v r.c:=by
 cases r with
 | p d=>exact ⟨G1,s,h⟩
 | b d=>exact ⟨G1,s,h⟩
 | x d=>exact ⟨G1,s,h⟩
 | f d =>
  obtain ⟨a,o,rfl,h1,h2,h3,h4⟩:=h
  refine ⟨upd G1 a o,⟨s.g.trans (Same.upd (Same.refl _) h2 o),s.h,fun b u q=>?_,fun b hb hg=>?_⟩,(h4.mono (Same.upd (Same.refl _) h2 o)).rep b7⟩
  ·by_cases z:b=a
   ·subst z;rw [b7] at q;rw [h3];exact q
   ·rw [bK z] at q;exact s.gh b u q
  ·have z:b≠a:=fun z=>hb (z▸h1)
   rw [bK z];exact s.new b hb hg
structure SimH(B G0 G:Hp)(W:Addr->Option Nat)(H:Hp):Prop where
 gh:Same G H
 bh:Same B H
 g0:Same G0 G
 gb:∀ b,G b≠none->G0 b≠none\/B b=none\/∃ xs,B b=some (.tup xs)
 wf:∀ a i,W a=some i->G a=none/\B a=none/\∃ o,H a=some o/\∀ xs,o≠.tup xs
theorem SimH.step{B G0 G H G' H':Hp}{W:Addr->Option Nat}(s:SimH B G0 G W H)(t:Step G H G' H'):SimH B G0 G' W H':=by
 refine ⟨t.gh,s.bh.trans t.h,s.g0.trans t.g,fun b hb=>?_,fun a i e=>?_⟩
 ·by_cases z:G b=none
  ·refine .inr ?_
   by_cases y:H b=none
   ·exact .inl (s.bh.free y)
   ·rcases t.new b y z with q | ⟨xs,q⟩
    ·exact absurd q hb
    ·cases e:B b with
     | none=>exact .inl rfl
     | some o=>rw [s.bh _ _ e] at q;exact .inr ⟨xs,q⟩
  ·exact s.gb b z
 ·obtain ⟨h1,h2,o,h3,h4⟩:=s.wf a i e
  exact ⟨t.off h3 h4 h1,h2,o,t.h _ _ h3,h4⟩
theorem Cont.mut{K:aZz}{G:Hp}{o:HO}{d:D}(h:Cont K G o d):∀ xs,o≠.tup xs:=by
 intro xs z
 subst z
 cases h
def Slot(K:aZz)(W:Addr->Option Nat)(G H:Hp)(i:Nat)(v:V):L->Prop
 | .p d=>Rep K G v d
 | .o d=>∃ a o,v=.ref a/\W a=some i/\H a=some o/\Cont K G o d
 | .x C=>∃ e,v=.ref e/\G e=some (aV2 e (.ref C))
 | .h a=>v=.ref a
def SimS(K:aZz)(W:Addr->Option Nat)(G H:Hp)(σ:L2.St)(en:En):Prop:=σ.length=en.length/\∀ i l,en[i]? = some (some l)->∃ v,σ[i]? = some (some v)/\Slot K W G H i v l
theorem Slot.step{K:aZz}{W:Addr->Option Nat}{G H G' H':Hp}{i:Nat}{v:V}{l:L}(h:Slot K W G H i v l)(s:Step G H G' H'):Slot K W G' H' i v l:=by
 cases l with
 | p d=>exact Rep.mono s.g h
 | o d =>
  obtain ⟨a,o,h1,h2,h3,h4⟩:=h
  exact ⟨a,o,h1,h2,s.h _ _ h3,h4.mono s.g⟩
 | x C =>
  obtain ⟨e,h1,h2⟩:=h
  exact ⟨e,h1,s.g _ _ h2⟩
 | h a=>exact h
theorem SimS.step{K:aZz}{W:Addr->Option Nat}{G H G' H':Hp}{σ:L2.St}{en:En}(h:SimS K W G H σ en)(s:Step G H G' H'):SimS K W G' H' σ en :=
 ⟨h.1,fun i l e=>let ⟨v,e1,e2⟩:=h.2 i l e;⟨v,e1,e2.step s⟩⟩
def PostE(K:aZz)(W:Addr->Option Nat)(G H:Hp)(Q:VK)(r:Ev):Prop:=∀ G' H' v,Step G H G' H'->EOk K W H G' H' v r->Q v H'
def PostB(G H:Hp)(Q:Bool->Hp->Prop)(b:Bool):Prop:=∀ G' H',Step G H G' H'->Q b H'
def EOks(K:aZz)(W:Addr->Option Nat)(Hs G H:Hp):List V->List Ev->Prop
 | [],[]=>True
 | v :: vs,r :: rs=>EOk K W Hs G H v r/\EOks K W Hs G H vs rs
 | _,_=>False
def aMw(K:aZz)(W:Addr->Option Nat)(G H:Hp)(Q:List V->Hp->Prop)(rs:List Ev):Prop:=∀ G' H' vs,Step G H G' H'->EOks K W H G' H' vs rs->Q vs H'
def PostX(E:XK)(G H:Hp)(C:Addr):Prop:=∀ G' H',Step G H G' H'->E (.ref C) none H'
theorem PostE.step{K:aZz}{W:Addr->Option Nat}{G H G' H':Hp}{Q:VK}{r:Ev}(h:PostE K W G H Q r)(s:Step G H G' H'):PostE K W G' H' Q r:=fun G2 H2 v s2 e=>h G2 H2 v (s.trans s2) (by
 cases r with
 | p d=>exact e
 | b d=>exact e
 | x d=>exact e
 | f d =>
  obtain ⟨a,o,h1,h2,h3,h4,h5⟩:=e
  exact ⟨a,o,h1,s.h.free h2,h3,h4,h5⟩)
theorem PostX.step{E:XK}{G H G' H':Hp}{C:Addr}(h:PostX E G H C)(s:Step G H G' H'):PostX E G' H' C:=fun G2 H2 s2=>h G2 H2 (s.trans s2)
theorem PostB.step{G H G' H':Hp}{Q:Bool->Hp->Prop}{b:Bool}(h:PostB G H Q b)(s:Step G H G' H'):PostB G' H' Q b:=fun G2 H2 s2=>h G2 H2 (s.trans s2)
def tE(K:aZz)(E:L2.St->XK)(f:En->Res Ev):TE:=fun σ H Q=>∃ B G0 G W en,SimH B G0 G W H/\SimS K W G H σ en/\wpR (f en) (PostE K W G H Q) (PostX (E σ) G H)
def DE(X:Cx)(E:L2.St->XK)(e:Expr)(f:En->Res Ev):Prop:=PE X e (tE X.K E f)
theorem DE.out{X:Cx}{E:L2.St->XK}{e:Expr}{f:En->Res Ev}(h:DE X E e f):∃ t,PE X e t/\∀ B G0 G W H σ en Q,SimH B G0 G W H->SimS X.K W G H σ en->wpR (f en) (PostE X.K W G H Q) (PostX (E σ) G H)->t σ H Q :=
 ⟨_,h,fun B G0 G W H σ en Q h1 h2 h3=>⟨B,G0,G,W,en,h1,h2,h3⟩⟩
theorem DE.in{X:Cx}{E:L2.St->XK}{e:Expr}{f:En->Res Ev}(h:∃ t,PE X e t/\∀ B G0 G W H σ en Q,SimH B G0 G W H->SimS X.K W G H σ en->wpR (f en) (PostE X.K W G H Q) (PostX (E σ) G H)->t σ H Q):DE X E e f :=
 fun pins s σ H Q I ⟨B,G0,G,W,en,h1,h2,h3⟩=>let ⟨_,p,m⟩:=h;p pins s σ H Q I (m B G0 G W H σ en Q h1 h2 h3)
def tT(K:aZz)(E:L2.St->XK)(f:En->Res Bool):TT:=fun σ H Q=>∃ B G0 G W en,SimH B G0 G W H/\SimS K W G H σ en/\wpR (f en) (PostB G H Q) (PostX (E σ) G H)
def tA(K:aZz)(E:L2.St->XK)(f:En->Res (List Ev)):TA:=fun σ H Q=>∃ B G0 G W en,SimH B G0 G W H/\SimS K W G H σ en/\wpR (f en) (aMw K W G H Q) (PostX (E σ) G H)
def DT(X:Cx)(E:L2.St->XK)(e:Expr)(f:En->Res Bool):Prop:=PT X e (tT X.K E f)
def DW(X:Cx)(E:L2.St->XK)(e:Expr)(f:En->Res Bool):Prop:=PW X e (tT X.K E f)
def DA(X:Cx)(E:L2.St->XK)(es:List Expr)(f:En->Res (List Ev)):Prop:=PA X es (tA X.K E f)
section
variable {X:Cx}{E:L2.St->XK}{e:Expr}{es:List Expr}{f:En->Res Bool}{fr:En->Res (List Ev)}
theorem DT.out(h:DT X E e f):∃ t,PT X e t/\∀ B G0 G W H σ en Q,SimH B G0 G W H->SimS X.K W G H σ en->wpR (f en) (PostB G H Q) (PostX (E σ) G H)->t σ H Q :=
 ⟨_,h,fun B G0 G W H σ en Q h1 h2 h3=>⟨B,G0,G,W,en,h1,h2,h3⟩⟩
theorem DT.in(h:∃ t,PT X e t/\∀ B G0 G W H σ en Q,SimH B G0 G W H->SimS X.K W G H σ en->wpR (f en) (PostB G H Q) (PostX (E σ) G H)->t σ H Q):DT X E e f :=
 fun pins s σ H Q I ⟨B,G0,G,W,en,h1,h2,h3⟩=>let ⟨_,p,m⟩:=h;p pins s σ H Q I (m B G0 G W H σ en Q h1 h2 h3)
theorem DW.out(h:DW X E e f):∃ t,PW X e t/\∀ B G0 G W H σ en Q,SimH B G0 G W H->SimS X.K W G H σ en->wpR (f en) (PostB G H Q) (PostX (E σ) G H)->t σ H Q :=
 ⟨_,h,fun B G0 G W H σ en Q h1 h2 h3=>⟨B,G0,G,W,en,h1,h2,h3⟩⟩
theorem DW.in(h:∃ t,PW X e t/\∀ B G0 G W H σ en Q,SimH B G0 G W H->SimS X.K W G H σ en->wpR (f en) (PostB G H Q) (PostX (E σ) G H)->t σ H Q):DW X E e f :=
 fun wh pins s σ H Q I ⟨B,G0,G,W,en,h1,h2,h3⟩=>let ⟨_,p,m⟩:=h;p wh pins s σ H Q I (m B G0 G W H σ en Q h1 h2 h3)
theorem DA.out(h:DA X E es fr):∃ t,PA X es t/\∀ B G0 G W H σ en Q,SimH B G0 G W H->SimS X.K W G H σ en->wpR (fr en) (aMw X.K W G H Q) (PostX (E σ) G H)->t σ H Q :=
 ⟨_,h,fun B G0 G W H σ en Q h1 h2 h3=>⟨B,G0,G,W,en,h1,h2,h3⟩⟩
theorem DA.in(h:∃ t,PA X es t/\∀ B G0 G W H σ en Q,SimH B G0 G W H->SimS X.K W G H σ en->wpR (fr en) (aMw X.K W G H Q) (PostX (E σ) G H)->t σ H Q):DA X E es fr :=
 fun pos pins s σ H Q I ⟨B,G0,G,W,en,h1,h2,h3⟩=>let ⟨_,p,m⟩:=h;p pos pins s σ H Q I (m B G0 G W H σ en Q h1 h2 h3)
end
theorem DW.t{X:Cx}{E:L2.St->XK}{e:Expr}{f:En->Res Bool}(h:DW X E e f):DT X E e f:=h _
section
variable {X:Cx}{E:L2.St->XK}{a b c e:Expr}{es:List Expr}{fa fb:En->Res Ev}{fr:En->Res (List Ev)}{pos:Pos}
theorem DE.go{K:aZz}{W:Addr->Option Nat}{G H:Hp}{EE:XK}{Q:VK}{r:Res Ev}{k:Ev->Res Ev}{Q':VK}(hw:wpR (r.bind k) (PostE K W G H Q) (PostX EE G H))
  (h:∀ (x:Ev) G1 H1 v,Step G H G1 H1->EOk K W H G1 H1 v x.c->wpR (k x) (PostE K W G1 H1 Q) (PostX EE G1 H1)->Q' v H1):wpR r (PostE K W G H Q') (PostX EE G H):=by
 rw [cU] at hw
 refine bT hw (fun x hx G1 H1 v s e=>?_) fun C h=>h
 obtain ⟨G2,s2,e2⟩:=e.c s
 exact h x G2 H1 v s2 e2 (bT hx (fun r h=>h.step s2) fun C h=>h.step s2)
theorem DE.goB{K:aZz}{W:Addr->Option Nat}{G H:Hp}{EE:XK}{Q:Bool->Hp->Prop}{r:Res Ev}{k:Ev->Res Bool}{Q':VK}(hw:wpR (r.bind k) (PostB G H Q) (PostX EE G H))
  (h:∀ (x:Ev) G1 H1 v,Step G H G1 H1->EOk K W H G1 H1 v x.c->wpR (k x) (PostB G1 H1 Q) (PostX EE G1 H1)->Q' v H1):wpR r (PostE K W G H Q') (PostX EE G H):=by
 rw [cU] at hw
 refine bT hw (fun x hx G1 H1 v s e=>?_) fun C h=>h
 obtain ⟨G2,s2,e2⟩:=e.c s
 exact h x G2 H1 v s2 e2 (bT hx (fun r h=>h.step s2) fun C h=>h.step s2)
def OpM(K:aZz)(r:R2)(op:Ev->Ev->Res Ev):Prop:=∀ (W:Addr->Option Nat) (G H:Hp) (v u:V) (x y:Ev) (Q:VK),Same G H->EOk K W H G H v x.c->EOk K W H G H u y.c->wpR (op x.c y.c) (PostE K W G H Q) (fun _=>False)->r v u H Q
def aH(op:Ev->Ev->Res Ev)(fa fb:En->Res Ev):En->Res Ev:=fun en=>(fa en).bind fun x=>(fb en).bind fun y=>op x.c y.c
def NoX(op:Ev->Ev->Res Ev):Prop:=∀ x y C,op x y≠.exc C
theorem noX{α:Type}{r:Res α}{Q:α->Prop}{E E':Addr->Prop}(h:wpR r Q E)(n:∀ C,r≠.exc C):wpR r Q E':=by
 cases r with
 | ok a=>exact h
 | exc C=>exact absurd rfl (n C)
 | bad=>exact h
theorem xO{ta tb:TE}{r:R2}{op:Ev->Ev->Res Ev}(ma:∀ B G0 G W H σ en Q,SimH B G0 G W H->SimS X.K W G H σ en->wpR (fa en) (PostE X.K W G H Q) (PostX (E σ) G H)->ta σ H Q)
  (mb:∀ B G0 G W H σ en Q,SimH B G0 G W H->SimS X.K W G H σ en->wpR (fb en) (PostE X.K W G H Q) (PostX (E σ) G H)->tb σ H Q) (hm:OpM X.K r op) (hn:NoX op) :
  ∀ B G0 G W H σ en Q,SimH B G0 G W H->SimS X.K W G H σ en->wpR (aH op fa fb en) (PostE X.K W G H Q) (PostX (E σ) G H)->tOp r ta tb σ H Q:=by
 intro B G0 G W H σ en Q hh hs hw
 refine ma B G0 G W H σ en _ hh hs (DE.go hw fun x G1 H1 v s1 e1 h1=>?_)
 refine mb B G0 G1 W H1 σ en _ (hh.step s1) (hs.step s1) (DE.go h1 fun y G2 H2 u s2 e2 h2=>?_)
 exact hm W G2 H2 v u x y Q s2.gh (e1.step s2) (by cases y<;>exact e2) (noX h2 (hn _ _))
theorem aS{op:Operator}{r:R2}{f:Ev->Ev->Res Ev}(ho:OpR X (binaryOp op) r)(hm:OpM X.K r f)(hn:NoX f)(ha:DE X E a fa)(hb:DE X E b fb):DE X E (.BinOp a op b pos) (aH f fa fb):=by
 obtain ⟨ta,pa,ma⟩:=ha.out
 obtain ⟨tb,pb,mb⟩:=hb.out
 refine DE.in ?_
 exact ⟨_,aV8 ho pa pb,xO ma mb hm hn⟩
theorem qP{op:CmpOp}{r:R2}{f:Ev->Ev->Res Ev}(ho:OpR X (compareOp op) r)(hm:OpM X.K r f)(hn:NoX f)(ha:DE X E a fa)(hb:DE X E b fb)(hk:behindInMarks op b=false):DE X E (.Compare a [op] [b] pos) (aH f fa fb):=by
 obtain ⟨ta,pa,ma⟩:=ha.out
 obtain ⟨tb,pb,mb⟩:=hb.out
 refine DE.in ?_
 exact ⟨_,aQk ho pa pb hk,xO ma mb hm hn⟩
def dO(r:Ev):Res Bool:=match r with
 | .p (.bool b)=>.ok b
 | _=>.bad
def bV(f:En->Res Ev):En->Res Bool:=fun en=>(f en).bind dO
theorem nE{t:TE}(m:∀ B G0 G W H σ en Q,SimH B G0 G W H->SimS X.K W G H σ en->wpR (fa en) (PostE X.K W G H Q) (PostX (E σ) G H)->t σ H Q) :
  ∀ B G0 G W H σ en Q,SimH B G0 G W H->SimS X.K W G H σ en->wpR (bV fa en) (PostB G H Q) (PostX (E σ) G H)->t σ H fun x H1=>∃ k,x=.bl k/\Q k H1:=by
 intro B G0 G W H σ en Q hh hs hw
 refine m B G0 G W H σ en _ hh hs (DE.goB hw fun x G1 H1 v s1 e1 h1=>?_)
 cases x with
 | p d =>
  cases d with
  | bool k=>cases e1;exact ⟨k,rfl,h1 G1 H1 (Step.refl s1.gh)⟩
  | _=>exact False.elim h1
 | _=>exact False.elim h1
theorem cZ{op:CmpOp}{r:R2}{f:Ev->Ev->Res Ev}(ho:OpR X (compareOp op) r)(hm:OpM X.K r f)(hn:NoX f)(ha:DE X E a fa)(hb:DE X E b fb)(hk:behindInMarks op b=false):DT X E (.Compare a [op] [b] pos) (bV (aH f fa fb)):=by
 obtain ⟨ta,pa,ma⟩:=ha.out
 obtain ⟨tb,pb,mb⟩:=hb.out
 refine DT.in ?_
 exact ⟨_,aRi ho pa pb hk,nE (xO ma mb hm hn)⟩
theorem n4(h:DE X E e fa)(he:∀ whole,isTrue e X.env whole=(do let v <- whole;standAt e.pos;holding [v] (truthy v)):=by intro _;rfl):DT X E e (bV fa):=by
 obtain ⟨t,p,m⟩:=h.out
 refine DT.in ?_
 exact ⟨_,aS2 p he,nE m⟩
def aD(i:Nat):En->Res Ev:=fun en=>match en[i]? with
 | some (some (.p d))=>.ok (.p d)
 | some (some (.o d))=>.ok (.b d)
 | some (some (.x C))=>.ok (.x C)
 | _=>.bad
theorem aT8{i:Nat}{x:Str}(hN:X.N[i]? = some x)(hv:Vis X.env.scope x)(hd:(x == ("__debug__" : Str))=false:=by decide)(hcd:(x == ("__classdict__" : Str))=false:=by decide):DE X E (.Name x pos) (aD i):=by
 refine DE.in ?_
 refine ⟨_,aOn hN hv hd hcd,fun B G0 G W H σ en Q hh hs hw=>?_⟩
 unfold aD at hw
 split at hw
 ·rename_i d e
  obtain ⟨v,e1,e2⟩:=hs.2 i _ e
  exact ⟨v,e1,hw G H v (Step.refl hh.gh) e2⟩
 ·rename_i d e
  obtain ⟨v,e1,a,o,e2,e3,e4,e5⟩:=hs.2 i _ e
  exact ⟨v,e1,hw G H v (Step.refl hh.gh) ⟨a,i,o,e2,e3,e4,e5⟩⟩
 ·rename_i C e
  obtain ⟨v,e1,e2⟩:=hs.2 i _ e
  exact ⟨v,e1,hw G H v (Step.refl hh.gh) e2⟩
 ·exact hw.elim
def mC(d:D):En->Res Ev:=fun _=>.ok (.p d)
theorem nB{v:V}{d:D}(h:∀ G,Rep X.K G v d):∀ B G0 G W H σ en Q,SimH B G0 G W H->SimS X.K W G H σ en->wpR (mC d en) (PostE X.K W G H Q) (PostX (E σ) G H)->tC v σ H Q :=
 fun B G0 G W H σ en Q hh hs hw=>hw G H v (Step.refl hh.gh) (h G)
theorem aC{i j}:DE X E (.Constant (.int i) j pos) (mC (.int i)):=DE.in ⟨_,aTw,nB fun _=>.int i⟩
theorem aCg{b j}:DE X E (.Constant (.bool b) j pos) (mC (.bool b)):=DE.in ⟨_,aYf,nB fun _=>.bl b⟩
theorem aAe{j}:DE X E (.Constant .none j pos) (mC .none):=DE.in ⟨_,aTy,nB fun _=>.non⟩
theorem aOy{x j}:DE X E (.Constant (.str x) j pos) (mC (.str x)):=DE.in ⟨_,aVd,nB fun _=>.str x⟩
variable {ga gb:En->Res Bool}{rest:List Expr}
def wA(f g:En->Res Bool):En->Res Bool:=fun en=>(f en).bind fun c=>if c=true then g en else .ok false
def mOr(f g:En->Res Bool):En->Res Bool:=fun en=>(f en).bind fun c=>if c=true then .ok true else g en
def aJn(f:En->Res Bool):En->Res Bool:=fun en=>(f en).bind fun c=>.ok (!c)
theorem aBl(ha:DT X E a ga):DW X E (.BoolOp .And [a] pos) ga:=let ⟨t,p,m⟩:=ha.out;DW.in ⟨t,aRf p,m⟩
theorem aAg(ha:DT X E a ga):DW X E (.BoolOp .Or [a] pos) ga:=let ⟨t,p,m⟩:=ha.out;DW.in ⟨t,aUa p,m⟩
theorem aJi(ha:DT X E a ga)(hb:DW X E (.BoolOp .And (b :: rest) pos) gb):DW X E (.BoolOp .And (a :: b :: rest) pos) (wA ga gb):=by
 obtain ⟨ta,pa,ma⟩:=ha.out
 obtain ⟨tb,pb,mb⟩:=hb.out
 refine DW.in ?_
 refine ⟨_,aSl pa pb,fun B G0 G W H σ en Q hh hs hw=>ma B G0 G W H σ en _ hh hs ?_⟩
 have hw:wpR ((ga en).bind _) _ _:=hw
 rw [cU] at hw
 refine bT hw (fun c hc G1 H1 s=>?_) fun C h=>h
 cases c with
 | true=>exact mb B G0 G1 W H1 σ en Q (hh.step s) (hs.step s) (bT hc (fun _ h=>h.step s) fun _ h=>h.step s)
 | false=>exact hc G1 H1 s
theorem aEr(ha:DT X E a ga)(hb:DW X E (.BoolOp .Or (b :: rest) pos) gb):DW X E (.BoolOp .Or (a :: b :: rest) pos) (mOr ga gb):=by
 obtain ⟨ta,pa,ma⟩:=ha.out
 obtain ⟨tb,pb,mb⟩:=hb.out
 refine DW.in ?_
 refine ⟨_,aXj pa pb,fun B G0 G W H σ en Q hh hs hw=>ma B G0 G W H σ en _ hh hs ?_⟩
 have hw:wpR ((ga en).bind _) _ _:=hw
 rw [cU] at hw
 refine bT hw (fun c hc G1 H1 s=>?_) fun C h=>h
 cases c with
 | false=>exact mb B G0 G1 W H1 σ en Q (hh.step s) (hs.step s) (bT hc (fun _ h=>h.step s) fun _ h=>h.step s)
 | true=>exact hc G1 H1 s
theorem aTq(ha:DT X E a ga):DT X E (.UnaryOp .Not a pos) (aJn ga):=by
 obtain ⟨ta,pa,ma⟩:=ha.out
 refine DT.in ?_
 refine ⟨_,aTe pa,fun B G0 G W H σ en Q hh hs hw=>ma B G0 G W H σ en _ hh hs ?_⟩
 have hw:wpR ((ga en).bind _) _ _:=hw
 rw [cU] at hw
 exact bT hw (fun c hc=>hc) fun C h=>h
def o7(f g:En->Res Ev):En->Res Ev:=fun en=>(f en).bind fun c=>match c with
 | .p (.bool true)=>g en
 | .p (.bool false)=>.ok (.p (.bool false))
 | _=>.bad
def aFq(f g:En->Res Ev):En->Res Ev:=fun en=>(f en).bind fun c=>match c with
 | .p (.bool false)=>g en
 | .p (.bool true)=>.ok (.p (.bool true))
 | _=>.bad
def aBt(f:En->Res Ev):En->Res Ev:=fun en=>(f en).bind fun c=>match c with
 | .p (.bool k)=>.ok (.p (.bool (!k)))
 | _=>.bad
theorem aGf{op}(h:DE X E a fa):DE X E (.BoolOp op [a] pos) fa:=let ⟨t,p,m⟩:=h.out;DE.in ⟨t,aS3 p,m⟩
theorem aOk(ha:DE X E a fa)(hb:DE X E (.BoolOp .And (b :: rest) pos) fb):DE X E (.BoolOp .And (a :: b :: rest) pos) (o7 fa fb):=by
 obtain ⟨ta,pa,ma⟩:=ha.out
 obtain ⟨tb,pb,mb⟩:=hb.out
 refine DE.in ?_
 refine ⟨_,aSj pa pb,fun B G0 G W H σ en Q hh hs hw=>ma B G0 G W H σ en _ hh hs (DE.go hw fun x G1 H1 v s1 e1 h1=>?_)⟩
 cases x with
 | p d =>
  cases d with
  | bool k =>
   cases e1
   cases k with
   | true=>exact ⟨true,rfl,mb B G0 G1 W H1 σ en Q (hh.step s1) (hs.step s1) h1⟩
   | false=>exact ⟨false,rfl,h1 G1 H1 _ (Step.refl s1.gh) (.bl false)⟩
  | _=>exact False.elim h1
 | _=>exact False.elim h1
theorem aWl(ha:DE X E a fa)(hb:DE X E (.BoolOp .Or (b :: rest) pos) fb):DE X E (.BoolOp .Or (a :: b :: rest) pos) (aFq fa fb):=by
 obtain ⟨ta,pa,ma⟩:=ha.out
 obtain ⟨tb,pb,mb⟩:=hb.out
 refine DE.in ?_
 refine ⟨_,aX5 pa pb,fun B G0 G W H σ en Q hh hs hw=>ma B G0 G W H σ en _ hh hs (DE.go hw fun x G1 H1 v s1 e1 h1=>?_)⟩
 cases x with
 | p d =>
  cases d with
  | bool k =>
   cases e1
   cases k with
   | false=>exact ⟨false,rfl,mb B G0 G1 W H1 σ en Q (hh.step s1) (hs.step s1) h1⟩
   | true=>exact ⟨true,rfl,h1 G1 H1 _ (Step.refl s1.gh) (.bl true)⟩
  | _=>exact False.elim h1
 | _=>exact False.elim h1
def mIf(c:En->Res Bool)(f g:En->Res Ev):En->Res Ev:=fun en=>(c en).bind fun k=>if k=true then f en else g en
theorem aTc(hc:DT X E c ga)(ha:DE X E a fa)(hb:DE X E b fb):DE X E (.IfExp c a b pos) (mIf ga fa fb):=by
 obtain ⟨tc,pc,mc⟩:=hc.out
 obtain ⟨ta,pa,ma⟩:=ha.out
 obtain ⟨tb,pb,mb⟩:=hb.out
 refine DE.in ?_
 refine ⟨_,aMg pc pa pb,fun B G0 G W H σ en Q hh hs hw=>mc B G0 G W H σ en _ hh hs ?_⟩
 have hw:wpR ((ga en).bind _) _ _:=hw
 rw [cU] at hw
 refine bT hw (fun k hk G1 H1 s=>?_) fun C h=>h
 have hk':=bT hk (fun _ h=>PostE.step h s) fun _ h=>PostX.step h s
 cases k with
 | true=>exact ma B G0 G1 W H1 σ en Q (hh.step s) (hs.step s) hk'
 | false=>exact mb B G0 G1 W H1 σ en Q (hh.step s) (hs.step s) hk'
def aT:En->Res (List Ev):=fun _=>.ok []
def aB(f:En->Res Ev)(g:En->Res (List Ev)):En->Res (List Ev):=fun en=>(f en).bind fun x=>(g en).bind fun xs=>.ok (x.c :: xs)
theorem aE:DA X E [] aT:=DA.in ⟨_,vP,fun B G0 G W H σ en Q hh hs hw=>hw G H [] (Step.refl hh.gh) trivial⟩
theorem EOk.cc{K:aZz}{W:Addr->Option Nat}{Hs Hs' G H:Hp}{v:V}{r:Ev}(h:EOk K W Hs G H v r.c):EOk K W Hs' G H v r.c:=by
 cases r<;>exact h
theorem aA(ha:DE X E e fa)(hr:DA X E es fr)(hst:starEach (e :: es) X.env=(false,eval e X.env) :: starEach es X.env:=by rfl):DA X E (e :: es) (aB fa fr):=by
 obtain ⟨ta,pa,ma⟩:=ha.out
 obtain ⟨tr,pr,mr⟩:=hr.out
 refine DA.in ?_
 refine ⟨_,qI pa pr hst,fun B G0 G W H σ en Q hh hs hw=>ma B G0 G W H σ en _ hh hs ?_⟩
 have hw:wpR ((fa en).bind _) _ _:=hw
 rw [cU] at hw
 refine bT hw (fun x hx G1 H1 v s e1=>?_) fun C h=>h
 obtain ⟨G2,s2,e2⟩:=e1.c s
 refine mr B G0 G2 W H1 σ en _ (hh.step s2) (hs.step s2) ?_
 rw [cU] at hx
 refine bT hx (fun xs hxs G3 H3 vs s3 e3=>?_) fun C h=>h.step s2
 refine hxs G3 H3 (v :: vs) (s2.trans s3) ⟨e2.step s3,?_⟩
 clear hxs hx hw
 induction xs generalizing vs with
 | nil=>cases vs<;>exact e3
 | cons y ys ih =>
  cases vs with
  | nil=>exact e3
  | cons u us =>
   refine ⟨?_,ih us e3.2⟩
   have z:=e3.1
   cases y with
   | p d=>exact z
   | b d=>exact z
   | x d=>exact z
   | f d =>
    obtain ⟨a,o,h1,h2,h3⟩:=z
    exact ⟨a,o,h1,s2.h.free h2,h3⟩
end
inductive Out where
 | nx (en:En)
 | rt (l:L)
 | bk (en:En)
 | ct (en:En)
 | ex (C:Addr) (en:En)
abbrev MS:=En->Option Out
def aPw(K:aZz)(B G H:Hp)(v:V):L->Prop
 | .p d=>Rep K G v d
 | .o d=>∃ a o,v=.ref a/\G a=none/\B a=none/\H a=some o/\Cont K G o d
 | .x C=>∃ e,v=.ref e/\G e=some (aV2 e (.ref C))
 | .h _=>False
def PostS(K:aZz)(B G0:Hp)(E:L2.St->XK)(Dn:Ends):Out->Prop
 | .nx en=>∀ G W H σ,SimH B G0 G W H->SimS K W G H σ en->Dn.nx σ H
 | .bk en=>∀ G W H σ,SimH B G0 G W H->SimS K W G H σ en->Dn.bk σ H
 | .ct en=>∀ G W H σ,SimH B G0 G W H->SimS K W G H σ en->Dn.ct σ H
 | .rt l=>∀ G W H v,SimH B G0 G W H->aPw K B G H v l->Dn.rt v H
 | .ex C en=>∀ G W H σ,SimH B G0 G W H->SimS K W G H σ en->E σ (.ref C) none H
def wpO(o:Option Out)(P:Out->Prop):Prop:=match o with
 | some r=>P r
 | none=>False
def tS(K:aZz)(E:L2.St->XK)(f:MS):TS:=fun Dn σ H=>∃ B G0 G W en,SimH B G0 G W H/\SimS K W G H σ en/\wpO (f en) (PostS K B G0 E Dn)
def DS(X:Cx)(E:L2.St->XK)(st:Stmt)(f:MS):Prop:=PS X st (tS X.K E f)
def DSs(X:Cx)(E:L2.St->XK)(st:List Stmt)(f:MS):Prop:=PSs X st (tS X.K E f)
section
variable {X:Cx}{E:L2.St->XK}{st:Stmt}{sts:List Stmt}{f g:MS}{fe:En->Res Ev}{fc:En->Res Bool}{e c:Expr}{pos:Pos}
theorem DS.in(h:∃ t,PS X st t/\∀ B G0 G W H σ en Dn,SimH B G0 G W H->SimS X.K W G H σ en->wpO (f en) (PostS X.K B G0 E Dn)->t Dn σ H):DS X E st f :=
 fun pins s σ H Dn I ⟨B,G0,G,W,en,h1,h2,h3⟩=>let ⟨_,p,m⟩:=h;p pins s σ H Dn I (m B G0 G W H σ en Dn h1 h2 h3)
theorem DSs.in(h:∃ t,PSs X sts t/\∀ B G0 G W H σ en Dn,SimH B G0 G W H->SimS X.K W G H σ en->wpO (f en) (PostS X.K B G0 E Dn)->t Dn σ H):DSs X E sts f :=
 fun pins s σ H Dn I ⟨B,G0,G,W,en,h1,h2,h3⟩=>let ⟨_,p,m⟩:=h;p pins s σ H Dn I (m B G0 G W H σ en Dn h1 h2 h3)
theorem DS.out(h:DS X E st f):∃ t,PS X st t/\∀ B G0 G W H σ en Dn,SimH B G0 G W H->SimS X.K W G H σ en->wpO (f en) (PostS X.K B G0 E Dn)->t Dn σ H :=
 ⟨_,h,fun B G0 G W H σ en Dn h1 h2 h3=>⟨B,G0,G,W,en,h1,h2,h3⟩⟩
theorem DSs.out(h:DSs X E sts f):∃ t,PSs X sts t/\∀ B G0 G W H σ en Dn,SimH B G0 G W H->SimS X.K W G H σ en->wpO (f en) (PostS X.K B G0 E Dn)->t Dn σ H :=
 ⟨_,h,fun B G0 G W H σ en Dn h1 h2 h3=>⟨B,G0,G,W,en,h1,h2,h3⟩⟩
def dX:MS:=fun en=>some (.nx en)
def bU(f g:MS):MS:=fun en=>match f en with
 | some (.nx e)=>g e
 | r=>r
theorem cC:DSs X E [] dX:=DSs.in ⟨_,aP6,fun B G0 G W H σ en Dn hh hs hw=>hw G W H σ hh hs⟩
theorem aM(h:DS X E st f):DSs X E [st] f:=let ⟨t,p,m⟩:=h.out;DSs.in ⟨t,aPy p,m⟩
theorem aG(h1:DS X E st f)(h2:DSs X E sts g):DSs X E (st :: sts) (bU f g):=by
 obtain ⟨t,p,m⟩:=h1.out
 obtain ⟨u,q,n⟩:=h2.out
 refine DSs.in ⟨_,aMx p q,fun B G0 G W H σ en Dn hh hs hw=>m B G0 G W H σ en _ hh hs ?_⟩
 unfold bU at hw
 cases ef:f en with
 | none=>rw [ef] at hw;exact hw
 | some r =>
  rw [ef] at hw
  cases r with
  | nx e=>exact fun G1 W1 H1 σ1 hh1 hs1=>n B G0 G1 W1 H1 σ1 e Dn hh1 hs1 hw
  | rt l=>exact hw
  | bk e=>exact hw
  | ct e=>exact hw
  | ex C e=>exact hw
theorem SimS.set{K:aZz}{W:Addr->Option Nat}{G H:Hp}{σ:L2.St}{en:En}{i:Nat}{v:V}{l:L}(h:SimS K W G H σ en)(hl:Slot K W G H i v l):SimS K W G H (σ.set i (some v)) (en.set i (some l)):=by
 refine ⟨by rw [bDs,bDs];exact h.1,fun j m e=>?_⟩
 rw [bD4] at e
 rw [bD4]
 by_cases hj:i=j
 ·subst hj
  rw [bAc rfl] at e
  split at e
  ·rename_i hlt
   cases e
   rw [bAc rfl,bAc (by rw [h.1];exact hlt)]
   exact ⟨v,rfl,hl⟩
  ·cases e
 ·rw [bAg hj] at e ⊢
  exact h.2 j m e
def owner(W:Addr->Option Nat)(a:Addr)(i:Nat):Addr->Option Nat:=fun b=>if b=a then some i else W b
theorem aL6{K:aZz}{B G0 G H:Hp}{W:Addr->Option Nat}{σ:L2.St}{en:En}{i:Nat}{a:Addr}{o:HO}{d:D}(hh:SimH B G0 G W H)(hs:SimS K W G H σ en)(hW:W a=none)(hG:G a=none)(hB:B a=none)(hH:H a=some o)(hc:Cont K G o d) :
  SimH B G0 G (owner W a i) H/\SimS K (owner W a i) G H (σ.set i (some (.ref a))) (en.set i (some (.o d))):=by
 refine ⟨⟨hh.gh,hh.bh,hh.g0,hh.gb,fun b j e=>?_⟩,SimS.set ⟨hs.1,fun j l e=>?_⟩ ⟨a,o,rfl,bAc rfl,hH,hc⟩⟩
 ·unfold owner at e
  split at e
  ·rename_i z
   subst z
   exact ⟨hG,hB,o,hH,hc.mut⟩
  ·exact hh.wf b j e
 ·obtain ⟨v,e1,e2⟩:=hs.2 j l e
  refine ⟨v,e1,?_⟩
  cases l with
  | p d=>exact e2
  | x C=>exact e2
  | h a=>exact e2
  | o d =>
   obtain ⟨b,ob,h1,h2,h3,h4⟩:=e2
   refine ⟨b,ob,h1,?_,h3,h4⟩
   unfold owner
   rw [bAg (fun z=>by rw [z,hW] at h2;cases h2)]
   exact h2
def cO(i:Nat)(fe:En->Res Ev):MS:=fun en=>match fe en with
 | .ok (.p d)=>some (.nx (en.set i (some (.p d))))
 | .ok (.f d)=>some (.nx (en.set i (some (.o d))))
 | .ok (.x C)=>some (.nx (en.set i (some (.x C))))
 | .ok (.b _)=>none
 | .exc C=>some (.ex C en)
 | .bad=>none
theorem SimH.lone{B G0 G H:Hp}{W:Addr->Option Nat}(hh:SimH B G0 G W H){a:Addr}(h:H a=none):W a=none:=by
 cases e:W a with
 | none=>rfl
 | some i =>
  obtain ⟨_,_,o,q,_⟩:=hh.wf a i e
  rw [h] at q;cases q
theorem aDv{te:TE}{i:Nat}(m:∀ B G0 G W H σ en Q,SimH B G0 G W H->SimS X.K W G H σ en->wpR (fe en) (PostE X.K W G H Q) (PostX (E σ) G H)->te σ H Q) :
  ∀ B G0 G W H σ en Dn,SimH B G0 G W H->SimS X.K W G H σ en->wpO (cO i fe en) (PostS X.K B G0 E Dn)->te σ H fun x H1=>Dn.nx (σ.set i (some x)) H1:=by
 intro B G0 G W H σ en Dn hh hs hw
 refine m B G0 G W H σ en _ hh hs ?_
 unfold cO at hw
 cases ef:fe en with
 | bad=>rw [ef] at hw;exact hw
 | exc C=>rw [ef] at hw;exact fun G1 H1 s=>hw G1 W H1 σ (hh.step s) (hs.step s)
 | ok r =>
  rw [ef] at hw
  cases r with
  | b d=>exact hw.elim
  | p d=>exact fun G1 H1 v s e=>hw G1 W H1 _ (hh.step s) ((hs.step s).set e)
  | x C=>exact fun G1 H1 v s e=>hw G1 W H1 _ (hh.step s) ((hs.step s).set e)
  | f d =>
   rintro G1 H1 v s ⟨a,o,rfl,h1,h2,h3,h4⟩
   obtain ⟨q1,q2⟩:=aL6 (i:=i) (hh.step s) (hs.step s) (hh.lone h1) h2 (hh.bh.free h1) h3 h4
   exact hw G1 _ H1 _ q1 q2
theorem aW{i:Nat}{x:Str}{pos':Pos}(hN:X.N.Nodup)(hi:X.N[i]? = some x)(hx:Loc X.env.scope x)(he:DE X E e fe)(hs:swapsWith e (some (.Name x pos')) pos.line X.env=pure false:=by rfl)(hf:X.fn x=true\/X.env.scope.names.lookup x=some .local:=by first | exact .inl rfl | exact .inr rfl | assumption) :
  DS X E (.Assign [.Name x pos'] e pos) (cO i fe):=by
 obtain ⟨t,p,m⟩:=he.out
 exact DS.in ⟨_,aSy hN hi hx p hs hf,aDv m⟩
def aNi:Ev->L
 | .p d=>.p d
 | .f d=>.o d
 | .b d=>.o d
 | .x C=>.x C
def dW(fe:En->Res Ev):MS:=fun en=>match fe en with
 | .ok r=>some (.rt (aNi r))
 | .exc C=>some (.ex C en)
 | .bad=>none
theorem bA(he:DE X E e fe):DS X E (.Return (some e) pos) (dW fe):=by
 obtain ⟨t,p,m⟩:=he.out
 refine DS.in ⟨_,aTa p,fun B G0 G W H σ en Dn hh hs hw=>m B G0 G W H σ en _ hh hs ?_⟩
 unfold dW at hw
 cases ef:fe en with
 | bad=>rw [ef] at hw;exact hw
 | exc C=>rw [ef] at hw;exact fun G1 H1 s=>hw G1 W H1 σ (hh.step s) (hs.step s)
 | ok r =>
  rw [ef] at hw
  intro G1 H1 v s e
  refine hw G1 W H1 v (hh.step s) ?_
  cases r with
  | p d=>exact e
  | x C=>exact e
  | f d =>
   obtain ⟨a,o,h0,h1,h2,h3,h4⟩:=e
   exact ⟨a,o,h0,h2,hh.bh.free h1,h3,h4⟩
  | b d =>
   obtain ⟨a,i,o,h0,h1,h3,h4⟩:=e
   have z:=(hh.step s).wf a i h1
   exact ⟨a,o,h0,z.1,z.2.1,h3,h4⟩
def i9(c:En->Res Bool)(f g:MS):MS:=fun en=>match c en with
 | .ok k=>if k=true then f en else g en
 | .exc C=>some (.ex C en)
 | .bad=>none
theorem gB{A B:List Stmt}(hc:DT X E c fc)(ha:DSs X E A f)(hb:DSs X E B g):DS X E (.If c A B pos) (i9 fc f g):=by
 obtain ⟨tc,pc,mc⟩:=hc.out
 obtain ⟨t,p,m⟩:=ha.out
 obtain ⟨u,q,n⟩:=hb.out
 refine DS.in ⟨_,aWz pc p q,fun B G0 G W H σ en Dn hh hs hw=>mc B G0 G W H σ en _ hh hs ?_⟩
 unfold i9 at hw
 cases ef:fc en with
 | bad=>rw [ef] at hw;exact hw
 | exc C=>rw [ef] at hw;exact fun G1 H1 s=>hw G1 W H1 σ (hh.step s) (hs.step s)
 | ok k =>
  rw [ef] at hw
  intro G1 H1 s
  cases k with
  | true=>exact m B G0 G1 W H1 σ en Dn (hh.step s) (hs.step s) hw
  | false=>exact n B G0 G1 W H1 σ en Dn (hh.step s) (hs.step s) hw
def frz(i:Nat)(en:En):En:=match en[i]? with
 | some (some (.o d))=>en.set i (some (.p d))
 | _=>en
theorem aS5{K:aZz}{B G0 G H:Hp}{W:Addr->Option Nat}{σ:L2.St}{en:En}(i:Nat)(hh:SimH B G0 G W H)(hs:SimS K W G H σ en):∃ G' W',SimH B G0 G' W' H/\SimS K W' G' H σ (frz i en):=by
 unfold frz
 split
 ·rename_i d e
  obtain ⟨v,e1,a,o,rfl,e2,e3,e4⟩:=hs.2 i _ e
  obtain ⟨w1,w2,w3⟩:=hh.wf a i e2
  have sg:Same G (upd G a o):=Same.upd (Same.refl _) w1 o
  refine ⟨upd G a o,fun b=>if b=a then none else W b,⟨fun b u q=>?_,hh.bh,hh.g0.trans sg,fun b hb=>?_,fun b j e=>?_⟩,by rw [bDs];exact hs.1,fun j l e5=>?_⟩
  ·by_cases z:b=a
   ·subst z;rw [b7] at q;rw [e3];exact q
   ·rw [bK z] at q;exact hh.gh b u q
  ·by_cases z:b=a
   ·subst z;exact .inr (.inl w2)
   ·rw [bK z] at hb;exact hh.gb b hb
  ·split at e
   ·cases e
   ·rename_i z
    rw [bK z];exact hh.wf b j e
  ·rw [bD4] at e5
   by_cases hj:i=j
   ·subst hj
    rw [bAc rfl] at e5
    split at e5
    ·cases e5
     exact ⟨_,e1,(e4.mono sg).rep b7⟩
    ·cases e5
   ·rw [bAg hj] at e5
    obtain ⟨v,f1,f2⟩:=hs.2 j l e5
    refine ⟨v,f1,?_⟩
    cases l with
    | p d=>exact f2.mono sg
    | x C=>obtain ⟨ea,g1,g2⟩:=f2;exact ⟨ea,g1,sg _ _ g2⟩
    | h a=>exact f2
    | o d =>
     obtain ⟨b,ob,g1,g2,g3,g4⟩:=f2
     refine ⟨b,ob,g1,?_,g3,g4.mono sg⟩
     show (if b=a then none else W b)=some j
     rw [bAg (fun z=>by rw [z,e2] at g2;exact hj (bAn g2))]
     exact g2
 ·exact ⟨G,W,hh,hs⟩
theorem fC(i:Nat)(h:DSs X E sts f):DSs X E sts (fun en=>f (frz i en)):=by
 obtain ⟨t,p,m⟩:=h.out
 refine DSs.in ⟨t,p,fun B G0 G W H σ en Dn hh hs hw=>?_⟩
 obtain ⟨G',W',h1,h2⟩:=aS5 i hh hs
 exact m B G0 G' W' H σ _ Dn h1 h2 hw
end
def mWh(c:En->Res Bool)(f:MS):Nat->MS
 | 0,_=>none
 | n+1,en=>match c en with
  | .bad=>none
  | .exc C=>some (.ex C en)
  | .ok false=>some (.nx en)
  | .ok true=>match f en with
   | some (.nx e)=>mWh c f n e
   | some (.ct e)=>mWh c f n e
   | some (.bk e)=>some (.nx e)
   | r=>r
theorem wV{c:En->Res Bool}{f:MS}:∀ {n:Nat} {en:En} {r:Out},mWh c f n en=some r->mWh c f (n+1) en=some r
 | 0,_,_,h=>by cases h
 | n+1,en,r,h=>by
  unfold mWh at h ⊢
  cases ec:c en with
  | bad=>rw [ec] at h;exact h
  | exc C=>rw [ec] at h;exact h
  | ok k =>
   rw [ec] at h
   cases k with
   | false=>exact h
   | true =>
    dsimp only at h ⊢
    cases ef:f en with
    | none=>rw [ef] at h;exact h
    | some o =>
     rw [ef] at h
     cases o with
     | nx e=>exact wV (n:=n) h
     | ct e=>exact wV (n:=n) h
     | bk e=>exact h
     | rt l=>exact h
     | ex C e=>exact h
theorem aOu{c:En->Res Bool}{f:MS}{n m:Nat}{en:En}{r:Out}(h:mWh c f n en=some r)(l:n<=m):mWh c f m en=some r:=by
 induction l with
 | refl=>exact h
 | step _ ih=>exact wV ih
open Classical in
noncomputable def pC(c:En->Res Bool)(f:MS):MS:=fun en=>if h:∃ n r,mWh c f n en=some r then mWh c f h.choose en else none
theorem uG{c:En->Res Bool}{f:MS}{n:Nat}{en:En}{r:Out}(h:mWh c f n en=some r):pC c f en=some r:=by
 unfold pC
 have hx:∃ n r,mWh c f n en=some r:=⟨n,r,h⟩
 rw [dif_pos hx]
 obtain ⟨r',h'⟩:=hx.choose_spec
 rcases Nat.le_total n hx.choose with l | l
 ·exact aOu h l
 ·have:=aOu h' l
  rw [h] at this
  rw [h'];exact this.symm
theorem aCf{c:En->Res Bool}{f:MS}{en:En}{P:Out->Prop}(h:wpO (pC c f en) P):∃ n,wpO (mWh c f n en) P:=by
 unfold pC at h
 split at h
 ·exact ⟨_,h⟩
 ·exact h.elim
section
variable {X:Cx}{E:L2.St->XK}{st:Stmt}{sts:List Stmt}{f g:MS}{fe:En->Res Ev}{fc:En->Res Bool}{e c:Expr}{pos:Pos}
theorem yG(hp:PassesOwn (model X.prog X.w) X.A X.env X.xe)(hc:DT X E c fc)(hb:DSs X E sts f):DS X E (.While c sts [] pos) (pC fc f):=by
 obtain ⟨tc,pc,mc⟩:=hc.out
 obtain ⟨t,p,m⟩:=hb.out
 refine DS.in ⟨_,aLv hp pc p,fun B G0 G W H σ en Dn hh hs hw=>?_⟩
 obtain ⟨n0,hw⟩:=aCf hw
 refine ⟨fun n σ H=>∃ G W en,SimH B G0 G W H/\SimS X.K W G H σ en/\wpO (mWh fc f n en) (PostS X.K B G0 E Dn),⟨n0,G,W,en,hh,hs,hw⟩,?_⟩
 rintro n σ H ⟨G,W,en,hh,hs,hw⟩
 cases n with
 | zero=>exact hw.elim
 | succ n =>
  refine mc B G0 G W H σ en _ hh hs ?_
  unfold mWh at hw
  cases ec:fc en with
  | bad=>rw [ec] at hw;exact hw
  | exc C=>rw [ec] at hw;exact fun G1 H1 s=>hw G1 W H1 σ (hh.step s) (hs.step s)
  | ok k =>
   rw [ec] at hw
   intro G1 H1 s
   cases k with
   | false=>exact hw G1 W H1 σ (hh.step s) (hs.step s)
   | true =>
    refine ⟨fun σ' H'=>∃ G W en,SimH B G0 G W H'/\SimS X.K W G H' σ' en/\wpO (mWh fc f n en) (PostS X.K B G0 E Dn),fun σ' H' q=>⟨n,bFz n,q⟩,?_⟩
    refine m B G0 G1 W H1 σ en _ (hh.step s) (hs.step s) ?_
    dsimp only at hw
    cases ef:f en with
    | none=>rw [ef] at hw;exact hw
    | some o =>
     rw [ef] at hw
     cases o with
     | nx e=>exact fun G2 W2 H2 σ2 h2 s2=>⟨G2,W2,e,h2,s2,hw⟩
     | ct e=>exact fun G2 W2 H2 σ2 h2 s2=>⟨G2,W2,e,h2,s2,hw⟩
     | bk e=>exact hw
     | rt l=>exact hw
     | ex C e=>exact hw
end
def aKb(K:aZz)(ds:List D)(G1:Hp)(J:It):Prop:=∀ G H,Same G1 G->Same G H ->
 (∀ i d,ds[i]? = some d->J.go i H/\∀ v H',J.yld i H v H'->∃ G',Step G H G' H'/\Rep K G' v d)/\J.stop ds.length H
def tI(K:aZz)(E:L2.St->XK)(f:En->Res (List D)):TI:=fun σ H R=>∃ B G0 G W en,SimH B G0 G W H/\SimS K W G H σ en/\wpR (f en) (fun ds=>∀ G' H' J,Step G H G' H'->aKb K ds G' J->R J H') (PostX (E σ) G H)
def DI(X:Cx)(E:L2.St->XK)(tg e:Expr)(f:En->Res (List D)):Prop:=PI X tg e (tI X.K E f)
def Kept(ks:List Nat)(σ σ':L2.St):Prop:=σ'.length=σ.length/\∀ j,j∉ks->σ'[j]? = σ[j]?
def tG(K:aZz)(ks:List Nat)(f:D->En->Option En):TG:=fun v σ H Q=>∃ G W en d en',Same G H/\SimS K W G H σ en/\Rep K G v d/\f d en=some en'/\∀ σ',SimS K W G H σ' en'->Kept ks σ σ'->Q σ' H
def tGs(K:aZz)(ks:List Nat)(f:List D->En->Option En):TGs:=fun vs σ H Q=>∃ G W en ds en',Same G H/\SimS K W G H σ en/\Reps K G vs ds/\f ds en=some en'/\∀ σ',SimS K W G H σ' en'->Kept ks σ σ'->Q σ' H
def DG(X:Cx)(tg:Expr)(ks:List Nat)(f:D->En->Option En):Prop:=PG X tg (tG X.K ks f)
def DGs(X:Cx)(tg:List Expr)(ks:List Nat)(f:List D->En->Option En):Prop:=PGs X tg (tGs X.K ks f)
theorem Kept.trans{ks ls:List Nat}{σ σ1 σ2:L2.St}(a:Kept ks σ σ1)(b:Kept ls σ1 σ2):Kept (ks++ls) σ σ2 :=
 ⟨b.1.trans a.1,fun j hj=>(b.2 j fun z=>hj (bAo _ z)).trans (a.2 j fun z=>hj (bDd _ z))⟩
def aJ(i:Nat):D->En->Option En:=fun d en=>some (en.set i (some (.p d)))
def fB:List D->En->Option En:=fun ds en=>match ds with
 | []=>some en
 | _=>none
def bE(f:D->En->Option En)(g:List D->En->Option En):List D->En->Option En:=fun ds en=>match ds with
 | []=>none
 | d :: r=>match f d en with
  | none=>none
  | some e=>g r e
def fD(n:Nat)(f:List D->En->Option En):D->En->Option En:=fun d en=>match d with
 | .tuple ds=>if ds.length=n then f ds en else none
 | _=>none
section
variable {X:Cx}{E:L2.St->XK}{pos:Pos}
theorem DI.in{tg e:Expr}{f:En->Res (List D)}(h:∃ t,PI X tg e t/\∀ B G0 G W H σ en R,SimH B G0 G W H->SimS X.K W G H σ en->wpR (f en) (fun ds=>∀ G' H' J,Step G H G' H'->aKb X.K ds G' J->R J H') (PostX (E σ) G H)->t σ H R):DI X E tg e f :=
 fun pins s σ H R I ⟨B,G0,G,W,en,h1,h2,h3⟩=>let ⟨_,p,m⟩:=h;p pins s σ H R I (m B G0 G W H σ en R h1 h2 h3)
theorem bC{i:Nat}{x:Str}(hN:X.N.Nodup)(hi:X.N[i]? = some x)(hx:Loc X.env.scope x)(hf:X.fn x=true\/X.env.scope.names.lookup x=some .local:=by first | exact .inl rfl | exact .inr rfl | assumption):DG X (.Name x pos) [i] (aJ i):=by
 intro pins s σ H v u Q I r ⟨G,W,en,d,en',h1,h2,h3,h4,h5⟩
 refine aJu hN hi hx hf pins s σ H v u Q I r ?_
 cases h4
 exact h5 _ (h2.set h3) ⟨bDs ..,fun j hj=>bEf (fun z=>hj (by rw [z];exact .head _))⟩
theorem j7:DGs X [] [] fB:=by
 intro pins s σ H vs us Q I r ⟨G,W,en,ds,en',h1,h2,h3,h4,h5⟩
 refine aQa pins s σ H vs us Q I r ?_
 unfold fB at h4
 split at h4
 ·cases h4;cases h3;exact ⟨rfl,h5 _ h2 ⟨rfl,fun _ _=>rfl⟩⟩
 ·cases h4
theorem cW{e:Expr}{es:List Expr}{ks ls:List Nat}{f:D->En->Option En}{g:List D->En->Option En}(h1:DG X e ks f)(h2:DGs X es ls g)
  (hs:(assignEach (e :: es) X.env).map (·.2)=assign e X.env :: (assignEach es X.env).map (·.2):=by rfl):DGs X (e :: es) (ks++ls) (bE f g):=by
 intro pins s σ H vs us Q I r ⟨G,W,en,ds,en',k1,k2,k3,k4,k5⟩
 refine aLd h1 h2 hs pins s σ H vs us Q I r ?_
 unfold bE at k4
 cases k3 with
 | nil=>cases k4
 | @cons x xs d ds hx hr =>
  dsimp only at k4
  split at k4
  ·cases k4
  ·rename_i e1 q1
   exact ⟨x,xs,rfl,G,W,en,d,e1,k1,k2,hx,q1,fun σ' hσ hk=>⟨G,W,e1,ds,en',k1,hσ,hr,k4,fun σ2 q1 q2=>k5 σ2 q1 (hk.trans q2)⟩⟩
theorem mV{es:List Expr}{k:Nat}{ks:List Nat}{f:List D->En->Option En}{n:Nat}(hc:X.calm=true)(h:DGs X es ks f)(hn:(assignEach es X.env).length=n:=by rfl)(hst:(assignEach es X.env).findIdx? (·.1)=none:=by rfl):DG X (.Tuple es k pos) ks (fD n f):=by
 intro pins s σ H v u Q I r ⟨G,W,en,d,en',k1,k2,k3,k4,k5⟩
 refine aVt hc h hn hst pins s σ H v u Q I r ?_
 unfold fD at k4
 split at k4
 ·rename_i ds
  split at k4
  ·rename_i hl
   cases k3 with
   | @tup a xs _ ha hr=>exact ⟨a,xs,rfl,SqT.of (k1 _ _ ha),by rw [hr.length];exact hl,G,W,en,ds,en',k1,k2,hr,k4,k5⟩
  ·cases k4
 ·cases k4
def aVs(g:D->En->Option En)(fe:En->Res Ev):MS:=fun en=>match fe en with
 | .ok r=>match r.c with
  | .p d=>match g d en with
   | some e=>some (.nx e)
   | none=>none
  | _=>none
 | .exc C=>some (.ex C en)
 | .bad=>none
theorem aT5{tg e:Expr}{ks:List Nat}{g:D->En->Option En}{fe:En->Res Ev}(he:DE X E e fe)(hg:DG X tg ks g)(hs:swapsWithSole [tg] e pos.line X.env=pure false:=by rfl)(hw:swappedStores [tg] e X.env=pure none:=by rfl)
  (h1:(assignEach [tg] X.env).map (·.2)=[assign tg X.env]:=by rfl):DS X E (.Assign [tg] e pos) (aVs g fe):=by
 obtain ⟨t,p,m⟩:=he.out
 refine DS.in ⟨_,aUn p hg hs hw h1,fun B G0 G W H σ en Dn hh hs hw=>m B G0 G W H σ en _ hh hs ?_⟩
 unfold aVs at hw
 cases ef:fe en with
 | bad=>rw [ef] at hw;exact hw
 | exc C=>rw [ef] at hw;exact fun G1 H1 s=>hw G1 W H1 σ (hh.step s) (hs.step s)
 | ok r =>
  rw [ef] at hw
  intro G1 H1 v s e
  obtain ⟨G2,s2,e2⟩:=e.c s
  dsimp only at hw
  cases er:r.c with
  | p d =>
   rw [er] at hw e2
   dsimp only at hw
   cases eg:g d en with
   | none=>rw [eg] at hw;exact hw.elim
   | some e' =>
    rw [eg] at hw
    exact ⟨G2,W,en,d,e',s2.gh,hs.step s2,e2,eg,fun σ' hσ _=>hw G2 W H1 σ' (hh.step s2) hσ⟩
  | f d=>rw [er] at hw;exact hw.elim
  | b d=>rw [er] at hw;exact hw.elim
  | x C=>rw [er] at hw;exact hw.elim
def gS(tg:D->En->Option En)(f:MS):List D->MS
 | [],en=>some (.nx en)
 | d :: ds,en=>match tg d en with
  | none=>none
  | some e1=>match f e1 with
   | some (.nx e2)=>gS tg f ds e2
   | some (.ct e2)=>gS tg f ds e2
   | some (.bk e2)=>some (.nx e2)
   | r=>r
def aA2(fi:En->Res (List D))(tg:D->En->Option En)(f:MS):MS:=fun en=>match fi en with
 | .ok ds=>gS tg f ds en
 | .exc C=>some (.ex C en)
 | .bad=>none
theorem SimH.lower{B G0 G1 G H H1:Hp}{W W1:Addr->Option Nat}(h:SimH B G1 G W H)(h1:SimH B G0 G1 W1 H1):SimH B G0 G W H :=
 ⟨h.gh,h.bh,h1.g0.trans h.g0,fun b hb=>(h.gb b hb).elim (fun z=>h1.gb b z) .inr,h.wf⟩
theorem SimH.raise{B G0 G H:Hp}{W:Addr->Option Nat}(h:SimH B G0 G W H):SimH B G G W H:=⟨h.gh,h.bh,Same.refl _,fun _ hb=>.inl hb,h.wf⟩
theorem PostS.lower{K:aZz}{B G0 G1 H1:Hp}{W1:Addr->Option Nat}{Dn:Ends}{r:Out}(h:PostS K B G0 E Dn r)(h1:SimH B G0 G1 W1 H1):PostS K B G1 E Dn r:=by
 cases r with
 | nx en=>exact fun G W H σ a b=>h G W H σ (a.lower h1) b
 | bk en=>exact fun G W H σ a b=>h G W H σ (a.lower h1) b
 | ct en=>exact fun G W H σ a b=>h G W H σ (a.lower h1) b
 | rt l=>exact fun G W H σ a b=>h G W H σ (a.lower h1) b
 | ex C en=>exact fun G W H σ a b=>h G W H σ (a.lower h1) b
theorem mB{tg iter:Expr}{body:List Stmt}{fi:En->Res (List D)}{ks:List Nat}{g:D->En->Option En}{f:MS}(hp:PassesOwn (model X.prog X.w) X.A X.env X.xe)(hc:X.calm=true)(hi:DI X E tg iter fi)(hg:DG X tg ks g)(hb:DSs X E body f)
  (hs:∀ x,foldedSetIterable iter X.env x=pure x:=by intro _;rfl):DS X E (.For tg iter body [] pos) (aA2 fi g f):=by
 obtain ⟨t,p,m⟩:=hb.out
 refine DS.in ⟨_,aVp hp hc hi hg p hs,fun B G0 G W H σ en Dn hh hs hw=>⟨B,G0,G,W,en,hh,hs,?_⟩⟩
 unfold aA2 at hw
 cases ef:fi en with
 | bad=>rw [ef] at hw;exact hw
 | exc C=>rw [ef] at hw;exact fun G1 H1 s=>hw G1 W H1 σ (hh.step s) (hs.step s)
 | ok ds =>
  rw [ef] at hw
  intro G1 H1 J s1 hJ
  have hh1:=hh.step s1
  refine ⟨fun i n σ H=>n=ds.length - i/\i<=ds.length/\∃ G W en,SimH B G1 G W H/\SimS X.K W G H σ en/\wpO (gS g f (ds.drop i) en) (PostS X.K B G0 E Dn),
   ⟨ds.length,rfl,bBo _,G1,W,en,hh1.raise,hs.step s1,hw⟩,?_⟩
  rintro i n σ H ⟨rfl,hi,G,W,en,hh,hs,hw⟩
  obtain ⟨j1,j2⟩:=hJ G H hh.g0 hh.gh
  by_cases hlt:i < ds.length
  ·refine .inr ?_
   obtain ⟨jg,jy⟩:=j1 i ds[i] (aZ5 hlt)
   rw [bE8 hlt] at hw
   unfold gS at hw
   refine ⟨jg,fun σ' H'=>∃ G W en,SimH B G1 G W H'/\SimS X.K W G H' σ' en/\wpO (gS g f (ds.drop (i+1)) en) (PostS X.K B G0 E Dn),fun σ' H' q=>⟨ds.length - (i+1),by omega,rfl,hlt,q⟩,fun v H' hy=>?_⟩
   obtain ⟨G2,s2,rv⟩:=jy v H' hy
   cases eg:g ds[i] en with
   | none=>rw [eg] at hw;exact hw.elim
   | some e1 =>
    rw [eg] at hw
    dsimp only at hw
    refine ⟨G2,W,en,ds[i],e1,s2.gh,hs.step s2,rv,eg,fun σ' hσ _=>?_⟩
    refine m B G1 G2 W H' σ' e1 _ (hh.step s2) hσ ?_
    cases ef2:f e1 with
    | none=>rw [ef2] at hw;exact hw
    | some o =>
     rw [ef2] at hw
     cases o with
     | nx e=>exact fun G2 W2 H2 σ2 h2 s2=>⟨G2,W2,e,h2,s2,hw⟩
     | ct e=>exact fun G2 W2 H2 σ2 h2 s2=>⟨G2,W2,e,h2,s2,hw⟩
     | bk e=>exact PostS.lower (E:=E) (Dn:=Dn) (r:=.nx e) hw hh1
     | rt l=>exact PostS.lower (E:=E) (Dn:=Dn) (r:=.rt l) hw hh1
     | ex C e=>exact PostS.lower (E:=E) (Dn:=Dn) (r:=.ex C e) hw hh1
  ·have e:i=ds.length:=by omega
   subst e
   rw [List.drop_length] at hw
   exact .inl ⟨j2,hw G W H σ (hh.lower hh1) hs⟩
def aPg(r:Ev):Res (List D):=match r with
 | .p (.list ds)=>.ok ds
 | _=>.bad
def eX(fe:En->Res Ev):En->Res (List D):=fun en=>(fe en).bind fun r=>aPg r.c
theorem bX{tg e:Expr}{fe:En->Res Ev}(he:DE X E e fe):DI X E tg e (eX fe):=by
 obtain ⟨t,p,m⟩:=he.out
 refine DI.in ⟨_,aQ6 p,fun B G0 G W H σ en R hh hs hw=>m B G0 G W H σ en _ hh hs ?_⟩
 have hw:wpR ((fe en).bind _) _ _:=hw
 rw [cU] at hw
 refine bT hw (fun r hr G1 H1 v s e=>?_) fun C h=>h
 obtain ⟨G2,s2,e2⟩:=e.c s
 cases er:r.c with
 | p d =>
  rw [er] at hr e2
  cases d with
  | list ds =>
   cases e2 with
   | @lst a xs _ ha hrs =>
    refine ⟨a,rfl,⟨xs,s2.gh.seq (.inl ha)⟩,hr G2 H1 _ s2 fun G3 H3 k1 k2=>⟨fun i d ed=>?_,xs,(k1.trans k2).seq (.inl ha),bDn hrs.length⟩⟩
    obtain ⟨x,ex,rx⟩:=hrs.get' ed
    refine ⟨⟨xs,x,(k1.trans k2).seq (.inl ha),ex⟩,fun v H' hy=>?_⟩
    obtain ⟨rfl,hy⟩:=hy
    have:=hy xs ((k1.trans k2).seq (.inl ha))
    rw [ex] at this
    cases this
    exact ⟨G3,Step.refl k2,rx.mono k1⟩
  | _=>exact False.elim hr
 | f d=>rw [er] at hr;exact False.elim hr
 | b d=>rw [er] at hr;exact False.elim hr
 | x C=>rw [er] at hr;exact False.elim hr
def aFz(lo:Int)(n:Nat):List D:=(List.range n).map fun (k:Nat)=>PyData.int (lo+(k:Int))
def aAf(rs:List Ev):Res (List D):=match rs with
 | [.p (.int j)]=>if -(2 ^ 62)<=j/\j < 2 ^ 62 then .ok (aFz 0 j.toNat) else .bad
 | _=>.bad
def aEz(rs:List Ev):Res (List D):=match rs with
 | [.p (.int i),.p (.int j)]=>if -(2 ^ 62)<=i/\i < 2 ^ 62/\-(2 ^ 62)<=j/\j < 2 ^ 62 then .ok (aFz i (j - i).toNat) else .bad
 | _=>.bad
theorem vY(K:aZz)(lo:Int)(n:Nat)(G1:Hp):aKb K (aFz lo n) G1 (Itr lo n):=fun G H _ k2=>by
 refine ⟨fun i d ed=>?_,by show n<=_;unfold aFz;rw [aZ0,bB5];exact bAf _⟩
 unfold aFz at ed
 rw [bA0] at ed
 by_cases hi:i < n
 ·rw [bEm hi] at ed
  cases ed
  refine ⟨hi,fun v H' hy=>?_⟩
  obtain ⟨rfl,rfl⟩:=hy
  exact ⟨G,Step.refl k2,.int _⟩
 ·rw [bBr (by rw [bB5];omega)] at ed
  cases ed
def yF(r:List Ev->Res (List D))(fr:En->Res (List Ev)):En->Res (List D):=fun en=>(fr en).bind r
theorem yV{tg a:Expr}{fr:En->Res (List Ev)}{p:Pos}(hg:Gl X "range")(hm:X.mg "range" = none)(ha:DA X E [a] fr)(hs:starEach [a] X.env=[(false,eval a X.env)]:=by rfl):DI X E tg (.Call (.Name "range" p) [a] [] pos) (yF aAf fr):=by
 obtain ⟨t,q,m⟩:=ha.out
 refine DI.in ⟨_,aH8 hg hm q hs,fun B G0 G W H σ en R hh hs hw=>m B G0 G W H σ en _ hh hs ?_⟩
 have hw:wpR ((fr en).bind _) _ _:=hw
 rw [cU] at hw
 refine bT hw (fun rs hr G1 H1 vs s e=>?_) fun C h=>h
 unfold aAf at hr
 split at hr
 ·rename_i j
  split at hr
  ·rename_i hj
   match vs,e with
   | [v],⟨e1,_⟩ =>
    cases e1
    exact ⟨j,rfl,hj.1,hj.2,hr G1 H1 _ s (vY _ _ _ _)⟩
  ·exact False.elim hr
 ·exact False.elim hr
theorem aJ4{tg a b:Expr}{fr:En->Res (List Ev)}{p:Pos}(hg:Gl X "range")(hm:X.mg "range" = none)(ha:DA X E [a,b] fr)(hs:starEach [a,b] X.env=[(false,eval a X.env),(false,eval b X.env)]:=by rfl)(hs2:starEach [b] X.env=[(false,eval b X.env)]:=by rfl) :
  DI X E tg (.Call (.Name "range" p) [a,b] [] pos) (yF aEz fr):=by
 obtain ⟨t,q,m⟩:=ha.out
 refine DI.in ⟨_,aIq hg hm q hs hs2,fun B G0 G W H σ en R hh hs hw=>m B G0 G W H σ en _ hh hs ?_⟩
 have hw:wpR ((fr en).bind _) _ _:=hw
 rw [cU] at hw
 refine bT hw (fun rs hr G1 H1 vs s e=>?_) fun C h=>h
 unfold aEz at hr
 split at hr
 ·rename_i i j
  split at hr
  ·rename_i hj
   match vs,e with
   | [v,u],⟨e1,e2,_⟩ =>
    cases e1
    cases e2
    exact ⟨i,j,rfl,hj,hr G1 H1 _ s (vY _ _ _ _)⟩
  ·exact False.elim hr
 ·exact False.elim hr
end
def oT:Ev->Option L
 | .p d=>some (.p d)
 | .x C=>some (.x C)
 | .b _=>none
 | .f _=>none
def aEc:Ev->Option L
 | .p d=>some (.p d)
 | .b d=>some (.p d)
 | .x _=>none
 | .f _=>none
def eZ(g:Ev->Option L):List Ev->Option (List L)
 | []=>some []
 | r :: rs=>match g r with
  | none=>none
  | some l=>match eZ g rs with
   | none=>none
   | some ls=>some (l :: ls)
def nX:L->Ev
 | .p d=>.p d
 | .o d=>.f d
 | .x C=>.x C
 | .h a=>.x a
mutual
def lfD:D->Bool
 | .list _=>false
 | .dict _=>false
 | .tuple ds=>lfA ds
 | _=>true
def lfA:List D->Bool
 | []=>true
 | d :: ds=>lfD d && lfA ds
end
def lfP:List (D×D)->Bool
 | []=>true
 | p :: r=>lfD p.2 && lfP r
def xE:L->Bool
 | .p d=>lfD d
 | .o (.list ds)=>lfA ds
 | .o (.dict kvs)=>lfP kvs
 | _=>false
def gN(n:Nat)(m:List L->Res L)(rs:List Ev):Res Ev:=match eZ oT rs with
 | some ls=>if ls.length=n then (m ls).bind fun l=>.ok (nX l) else .bad
 | none=>match eZ aEc rs with
  | some ls=>if ls.length=n then (m ls).bind fun l=>if xE l=true then .ok (nX l) else .bad else .bad
  | none=>.bad
def aN(n:Nat)(m:List L->Res L)(fr:En->Res (List Ev)):En->Res Ev:=fun en=>(fr en).bind (gN n m)
def aW2(K:aZz)(G:Hp)(v:V):L->Prop
 | .p d=>Rep K G v d
 | .o _=>False
 | .x C=>∃ e,v=.ref e/\G e=some (aV2 e (.ref C))
 | .h _=>False
def ArgsOk(K:aZz)(G:Hp):List V->List L->Prop
 | [],[]=>True
 | v :: vs,l :: ls=>aW2 K G v l/\ArgsOk K G vs ls
 | _,_=>False
theorem ArgsOk.length{K:aZz}{G:Hp}:∀ {vs:List V} {ls:List L},ArgsOk K G vs ls->vs.length=ls.length
 | [],[],_=>rfl
 | _ :: _,_ :: _,h=>by rw [aZ2,aZ2,ArgsOk.length h.2]
def spM(K:aZz)(n:Nat)(m:List L->Res L):Sp:=fun vs H Q E=>vs.length=n/\∃ G ls,Same G H/\ArgsOk K G vs ls /\
 wpR (m ls) (fun l=>∀ G' H' v,Step G H G' H'->aPw K H G' H' v l->Q v H') (fun C=>∀ G' H',Step G H G' H'->E (.ref C) none H')
theorem aHi{K:aZz}{W:Addr->Option Nat}{Hs G H:Hp}:∀ {rs:List Ev} {ls:List L} {vs:List V},eZ oT rs=some ls->EOks K W Hs G H vs rs->ArgsOk K G vs ls
 | [],_,[],h,_=>by cases h;exact trivial
 | [],_,_ :: _,_,e=>e.elim
 | _ :: _,_,[],_,e=>e.elim
 | r :: rs,ls,v :: vs,h,e=>by
  unfold eZ at h
  cases r with
  | p d =>
   cases er:eZ oT rs with
   | none=>rw [er] at h;cases h
   | some ls'=>rw [er] at h;cases h;exact ⟨e.1,aHi er e.2⟩
  | x C =>
   cases er:eZ oT rs with
   | none=>rw [er] at h;cases h
   | some ls'=>rw [er] at h;cases h;exact ⟨e.1,aHi er e.2⟩
  | b d=>cases h
  | f d=>cases h
def both(W:Addr->Option Nat)(G H:Hp):Hp:=fun b=>match W b with
 | some _=>H b
 | none=>G b
theorem sJ{W:Addr->Option Nat}{B G0 G H:Hp}(hh:SimH B G0 G W H):Same G (both W G H)/\Same (both W G H) H:=by
 refine ⟨fun b o e=>?_,fun b o e=>?_⟩
 ·unfold both
  cases ew:W b with
  | none=>exact e
  | some i=>rw [(hh.wf b i ew).1] at e;cases e
 ·unfold both at e
  cases ew:W b with
  | none=>rw [ew] at e;exact hh.gh b o e
  | some i=>rw [ew] at e;exact e
theorem aKp{K:aZz}{W:Addr->Option Nat}{Hs B G0 G H:Hp}(hh:SimH B G0 G W H):∀ {rs:List Ev} {ls:List L} {vs:List V},eZ aEc rs=some ls->EOks K W Hs G H vs rs->ArgsOk K (both W G H) vs ls
 | [],_,[],h,_=>by cases h;exact trivial
 | [],_,_ :: _,_,e=>e.elim
 | _ :: _,_,[],_,e=>e.elim
 | r :: rs,ls,v :: vs,h,e=>by
  unfold eZ at h
  cases r with
  | p d =>
   cases er:eZ aEc rs with
   | none=>rw [er] at h;cases h
   | some ls'=>rw [er] at h;cases h;exact ⟨Rep.mono (sJ hh).1 e.1,aKp hh er e.2⟩
  | b d =>
   cases er:eZ aEc rs with
   | none=>rw [er] at h;cases h
   | some ls' =>
    rw [er] at h;cases h
    refine ⟨?_,aKp hh er e.2⟩
    obtain ⟨a,i,o,rfl,h1,h2,h3⟩:=e.1
    exact (h3.mono (sJ hh).1).rep (by unfold both;rw [h1];exact h2)
  | x d=>cases h
  | f d=>cases h
mutual
theorem aD8{K:aZz}{G G':Hp}(k:∀ b xs,G b=some (.tup xs)->G' b=some (.tup xs)):∀ {v:V} {d:D},lfD d=true->Rep K G v d->Rep K G' v d
 | _,_,_,.non=>.non
 | _,_,_,.bl b=>.bl b
 | _,_,_,.int i=>.int i
 | _,_,_,.str x=>.str x
 | _,_,hf,.tup h r=>.tup (k _ _ h) (aA3 k (by unfold lfD at hf;exact hf) r)
 | _,_,hf,.lst _ _=>by unfold lfD at hf;cases hf
 | _,_,hf,.dT _ _=>by unfold lfD at hf;cases hf
 | _,_,hf,.dK _ _=>by unfold lfD at hf;cases hf
theorem aA3{K:aZz}{G G':Hp}(k:∀ b xs,G b=some (.tup xs)->G' b=some (.tup xs)):∀ {vs:List V} {ds:List D},lfA ds=true->Reps K G vs ds->Reps K G' vs ds
 | _,_,_,.nil=>.nil
 | _,_,hf,.cons h r=>by
  unfold lfA at hf
  have hf:=bBd.mp hf
  exact .cons (aD8 k hf.1 h) (aA3 k hf.2 r)
end
theorem aKa{K:aZz}{G G':Hp}(k:∀ b xs,G b=some (.tup xs)->G' b=some (.tup xs)):∀ {kv:List (List Key×V)} {kvs:List (D×D)},lfP kvs=true->RepT K G kv kvs->RepT K G' kv kvs
 | _,_,_,.nil=>.nil
 | _,_,hf,.cons h r=>by
  unfold lfP at hf
  have hf:=bBd.mp hf
  exact .cons (aD8 k hf.1 h) (aKa k hf.2 r)
theorem aH4{K:aZz}{G G':Hp}(k:∀ b xs,G b=some (.tup xs)->G' b=some (.tup xs)):∀ {kv:List (Key×V)} {kvs:List (D×D)},lfP kvs=true->RepK K G kv kvs->RepK K G' kv kvs
 | _,_,_,.nil=>.nil
 | _,_,hf,.cons h r=>by
  unfold lfP at hf
  have hf:=bBd.mp hf
  exact .cons (aD8 k hf.1 h) (aH4 k hf.2 r)
def vB(W:Addr->Option Nat)(G:Hp):Hp:=fun b=>match W b with
 | some _=>none
 | none=>G b
theorem aM4{K:aZz}{W:Addr->Option Nat}{H1 G H Hs:Hp}{v:V}{l:L}(hf:xE l=true)(hH:Hs=Hs)(hs:∀ b,H1 b=none->Hs b=none)(k:∀ b xs,G b=some (.tup xs)->vB W G b=some (.tup xs))(h:aPw K H1 G H v l):EOk K W Hs (vB W G) H v (nX l):=by
 have n0:∀ b,G b=none->vB W G b=none:=fun b e=>by
  unfold vB
  cases W b with
  | none=>exact e
  | some _=>rfl
 cases l with
 | x C=>cases hf
 | h a=>cases hf
 | p d=>exact aD8 k hf h
 | o d =>
  obtain ⟨a,o,rfl,h1,h2,h3,h4⟩:=h
  refine ⟨a,o,rfl,hs _ h2,n0 _ h1,h3,?_⟩
  cases h4 with
  | lst r=>exact .lst (aA3 k hf r)
  | dT r=>exact .dT (aKa k hf r)
  | dK r=>exact .dK (aH4 k (by unfold xE at hf;unfold lfP at hf;exact (bBd.mp hf).2) r)
theorem aJs{K:aZz}{W:Addr->Option Nat}{B G0 G H G1 H1:Hp}{n:Nat}{m:List L->Res L}{rs:List Ev}{vs:List V}{Q:VK}{EE:XK}(hh:SimH B G0 G W H)(s:Step G H G1 H1)(e:EOks K W H G1 H1 vs rs)
  (hr:wpR (gN n m rs) (PostE K W G H Q) (PostX EE G H)):spM K n m vs H1 Q EE:=by
 unfold gN at hr
 split at hr
 ·rename_i ls el
  split at hr
  ·rename_i hn
   have ha:=aHi el e
   refine ⟨by rw [ha.length];exact hn,G1,ls,s.gh,ha,?_⟩
   rw [cU] at hr
   refine bT hr (fun l hl G2 H2 v s2 rv=>hl G2 H2 v (s.trans s2) ?_) fun C h G2 H2 s2=>h G2 H2 (s.trans s2)
   cases l with
   | p d=>exact rv
   | x C=>exact rv
   | h a=>exact rv.elim
   | o d =>
    obtain ⟨a,o,h1,h2,h3,h4,h5⟩:=rv
    exact ⟨a,o,h1,s.h.free h3,h2,h4,h5⟩
  ·exact hr.elim
 ·split at hr
  ·rename_i ls el
   split at hr
   ·rename_i hn
    have hh1:=hh.step s
    have ha:=aKp hh1 el e
    obtain ⟨k1,k2⟩:=sJ hh1
    refine ⟨by rw [ha.length];exact hn,both W G1 H1,ls,k2,ha,?_⟩
    rw [cU] at hr
    refine bT hr (fun l hl G2 H2 v s2 rv=>?_) fun C h G2 H2 s2=>h G1 H2 (s.trans ⟨Same.refl _,s2.h,s.gh.trans s2.h,fun _ _ q=>.inl q⟩)
    split at hl
    ·rename_i hf
     have kt:∀ b xs,G2 b=some (.tup xs)->vB W G2 b=some (.tup xs):=fun b xs eb=>by
      unfold vB
      cases ew:W b with
      | none=>exact eb
      | some i =>
       obtain ⟨_,_,o,e1,e2⟩:=hh1.wf b i ew
       have e3:=s2.gh _ _ eb
       rw [s2.h _ _ e1] at e3
       exact absurd (bAn e3) (e2 xs)
     refine hl (vB W G2) H2 v ⟨fun b o eb=>?_,s.h.trans s2.h,fun b o eb=>?_,fun b hb hg=>?_⟩ (aM4 hf rfl (fun b e=>s.h.free e) kt rv)
     ·have e1:=s.g _ _ eb
      unfold vB
      cases ew:W b with
      | none=>exact s2.g _ _ (k1 _ _ e1)
      | some i=>rw [(hh1.wf b i ew).1] at e1;cases e1
     ·unfold vB at eb
      cases ew:W b with
      | none=>rw [ew] at eb;exact s2.gh _ _ eb
      | some i=>rw [ew] at eb;cases eb
     ·unfold vB
      cases ew:W b with
      | some i=>exact .inl rfl
      | none =>
       rcases s.new b hb hg with z | z
       ·have z2:both W G1 H1 b=none:=by unfold both;rw [ew];exact z
        rcases s2.new b (aI3 s.h hb) z2 with y | ⟨xs,y⟩
        ·exact .inl y
        ·cases e:H b with
         | none=>exact absurd e hb
         | some o=>rw [s.h _ _ e] at y;exact .inr ⟨xs,y⟩
       ·exact .inr z
    ·exact hl.elim
   ·exact hr.elim
  ·exact hr.elim
section
variable {X:Cx}{E:L2.St->XK}{k:Nat}{f:Addr}{fd:FuncData}{ps:List Str}{x:Str}{p pos:Pos}{e:Expr}{es:List Expr}{fr:En->Res (List Ev)}{n:Nat}{m:List L->Res L}
theorem aP4(F:FnOk X.prog X.w X.K X.mg X.base (CXr X.prog X.w) k f fd ps (spM X.K n m))(hr:Room k X.A)(hg:Gl X x)(hm:X.mg x=some (.ref f))(hk:PySem.W.keepIn X.K (.ref f)=true)(hb:Binds X.K fd ps [])(hx:sL (CXr X.prog X.w) X E)
  (ha:DA X E (e :: es) fr) (hdb:(x == ("__debug__" : Str))=false:=by decide) (he:starEach (e :: es) X.env=(false,eval e X.env) :: starEach es X.env:=by rfl) (hpl:(backTo pos (starEach es X.env)).any (·.1)=false:=by rfl) :
  DE X E (.Call (.Name x p) (e :: es) [] pos) (aN n m fr):=by
 obtain ⟨t,q,mm⟩:=ha.out
 refine DE.in ⟨_,aNn F hr hg hm hk hb hx q hdb he hpl,fun B G0 G W H σ en Q hh hs hw=>mm B G0 G W H σ en _ hh hs ?_⟩
 have hw:wpR ((fr en).bind _) _ _:=hw
 rw [cU] at hw
 exact bT hw (fun rs hr G1 H1 vs s e=>aJs hh s e hr) fun C h=>h
def oB(K:aZz)(r:List V->Hp->VK->Prop)(f:List Ev->Res Ev):Prop:=∀ (W:Addr->Option Nat) (Hs G H:Hp) (vs:List V) (rs:List Ev) (Q:VK),Same G H->EOks K W Hs G H vs rs->wpR (f rs) (PostE K W G H Q) (fun _=>False)->r vs H Q
def aCe(f:List Ev->Res Ev):Prop:=∀ rs C,f rs≠.exc C
def aK(f:List Ev->Res Ev)(fr:En->Res (List Ev)):En->Res Ev:=fun en=>(fr en).bind f
theorem vN{r:List V->Hp->VK->Prop}{f:List Ev->Res Ev}{t:TA}(hm:oB X.K r f)(hn:aCe f)(mm:∀ B G0 G W H σ en Q,SimH B G0 G W H->SimS X.K W G H σ en->wpR (fr en) (aMw X.K W G H Q) (PostX (E σ) G H)->t σ H Q) :
  ∀ B G0 G W H σ en Q,SimH B G0 G W H->SimS X.K W G H σ en->wpR (aK f fr en) (PostE X.K W G H Q) (PostX (E σ) G H)->tCB r t σ H Q:=by
 intro B G0 G W H σ en Q hh hs hw
 refine mm B G0 G W H σ en _ hh hs ?_
 have hw:wpR ((fr en).bind _) _ _:=hw
 rw [cU] at hw
 exact bT hw (fun rs hr G1 H1 vs s e=>hm W H G1 H1 vs rs Q s.gh e (noX (bT hr (fun _ h=>h.step s) fun _ h=>h) (hn rs))) fun C h=>h
theorem bZ{id:String}{r:List V->Hp->VK->Prop}{f:List Ev->Res Ev}(hc:nU X (.builtin id) r)(hM:oB X.K r f)(hn:aCe f)(hg:Gl X x)(hm:X.mg x=none)(hv:bootBuiltins x=some (.builtin id))(ha:DA X E (e :: es) fr)(hnn:x≠"__name__":=by decide)(hdb:(x == ("__debug__" : Str))=false:=by decide)
  (he:starEach (e :: es) X.env=(false,eval e X.env) :: starEach es X.env:=by rfl) (hpl:(backTo pos (starEach es X.env)).any (·.1)=false:=by rfl):DE X E (.Call (.Name x p) (e :: es) [] pos) (aK f fr):=by
 obtain ⟨t,q,mm⟩:=ha.out
 exact DE.in ⟨_,aL7 hc hg hm hv q hnn hdb he hpl,vN hM hn mm⟩
theorem pI{T:String}{r:List V->Hp->VK->Prop}{f:List Ev->Res Ev}(hc:nU X (.type T) r)(hM:oB X.K r f)(hn:aCe f)(hg:Gl X x)(hm:X.mg x=none)(hv:bootBuiltins x=some (.type T))(ha:DA X E (e :: es) fr)(hnn:x≠"__name__":=by decide)(hdb:(x == ("__debug__" : Str))=false:=by decide)
  (he:starEach (e :: es) X.env=(false,eval e X.env) :: starEach es X.env:=by rfl) (hpl:(backTo pos (starEach es X.env)).any (·.1)=false:=by rfl):DE X E (.Call (.Name x p) (e :: es) [] pos) (aK f fr):=by
 obtain ⟨t,q,mm⟩:=ha.out
 exact DE.in ⟨_,aF1 hc hg hm hv q hnn hdb he hpl,vN hM hn mm⟩
end
def bD(n:Nat)(ls:List L):En:=ls.map some++List.replicate (n - ls.length) none
def eK(n:Nat)(f:MS)(ls:List L):Res L:=match f (bD n ls) with
 | some (.nx _)=>.ok (.p .none)
 | some (.rt l)=>.ok l
 | some (.ex C _)=>.exc C
 | _=>.bad
theorem vO{K:aZz}{W:Addr->Option Nat}{G H:Hp}:∀ {vs:List V} {ls:List L} (i:Nat) (l:L),ArgsOk K G vs ls->ls[i]? = some l->∃ v,vs[i]? = some v/\∀ j,Slot K W G H j v l
 | [],[],_,_,_,e=>by simp at e
 | v :: vs,l :: ls,0,m,h,e=>by
  simp at e;subst e
  refine ⟨v,rfl,fun j=>?_⟩
  have z:=h.1
  cases l with
  | p d=>exact z
  | x C=>exact z
  | h a=>exact z.elim
  | o d=>exact z.elim
 | v :: vs,l :: ls,i+1,m,h,e=>by
  have:=vO (W:=W) (H:=H) i m h.2 (by simpa using e)
  simpa using this
theorem aIh{K:aZz}{W:Addr->Option Nat}{G H:Hp}{N:List Str}{vs:List V}{ls:List L}(h:ArgsOk K G vs ls):SimS K W G H (L2.start N vs) (bD N.length ls):=by
 have hl:=h.length
 refine ⟨by unfold L2.start bD;simp [hl],fun i l e=>?_⟩
 unfold bD at e
 by_cases hi:i < ls.length
 ·rw [bBl (by rw [aZ0];exact hi),bA0] at e
  cases e2:ls[i]? with
  | none=>rw [e2] at e;cases e
  | some l' =>
   rw [e2] at e
   cases e
   obtain ⟨v,e3,e4⟩:=vO (W:=W) (H:=H) i l h e2
   refine ⟨v,?_,e4 i⟩
   unfold L2.start
   rw [bBl (by rw [aZ0,hl];exact hi),bA0,e3]
   rfl
 ·rw [bBg (by rw [aZ0];omega),bCc] at e
  split at e<;>cases e
theorem aCp{G H G' H':Hp}{W:Addr->Option Nat}(h:SimH H G G' W H'):Step G H G' H':=⟨h.g0,h.bh,h.gh,fun b hb hg=>by
 cases e:G' b with
 | none=>exact .inl rfl
 | some o =>
  rcases h.gb b (by rw [e];exact fun z=>nomatch z) with z | z | z
  ·exact absurd hg z
  ·exact absurd z hb
  ·exact .inr z⟩
theorem aF0{K:aZz}{N:List Str}{n:Nat}{m:List L->Res L}{fm:MS}{vs:List V}{H:Hp}{Q:VK}{E:XK}(h:spM K n m vs H Q E)(hm:∀ ls,m ls=.bad\/eK N.length fm ls=m ls) :
  tS K (fun _=>E) fm { nx:=fun _ H'=>Q .non H',rt:=Q } (L2.start N vs) H:=by
 obtain ⟨hl,G,ls,gh,ha,hw⟩:=h
 refine ⟨H,G,G,fun _=>none,bD N.length ls,⟨gh,Same.refl _,Same.refl _,fun _ hb=>.inl hb,fun a i e=>nomatch e⟩,aIh ha,?_⟩
 rcases hm ls with e | e
 ·rw [e] at hw;exact hw.elim
 ·rw [<- e] at hw
  unfold eK at hw
  cases ef:fm (bD N.length ls) with
  | none=>rw [ef] at hw;exact hw
  | some o =>
   rw [ef] at hw
   cases o with
   | nx en=>exact fun G' W' H' σ' h1 _=>hw G' H' .non (aCp h1) .non
   | rt l=>exact fun G' W' H' v h1 h2=>hw G' H' v (aCp h1) h2
   | bk en=>exact hw.elim
   | ct en=>exact hw.elim
   | ex C en=>exact fun G' W' H' σ' h1 _=>hw G' H' (aCp h1)
section
variable {P:Program}{w:World}{K:aZz}{mg:Str->Option Value}{base:Heap}
theorem a6{N:List Str}{qual:Str}{scope:Scope}{f:Addr}{cd:Value}{A:Around}{outer:List Env}{s:Shared}{H:Hp}{E:XK}:sL (CXr P w) (xJ (CXr P w) P w K mg base N qual scope f cd A outer s H E) (fun _=>E) :=
 fun pins σ H s e s' I h=>aX7 pins σ H s e s' I h
theorem oS{X:Cx}:sL (CXr P w) X (fun _=>E0):=fun _ _ _ _ _ _ _ ⟨_,_,_,_,_,_,_,z⟩=>z.elim
theorem fnM{x qual:Str}{st:Stmt}{f:Addr}{fd:FuncData}{N ps:List Str}{k n:Nat}{m:List L->Res L}(F:Fun K x qual st f fd)(S:aY N ps (aR st))(hn:n=ps.length)
  (hbody:∀ (cdv:Value) (A:Around) (outer:List Env) (s:Shared) (H:Hp) (E:XK),Room k (A.deeper (envOfC qual (aR st) s.heap.objs.size f cdv)) ->
   ∃ fm,DSs (xJ (CXr P w) P w K mg base N qual (aR st) f cdv A outer s H E) (fun _=>E) (jW st) fm/\∀ ls,m ls=.bad\/eK N.length fm ls=m ls):FnOk P w K mg base (CXr P w) (k+1) f fd ps (spM K n m):=by
 refine F.okX S (fun vs H Q E h=>?_) (fun cdv A outer s H vs Q E hr h=>?_)
 ·rw [<- hn];exact h.1
 ·obtain ⟨fm,hd,hm⟩:=hbody cdv A outer s H E hr
  exact ⟨_,hd,aF0 h hm⟩
end
def mL(C:Addr)(fr:En->Res (List Ev)):MS:=fun en=>match fr en with
 | .ok rs=>if rs.length<=1000 then some (.ex C en) else none
 | .exc C=>some (.ex C en)
 | .bad=>none
theorem EOks.length{K:aZz}{W:Addr->Option Nat}{Hs G H:Hp}:∀ {vs:List V} {rs:List Ev},EOks K W Hs G H vs rs->vs.length=rs.length
 | [],[],_=>rfl
 | [],_ :: _,h=>h.elim
 | _ :: _,[],h=>h.elim
 | _ :: _,_ :: _,h=>by rw [aZ2,aZ2,EOks.length h.2]
section
variable {X:Cx}
theorem aDr{E:XK}{x:Str}{e₀:Expr}{rest:List Expr}{fr:En->Res (List Ev)}{C:Addr}{bm:List Value}{B newId initId:String}{np cpos pos:Pos}(hx:aHk X E)(hc:X.calm=true)(hg:Gl X x)(O:OwnCls x C bm newId X.mg X.base)
  (FB:ExcBaseFacts B newId initId bm) (ha:DA X (fun _=>E) (e₀ :: rest) fr) (hdb:(x == ("__debug__" : Str))=false:=by decide)
  (he:starEach (e₀ :: rest) X.env=(false,eval e₀ X.env) :: starEach rest X.env:=by rfl) (hpl:(backTo cpos (starEach rest X.env)).any (·.1)=false:=by rfl) :
  DS X (fun _=>E) (.Raise (some (.Call (.Name x np) (e₀ :: rest) [] cpos)) none pos) (mL C fr):=by
 obtain ⟨t,q,m⟩:=ha.out
 refine DS.in ⟨_,aL2 hx hc hg O FB q hdb he hpl,fun B G0 G W H σ en Dn hh hs hw=>m B G0 G W H σ en _ hh hs ?_⟩
 unfold mL at hw
 cases ef:fr en with
 | bad=>rw [ef] at hw;exact hw
 | exc C=>rw [ef] at hw;exact fun G1 H1 s=>hw G1 W H1 σ (hh.step s) (hs.step s)
 | ok rs =>
  rw [ef] at hw
  intro G1 H1 vs s e
  dsimp only at hw
  split at hw
  ·rename_i hl
   exact ⟨by rw [e.length];exact bA5 hl (by decide),hw G1 W H1 σ (hh.step s) (hs.step s)⟩
  ·exact hw.elim
end
def oW:List Ev->Option (List D)
 | []=>some []
 | r :: rs=>match r with
  | .p d=>match oW rs with
   | some ds=>some (d :: ds)
   | none=>none
  | _=>none
theorem uE{K:aZz}{W:Addr->Option Nat}{Hs G H:Hp}:∀ {rs:List Ev} {ds:List D} {vs:List V},oW rs=some ds->EOks K W Hs G H vs rs->Reps K G vs ds
 | [],_,[],h,_=>by cases h;exact .nil
 | [],_,_ :: _,_,e=>e.elim
 | _ :: _,_,[],_,e=>e.elim
 | r :: rs,ds,v :: vs,h,e=>by
  unfold oW at h
  cases r with
  | p d =>
   dsimp only at h
   cases er:oW rs with
   | none=>rw [er] at h;cases h
   | some ds'=>rw [er] at h;cases h;exact .cons e.1 (uE er e.2)
  | x C=>cases h
  | b d=>cases h
  | f d=>cases h
def bQ(rs:List Ev):Res Ev:=match oW rs with
 | some ds=>if ds.length<=1000 then .ok (.p (.tuple ds)) else .bad
 | none=>.bad
def oN(rs:List Ev):Res Ev:=match oW rs with
 | some ds=>if ds.length<=1000 then .ok (.f (.list ds)) else .bad
 | none=>.bad
section
variable {X:Cx}{E:L2.St->XK}{es:List Expr}{fr:En->Res (List Ev)}{pos:Pos}
theorem bO{x1}(h:DA X E es fr):DE X E (.Tuple es x1 pos) (aK bQ fr):=by
 obtain ⟨t,q,m⟩:=h.out
 refine DE.in ⟨_,aUs q,fun B G0 G W H σ en Q hh hs hw=>m B G0 G W H σ en _ hh hs ?_⟩
 have hw:wpR ((fr en).bind _) _ _:=hw
 rw [cU] at hw
 refine bT hw (fun rs hr G1 H1 vs s e=>?_) fun C h=>h
 unfold bQ at hr
 split at hr
 ·rename_i ds el
  have rp:=uE el e
  split at hr
  ·rename_i hl
   refine ⟨by rw [rp.length];exact bA5 hl (by decide),fun p hp=>?_⟩
   have st:=Step.put (o:=.tup vs) s.gh hp
   exact hr _ _ _ (s.trans st) (.tup b7 (rp.mono st.g))
  ·exact False.elim hr
 ·exact False.elim hr
theorem aAp(h:DA X E es fr):DE X E (.List es pos) (aK oN fr):=by
 obtain ⟨t,q,m⟩:=h.out
 refine DE.in ⟨_,aU6 q,fun B G0 G W H σ en Q hh hs hw=>m B G0 G W H σ en _ hh hs ?_⟩
 have hw:wpR ((fr en).bind _) _ _:=hw
 rw [cU] at hw
 refine bT hw (fun rs hr G1 H1 vs s e=>?_) fun C h=>h
 unfold oN at hr
 split at hr
 ·rename_i ds el
  have rp:=uE el e
  split at hr
  ·rename_i hl
   refine ⟨by rw [rp.length];exact bA5 hl (by decide),fun p hp=>?_⟩
   have st:=Step.lay (o:=.lst vs) s.gh hp
   exact hr _ _ _ (s.trans st) ⟨p,_,rfl,s.h.free hp,s.gh.free hp,b7,.lst rp⟩
  ·exact False.elim hr
 ·exact False.elim hr
end
def nV(g:D->Option (Option D)):List D->Option (List D)
 | []=>some []
 | d :: ds=>match g d with
  | none=>none
  | some o=>match nV g ds with
   | none=>none
   | some r=>some (match o with
    | some y=>y :: r
    | none=>r)
def sV(o:Option (Option L)):Option L:=match o with
 | some (some (.p d))=>some (.p d)
 | some (some (.x C))=>some (.x C)
 | _=>none
def mF(js:List Nat)(en:En):En:=js.map fun j=>sV en[j]?
def eR:En->Res Bool:=fun _=>.ok true
def aV(n:Nat)(js:List Nat)(tg:D->En->Option En)(ft:En->Res Bool)(fe:En->Res Ev)(en:En)(d:D):Option (Option D):=match tg d (List.replicate n none++mF js en) with
 | none=>none
 | some e=>match ft e with
  | .ok true=>match fe e with
   | .ok r=>match r.c with
    | .p y=>some (some y)
    | _=>none
   | _=>none
  | .ok false=>some none
  | _=>none
def aRm(g:D->Option (Option D))(ds:List D):Res Ev:=if ds.length<=100000 then match nV g ds with
  | some r=>.ok (.f (.list r))
  | none=>.bad
 else .bad
def dJ(n:Nat)(js:List Nat)(fi:En->Res (List D))(tg:D->En->Option En)(ft:En->Res Bool)(fe:En->Res Ev):En->Res Ev:=fun en=>(fi en).bind fun ds=>aRm (aV n js tg ft fe en) ds
def DTs(X:Cx)(ifs:List Expr)(f:En->Res Bool):Prop:=PTs X ifs (tT X.K (fun _=>E0) f)
theorem aYz{G H:Hp}(h:Same G H):SimH H G G (fun _=>none) H:=⟨h,Same.refl _,Same.refl _,fun _ hb=>.inl hb,fun a i e=>nomatch e⟩
theorem aLf{K:aZz}{W:Addr->Option Nat}{G H:Hp}{σ:L2.St}{en:En}(n:Nat)(js:List Nat)(h:SimS K W G H σ en):SimS K (fun _=>none) G H (List.replicate n none++aC3 js σ) (List.replicate n none++mF js en):=by
 refine ⟨by unfold aC3 mF;simp,fun i l e=>?_⟩
 by_cases hi:i < n
 ·rw [bBl (by rw [bA9];exact hi),bCc] at e
  split at e<;>cases e
 ·rw [bBg (by rw [bA9];omega),bA9] at e ⊢
  unfold mF at e
  unfold aC3
  rw [bA0] at e ⊢
  cases ej:js[i - n]? with
  | none=>rw [ej] at e;cases e
  | some j =>
   rw [ej] at e
   have e':sV en[j]? = some l:=bAn e
   unfold sV at e'
   split at e'
   ·rename_i d q
    cases e'
    obtain ⟨v,h1,h2⟩:=h.2 j _ q
    exact ⟨v,by show some ((σ[j]?).getD none)=_;rw [h1];rfl,h2⟩
   ·rename_i d q
    cases e'
    obtain ⟨v,h1,h2⟩:=h.2 j _ q
    exact ⟨v,by show some ((σ[j]?).getD none)=_;rw [h1];rfl,h2⟩
   ·cases e'
section
variable {X:Cx}{E:L2.St->XK}{pos:Pos}
theorem eF:DTs X [] eR:=fun pins s σ H Q I ⟨B,G0,G,W,en,h1,h2,h3⟩=>aRl pins s σ H Q I (h3 G H (Step.refl h1.gh))
theorem kW{c:Expr}{f:En->Res Bool}(h:DT X (fun _=>E0) c f):DTs X [c] f:=aP7 h
theorem aD1{elt iter tg:Expr}{scope:Scope}{ifs:List Expr}{n:Nat}{js ks:List Nat}{fi:En->Res (List D)}{g:D->En->Option En}{ft:En->Res Bool}{fe:En->Res Ev}{xs ys:List Str}{cl:List (Str×Addr)}(hc:X.calm=true)(hi:DI X E tg iter fi)
  (hcl:aP5 X scope cl) (hcap:vA X scope cl ys js) (hcell:∀ y∈scope.names,y.2≠.cell) (hkind:scope.kind=.function) (hnames:∀ y∈scope.names,y.2=.local->scope.names.lookup y.1=some .local) (hn:xs.length=n) (hks:∀ j∈ks,j < n)
  (hg:∀ C s₀ H₀ ex pn,DG (dA X scope cl C (xs++ys) s₀ H₀ ex pn) tg ks g) (ht:∀ C s₀ H₀ ex pn,DTs (dA X scope cl C (xs++ys) s₀ H₀ ex pn) ifs ft) (hb:∀ C s₀ H₀ ex pn,DE (dA X scope cl C (xs++ys) s₀ H₀ ex pn) (fun _=>E0) elt fe)
  : ∀ B G0 G W H σ en Q,SimH B G0 G W H->SimS X.K W G H σ en->wpR (dJ n js fi g ft fe en) (PostE X.K W G H Q) (PostX (E σ) G H)->aCw (tI X.K E fi) (tG X.K ks g) (tT X.K (fun _=>E0) ft) (tE X.K (fun _=>E0) fe) xs.length js σ H Q:=by
 subst hn
 refine fun B G0 G W H σ en Q hh hs hw=>⟨B,G0,G,W,en,hh,hs,?_⟩
 have hw:wpR ((fi en).bind _) _ _:=hw
 rw [cU] at hw
 refine bT hw (fun ds hds G1 H1 J s1 hJ D hD=>?_) fun C h=>h
 unfold aRm at hds
 split at hds
 case isFalse=>exact hds.elim
 rename_i hlen
 split at hds
 case h_2=>exact hds.elim
 rename_i r em
 have gD:G1 D=none:=s1.gh.free hD
 have aYe:∀ {G2 H2:Hp} {y:List V},Step G1 H1 G2 H2->G2 D=none->Step G1 H1 G2 (upd H2 D (.lst y)):=fun st hg2=>by
  refine ⟨st.g,fun b o e=>?_,fun b o e=>?_,st.new⟩
  ·rw [bK (dS e hD)];exact st.h b o e
  ·rw [bK (dS e hg2)];exact st.gh b o e
 refine ⟨ds.length,fun i ys H2=>i<=ds.length/\ys.length<=i/\∃ G2 rs rest,Step G1 H1 G2 H2/\G2 D=none/\H2 D=some (.lst ys)/\Reps X.K G2 ys rs/\nV (aV xs.length js g ft fe en) (ds.drop i)=some rest/\rs++rest=r,
  ⟨bBo _,bBo _,G1,[],r,Step.lay s1.gh hD,gD,b7,.nil,em,rfl⟩,?_⟩
 rintro i zs H2 ⟨hi,hzl,G2,rs,rest,st,g2,h2,rp,em2,er⟩
 obtain ⟨j1,j2⟩:=hJ G2 H2 st.g st.gh
 by_cases hlt:i < ds.length
 ·refine .inr ⟨hlt,?_⟩
  obtain ⟨jg,jy⟩:=j1 i ds[i] (aZ5 hlt)
  refine ⟨jg,fun v H3 hy=>?_⟩
  obtain ⟨G3,s3,rv⟩:=jy v H3 hy
  rw [bE8 hlt] at em2
  unfold nV at em2
  cases ec:aV xs.length js g ft fe en ds[i] with
  | none=>rw [ec] at em2;cases em2
  | some o =>
   rw [ec] at em2
   dsimp only at em2
   cases em3:nV (aV xs.length js g ft fe en) (ds.drop (i+1)) with
   | none=>rw [em3] at em2;cases em2
   | some rest' =>
    rw [em3] at em2
    have em2:=bAn em2
    unfold aV at ec
    split at ec
    ·cases ec
    ·rename_i e eg
     have in3:=aLf xs.length js (hs.step ((s1.trans st).trans s3))
     refine ⟨G3,fun _=>none,_,ds[i],e,s3.gh,in3,rv,eg,fun σ' hσ hk=>⟨⟨?_,?_⟩,?_⟩⟩
     ·rw [hk.1];unfold aC3;simp
     ·refine bDb fun j=>?_
      rw [List.getElem?_drop,hk.2 (xs.length+j) fun z=>absurd (hks _ z) (by omega),bBg (by rw [bA9];omega),bA9]
      congr 1
      omega
     ·refine ⟨_,_,G3,fun _=>none,e,aYz s3.gh,hσ,?_⟩
      cases et:ft e with
      | bad=>rw [et] at ec;cases ec
      | exc C=>rw [et] at ec;cases ec
      | ok k =>
       rw [et] at ec
       intro G5 H5 s5
       cases k with
       | false =>
        cases ec
        rw [bAg bAs]
        have s25:=s3.trans s5
        exact ⟨hlt,Nat.le_succ_of_le hzl,G5,rs,rest',st.trans s25,s25.off h2 (fun xs z=>nomatch z) g2,s25.h _ _ h2,rp.mono s25.g,em3,by rw [<- er,<- em2]⟩
       | true =>
        rw [bAc rfl]
        refine ⟨_,_,G5,fun _=>none,e,aYz s5.gh,hσ.step s5,?_⟩
        dsimp only at ec
        cases ee:fe e with
        | bad=>rw [ee] at ec;cases ec
        | exc C=>rw [ee] at ec;cases ec
        | ok q =>
         rw [ee] at ec
         intro G6 H6 y s6 ey
         obtain ⟨G7,s7,e7⟩:=EOk.c s6 ey
         dsimp only at ec
         split at ec
         ·rename_i y' eq
          cases ec
          rw [eq] at e7
          have s27:=(s3.trans s5).trans s7
          have g7:=s27.off h2 (fun xs z=>nomatch z) g2
          refine ⟨s27.h _ _ h2,bC1 (bA5 hzl (bA5 hi hlen)) (by decide),hlt,by rw [bAi];exact bF0 hzl,G7,rs++[y'],rest',aYe (st.trans s27) g7,g7,b7,(rp.mono s27.g).append (.cons e7 .nil),em3,?_⟩
          rw [<- er,<- em2,bCg]
          rfl
         ·cases ec
 ·have e:i=ds.length:=by omega
  subst e
  rw [List.drop_length] at em2
  cases em2
  rw [bCr] at er
  subst er
  exact .inl ⟨j2,hds G2 H2 _ (s1.trans st) ⟨D,_,rfl,s1.h.free hD,g2,h2,.lst rp⟩⟩
theorem fE{elt iter tg:Expr}{scope:Scope}{ifs:List Expr}{n:Nat}{js ks:List Nat}{fi:En->Res (List D)}{g:D->En->Option En}{ft:En->Res Bool}{fe:En->Res Ev}{xs ys:List Str}{cl:List (Str×Addr)}(hc:X.calm=true)(hi:DI X E tg iter fi)
  (hcl:aP5 X scope cl) (hcap:vA X scope cl ys js) (hcell:∀ y∈scope.names,y.2≠.cell) (hkind:scope.kind=.function) (hnames:∀ y∈scope.names,y.2=.local->scope.names.lookup y.1=some .local) (hn:xs.length=n) (hks:∀ j∈ks,j < n)
  (hg:∀ C s₀ H₀ ex pn,DG (dA X scope cl C (xs++ys) s₀ H₀ ex pn) tg ks g) (ht:∀ C s₀ H₀ ex pn,DTs (dA X scope cl C (xs++ys) s₀ H₀ ex pn) ifs ft) (hb:∀ C s₀ H₀ ex pn,DE (dA X scope cl C (xs++ys) s₀ H₀ ex pn) (fun _=>E0) elt fe)
  (hs:∀ x,foldedSetIterable iter X.env x=pure x:=by intro _;rfl):DE X E (.ListComp elt [⟨tg,iter,ifs,0⟩] scope pos) (dJ n js fi g ft fe) :=
 DE.in ⟨_,aMn (xs:=xs) (g:=tG X.K ks g) (tt:=tT X.K (fun _=>E0) ft) (te:=tE X.K (fun _=>E0) fe) hc hi hcl hcap hcell hkind hnames hg ht hb hs,aD1 hc hi hcl hcap hcell hkind hnames hn hks hg ht hb⟩
theorem iF{i:Nat}{y:Str}{py spos:Pos}(hN:X.N.Nodup)(hiN:X.N[i]? = some y)(hx:Loc X.env.scope y){elt iter tg:Expr}{scope:Scope}{ifs:List Expr}{n:Nat}{js ks:List Nat}{fi:En->Res (List D)}{g:D->En->Option En}{ft:En->Res Bool}{fe:En->Res Ev}{xs ys:List Str}{cl:List (Str×Addr)}(hc:X.calm=true)(hi:DI X E tg iter fi)
  (hcl:aP5 X scope cl) (hcap:vA X scope cl ys js) (hcell:∀ y∈scope.names,y.2≠.cell) (hkind:scope.kind=.function) (hnames:∀ y∈scope.names,y.2=.local->scope.names.lookup y.1=some .local) (hn:xs.length=n) (hks:∀ j∈ks,j < n)
  (hg:∀ C s₀ H₀ ex pn,DG (dA X scope cl C (xs++ys) s₀ H₀ ex pn) tg ks g) (ht:∀ C s₀ H₀ ex pn,DTs (dA X scope cl C (xs++ys) s₀ H₀ ex pn) ifs ft) (hb:∀ C s₀ H₀ ex pn,DE (dA X scope cl C (xs++ys) s₀ H₀ ex pn) (fun _=>E0) elt fe)
  (hsw:swapsWith (.ListComp elt [⟨tg,iter,ifs,0⟩] scope pos) (some (.Name y py)) spos.line X.env=pure true:=by rfl) (hs:∀ x,foldedSetIterable iter X.env x=pure x:=by intro _;rfl)
  (hf:X.fn y=true\/X.env.scope.names.lookup y=some .local:=by first | exact .inl rfl | exact .inr rfl | assumption):DS X E (.Assign [.Name y py] (.ListComp elt [⟨tg,iter,ifs,0⟩] scope pos) spos) (cO i (dJ n js fi g ft fe)) :=
 DS.in ⟨_,aNh (xs:=xs) (g:=tG X.K ks g) (tt:=tT X.K (fun _=>E0) ft) (te:=tE X.K (fun _=>E0) fe) hN hiN hx hc hi hcl hcap hcell hkind hnames hg ht hb hsw hs hf,aDv (aD1 hc hi hcl hcap hcell hkind hnames hn hks hg ht hb)⟩
end
section
variable {X:Cx}{K:aZz}
def rOr(r r':R2):R2:=fun x y H Q=>r x y H Q\/r' x y H Q
theorem OpR.or'{f:Value->Value->Sem Value}{r r':R2}(h:OpR X f r)(h':OpR X f r'):OpR X f (rOr r r'):=OpR.or h h'
def aUb:R2:=fun x y H Q=>∃ l b xs zs,x=.ref l/\y=.ref b/\Rd H l (.lst xs)/\Rd H b (.lst zs)/\xs.length+zs.length<=sizeLine/\∀ p,H p=none->Q (.ref p) (upd H p (.lst (xs++zs)))
theorem aR7:OpR X (binaryOp .Add) aUb:=by
 intro pins s σ H x y v u Q I rx ry h
 obtain ⟨l,b,xs,zs,rfl,rfl,hH,hB,hz,q⟩:=h
 cases rx
 cases ry
 obtain ⟨z,its,n,r,e⟩:=hH.ok I.hok
 obtain ⟨z2,its2,n2,r2,e2⟩:=hB.ok I.hok
 have hl:=r.length
 have hl2:=r2.length
 refine PySem.P.add_list e e2 ?_ (by rw [bAe,bAe];omega)
 have ea:its.toArray++its2.toArray=(its++its2).toArray:=by simp
 rw [ea]
 exact ⟨.ref _,_,I.lnew (t':=s.toks) (r.append r2) (by rw [bAi];omega),rfl,q _ I.fresh⟩
def aQ4:R2:=fun x y H Q=>∃ i j,x=.str i/\y=.str j/\i.length+j.length<=sizeLine/\Q (.str (i++j)) H
def g9:Ev->Option (List D)
 | .p (.list ds)=>some ds
 | .b (.list ds)=>some ds
 | _=>none
theorem n5{W:Addr->Option Nat}{Hs G H:Hp}{v:V}{r:Ev}{ds:List D}(gh:Same G H)(h:EOk K W Hs G H v r)(e:g9 r=some ds):∃ a xs,v=.ref a/\Rd H a (.lst xs)/\Reps K G xs ds:=by
 cases r with
 | p d =>
  cases d with
  | list es =>
   cases e
   cases h with
   | @lst a xs _ h1 h2=>exact ⟨a,xs,rfl,gL gh h1,h2⟩
  | _=>cases e
 | b d =>
  cases d with
  | list es =>
   cases e
   obtain ⟨a,i,o,rfl,h1,h2,h3⟩:=h
   cases h3 with
   | @lst xs _ h4=>exact ⟨a,xs,rfl,.inl h2,h4⟩
  | _=>cases e
 | f d=>cases e
 | x C=>cases e
def dat:Ev->Option D
 | .p d=>some d
 | .b d=>some d
 | _=>none
theorem EOk.read{W:Addr->Option Nat}{Hs G H:Hp}{v:V}{r:Ev}{d:D}(gh:Same G H)(h:EOk K W Hs G H v r)(e:dat r=some d):Rep K H v d:=by
 cases r with
 | p d=>cases e;exact Rep.mono gh h
 | b d =>
  cases e
  obtain ⟨a,i,o,rfl,h1,h2,h3⟩:=h
  exact (h3.mono gh).rep h2
 | f d=>cases e
 | x C=>cases e
open Classical in
noncomputable def aEd(C:Int->Int->Prop)(g:Int->Int->D)(x y:Ev):Res Ev:=match x,y with
 | .p (.int i),.p (.int j)=>if C i j then .ok (.p (g i j)) else .bad
 | _,_=>.bad
def iG(g:Int->Int->D)(x y:Ev):Res Ev:=match x,y with
 | .p (.int i),.p (.int j)=>.ok (.p (g i j))
 | _,_=>.bad
theorem aI{C:Int->Int->Prop}{g:Int->Int->D}:NoX (aEd C g):=by
 intro x y A h
 unfold aEd at h
 split at h
 ·split at h<;>cases h
 ·cases h
theorem aU{g:Int->Int->D}:NoX (iG g):=by
 intro x y A h
 unfold iG at h
 split at h<;>cases h
theorem zK{C:Int->Int->Prop}{g:Int->Int->D}{gv:Int->Int->V}(hg:∀ G i j,Rep K G (gv i j) (g i j)):OpM K (rI C gv) (aEd C g):=by
 intro W G H v u x y Q gh hx hy hw
 unfold aEd at hw
 split at hw
 ·rename_i i j e1 e2
  rw [e1] at hx;rw [e2] at hy
  cases hx;cases hy
  split at hw
  ·rename_i hc
   exact ⟨i,j,rfl,rfl,hc,hw G H _ (Step.refl gh) (hg G i j)⟩
  ·exact hw.elim
 ·exact hw.elim
theorem aHb{g:Int->Int->D}{gv:Int->Int->V}(hg:∀ G i j,Rep K G (gv i j) (g i j)):OpM K (rI0 gv) (iG g):=by
 intro W G H v u x y Q gh hx hy hw
 unfold iG at hw
 split at hw
 ·rename_i i j e1 e2
  rw [e1] at hx;rw [e2] at hy
  cases hx;cases hy
  exact ⟨i,j,rfl,rfl,hw G H _ (Step.refl gh) (hg G i j)⟩
 ·exact hw.elim
noncomputable abbrev eV:Ev->Ev->Res Ev:=aEd CMulW fun i j=>.int (i*j)
noncomputable abbrev j6:Ev->Ev->Res Ev:=aEd mG fun i j=>.int (i.fdiv j)
noncomputable abbrev kL:Ev->Ev->Res Ev:=aEd (fun _ j=>j≠0) fun i j=>.int (i.fmod j)
noncomputable abbrev aB3:Ev->Ev->Res Ev:=aEd aJd fun i j=>.int (i ^ j.toNat)
abbrev kZ:Ev->Ev->Res Ev:=iG fun i j=>.int (i - j)
abbrev ltE:Ev->Ev->Res Ev:=iG fun i j=>.bool (decide (i < j))
abbrev leE:Ev->Ev->Res Ev:=iG fun i j=>.bool (decide (i<=j))
abbrev gtE:Ev->Ev->Res Ev:=iG fun i j=>.bool (decide (j < i))
theorem bJ:OpM K (rI CMulW fun i j=>.int (i*j)) eV:=zK fun _ _ _=>.int _
theorem gC:OpM K (rI mG fun i j=>.int (i.fdiv j)) j6:=zK fun _ _ _=>.int _
theorem dQ:OpM K (rI (fun _ j=>j≠0) fun i j=>.int (i.fmod j)) kL:=zK fun _ _ _=>.int _
theorem mD:OpM K (rI aJd fun i j=>.int (i ^ j.toNat)) aB3:=zK fun _ _ _=>.int _
theorem dN:OpM K (rI0 fun i j=>.int (i - j)) kZ:=aHb fun _ _ _=>.int _
def iD(x y:Ev):Res Ev:=match x,y with
 | .p (.int i),.p (.int j)=>.ok (.p (.int (i+j)))
 | .p (.str i),.p (.str j)=>if i.length+j.length<=100000 then .ok (.p (.str (i++j))) else .bad
 | x,y=>match g9 x,g9 y with
  | some ds,some es=>if ds.length+es.length<=100000 then .ok (.f (.list (ds++es))) else .bad
  | _,_=>.bad
theorem cB:NoX iD:=by
 intro x y A h
 unfold iD at h
 split at h
 ·cases h
 ·split at h<;>cases h
 ·split at h
  ·split at h<;>cases h
  ·cases h
abbrev aUw:R2:=rOr (rI0 fun i j=>.int (i+j)) (rOr aQ4 aUb)
theorem cA:OpR X (binaryOp .Add) aUw:=OpR.or' aTi (OpR.or' aFs aR7)
theorem dP:OpM K aUw iD:=by
 intro W G H v u x y Q gh hx hy hw
 unfold iD at hw
 split at hw
 ·rename_i i j e1 e2
  rw [e1] at hx;rw [e2] at hy
  cases hx;cases hy
  exact .inl ⟨i,j,rfl,rfl,hw G H _ (Step.refl gh) (.int _)⟩
 ·rename_i i j e1 e2
  rw [e1] at hx;rw [e2] at hy
  cases hx;cases hy
  split at hw
  ·rename_i hl
   exact .inr (.inl ⟨i,j,rfl,rfl,bA5 hl (by decide),hw G H _ (Step.refl gh) (.str _)⟩)
  ·exact hw.elim
 ·split at hw
  ·rename_i ds es e1 e2
   obtain ⟨a,xs,rfl,h1,h2⟩:=n5 gh hx e1
   obtain ⟨b,ys,rfl,h3,h4⟩:=n5 gh hy e2
   split at hw
   ·rename_i hl
    refine .inr (.inr ⟨a,b,xs,ys,rfl,rfl,h1,h3,by rw [h2.length,h4.length];exact bA5 hl (by decide),fun p hp=>?_⟩)
    exact hw _ _ _ (Step.lay gh hp) ⟨p,_,rfl,hp,gh.free hp,b7,.lst (h2.append h4)⟩
   ·exact hw.elim
  ·exact hw.elim
theorem jC{p:Int->Int->Bool}:OpM K (rI0 fun i j=>.bl (p i j)) (iG fun i j=>.bool (p i j)):=aHb fun _ _ _=>.bl _
mutual
theorem Rep.reads{P:Program}{w:World}{H:Hp}{h:Heap}(ok:HOk P w H h):∀ {v:V} {d:D},Rep K H v d->d.canLay0=true->∀ {u:Value},RelV v u->∃ as,Reads h u d as
 | _,_,.non,_,_,e=>by cases e;exact ⟨_,Reads.none⟩
 | _,_,.bl b,_,_,e=>by cases e;exact ⟨_,Reads.bool b⟩
 | _,_,.int i,_,_,⟨t,e⟩=>by subst e;exact ⟨_,Reads.int i t⟩
 | _,_,.str i,_,_,⟨t,e⟩=>by subst e;exact ⟨_,Reads.str i t⟩
 | _,_,.tup hh r,hc,_,e=>by
  have e:_=Value.ref _:=e
  subst e
  obtain ⟨_,its,rv,o,ho,hcl,n,hd⟩:=(show ObjOk P w H h _ _ from ok _ _ hh)
  obtain ⟨as,q⟩:=Reps.reads ok r (by simpa [PyData.canLay0] using hc) rv
  exact ⟨as,reads_tuple_at ho hcl hd (by simpa using q)⟩
 | _,_,.lst hh r,hc,_,e=>by
  have e:_=Value.ref _:=e
  subst e
  obtain ⟨_,its,n,rv,ho⟩:=hh.ok ok
  obtain ⟨as,q⟩:=Reps.reads ok r (by simpa [PyData.canLay0] using hc) rv
  exact ⟨_,reads_list_at ho rfl rfl (by simpa using q)⟩
 | _,_,.dT _ _,hc,_,_=>by simp [PyData.canLay0] at hc
 | _,_,.dK _ _,hc,_,_=>by simp [PyData.canLay0] at hc
theorem Reps.reads{P:Program}{w:World}{H:Hp}{h:Heap}(ok:HOk P w H h):∀ {vs:List V} {ds:List D},Reps K H vs ds->PyData.canLayAll0 ds=true->∀ {us:List Value},Vals vs us->∃ as,ReadsAll h us ds as
 | _,_,.nil,_,_,.nil=>⟨_,ReadsAll.nil⟩
 | _,_,.cons hd r,hc,_,.cons rv rt=>by
  simp only [PyData.canLayAll0,bCa] at hc
  obtain ⟨as,q⟩:=Rep.reads ok hd hc.1 rv
  obtain ⟨bs,p⟩:=Reps.reads ok r hc.2 rt
  exact ⟨_,ReadsAll.cons q p⟩
end
def aW3(K:aZz)(ng:Bool):R2:=fun x y H Q=>∃ d e,Rep K H x d/\Rep K H y e/\SeqAt.shaped d=true/\SeqAt.shaped e=true/\Q (.bl (if ng then !PyData.eqv d e else PyData.eqv d e)) H
theorem gG{K:aZz}(hu:X.A.units+64 < cLine):OpR X (compareOp .Eq) (aW3 K false):=by
 intro pins s σ H x y v u Q I rx ry h
 obtain ⟨d,e,h1,h2,o1,o2,q⟩:=h
 obtain ⟨as,r1⟩:=h1.reads I.hok (bBd.mp o1).1 rx
 obtain ⟨bs,r2⟩:=h2.reads I.hok (bBd.mp o2).1 ry
 exact eq_dataH r1 r2 o1 o2 hu ⟨.bl _,H,I,rfl,q⟩
theorem y7{K:aZz}(hu:X.A.units+64 < cLine):OpR X (compareOp .NotEq) (aW3 K true):=by
 intro pins s σ H x y v u Q I rx ry h
 obtain ⟨d,e,h1,h2,o1,o2,q⟩:=h
 obtain ⟨as,r1⟩:=h1.reads I.hok (bBd.mp o1).1 rx
 obtain ⟨bs,r2⟩:=h2.reads I.hok (bBd.mp o2).1 ry
 exact ne_dataH r1 r2 o1 o2 hu ⟨.bl _,H,I,rfl,q⟩
def eqE(ng:Bool)(x y:Ev):Res Ev:=match dat x,dat y with
 | some d,some e=>if SeqAt.shaped d=true/\SeqAt.shaped e=true then .ok (.p (.bool (if ng then !PyData.eqv d e else PyData.eqv d e))) else .bad
 | _,_=>.bad
theorem eS{ng:Bool}:NoX (eqE ng):=by
 intro x y A h
 unfold eqE at h
 split at h
 ·split at h<;>cases h
 ·cases h
theorem i4{ng:Bool}:OpM K (aW3 K ng) (eqE ng):=by
 intro W G H v u x y Q gh hx hy hw
 unfold eqE at hw
 split at hw
 ·rename_i d e e1 e2
  split at hw
  ·rename_i hs
   exact ⟨d,e,hx.read gh e1,hy.read gh e2,hs.1,hs.2,hw G H _ (Step.refl gh) (.bl _)⟩
  ·exact hw.elim
 ·exact hw.elim
def yJ(ng:Bool)(x:Ev):Res Ev:=match x with
 | .p .none=>.ok (.p (.bool (!ng)))
 | .p _=>.ok (.p (.bool ng))
 | .b _=>.ok (.p (.bool ng))
 | _=>.bad
def mUn(op:Ev->Res Ev)(fa:En->Res Ev):En->Res Ev:=fun en=>(fa en).bind fun x=>op x.c
variable {E:L2.St->XK}{a b:Expr}{fa fb:En->Res Ev}{pos:Pos}
theorem yD{ng:Bool}{W:Addr->Option Nat}{G H:Hp}{v:V}{x:Ev}{Q:VK}(gh:Same G H)(hx:EOk K W H G H v x.c){EE:XK}(hw:wpR (yJ ng x.c) (PostE K W G H Q) (PostX EE G H)):Q (.bl (if ng then !decide (v=.non) else decide (v=.non))) H:=by
 unfold yJ at hw
 split at hw
 ·rename_i e
  rw [e] at hx
  cases hx
  have z:=hw G H _ (Step.refl gh) (.bl _)
  cases ng<;>exact z
 ·rename_i d e e2
  rw [e2] at hx
  have nv:v≠.non:=by
   intro z
   subst z
   have hx:Rep K G V.non d:=hx
   cases hx
   exact e rfl
  have z:=hw G H _ (Step.refl gh) (.bl _)
  rw [aZ7 nv]
  cases ng<;>exact z
 ·rename_i d e
  rw [e] at hx
  obtain ⟨a,i,o,rfl,h1⟩:=hx
  have z:=hw G H _ (Step.refl gh) (.bl _)
  cases ng<;>exact z
 ·exact hw.elim
theorem aT2{j pos'}(ha:DE X E a fa):DE X E (.Compare a [.Is] [.Constant .none j pos'] pos) (mUn (yJ false) fa):=by
 obtain ⟨t,p,m⟩:=ha.out
 refine DE.in ⟨_,aTn (aOa p),fun B G0 G W H σ en Q hh hs hw=>m B G0 G W H σ en _ hh hs (DE.go hw fun x G1 H1 v s1 e1 h1=>?_)⟩
 exact yD (ng:=false) s1.gh e1.cc h1
theorem aOz{j pos'}(ha:DE X E a fa):DT X E (.Compare a [.Is] [.Constant .none j pos'] pos) (bV (mUn (yJ false) fa)):=by
 obtain ⟨t,p,m⟩:=ha.out
 refine DT.in ⟨_,aDk (aOa p),fun B G0 G W H σ en Q hh hs hw=>?_⟩
 have k:=(aT2 (pos:=pos) (j:=j) (pos':=pos') ha)
 refine nE (t:=aYp t) (fa:=mUn (yJ false) fa) (E:=E) (X:=X) (fun B G0 G W H σ en Q hh hs hw=>m B G0 G W H σ en _ hh hs (DE.go hw fun x G1 H1 v s1 e1 h1=>yD (ng:=false) s1.gh e1.cc h1)) B G0 G W H σ en Q hh hs hw
theorem aHy{j pos'}(ha:DE X E a fa):DT X E (.Compare a [.IsNot] [.Constant .none j pos'] pos) (bV (mUn (yJ true) fa)):=by
 obtain ⟨t,p,m⟩:=ha.out
 refine DT.in ⟨_,aDk (aPr p),fun B G0 G W H σ en Q hh hs hw=>?_⟩
 refine nE (t:=aSu t) (fa:=mUn (yJ true) fa) (E:=E) (X:=X) (fun B G0 G W H σ en Q hh hs hw=>m B G0 G W H σ en _ hh hs (DE.go hw fun x G1 H1 v s1 e1 h1=>yD (ng:=true) s1.gh e1.cc h1)) B G0 G W H σ en Q hh hs hw
def qF(x:Ev):Res Ev:=match x with
 | .p (.int i)=>.ok (.p (.int (-i)))
 | _=>.bad
theorem mZ(ha:DE X E a fa):DE X E (.UnaryOp .USub a pos) (mUn qF fa):=by
 obtain ⟨t,p,m⟩:=ha.out
 refine DE.in ⟨_,aXt aUz p,fun B G0 G W H σ en Q hh hs hw=>m B G0 G W H σ en _ hh hs (DE.go hw fun x G1 H1 v s1 e1 h1=>?_)⟩
 unfold qF at h1
 split at h1
 ·rename_i i e
  rw [e] at e1
  cases e1
  exact ⟨i,rfl,h1 G1 H1 _ (Step.refl s1.gh) (.int _)⟩
 ·exact h1.elim
def kY:Ev->Option (List D)
 | .p (.list ds)=>some ds
 | .b (.list ds)=>some ds
 | .p (.tuple ds)=>some ds
 | _=>none
def ixE(x y:Ev):Res Ev:=match y with
 | .p (.int i)=>match kY x with
  | some ds=>match atI ds i with
   | some d=>.ok (.p d)
   | none=>.bad
  | none=>.bad
 | _=>.bad
theorem aTj:NoX ixE:=by
 intro x y A h
 unfold ixE at h
 split at h
 ·split at h
  ·split at h<;>cases h
  ·cases h
 ·cases h
theorem aBj{G:Hp}{xs:List V}{ds:List D}{i:Int}{d:D}(r:Reps K G xs ds)(h:atI ds i=some d):∃ x,atI xs i=some x/\Rep K G x d:=by
 unfold atI at h ⊢
 rw [r.length]
 cases e:ixN ds.length i with
 | none=>rw [e] at h;cases h
 | some j =>
  rw [e] at h
  exact r.get' h
def aY1(K:aZz):R2:=fun x y H Q=>aY0 K x y H Q\/aYr K x y H Q
theorem aZt:IxR X (aY1 X.K):=ix_list.or aS9
theorem aWi:OpM K (aY1 K) ixE:=by
 intro W G H v u x y Q gh hx hy hw
 unfold ixE at hw
 split at hw
 ·rename_i i ey
  rw [ey] at hy
  cases hy
  split at hw
  ·rename_i ds ed
   split at hw
   ·rename_i d ea
    cases ex:x.c with
    | p dd =>
     rw [ex] at ed hx
     cases dd with
     | list es =>
      cases ed
      cases hx with
      | @lst a xs _ h1 h2 =>
       obtain ⟨z,h3,h4⟩:=aBj h2 ea
       exact .inl ⟨a,xs,i,z,rfl,rfl,.inl (gL gh h1),h3,hw G H _ (Step.refl gh) h4⟩
     | tuple es =>
      cases ed
      cases hx with
      | @tup a xs _ h1 h2 =>
       obtain ⟨z,h3,h4⟩:=aBj h2 ea
       exact .inr ⟨a,xs,i,z,rfl,rfl,SqT.of (gh _ _ h1),h3,hw G H _ (Step.refl gh) h4⟩
     | _=>cases ed
    | b dd =>
     rw [ex] at ed hx
     cases dd with
     | list es =>
      cases ed
      obtain ⟨a,k,o,rfl,h1,h2,h3⟩:=hx
      cases h3 with
      | @lst xs _ h4 =>
       obtain ⟨z,h5,h6⟩:=aBj h4 ea
       exact .inl ⟨a,xs,i,z,rfl,rfl,.inl (.inl h2),h5,hw G H _ (Step.refl gh) h6⟩
     | _=>cases ed
    | f dd=>rw [ex] at ed;cases ed
    | x C=>rw [ex] at ed;cases ed
   ·exact hw.elim
  ·exact hw.elim
 ·exact hw.elim
theorem aO(ha:DE X E a fa)(hb:DE X E b fb)(hs:aKq b):DE X E (.Subscript a b pos) (aH ixE fa fb):=by
 obtain ⟨ta,pa,ma⟩:=ha.out
 obtain ⟨tb,pb,mb⟩:=hb.out
 exact DE.in ⟨_,aXm aZt pa pb hs,xO ma mb aWi aTj⟩
def jM(rs:List Ev):Res Ev:=match rs with
 | [x]=>match kY x with
  | some ds=>.ok (.p (.int ds.length))
  | none=>.bad
 | _=>.bad
theorem i7:aCe jM:=by
 intro rs C h
 unfold jM at h
 split at h
 ·split at h<;>cases h
 ·cases h
theorem l8:oB K (fun xs H Q=>∃ p ys,xs=[.ref p]/\(SqL K H p ys\/SqT K H p ys)/\Q (.int ys.length) H) jM:=by
 intro W Hs G H vs rs Q gh he hw
 unfold jM at hw
 split at hw
 ·rename_i x
  match vs,he with
  | [v],⟨h1,_⟩ =>
   split at hw
   ·rename_i ds ed
    cases x with
    | p dd =>
     cases dd with
     | list es =>
      cases ed
      cases h1 with
      | @lst a xs _ k1 k2=>exact ⟨a,xs,rfl,.inl (.inl (gL gh k1)),by rw [k2.length];exact hw G H _ (Step.refl gh) (.int _)⟩
     | tuple es =>
      cases ed
      cases h1 with
      | @tup a xs _ k1 k2=>exact ⟨a,xs,rfl,.inr (SqT.of (gh _ _ k1)),by rw [k2.length];exact hw G H _ (Step.refl gh) (.int _)⟩
     | _=>cases ed
    | b dd =>
     cases dd with
     | list es =>
      cases ed
      obtain ⟨a,k,o,rfl,k1,k2,k3⟩:=h1
      cases k3 with
      | @lst xs _ k4=>exact ⟨a,xs,rfl,.inl (.inl (.inl k2)),by rw [k4.length];exact hw G H _ (Step.refl gh) (.int _)⟩
     | _=>cases ed
    | f dd=>cases ed
    | x C=>cases ed
   ·exact hw.elim
 ·exact hw.elim
def aHf(rs:List Ev):Res Ev:=match rs with
 | [.p (.int i)]=>.ok (.p (.int (if i < 0 then -i else i)))
 | _=>.bad
theorem sH:aCe aHf:=by
 intro rs C h
 unfold aHf at h
 split at h<;>cases h
theorem aAt:oB K (fun xs H Q=>∃ i,xs=[.int i]/\Q (.int (if i < 0 then -i else i)) H) aHf:=by
 intro W Hs G H vs rs Q gh he hw
 unfold aHf at hw
 split at hw
 ·rename_i i
  match vs,he with
  | [v],⟨h1,_⟩=>cases h1;exact ⟨i,rfl,hw G H _ (Step.refl gh) (.int _)⟩
 ·exact hw.elim
def aP8(f:Int->Int->Int)(rs:List Ev):Res Ev:=match rs with
 | [.p (.int i),.p (.int j)]=>.ok (.p (.int (f i j)))
 | _=>.bad
theorem aRu{f:Int->Int->Int}:aCe (aP8 f):=by
 intro rs C h
 unfold aP8 at h
 split at h<;>cases h
theorem aVm{f:Int->Int->Int}:oB K (fun xs H Q=>∃ i j,xs=[.int i,.int j]/\Q (.int (f i j)) H) (aP8 f):=by
 intro W Hs G H vs rs Q gh he hw
 unfold aP8 at hw
 split at hw
 ·rename_i i j
  match vs,he with
  | [v,u],⟨h1,h2,_⟩=>cases h1;cases h2;exact ⟨i,j,rfl,hw G H _ (Step.refl gh) (.int _)⟩
 ·exact hw.elim
def aCv:List D->Option (List Bool)
 | []=>some []
 | .bool b :: ds=>match aCv ds with
  | some bs=>some (b :: bs)
  | none=>none
 | _=>none
theorem aC9{G:Hp}:∀ {ds:List D} {bs:List Bool} {xs:List V},aCv ds=some bs->Reps K G xs ds->xs=bs.map V.bl
 | [],_,_,h,.nil=>by cases h;rfl
 | d :: ds,bs,_,h,.cons r t=>by
  cases d with
  | bool b =>
   unfold aCv at h
   cases e:aCv ds with
   | none=>rw [e] at h;cases h
   | some bs' =>
    rw [e] at h
    cases h
    cases r
    rw [aC9 e t]
    rfl
  | _=>cases h
def aNu(rs:List Ev):Res Ev:=match rs with
 | [x]=>match g9 x with
  | some ds=>match aCv ds with
   | some bs=>.ok (.p (.bool (bs.any id)))
   | none=>.bad
  | none=>.bad
 | _=>.bad
theorem aQw:aCe aNu:=by
 intro rs C h
 unfold aNu at h
 split at h
 ·split at h
  ·split at h<;>cases h
  ·cases h
 ·cases h
theorem aUk:oB K (aYl K) aNu:=by
 intro W Hs G H vs rs Q gh he hw
 unfold aNu at hw
 split at hw
 ·rename_i x
  match vs,he with
  | [v],⟨h1,_⟩ =>
   split at hw
   ·rename_i ds ed
    obtain ⟨a,xs,rfl,k1,k2⟩:=n5 gh h1 ed
    split at hw
    ·rename_i bs eb
     have:=aC9 eb k2
     subst this
     exact ⟨a,bs,rfl,.inl k1,hw G H _ (Step.refl gh) (.bl _)⟩
    ·exact hw.elim
   ·exact hw.elim
 ·exact hw.elim
def listE(rs:List Ev):Res Ev:=match rs with
 | [x]=>match kY x with
  | some ds=>.ok (.f (.list ds))
  | none=>.bad
 | _=>.bad
theorem aDs:aCe listE:=by
 intro rs C h
 unfold listE at h
 split at h
 ·split at h<;>cases h
 ·cases h
theorem aIg:oB K (fun xs H Q=>∃ p ys,xs=[.ref p]/\(SqL K H p ys\/SqT K H p ys)/\∀ l,H l=none->Q (.ref l) (upd H l (.lst ys))) listE:=by
 intro W Hs G H vs rs Q gh he hw
 unfold listE at hw
 split at hw
 ·rename_i x
  match vs,he with
  | [v],⟨h1,_⟩ =>
   split at hw
   ·rename_i ds ed
    have fin:∀ {xs:List V},Reps K G xs ds->∀ l,H l=none->Q (.ref l) (upd H l (.lst xs)):=fun r l hl =>
     hw _ _ _ (Step.lay gh hl) ⟨l,_,rfl,hl,gh.free hl,b7,.lst r⟩
    cases x with
    | p dd =>
     cases dd with
     | list es =>
      cases ed
      cases h1 with
      | @lst a xs _ k1 k2=>exact ⟨a,xs,rfl,.inl (.inl (gL gh k1)),fin k2⟩
     | tuple es =>
      cases ed
      cases h1 with
      | @tup a xs _ k1 k2=>exact ⟨a,xs,rfl,.inr (SqT.of (gh _ _ k1)),fin k2⟩
     | _=>cases ed
    | b dd =>
     cases dd with
     | list es =>
      cases ed
      obtain ⟨a,k,o,rfl,k1,k2,k3⟩:=h1
      cases k3 with
      | @lst xs _ k4=>exact ⟨a,xs,rfl,.inl (.inl (.inl k2)),fin k4⟩
     | _=>cases ed
    | f dd=>cases ed
    | x C=>cases ed
   ·exact hw.elim
 ·exact hw.elim
end
section
variable {P:Program}{w:World}{K:aZz}{mg:Str->Option Value}{base:Heap}
structure Def(K:aZz)(mg:Str->Option Value)(x:Str)(ps:List Str)(st:Stmt):Prop where
 ex:∃ f fd,Fun K x x st f fd/\Binds K fd ps []/\PySem.W.keepIn K (.ref f)=true/\mg x=some (.ref f)
structure Cal(P:Program)(w:World)(K:aZz)(mg:Str->Option Value)(base:Heap)(k:Nat)(x:Str)(n:Nat)(m:List L->Res L):Prop where
 ex:∃ f fd ps,FnOk P w K mg base (CXr P w) k f fd ps (spM K n m)/\Binds K fd ps []/\PySem.W.keepIn K (.ref f)=true/\mg x=some (.ref f)
theorem iC{x:Str}{st:Stmt}{N ps:List Str}{k n:Nat}{m:List L->Res L}(Df:Def K mg x ps st)(S:aY N ps (aR st))(hn:n=ps.length)
  (hbody:∀ (f:Addr) (cdv:Value) (A:Around) (outer:List Env) (s:Shared) (H:Hp) (E:XK),Room k (A.deeper (envOfC x (aR st) s.heap.objs.size f cdv)) ->
   ∃ fm,DSs (xJ (CXr P w) P w K mg base N x (aR st) f cdv A outer s H E) (fun _=>E) (jW st) fm/\∀ ls,m ls=.bad\/eK N.length fm ls=m ls):Cal P w K mg base (k+1) x n m:=by
 obtain ⟨f,fd,F,b,kp,h⟩:=Df.ex
 exact ⟨f,fd,ps,fnM F S hn fun cdv A outer s H E hr=>hbody f cdv A outer s H E hr,b,kp,h⟩
end
section
variable {X:Cx}{E:L2.St->XK}{k j:Nat}{x:Str}{p pos:Pos}{e:Expr}{es:List Expr}{fr:En->Res (List Ev)}{n:Nat}{m:List L->Res L}
theorem aF(c:Cal X.prog X.w X.K X.mg X.base j x n m)(hr:Room k X.A)(hx:sL (CXr X.prog X.w) X E)(ha:DA X E (e :: es) fr)(hg:Gl X x:=by rfl)(hjk:j<=k:=by decide)(hdb:(x == ("__debug__" : Str))=false:=by decide)
  (he:starEach (e :: es) X.env=(false,eval e X.env) :: starEach es X.env:=by rfl) (hpl:(backTo pos (starEach es X.env)).any (·.1)=false:=by rfl) :
  DE X E (.Call (.Name x p) (e :: es) [] pos) (aN n m fr):=by
 obtain ⟨f,fd,ps,F,b,kp,h⟩:=c.ex
 exact aP4 (F.mono hjk) hr hg h kp b hx ha hdb he hpl
theorem dv(i:Nat)(hN:X.N[i]? = some x:=by rfl)(hv:Vis X.env.scope x:=by first | exact Or.inl rfl | exact Or.inr (Or.inl rfl) | exact Or.inr (Or.inr rfl))(hd:(x == ("__debug__" : Str))=false:=by decide)(hcd:(x == ("__classdict__" : Str))=false:=by decide) :
  DE X E (.Name x pos) (aD i):=aT8 hN hv hd hcd
theorem u64{A:Around}(hr:Room k A):A.units+64 < cLine:=by have:=hr.un;omega
theorem u1{A:Around}(hr:Room k A):A.units+1 < cLine:=by have:=hr.un;omega
theorem aZ{scope:Scope}{cl:List (Str×Addr)}:vA X scope cl [] []:=⟨rfl,fun i y j h _=>by simp at h⟩
theorem aX{scope:Scope}{cl:List (Str×Addr)}{y:Str}{ys:List Str}{j:Nat}{js:List Nat}(h:X.N[j]? = some y/\(X.env.kindOf y=some .cell\/X.env.kindOf y=some .free)/\((relabel scope X.env).names.lookup y=some .cell\/(relabel scope X.env).names.lookup y=some .free)/\(X.env.cells.lookup y).isSome=true/\cl.lookup y=X.env.cells.lookup y)
  (t:vA X scope cl ys js):vA X scope cl (y :: ys) (j :: js) :=
 ⟨by rw [aZ2,aZ2,t.len],fun i z q e1 e2=>by
  cases i with
  | zero=>simp at e1 e2;subst e1 e2;exact h
  | succ i=>exact t.at_ i z q (by simpa using e1) (by simpa using e2)⟩
theorem gM{scope:Scope}{cl:List (Str×Addr)}{ys:List Str}{js:List Nat}(clos:closureFor scope X.env=pure cl)(sub:∀ q∈cl,X.env.cells.lookup q.1=some q.2)(cap:vA X scope cl ys js)(hcell:∀ y∈scope.names,y.2≠.cell)(hfree:∀ q∈scope.names,q.2=.free->q.1∈ys):aP5 X scope cl:=by
 refine ⟨clos,fun y c h=>sub _ (bBx h),fun y hy=>?_⟩
 have hm:y∈ys:=by
  rcases hy with hy | hy
  ·have m:=bBx hy
   obtain ⟨⟨n0,k0⟩,m0,e0⟩:=bAa.mp m
   dsimp only at e0
   split at e0
   ·rename_i z
    injection e0 with e1 e2
    subst e1
    have:k0=.free:=by
     cases k0<;>simp at z ⊢
    exact hfree _ m0 this
   ·injection e0 with e1 e2
    exact absurd e2 (hcell _ m0)
  ·have m:=bBx hy
   obtain ⟨⟨n0,k0⟩,m0,e0⟩:=bAa.mp m
   dsimp only at e0
   split at e0
   ·injection e0 with e1 e2
    cases e2
   ·injection e0 with e1 e2
    subst e1
    exact hfree _ m0 e2
 obtain ⟨i,hi,e⟩:=bEg.mp hm
 have hj:i < js.length:=by rw [<- cap.len];exact hi
 obtain ⟨_,_,_,h4,h5⟩:=cap.at_ i y js[i] (by rw [aZ5 hi,e]) (aZ5 hj)
 rw [h5]
 exact bBp.mp h4
theorem pJ{K:aZz}{B G0 G H:Hp}{W:Addr->Option Nat}{σ:L2.St}{en:En}{i:Nat}{a:Addr}{o':HO}{d':D}(hh:SimH B G0 G W H)(hs:SimS K W G H σ en)(hW:W a=some i)(hv:σ[i]? = some (some (.ref a)))(hc:Cont K G o' d') :
  SimH B G0 G W (upd H a o')/\SimS K W G (upd H a o') σ (en.set i (some (.o d'))):=by
 obtain ⟨g1,g2,g3⟩:=hh.wf a i hW
 refine ⟨⟨fun b o e=>?_,fun b o e=>?_,hh.g0,hh.gb,fun b j e=>?_⟩,by rw [bDs];exact hs.1,fun j l e=>?_⟩
 ·rw [bK (dS e g1)];exact hh.gh b o e
 ·rw [bK (dS e g2)];exact hh.bh b o e
 ·obtain ⟨k1,k2,o,k3,k4⟩:=hh.wf b j e
  refine ⟨k1,k2,?_⟩
  by_cases z:b=a
  ·rw [z,b7];exact ⟨_,rfl,hc.mut⟩
  ·rw [bK z];exact ⟨o,k3,k4⟩
 ·rw [bD4] at e
  by_cases hj:i=j
  ·subst hj
   rw [bAc rfl] at e
   split at e
   ·cases e
    exact ⟨_,hv,a,o',rfl,hW,b7,hc⟩
   ·cases e
  ·rw [bAg hj] at e
   obtain ⟨v,e1,e2⟩:=hs.2 j l e
   refine ⟨v,e1,?_⟩
   cases l with
   | p d=>exact e2
   | x C=>exact e2
   | h a=>exact e2
   | o d =>
    obtain ⟨b,ob,h1,h2,h3,h4⟩:=e2
    refine ⟨b,ob,h1,h2,?_,h4⟩
    rw [bK (fun z=>by rw [z,hW] at h2;exact hj (bAn h2))]
    exact h3
def mO(i:Nat)(fe:En->Res Ev):MS:=fun en=>match en[i]? with
 | some (some (.o (.list ds)))=>match fe en with
  | .ok r=>match r.c with
   | .p d=>if ds.length<=100000 then some (.nx (en.set i (some (.o (.list (ds++[d])))))) else none
   | _=>none
  | .exc C=>some (.ex C en)
  | .bad=>none
 | _=>none
theorem aAn{i:Nat}{fe:En->Res Ev}{st:Stmt}(he:DE X E e fe)(hp:∀ t,PE X e t->PS X st (aIb (tBM X.K "list" aI9 (aRt i) (aRx t aXq)))):DS X E st (mO i fe):=by
 obtain ⟨t,q,mm⟩:=he.out
 refine DS.in ⟨_,hp t q,fun B G0 G W H σ en Dn hh hs hw=>?_⟩
 unfold mO at hw
 split at hw
 ·rename_i ds ei
  obtain ⟨v,e1,a,o,rfl,e2,e3,e4⟩:=hs.2 i _ ei
  cases e4 with
  | @lst xs _ rp =>
  refine ⟨_,e1,.inl ⟨rfl,_,SqL.of e3⟩,mm B G0 G W H σ en _ hh hs ?_⟩
  cases ef:fe en with
  | bad=>rw [ef] at hw;exact hw
  | exc C=>rw [ef] at hw;exact fun G1 H1 s=>hw G1 W H1 σ (hh.step s) (hs.step s)
  | ok r =>
   rw [ef] at hw
   intro G1 H1 y s ey
   obtain ⟨G2,s2,ey2⟩:=ey.c s
   dsimp only at hw
   cases er:r.c with
   | p d =>
    rw [er] at hw ey2
    dsimp only at hw
    split at hw
    ·rename_i hl
     have hx:=s2.h _ _ e3
     refine ⟨a,xs,y,rfl,rfl,hx,bC1 (by rw [rp.length];exact hl) (by decide),?_⟩
     obtain ⟨w1,w2⟩:=pJ (o':=.lst (xs++[y])) (d':=.list (ds++[d])) (hh.step s2) (hs.step s2) e2 e1 (.lst ((rp.mono s2.g).append (.cons ey2 .nil)))
     exact hw _ _ _ _ w1 w2
    ·exact hw.elim
   | f d=>rw [er] at hw;exact hw.elim
   | b d=>rw [er] at hw;exact hw.elim
   | x C=>rw [er] at hw;exact hw.elim
 ·exact hw.elim
end
section
variable {X:Cx}{K:aZz}{E:L2.St->XK}{a b:Expr}{fa fb:En->Res Ev}{pos:Pos}
def aKv:D->Option Key
 | .int i=>some (.inl i)
 | .str x=>some (.inr x)
 | _=>none
def aBy:List D->Option (List Key)
 | []=>some []
 | d :: ds=>match aKv d with
  | none=>none
  | some k=>match aBy ds with
   | none=>none
   | some ks=>some (k :: ks)
def aSd:D->Option (List Key)
 | .tuple ds=>aBy ds
 | _=>none
theorem wG{d:D}{k:Key}(h:aKv d=some k):d=kD k:=by
 cases d<;>first | (cases h;rfl) | cases h
theorem aCl(k:Key):aKv (kD k)=some k:=by cases k<;>rfl
theorem aCy:∀ {ds:List D} {ks:List Key},aBy ds=some ks->ds=ks.map kD
 | [],_,h=>by cases h;rfl
 | d :: ds,ks,h=>by
  unfold aBy at h
  cases e:aKv d with
  | none=>rw [e] at h;cases h
  | some k =>
   rw [e] at h
   cases e2:aBy ds with
   | none=>rw [e2] at h;cases h
   | some ks' =>
    rw [e2] at h
    cases h
    rw [wG e,aCy e2]
    rfl
theorem aDw:∀ ks:List Key,aBy (ks.map kD)=some ks
 | []=>rfl
 | k :: ks=>by
  show (match aKv (kD k) with | none=>none | some k=>match aBy (ks.map kD) with | none=>none | some ks=>some (k :: ks))=_
  rw [aCl,aDw ks]
theorem aB8{d:D}{ks:List Key}(h:aSd d=some ks):d=tkD ks:=by
 cases d with
 | tuple ds=>unfold tkD;rw [<- aCy h]
 | _=>cases h
theorem aC5(ks:List Key):aSd (tkD ks)=some ks:=aDw ks
theorem aJb{k k':List Key}(h:tkD k=tkD k'):k=k':=by
 have:=aC5 k
 rw [h,aC5] at this
 exact (bAn this).symm
theorem aOs{k k':Key}(h:kD k=kD k'):k=k':=by
 have:=aCl k
 rw [h,aCl] at this
 exact (bAn this).symm
theorem aHt{G:Hp}:∀ {ks:List Key} {xs:List V},Reps K G xs (ks.map kD)->xs=ks.map kV
 | [],_,.nil=>rfl
 | k :: ks,_,.cons r t=>by
  rw [aHt t]
  cases k with
  | inl i=>cases r;rfl
  | inr x=>cases r;rfl
theorem aN3{G:Hp}{v:V}{d:D}{ks:List Key}(h:Rep K G v d)(e:aSd d=some ks):∃ b,v=.ref b/\G b=some (.tup (ks.map kV)):=by
 have:=aB8 e
 subst this
 cases h with
 | @tup b xs _ h1 h2 =>
  rw [aHt h2] at h1
  exact ⟨b,rfl,h1⟩
theorem aG0{G:Hp}{v:V}{d:D}{k:Key}(h:Rep K G v d)(e:aKv d=some k):v=kV k:=by
 have:=wG e
 subst this
 cases k with
 | inl i=>cases h;rfl
 | inr x=>cases h;rfl
open Classical in
noncomputable def aBx:List (D×D)->D->Option D
 | [],_=>none
 | p :: r,k=>if p.1=k then some p.2 else aBx r k
open Classical in
noncomputable def aOo(k v:D):List (D×D)->List (D×D)
 | []=>[]
 | p :: r=>(if p.1=k then (p.1,v) else p) :: aOo k v r
open Classical in
noncomputable def aHx(kvs:List (D×D))(k v:D):List (D×D):=if (aBx kvs k).isSome=true then aOo k v kvs else kvs++[(k,v)]
theorem aXy{G:Hp}(ks:List Key):∀ {kv:List (List Key×V)} {kvs:List (D×D)},RepT K G kv kvs->(aBx kvs (tkD ks)=none/\yI kv ks=none)\/∃ d v,aBx kvs (tkD ks)=some d/\yI kv ks=some v/\Rep K G v d
 | _,_,.nil=>.inl ⟨rfl,rfl⟩
 | _,_,.cons (k:=k) (x:=x) (d:=d) r t=>by
  by_cases e:k=ks
  ·subst e
   refine .inr ⟨d,x,?_,pB (p:=(k,x)) rfl,r⟩
   unfold aBx
   rw [bAc rfl]
  ·have e2:tkD k≠tkD ks:=fun z=>e (aJb z)
   unfold aBx
   rw [bAg e2,oY (p:=(k,x)) e]
   exact aXy ks t
theorem aXn{G:Hp}(ks:Key):∀ {kv:List (Key×V)} {kvs:List (D×D)},RepK K G kv kvs->(aBx kvs (kD ks)=none/\yI kv ks=none)\/∃ d v,aBx kvs (kD ks)=some d/\yI kv ks=some v/\Rep K G v d
 | _,_,.nil=>.inl ⟨rfl,rfl⟩
 | _,_,.cons (k:=k) (x:=x) (d:=d) r t=>by
  by_cases e:k=ks
  ·subst e
   refine .inr ⟨d,x,?_,pB (p:=(k,x)) rfl,r⟩
   unfold aBx
   rw [bAc rfl]
  ·have e2:kD k≠kD ks:=fun z=>e (aOs z)
   unfold aBx
   rw [bAg e2,oY (p:=(k,x)) e]
   exact aXn ks t
theorem aX3{G:Hp}{ks:List Key}{v:V}{d:D}(h:Rep K G v d):∀ {kv:List (List Key×V)} {kvs:List (D×D)},RepT K G kv kvs->RepT K G (kv.map fun p=>if p.1=ks then (p.1,v) else p) (aOo (tkD ks) d kvs)
 | _,_,.nil=>.nil
 | _,_,.cons (k:=k) (x:=x) (d:=d0) r t=>by
  unfold aOo
  rw [bAb]
  by_cases e:k=ks
  ·subst e
   rw [bAc rfl,bAc rfl]
   exact .cons h (aX3 h t)
  ·have e2:tkD k≠tkD ks:=fun z=>e (aJb z)
   rw [bAg e,bAg e2]
   exact .cons r (aX3 h t)
theorem aX9{G:Hp}{ks:Key}{v:V}{d:D}(h:Rep K G v d):∀ {kv:List (Key×V)} {kvs:List (D×D)},RepK K G kv kvs->RepK K G (kv.map fun p=>if p.1=ks then (p.1,v) else p) (aOo (kD ks) d kvs)
 | _,_,.nil=>.nil
 | _,_,.cons (k:=k) (x:=x) (d:=d0) r t=>by
  unfold aOo
  rw [bAb]
  by_cases e:k=ks
  ·subst e
   rw [bAc rfl,bAc rfl]
   exact .cons h (aX9 h t)
  ·have e2:kD k≠kD ks:=fun z=>e (aOs z)
   rw [bAg e,bAg e2]
   exact .cons r (aX9 h t)
theorem RepT.app{G:Hp}:∀ {kv kv':List (List Key×V)} {kvs kvs':List (D×D)},RepT K G kv kvs->RepT K G kv' kvs'->RepT K G (kv++kv') (kvs++kvs')
 | _,_,_,_,.nil,r=>r
 | _,_,_,_,.cons h t,r=>.cons h (RepT.app t r)
theorem RepK.app{G:Hp}:∀ {kv kv':List (Key×V)} {kvs kvs':List (D×D)},RepK K G kv kvs->RepK K G kv' kvs'->RepK K G (kv++kv') (kvs++kvs')
 | _,_,_,_,.nil,r=>r
 | _,_,_,_,.cons h t,r=>.cons h (RepK.app t r)
theorem RepT.len{G:Hp}:∀ {kv:List (List Key×V)} {kvs:List (D×D)},RepT K G kv kvs->kv.length=kvs.length
 | _,_,.nil=>rfl
 | _,_,.cons _ r=>by rw [aZ2,aZ2,RepT.len r]
theorem RepK.len{G:Hp}:∀ {kv:List (Key×V)} {kvs:List (D×D)},RepK K G kv kvs->kv.length=kvs.length
 | _,_,.nil=>rfl
 | _,_,.cons _ r=>by rw [aZ2,aZ2,RepK.len r]
theorem aY2{G:Hp}{ks:List Key}{v:V}{d:D}(h:Rep K G v d){kv:List (List Key×V)}{kvs:List (D×D)}(r:RepT K G kv kvs):RepT K G (putK kv ks v) (aHx kvs (tkD ks) d):=by
 unfold putK aHx
 rw [rY]
 rcases aXy ks r with ⟨e1,e2⟩ | ⟨d0,v0,e1,e2,_⟩
 ·rw [e1,e2,bAg (by simp),bAg (by simp)]
  exact r.app (.cons h .nil)
 ·rw [e1,e2,bAc (show (some v0).isSome=true from rfl),bAc (show (some d0).isSome=true from rfl)]
  exact aX3 h r
theorem aWj{G:Hp}{ks:Key}{v:V}{d:D}(h:Rep K G v d){kv:List (Key×V)}{kvs:List (D×D)}(r:RepK K G kv kvs):RepK K G (putK kv ks v) (aHx kvs (kD ks) d):=by
 unfold putK aHx
 rw [rY]
 rcases aXn ks r with ⟨e1,e2⟩ | ⟨d0,v0,e1,e2,_⟩
 ·rw [e1,e2,bAg (by simp),bAg (by simp)]
  exact r.app (.cons h .nil)
 ·rw [e1,e2,bAc (show (some v0).isSome=true from rfl),bAc (show (some d0).isSome=true from rfl)]
  exact aX9 h r
def dsp(kvs:List (D×D)):Bool×List (D×D):=match kvs with
 | (.none,.none) :: r=>(true,r)
 | r=>(false,r)
theorem aV0{G:Hp}{kv:List (List Key×V)}{kvs:List (D×D)}(r:RepT K G kv kvs):dsp kvs=(false,kvs):=by
 cases r with
 | nil=>rfl
 | cons _ _=>rfl
def rF:Ev->Option (List (D×D))
 | .p (.dict kvs)=>some kvs
 | .b (.dict kvs)=>some kvs
 | _=>none
noncomputable def zD(kvs:List (D×D))(k:D):Option (Option D):=match dsp kvs with
 | (true,r)=>if (aKv k).isSome=true then some (aBx r k) else none
 | (false,r)=>if (aSd k).isSome=true then some (aBx r k) else none
theorem aIu{W:Addr->Option Nat}{Hs G H:Hp}{v:V}{r:Ev}{kvs:List (D×D)}(gh:Same G H)(h:EOk K W Hs G H v r)(e:rF r=some kvs) :
  ∃ a,v=.ref a/\((∃ kv,H a=some (.dT kv)/\RepT K G kv kvs)\/∃ kv r,kvs=(.none,.none) :: r/\H a=some (.dK kv)/\RepK K G kv r):=by
 cases r with
 | p d =>
  cases d with
  | dict es =>
   cases e
   cases h with
   | @dT a kv _ h1 h2=>exact ⟨a,rfl,.inl ⟨kv,gh _ _ h1,h2⟩⟩
   | @dK a kv r h1 h2=>exact ⟨a,rfl,.inr ⟨kv,r,rfl,gh _ _ h1,h2⟩⟩
  | _=>cases e
 | b d =>
  cases d with
  | dict es =>
   cases e
   obtain ⟨a,i,o,rfl,h1,h2,h3⟩:=h
   cases h3 with
   | @dT kv _ h4=>exact ⟨a,rfl,.inl ⟨kv,h2,h4⟩⟩
   | @dK kv r h4=>exact ⟨a,rfl,.inr ⟨kv,r,rfl,h2,h4⟩⟩
  | _=>cases e
 | f d=>cases e
 | x C=>cases e
def aWv(K:aZz)(G:Hp):Option D->Option V->Prop
 | none,w=>w=none
 | some d,w=>∃ x,w=some x/\Rep K G x d
theorem aGg{W:Addr->Option Nat}{Hs Hs' G H:Hp}{v u:V}{r:Ev}{k:D}{kvs:List (D×D)}{o:Option D}(gh:Same G H)(h:EOk K W Hs G H v r)(e:rF r=some kvs)(hk:Rep K G u k)(el:zD kvs k=some o) :
  ∃ a w,v=.ref a/\DGet H a u w/\aWv K G o w:=by
 obtain ⟨a,rfl,hh⟩:=aIu gh h e
 rcases hh with ⟨kv,h1,h2⟩ | ⟨kv,r,rfl,h1,h2⟩
 ·unfold zD at el
  rw [aV0 h2] at el
  dsimp only at el
  split at el
  ·rename_i z
   obtain ⟨ks,ek⟩:=bBp.mp z
   obtain ⟨b,rfl,hb⟩:=aN3 hk ek
   have:=aB8 ek
   subst this
   cases el
   refine ⟨a,yI kv ks,rfl,.t h1 (gh _ _ hb),?_⟩
   rcases aXy ks h2 with ⟨e1,e2⟩ | ⟨d0,v0,e1,e2,e3⟩
   ·rw [e1,e2];exact rfl
   ·rw [e1,e2];exact ⟨v0,rfl,e3⟩
  ·cases el
 ·unfold zD at el
  dsimp only [dsp] at el
  split at el
  ·rename_i z
   obtain ⟨ks,ek⟩:=bBp.mp z
   have hb:=aG0 hk ek
   subst hb
   have:=wG ek
   subst this
   cases el
   refine ⟨a,yI kv ks,rfl,.k h1,?_⟩
   rcases aXn ks h2 with ⟨e1,e2⟩ | ⟨d0,v0,e1,e2,e3⟩
   ·rw [e1,e2];exact rfl
   ·rw [e1,e2];exact ⟨v0,rfl,e3⟩
  ·cases el
noncomputable def j9(x y:Ev):Res Ev:=match y with
 | .p k=>match rF x with
  | some kvs=>match zD kvs k with
   | some (some d)=>.ok (.p d)
   | _=>.bad
  | none=>.bad
 | _=>.bad
noncomputable def w9(ng:Bool)(y x:Ev):Res Ev:=match y with
 | .p k=>match rF x with
  | some kvs=>match zD kvs k with
   | some o=>.ok (.p (.bool (if ng then !o.isSome else o.isSome)))
   | none=>.bad
  | none=>.bad
 | _=>.bad
theorem oF(hu:X.A.units+1 < cLine)(ha:DE X E a fa)(hb:DE X E b fb)(hs:aXf b):DE X E (.Subscript a b pos) (aH j9 fa fb):=by
 obtain ⟨ta,pa,ma⟩:=ha.out
 obtain ⟨tb,pb,mb⟩:=hb.out
 refine DE.in ⟨_,aPk hu pa pb hs,fun B G0 G W H σ en Q hh hs hw=>ma B G0 G W H σ en _ hh hs (DE.go hw fun x G1 H1 v s1 e1 h1=>?_)⟩
 refine mb B G0 G1 W H1 σ en _ (hh.step s1) (hs.step s1) (DE.go h1 fun y G2 H2 u s2 e2 h2=>?_)
 unfold j9 at h2
 split at h2
 ·rename_i k ey
  rw [ey] at e2
  split at h2
  ·rename_i kvs ed
   split at h2
   ·rename_i d el
    obtain ⟨a,w,rfl,hg,x,rfl,hx⟩:=aGg (Hs':=H1) s2.gh (e1.step (Hs':=H1) s2) ed e2 el
    exact ⟨a,x,rfl,hg,h2 G2 H2 _ (Step.refl s2.gh) hx⟩
   ·exact h2.elim
  ·exact h2.elim
 ·exact h2.elim
theorem aDl{ta tb:TE}{ng:Bool}(ma:∀ B G0 G W H σ en Q,SimH B G0 G W H->SimS X.K W G H σ en->wpR (fa en) (PostE X.K W G H Q) (PostX (E σ) G H)->ta σ H Q)
  (mb:∀ B G0 G W H σ en Q,SimH B G0 G W H->SimS X.K W G H σ en->wpR (fb en) (PostE X.K W G H Q) (PostX (E σ) G H)->tb σ H Q) :
  ∀ B G0 G W H σ en Q,SimH B G0 G W H->SimS X.K W G H σ en->wpR (aH (w9 ng) fa fb en) (PostE X.K W G H Q) (PostX (E σ) G H) ->
   ta σ H fun y H1=>tb σ H1 fun x H2=>∃ a o,x=.ref a/\DGet H2 a y o/\Q (.bl (if ng then !o.isSome else o.isSome)) H2:=by
 intro B G0 G W H σ en Q hh hs hw
 refine ma B G0 G W H σ en _ hh hs (DE.go hw fun y G1 H1 u s1 e1 h1=>?_)
 refine mb B G0 G1 W H1 σ en _ (hh.step s1) (hs.step s1) (DE.go h1 fun x G2 H2 v s2 e2 h2=>?_)
 have e1':=e1.step (Hs':=H1) s2
 unfold w9 at h2
 split at h2
 ·rename_i k ey
  rw [ey] at e1'
  split at h2
  ·rename_i kvs ed
   split at h2
   ·rename_i o el
    obtain ⟨a,w,rfl,hg,hx⟩:=aGg (Hs':=H1) s2.gh e2 ed e1' el
    refine ⟨a,w,rfl,hg,?_⟩
    have z:=h2 G2 H2 _ (Step.refl s2.gh) (.bl _)
    cases o with
    | none=>rw [show w=none from hx];exact z
    | some d=>obtain ⟨x',rfl,_⟩:=hx;exact z
   ·exact h2.elim
  ·exact h2.elim
 ·exact h2.elim
theorem aT1(hu:X.A.units+1 < cLine)(ha:DE X E a fa)(hb:DE X E b fb)(hk:behindInMarks .In b=false:=by with_unfolding_all rfl):DT X E (.Compare a [.In] [b] pos) (bV (aH (w9 false) fa fb)):=by
 obtain ⟨ta,pa,ma⟩:=ha.out
 obtain ⟨tb,pb,mb⟩:=hb.out
 exact DT.in ⟨_,aDk (aUo hu pa pb) hk,nE (t:=aYt ta tb) (aDl (ng:=false) ma mb)⟩
theorem oU(hu:X.A.units+1 < cLine)(ha:DE X E a fa)(hb:DE X E b fb)(hk:behindInMarks .NotIn b=false:=by with_unfolding_all rfl):DT X E (.Compare a [.NotIn] [b] pos) (bV (aH (w9 true) fa fb)):=by
 obtain ⟨ta,pa,ma⟩:=ha.out
 obtain ⟨tb,pb,mb⟩:=hb.out
 exact DT.in ⟨_,aDk (aJ7 hu pa pb) hk,nE (t:=aIc ta tb) (aDl (ng:=true) ma mb)⟩
def mDT:En->Res Ev:=fun _=>.ok (.f (.dict []))
def mDK:En->Res Ev:=fun _=>.ok (.f (.dict [(.none,.none)]))
theorem wU:DE X E (.Dict [] [] pos) mDT :=
 DE.in ⟨_,aMa,fun B G0 G W H σ en Q hh hs hw p hp=>hw _ _ _ (Step.lay hh.gh hp) ⟨p,_,rfl,hp,hh.gh.free hp,b7,.dT .nil⟩⟩
theorem aKy:DE X E (.Dict [] [] pos) mDK :=
 DE.in ⟨_,aM8,fun B G0 G W H σ en Q hh hs hw p hp=>hw _ _ _ (Step.lay hh.gh hp) ⟨p,_,rfl,hp,hh.gh.free hp,b7,.dK .nil⟩⟩
noncomputable def aFc(kvs:List (D×D))(k v:D):Option (List (D×D)):=match dsp kvs with
 | (true,r)=>if (aKv k).isSome=true/\r.length<=100000 then some ((.none,.none) :: aHx r k v) else none
 | (false,r)=>if (aSd k).isSome=true/\r.length<=100000 then some (aHx r k v) else none
noncomputable def qE(i:Nat)(fk fv:En->Res Ev):MS:=fun en=>match en[i]? with
 | some (some (.o (.dict kvs)))=>match fv en with
  | .exc C=>some (.ex C en)
  | .bad=>none
  | .ok rv=>match fk en with
   | .exc C=>some (.ex C en)
   | .bad=>none
   | .ok rk=>match rv.c with
    | .p v=>match rk.c with
     | .p k=>match aFc kvs k v with
      | some kvs'=>some (.nx (en.set i (some (.o (.dict kvs')))))
      | none=>none
     | _=>none
    | _=>none
 | _=>none
theorem wY{i:Nat}{x:Str}{pos' np:Pos}{ek ev:Expr}{fk fv:En->Res Ev}(hu:X.A.units+1 < cLine)(hd:PE X (.Name x np) (aRt i))(hk:DE X E ek fk)(hv:DE X E ev fv)(hs:swapsWith ev (some (.Subscript (.Name x np) ek pos')) pos.line X.env=pure false) :
  DS X E (.Assign [.Subscript (.Name x np) ek pos'] ev pos) (qE i fk fv):=by
 obtain ⟨tk,pk,mk⟩:=hk.out
 obtain ⟨tv,pv',mv⟩:=hv.out
 refine DS.in ⟨_,aQ8 hu hd pk pv' hs,fun B G0 G W H σ en Dn hh hs hw=>mv B G0 G W H σ en _ hh hs ?_⟩
 unfold qE at hw
 split at hw
 ·rename_i kvs ei
  obtain ⟨v0,f1,a,o,rfl,f2,f3,f4⟩:=hs.2 i _ ei
  cases ev':fv en with
  | bad=>rw [ev'] at hw;exact hw
  | exc C=>rw [ev'] at hw;exact fun G1 H1 s=>hw G1 W H1 σ (hh.step s) (hs.step s)
  | ok rv =>
   rw [ev'] at hw
   intro G1 H1 v s1 e1
   obtain ⟨G2,s2,e2⟩:=e1.c s1
   dsimp only at hw
   refine ⟨_,f1,mk B G0 G2 W H1 σ en _ (hh.step s2) (hs.step s2) ?_⟩
   cases ek':fk en with
   | bad=>rw [ek'] at hw;exact hw
   | exc C=>rw [ek'] at hw;exact fun G3 H3 s=>hw G3 W H3 σ ((hh.step s2).step s) ((hs.step s2).step s)
   | ok rk =>
    rw [ek'] at hw
    intro G3 H3 u s3 e3
    obtain ⟨G4,s4,e4⟩:=e3.c s3
    have e2':=e2.step (Hs':=H1) s4
    have s24:=s2.trans s4
    dsimp only at hw
    split at hw
    ·rename_i vd erv
     rw [erv] at e2'
     split at hw
     ·rename_i kd erk
      rw [erk] at e4
      split at hw
      ·rename_i kvs' ep
       have hx:=s24.h _ _ f3
       refine ⟨a,?_⟩
       unfold aFc at ep
       have f5:=f4.mono s24.g
       cases f5 with
       | @dT kv _ rT =>
        rw [aV0 rT] at ep
        dsimp only at ep
        split at ep
        ·rename_i hz
         cases ep
         obtain ⟨ks,ek⟩:=bBp.mp hz.1
         obtain ⟨b,rfl,hb⟩:=aN3 e4 ek
         have:=aB8 ek
         subst this
         obtain ⟨w1,w2⟩:=pJ (o':=.dT (putK kv ks v)) (d':=.dict (aHx kvs (tkD ks) vd)) (hh.step s24) (hs.step s24) f2 f1 (.dT (aY2 e2' rT))
         exact ⟨_,rfl,.t hx (s4.gh _ _ hb) (bC1 (by rw [rT.len];exact hz.2) (by decide)),hw _ _ _ _ w1 w2⟩
        ·cases ep
       | @dK kv r rK =>
        dsimp only [dsp] at ep
        split at ep
        ·rename_i hz
         cases ep
         obtain ⟨ks,ek⟩:=bBp.mp hz.1
         have hb:=aG0 e4 ek
         subst hb
         have:=wG ek
         subst this
         obtain ⟨w1,w2⟩:=pJ (o':=.dK (putK kv ks v)) (d':=.dict ((.none,.none) :: aHx r (kD ks) vd)) (hh.step s24) (hs.step s24) f2 f1 (.dK (aWj e2' rK))
         exact ⟨_,rfl,.k hx (bC1 (by rw [rK.len];exact hz.2) (by decide)),hw _ _ _ _ w1 w2⟩
        ·cases ep
      ·exact hw.elim
     ·exact hw.elim
    ·exact hw.elim
 ·exact hw.elim
def aCd:D->Bool
 | .none=>true
 | .bool _=>true
 | .int _=>true
 | .str _=>true
 | _=>false
theorem aEb{G:Hp}{v:V}{d:D}(h:Rep K G v d)(f:aCd d=true):tK v=true:=by
 cases h<;>first | rfl | exact absurd f bAs
theorem aRw{G:Hp}{v u:V}{d e:D}(h:Rep K G v d)(h2:Rep K G u e)(f:aCd d=true)(f2:aCd e=true):eqV v u=PyData.eqv d e:=by
 cases h<;>cases h2<;>first | rfl | exact absurd f bAs | exact absurd f2 bAs | simp only [eqV,PyData.eqv]
def inE(ng:Bool)(x y:Ev):Res Ev:=match x with
 | .p d=>match kY y with
  | some ds=>if aCd d=true/\ds.all aCd=true then .ok (.p (.bool (if ng then !ds.any (fun e=>PyData.eqv e d) else ds.any fun e=>PyData.eqv e d))) else .bad
  | none=>.bad
 | _=>.bad
theorem aTr{ng:Bool}:NoX (inE ng):=by
 intro x y A h
 unfold inE at h
 split at h
 ·split at h
  ·split at h<;>cases h
  ·cases h
 ·cases h
theorem aGn{G:Hp}{v:V}{d:D}(h:Rep K G v d)(f:aCd d=true):∀ {xs:List V} {ds:List D},Reps K G xs ds->ds.all aCd=true->xs.all tK=true/\inV v xs=ds.any (fun e=>PyData.eqv e d)
 | _,_,.nil,_=>⟨rfl,rfl⟩
 | _,_,.cons r t,hf=>by
  rw [bFn,bCa] at hf
  obtain ⟨i1,i2⟩:=aGn h f t hf.2
  unfold inV at i2 ⊢
  rw [bFn,bC9,bC9,aEb r hf.1,i1,i2,aRw r h hf.1 f]
  exact ⟨rfl,rfl⟩
theorem aSw{K:aZz}(h:X.K=K):OpR X (compareOp .In) (rIn K false):=h▸aGd
theorem aWd{ng:Bool}:OpM K (rIn K ng) (inE ng):=by
 intro W G H v u x y Q gh hx hy hw
 unfold inE at hw
 split at hw
 ·rename_i d ex
  rw [ex] at hx
  split at hw
  ·rename_i ds ed
   split at hw
   ·rename_i hf
    have hx:Rep K G v d:=hx
    have fin:∀ {xs:List V},Reps K G xs ds->xs.all tK=true/\Q (.bl (if ng then !inV v xs else inV v xs)) H:=fun r=>by
     obtain ⟨i1,i2⟩:=aGn hx hf.1 r hf.2
     rw [i2]
     exact ⟨i1,hw G H _ (Step.refl gh) (.bl _)⟩
    cases ey:y.c with
    | p dd =>
     rw [ey] at ed hy
     cases dd with
     | list es =>
      cases ed
      cases hy with
      | @lst a xs _ h1 h2=>exact ⟨a,xs,rfl,.inl (.inl (gL gh h1)),aEb hx hf.1,fin h2⟩
     | tuple es =>
      cases ed
      cases hy with
      | @tup a xs _ h1 h2=>exact ⟨a,xs,rfl,.inr (SqT.of (gh _ _ h1)),aEb hx hf.1,fin h2⟩
     | _=>cases ed
    | b dd =>
     rw [ey] at ed hy
     cases dd with
     | list es =>
      cases ed
      obtain ⟨a,k,o,rfl,h1,h2,h3⟩:=hy
      cases h3 with
      | @lst xs _ h4=>exact ⟨a,xs,rfl,.inl (.inl (.inl h2)),aEb hx hf.1,fin h4⟩
     | _=>cases ed
    | f dd=>rw [ey] at ed;cases ed
    | x C=>rw [ey] at ed;cases ed
   ·exact hw.elim
  ·exact hw.elim
 ·exact hw.elim
end
end M
namespace SRT
open PySem PySem.W PyProof.Rows
structure Ord(lt:Nat->Nat->Bool):Prop where
 as:∀ i j,lt i j=true->lt j i=false
 tr:∀ i j k,lt j i=false->lt k j=false->lt k i=false
section
variable {lt:Nat->Nat->Bool}{n:Nat}{cmp:Nat->Nat->(Bool->Shared->Prop)->Shared->Prop}{s:Shared}
def le(lt:Nat->Nat->Bool)(a b:Nat):Prop:=lt b a=false
theorem Ord.rf(o:Ord lt)(i:Nat):le lt i i:=by
 cases e:lt i i with
 | false=>exact e
 | true=>have:=o.as i i e;rw [e] at this;cases this
theorem Ord.tot(o:Ord lt){i j:Nat}(h:lt i j=true):le lt i j:=o.as i j h
def Pt(p:Array Nat)(i:Nat):Nat:=p.getD i 0
def Sd(lt:Nat->Nat->Bool)(p:Array Nat)(m:Nat):Prop:=∀ i j,i<=j->j < m->le lt (Pt p i) (Pt p j)
def NI(lt:Nat->Nat->Bool)(p:Array Nat)(m:Nat):Prop:=∀ i j,i<=j->j < m->le lt (Pt p j) (Pt p i)
def Pm(n:Nat)(p:Array Nat):Prop:=p.Perm (List.range n).toArray
theorem Pm.size{p:Array Nat}(h:Pm n p):p.size=n:=by
 have:=h.size_eq
 simpa using this
theorem Pm.bd{p:Array Nat}(h:Pm n p)(hn:0 < n)(i:Nat):Pt p i < n:=by
 unfold Pt
 by_cases hi:i < p.size
 ·have e:p.getD i 0=p[i]:=by simp [Array.getD,hi]
  rw [e]
  have:p[i]∈(List.range n).toArray:=h.mem_iff.mp (Array.getElem_mem hi)
  simpa using this
 ·have e:p.getD i 0=0:=by simp [Array.getD,hi]
  rw [e];exact hn
theorem aJg{p q:Array Nat}{i j:Nat}(h:p[i]? = q[j]?):Pt p i=Pt q j:=by
 unfold Pt
 rw [bEn,bEn,h]
theorem zV{p:Array Nat}(h:Pm n p)(i j:Nat):Pm n (kas_rev p i j):=(mirror_perm _ _ _ _).trans h
theorem zF{p:Array Nat}{i j:Nat}(hj:j<=p.size)(k:Nat):Pt (kas_rev p i j) k=if i<=k/\k < j then Pt p (i+j - 1 - k) else Pt p k:=by
 have e:=getElem?_mirror_all (xs:=p) (i:=i) hj k
 split
 ·rename_i h
  rw [bAc h] at e
  exact aJg e
 ·rename_i h
  rw [bAg h] at e
  exact aJg e
variable (hc:∀ i j C,i < n->j < n->C (lt i j) s->cmp i j C s)(hn:0 < n)(o:Ord lt)
include hc hn
theorem aJh{Q:Nat->Shared->Prop}{p:Array Nat}(hp:Pm n p):∀ (f a:Nat),(∀ m,a<=m->m<=a+f->(∀ k,a<=k->k < m->le lt (Pt p (k - 1)) (Pt p k))->(m < a+f->lt (Pt p m) (Pt p (m - 1))=true)->Q m s) ->
  (kas_asc p f a).kasWp cmp Q s
 | 0,a,h=>h a (bAf _) (bAf _) (fun k h1 h2=>absurd h2 (by omega)) (fun h=>absurd h (by omega))
 | f+1,a,h=>by
  refine hc _ _ _ (hp.bd hn _) (hp.bd hn _) ?_
  show KasT.kasWp cmp (if lt (Pt p a) (Pt p (a - 1))=true then .ret a else kas_asc p f (a+1)) Q s
  cases e:lt (Pt p a) (Pt p (a - 1)) with
  | true =>
   rw [bAc rfl]
   exact h a (bAf _) (by omega) (fun k h1 h2=>absurd h2 (by omega)) fun _=>e
  | false =>
   rw [bAg bAs]
   refine aJh hp f (a+1) fun m h1 h2 h3 h4=>h m (by omega) (by omega) (fun k k1 k2=>?_) fun z=>h4 (by omega)
   by_cases ek:k=a
   ·subst ek;exact e
   ·exact h3 k (by omega) k2
include o
omit hc hn in
theorem aU0{p:Array Nat}{a m:Nat}(h1:1<=a)(hs:Sd lt p a)(hk:∀ k,a<=k->k < m->le lt (Pt p (k - 1)) (Pt p k)):Sd lt p m:=by
 intro i j hij hj
 induction j with
 | zero =>
  have:i=0:=by omega
  subst this
  exact o.rf _
 | succ j ih =>
  by_cases e:i=j+1
  ·subst e;exact o.rf _
  ·have ih:=ih (by omega) (by omega)
   by_cases hja:j+1 < a
   ·exact hs i (j+1) hij hja
   ·have:=hk (j+1) (by omega) hj
    exact o.tr _ _ _ ih this
omit hc hn in
theorem aSv{p:Array Nat}{m:Nat}(hm:m<=p.size)(h:NI lt p m):Sd lt (kas_rev p 0 m) m:=by
 intro i j hij hj
 rw [zF hm,zF hm,bAc ⟨bBo _,by omega⟩,bAc ⟨bBo _,hj⟩]
 exact h _ _ (by omega) (by omega)
theorem aHa{Q:Nat×Array Nat->Shared->Prop}{p:Array Nat}{a r:Nat}(hp:Pm n p)(h1:1<=a)(ha:a<=r)(hr:r<=n)(hni:NI lt p a)(h:∀ m q,1<=m->m<=r->Pm n q->Sd lt q m->Q (m,q) s):(kas_tail3 a r p).kasWp cmp Q s:=by
 unfold kas_tail3
 rw [bDt]
 have hz:a<=p.size:=by rw [hp.size];omega
 refine aJh hc hn (zV hp 0 a) _ _ fun m h2 h3 h4 _=>?_
 exact h m _ (by omega) (by omega) (zV hp 0 a) (aU0 o h1 (aSv o hz hni) h4)
omit hc hn in
theorem rev_eq{p:Array Nat}{i j:Nat}(hj:j<=p.size)(he:∀ a b,i<=a->a < j->i<=b->b < j->le lt (Pt p a) (Pt p b))(k:Nat):le lt (Pt (kas_rev p i j) k) (Pt p k)/\le lt (Pt p k) (Pt (kas_rev p i j) k):=by
 rw [zF hj]
 split
 ·rename_i h
  exact ⟨he _ _ (by omega) (by omega) h.1 h.2,he _ _ h.1 h.2 (by omega) (by omega)⟩
 ·exact ⟨o.rf _,o.rf _⟩
omit hc hn in
theorem uI{p:Array Nat}{i j m:Nat}(hj:j<=p.size)(he:∀ a b,i<=a->a < j->i<=b->b < j->le lt (Pt p a) (Pt p b))(h:NI lt p m):NI lt (kas_rev p i j) m:=fun a b hab hb =>
 o.tr _ _ _ (rev_eq o hj he b).1 (o.tr _ _ _ (h a b hab hb) (rev_eq o hj he a).2)
theorem yB{Q:Array Nat×Nat×Nat->Shared->Prop}{r:Nat}(hr:r<=n):∀ (f:Nat) (p:Array Nat) (a q:Nat),Pm n p->a+f<=r->q+1<=a->NI lt p a->(∀ x y,a - (q+1)<=x->x < a->a - (q+1)<=y->y < a->le lt (Pt p x) (Pt p y)) ->
  (∀ p' a' q',Pm n p'->a<=a'->a'<=r->q'+1<=a'->NI lt p' a'->(∀ x y,a' - (q'+1)<=x->x < a'->a' - (q'+1)<=y->y < a'->le lt (Pt p' x) (Pt p' y))->Q (p',a',q') s)->(kas_desc f p a q).kasWp cmp Q s
 | 0,p,a,q,hp,hf,hq,hni,he,h=>h p a q hp (bAf _) (by omega) hq hni he
 | f+1,p,a,q,hp,hf,hq,hni,he,h=>by
  have hz:a<=p.size:=by rw [hp.size];omega
  refine hc _ _ _ (hp.bd hn _) (hp.bd hn _) ?_
  show KasT.kasWp cmp (if lt (Pt p a) (Pt p (a - 1))=true then (if q > 0 then kas_desc f (kas_rev p (a - (q+1)) a) (a+1) 0 else kas_desc f p (a+1) 0)
   else .ask (Pt p (a - 1)) (Pt p a) fun d=>if d=true then .ret (p,a,q) else kas_desc f p (a+1) (q+1)) Q s
  have grow:∀ {p':Array Nat},NI lt p' a->le lt (Pt p' a) (Pt p' (a - 1))->NI lt p' (a+1):=fun {p'} h1 h2 i j hij hj=>by
   by_cases e:j=a
   ·subst e
    by_cases e2:i=j
    ·subst e2;exact o.rf _
    ·exact o.tr _ _ _ h2 (h1 i (j - 1) (by omega) (by omega))
   ·exact h1 i j hij (by omega)
  cases e:lt (Pt p a) (Pt p (a - 1)) with
  | true =>
   rw [bAc rfl]
   by_cases hq0:q > 0
   ·rw [bAc hq0]
    have n1:=uI o hz he hni
    have e1:Pt (kas_rev p (a - (q+1)) a) a=Pt p a:=by rw [zF hz,bAg (by omega)]
    have le1:le lt (Pt (kas_rev p (a - (q+1)) a) a) (Pt (kas_rev p (a - (q+1)) a) (a - 1)):=by
     rw [e1]
     exact o.tr _ _ _ (o.tot e) (rev_eq o hz he (a - 1)).2
    refine yB hr f _ (a+1) 0 (zV hp _ _) (by omega) (by omega) (grow n1 le1) (fun x y h1 h2 h3 h4=>?_) fun p' a' q' k1 k2 k3 k4 k5 k6=>h p' a' q' k1 (by omega) k3 k4 k5 k6
    have:x=y:=by omega
    subst this;exact o.rf _
   ·rw [bAg hq0]
    refine yB hr f _ (a+1) 0 hp (by omega) (by omega) (grow hni (o.tot e)) (fun x y h1 h2 h3 h4=>?_) fun p' a' q' k1 k2 k3 k4 k5 k6=>h p' a' q' k1 (by omega) k3 k4 k5 k6
    have:x=y:=by omega
    subst this;exact o.rf _
  | false =>
   rw [bAg bAs]
   refine hc _ _ _ (hp.bd hn _) (hp.bd hn _) ?_
   show KasT.kasWp cmp (if lt (Pt p (a - 1)) (Pt p a)=true then .ret (p,a,q) else kas_desc f p (a+1) (q+1)) Q s
   cases e2:lt (Pt p (a - 1)) (Pt p a) with
   | true =>
    rw [bAc rfl]
    exact h p a q hp (bAf _) (by omega) hq hni he
   | false =>
    rw [bAg bAs]
    have eq1:le lt (Pt p (a - 1)) (Pt p a):=e
    have eq2:le lt (Pt p a) (Pt p (a - 1)):=e2
    refine yB hr f p (a+1) (q+1) hp (by omega) (by omega) (grow hni eq2) (fun x y h1 h2 h3 h4=>?_) fun p' a' q' k1 k2 k3 k4 k5 k6=>h p' a' q' k1 (by omega) k3 k4 k5 k6
    by_cases hx:x=a
    ·subst hx
     by_cases hy:y=x
     ·subst hy;exact o.rf _
     ·exact o.tr _ _ _ eq2 (he _ _ (by omega) (by omega) (by omega) (by omega))
    ·by_cases hy:y=a
     ·subst hy
      exact o.tr _ _ _ (he _ (y - 1) (by omega) (by omega) (by omega) (by omega)) eq1
     ·exact he _ _ (by omega) (by omega) (by omega) (by omega)
theorem tZ{Q:Nat×Array Nat->Shared->Prop}{p:Array Nat}{a r:Nat}(hp:Pm n p)(h1:1<=a)(ha:a+1<=r)(hr:r<=n)(hni:NI lt p (a+1))(h:∀ m q,1<=m->m<=r->Pm n q->Sd lt q m->Q (m,q) s):(kas_descPart a r p).kasWp cmp Q s:=by
 unfold kas_descPart
 rw [bDt]
 refine yB hc hn o hr _ p (a+1) 0 hp (by omega) (by omega) hni (fun x y h1 h2 h3 h4=>?_) fun p' a' q' k1 k2 k3 k4 k5 k6=>?_
 ·have:x=y:=by omega
  subst this;exact o.rf _
 ·have hz:a'<=p'.size:=by rw [k1.size];omega
  show KasT.kasWp cmp (if q' > 0 then kas_tail3 a' r (kas_rev p' (a' - (q'+1)) a') else kas_tail3 a' r p') Q s
  by_cases hq:q' > 0
  ·rw [bAc hq]
   exact aHa hc hn o (zV k1 _ _) (by omega) k3 hr (uI o hz k6 k5) h
  ·rw [bAg hq]
   exact aHa hc hn o k1 (by omega) k3 hr k5 h
theorem aLs{Q:Nat×Array Nat->Shared->Prop}{p:Array Nat}{r:Nat}(hp:Pm n p)(h1:1<=r)(hr:r<=n)(h:∀ m q,1<=m->m<=r->Pm n q->Sd lt q m->Q (m,q) s):(kas_count r p).kasWp cmp Q s:=by
 unfold kas_count
 rw [bDt]
 have s1:Sd lt p 1:=fun i j hij hj=>by
  have:i=j:=by omega
  subst this;exact o.rf _
 refine aJh hc hn hp _ _ fun m h2 h3 h4 h5=>?_
 have sm:=aU0 o (bAf 1) s1 h4
 show KasT.kasWp cmp (if (m == r)=true then .ret (m,p) else if m > 1 then .ask (Pt p 0) (Pt p (m - 1)) fun c=>if c=true then .ret (m,p) else kas_descPart m r (kas_rev p 0 m) else kas_descPart m r p) Q s
 by_cases em:m=r
 ·rw [bAc (by simp [em])]
  exact h m p h2 (by omega) hp sm
 ·rw [bAg (by simp [em])]
  have hlt:=h5 (by omega)
  have hz:m<=p.size:=by rw [hp.size];omega
  by_cases hm:m > 1
  ·rw [bAc hm]
   refine hc _ _ _ (hp.bd hn _) (hp.bd hn _) ?_
   show KasT.kasWp cmp (if lt (Pt p 0) (Pt p (m - 1))=true then .ret (m,p) else kas_descPart m r (kas_rev p 0 m)) Q s
   cases e:lt (Pt p 0) (Pt p (m - 1)) with
   | true=>rw [bAc rfl];exact h m p h2 (by omega) hp sm
   | false =>
    rw [bAg bAs]
    have e:le lt (Pt p (m - 1)) (Pt p 0):=e
    have he:∀ a b,0<=a->a < m->0<=b->b < m->le lt (Pt p a) (Pt p b):=fun a b _ ha _ hb =>
     o.tr _ _ _ (sm a (m - 1) (by omega) (by omega)) (o.tr _ _ _ e (sm 0 b (by omega) hb))
    have nm:NI lt p m:=fun i j hij hj=>he j i (by omega) hj (by omega) (by omega)
    have n2:=uI o hz he nm
    have em1:Pt (kas_rev p 0 m) m=Pt p m:=by rw [zF hz,bAg (by omega)]
    refine tZ hc hn o (zV hp 0 m) (by omega) (by omega) hr (fun i j hij hj=>?_) h
    by_cases ej:j=m
    ·subst ej
     by_cases ei:i=j
     ·subst ei;exact o.rf _
     ·rw [em1]
      refine o.tr _ _ _ (o.tot hlt) (o.tr _ _ _ (rev_eq o hz he (j - 1)).2 ?_)
      exact n2 i (j - 1) (by omega) (by omega)
    ·exact n2 i j hij (by omega)
  ·rw [bAg hm]
   have e1:m=1:=by omega
   subst e1
   refine tZ hc hn o hp (bAf 1) (by omega) hr (fun i j hij hj=>?_) h
   by_cases ei:i=j
   ·subst ei;exact o.rf _
   ·have:i=0/\j=1:=by omega
    obtain ⟨rfl,rfl⟩:=this
    exact o.tot hlt
theorem xM{Q:Nat->Shared->Prop}{p:Array Nat}{k:Nat}(hp:Pm n p)(hs:Sd lt p k):∀ (f l r:Nat),l<=r->r<=k->r - l<=f->(∀ i,i < l->le lt (Pt p i) (Pt p k))->(∀ i,r<=i->i < k->lt (Pt p k) (Pt p i)=true) ->
  (∀ m,m<=k->(∀ i,i < m->le lt (Pt p i) (Pt p k))->(∀ i,m<=i->i < k->lt (Pt p k) (Pt p i)=true)->Q m s)->(kas_place p k f l r).kasWp cmp Q s
 | 0,l,r,h1,h2,h3,h4,h5,h=>by
  have:l=r:=by omega
  subst this
  exact h l h2 h4 h5
 | f+1,l,r,h1,h2,h3,h4,h5,h=>by
  unfold kas_place
  by_cases e:l ≥ r
  ·rw [bAc e]
   have:l=r:=by omega
   subst this
   exact h l h2 h4 h5
  ·rw [bAg e]
   refine hc _ _ _ (hp.bd hn _) (hp.bd hn _) ?_
   show KasT.kasWp cmp (if lt (Pt p k) (Pt p ((l+r) / 2))=true then kas_place p k f l ((l+r) / 2) else kas_place p k f ((l+r) / 2+1) r) Q s
   cases ec:lt (Pt p k) (Pt p ((l+r) / 2)) with
   | true =>
    rw [bAc rfl]
    refine xM hp hs f l ((l+r) / 2) (by omega) (by omega) (by omega) h4 (fun i i1 i2=>?_) h
    cases ei:lt (Pt p k) (Pt p i) with
    | true=>rfl
    | false =>
     have:=o.tr _ _ _ (hs ((l+r) / 2) i i1 i2) ei
     rw [ec] at this;cases this
   | false =>
    rw [bAg bAs]
    refine xM hp hs f ((l+r) / 2+1) r (by omega) h2 (by omega) (fun i i1=>?_) h5 h
    exact o.tr _ _ _ (hs i ((l+r) / 2) (by omega) (by omega)) ec
omit hc hn in
theorem aNw{p:Array Nat}{k l:Nat}(hk:k < p.size)(hl:l<=k)(i:Nat):Pt (bubble p k (k - l)) i=if i=l then Pt p k else if l < i/\i<=k then Pt p (i - 1) else Pt p i:=by
 have e:=getElem?_bubble hk (k - l) (by omega) i
 have e1:k - (k - l)=l:=by omega
 rw [e1] at e
 repeat' split
 ·rename_i h;rw [bAc h] at e;exact aJg e
 ·rename_i h h2;rw [bAg h,bAc h2] at e;exact aJg e
 ·rename_i h h2;rw [bAg h,bAg h2] at e;exact aJg e
theorem aNv{Q:Array Nat->Shared->Prop}:∀ (f:Nat) (p:Array Nat) (k:Nat),Pm n p->k+f<=n->Sd lt p k->(∀ q,Pm n q->Sd lt q (k+f)->Q q s)->(kas_bin f p k).kasWp cmp Q s
 | 0,p,k,hp,_,hs,h=>h p hp hs
 | f+1,p,k,hp,hk,hs,h=>by
  unfold kas_bin
  rw [bDt]
  have hz:k < p.size:=by rw [hp.size];omega
  refine xM hc hn o hp hs k 0 k (bBo _) (bAf _) (by omega) (fun i h=>absurd h (by omega)) (fun i h1 h2=>absurd h2 (by omega)) fun l hl h1 h2=>?_
  refine aNv f _ (k+1) ((bubble_perm _ _ _).trans hp) (by omega) (fun i j hij hj=>?_) fun q q1 q2=>h q q1 (by rw [show k+(f+1)=k+1+f by omega];exact q2)
  rw [aNw o hz hl,aNw o hz hl]
  by_cases ei:i=l
  ·rw [bAc ei]
   by_cases ej:j=l
   ·rw [bAc ej];exact o.rf _
   ·rw [bAg ej,bAc ⟨by omega,by omega⟩]
    exact o.tot (h2 (j - 1) (by omega) (by omega))
  ·rw [bAg ei]
   by_cases ej:j=l
   ·rw [bAc ej,bAg (by omega)]
    exact h1 i (by omega)
   ·rw [bAg ej]
    by_cases hi:l < i/\i<=k
    ·rw [bAc hi,bAc ⟨by omega,by omega⟩]
     exact hs _ _ (by omega) (by omega)
    ·rw [bAg hi]
     by_cases hj2:l < j/\j<=k
     ·rw [bAc hj2]
      exact hs _ _ (by omega) (by omega)
     ·rw [bAg hj2]
      exact hs _ _ (by omega) (by omega)
theorem aRe{Q:Array Nat->Shared->Prop}(h:∀ q,Pm n q->Sd lt q n->Q q s):(kas_sort n).kasWp cmp Q s:=by
 unfold kas_sort
 rw [bDt]
 refine aLs hc hn o (Array.Perm.refl _) hn (bAf n) fun m q h1 h2 h3 h4=>?_
 show KasT.kasWp cmp (if m < n then kas_bin (n - max m 1) q (max m 1) else .ret q) Q s
 have em:max m 1=m:=by omega
 by_cases e:m < n
 ·rw [bAc e,em]
  refine aNv hc hn o _ _ _ h3 (by omega) h4 fun q' k1 k2=>h q' k1 (by rw [show m+(n - m)=n by omega] at k2;exact k2)
 ·rw [bAg e]
  have:m=n:=by omega
  subst this
  exact h q h3 h4
end
end SRT
namespace SRT
open PySem PySem.W PyProof.Rows L2
def TupI(h:Heap)(v:Value)(ns:List Int):Prop:=∃ t o xs c,v=.ref t/\h.get? t=some o/\o.cls=.type "tuple"/\o.data=.seq xs c/\IntsAre xs.toList ns
theorem TupI.at{h h':Heap}{v:Value}{ns:List Int}(x:TupI h v ns)(k:∀ t o,v=.ref t->h.get? t=some o->h'.get? t=some o):TupI h' v ns :=
 let ⟨t,o,xs,c,e,ho,r⟩:=x;⟨t,o,xs,c,e,k t o e ho,r⟩
theorem xY:∀ {vs:List Value} {ns:List Int},IntsAre vs ns->vs.length=ns.length
 | _,_,.nil=>rfl
 | _,_,.cons _ _ r=>by rw [aZ2,aZ2,xY r]
theorem aHu:∀ a b:List Int,HT.lexLt a b=true->HT.lexLt b a=false
 | [],[],h=>by cases h
 | [],_ :: _,_=>rfl
 | _ :: _,[],h=>by cases h
 | x :: a,y :: b,h=>by
  rw [HT.lA] at h ⊢
  by_cases e:x=y
  ·rw [bAc e] at h;rw [bAc e.symm];exact aHu a b h
  ·rw [bAg e] at h;rw [bAg (bD0 e)]
   have:=bBa h
   exact aZ7 (by omega)
theorem aKm:∀ a b c:List Int,HT.lexLt b a=false->HT.lexLt c b=false->HT.lexLt c a=false
 | [],_,[],_,_=>rfl
 | [],b,_ :: _,_,_=>rfl
 | _ :: _,[],_,h,_=>by cases h
 | x :: a,y :: b,[],_,h=>by cases h
 | x :: a,y :: b,z :: c,h1,h2=>by
  rw [HT.lA] at h1 h2 ⊢
  by_cases e1:y=x
  ·subst e1
   rw [bAc rfl] at h1
   by_cases e2:z=y
   ·subst e2
    rw [bAc rfl] at h2 ⊢
    exact aKm a b c h1 h2
   ·rw [bAg e2] at h2 ⊢
    exact h2
  ·rw [bAg e1] at h1
   have q1:=bCp h1
   by_cases e2:z=y
   ·subst e2
    rw [bAg e1]
    exact h1
   ·rw [bAg e2] at h2
    have q2:=bCp h2
    have e3:z≠x:=by omega
    rw [bAg e3]
    exact aZ7 (by omega)
theorem aOe:∀ a b:List Int,HT.lexLt a b=false->HT.lexLt b a=false->a=b
 | [],[],_,_=>rfl
 | [],_ :: _,h,_=>by cases h
 | _ :: _,[],_,h=>by cases h
 | x :: a,y :: b,h1,h2=>by
  rw [HT.lA] at h1 h2
  by_cases e:x=y
  ·subst e
   rw [bAc rfl] at h1 h2
   rw [aOe a b h1 h2]
  ·rw [bAg e] at h1;rw [bAg (bD0 e)] at h2
   have q1:=bCp h1
   have q2:=bCp h2
   omega
theorem aKc(ks:List (List Int)):Ord fun i j=>HT.lexLt (ks.getD i []) (ks.getD j []):=⟨fun _ _=>aHu _ _,fun _ _ _=>aKm _ _ _⟩
section
variable {prog:Program}{w:World}{A:Around}{E:Value->Shared->Prop}{s:Shared}
theorem aOm{b fin:Bool}{Q:Bool->Shared->Prop}:∀ {us ws:List Value} {ns ms:List Int} (i:Nat),IntsAre us ns->IntsAre ws ms->(fin=decide (ns.length < ms.length))->Q (HT.lexLt ns ms) s->KatLex prog w A b fin Q (us.zip ws) i s
 | _,_,[],[],i,.nil,.nil,hf,q=>by
  rw [hf];exact q
 | _,_,[],m :: ms,i,.nil,.cons _ _ _,hf,q=>by
  rw [hf]
  show Q (decide (0 < ms.length+1)) s
  rw [aZ8 (Nat.succ_pos _)]
  exact q
 | _,_,n :: ns,[],i,.cons _ _ _,.nil,hf,q=>by
  rw [hf]
  show Q (decide (ns.length+1 < 0)) s
  rw [aZ7 (Nat.not_lt_zero _)]
  exact q
 | _,_,n :: ns,m :: ms,i,.cons _ t hi,.cons _ u hj,hf,q=>by
  rw [HT.lA] at q
  refine kat_cons (wpAny_eqBool_int ?_)
  by_cases e:n=m
  ·rw [bAc e] at q
   rw [show (n == m)=true by simp [e]]
   exact kat_yes (aOm (i+1) hi hj (by rw [hf];simp) q)
  ·rw [bAg e] at q
   rw [show (n == m)=false by simp [e]]
   refine kat_no ?_
   cases eb:(b && i == 0) with
   | true=>exact oneLt_int q
   | false=>exact kat_one _ _ (lt_int q)
theorem aK5{x y:Value}{ns ms:List Int}{Q:Bool->Shared->Prop}(b:Bool)(hx:TupI s.heap x ns)(hy:TupI s.heap y ms)(q:Q (HT.lexLt ns ms) s):wpAny (model prog w) A (keyLt' (tuples' b) x y) Q E s:=by
 obtain ⟨t,o,xs,c,rfl,ho,hc,hd,hi⟩:=hx
 obtain ⟨t2,o2,xs2,c2,rfl,ho2,hc2,hd2,hi2⟩:=hy
 refine kat_lt ho hd ho2 hd2 (aOm 0 hi hi2 ?_ q)
 have e1:=xY hi
 have e2:=xY hi2
 rw [bBc] at e1 e2
 rw [e1,e2]
def TupsI(h:Heap)(vs:List Value)(ks:List (List Int)):Prop:=vs.length=ks.length/\∀ (i:Nat) (v:Value) (k:List Int),vs[i]? = some v->ks[i]? = some k->TupI h v k/\k≠[]
theorem TupsI.cons{h:Heap}{v:Value}{vs:List Value}{ks:List (List Int)}(x:TupsI h (v :: vs) ks):∃ k r,ks=k :: r/\TupI h v k/\k≠[]/\TupsI h vs r:=by
 obtain ⟨hl,ha⟩:=x
 cases ks with
 | nil=>simp at hl
 | cons k r =>
  obtain ⟨h1,h2⟩:=ha 0 v k rfl rfl
  exact ⟨k,r,rfl,h1,h2,by simpa using hl,fun i v k e1 e2=>ha (i+1) v k (by simpa using e1) (by simpa using e2)⟩
theorem aYo{h:Heap}:∀ {vs:List Value} {ks:List (List Int)},TupsI h vs ks->∃ fs,KatTups h vs fs/\fs.length=vs.length/\∀ f∈fs,∃ i t,f=Value.int i t
 | [],_,_=>⟨[],KatTups.nil,rfl,fun _ z=>nomatch z⟩
 | v :: vs,ks,x=>by
  obtain ⟨k,r,rfl,⟨t,o,xs,c,rfl,ho,hc,hd,hi⟩,hk,hr⟩:=x.cons
  obtain ⟨fs,h1,h2,h3⟩:=aYo hr
  cases k with
  | nil=>exact absurd rfl hk
  | cons n k =>
   cases hx:xs.toList with
   | nil=>rw [hx] at hi;cases hi
   | cons y ys =>
    rw [hx] at hi
    cases hi with
    | cons _ tt _ =>
     refine ⟨.int n tt :: fs,KatTups.cons ho hc hd ?_ h1,by simp [h2],fun f hf=>?_⟩
     ·have:xs.toList[0]? = some (Value.int n tt):=by rw [hx];rfl
      simpa using this
     ·rcases aZ3.mp hf with rfl | hf
      ·exact ⟨n,tt,rfl⟩
      ·exact h3 f hf
theorem range_getD(vs:List Value):((List.range vs.length).map fun i=>vs.getD i Value.none)=vs:=by
 refine bDb fun i=>?_
 rw [bA0]
 by_cases hi:i < vs.length
 ·rw [bEm hi]
  simp [hi]
 ·rw [bBr (by rw [bB5];omega),bBr (by omega)]
  rfl
theorem x9{a:Addr}{vs:List Value}{n:Nat}{ks:List (List Int)}{P:PySem.Fin->Shared->Prop}(ho:s.heap.get? a=some (seqObj "list" vs.toArray n))(ht:TupsI s.heap vs ks)(hna:∀ v∈vs,v≠.ref a)(h64:vs.length < 64)
  (h:∀ q:Array Nat,Pm vs.length q->Sd (fun i j=>HT.lexLt (ks.getD i []) (ks.getD j [])) q vs.length->P (.done (.ret .none)) { s with heap:=sortedHeap s.heap a vs (q.toList.map fun i=>vs.getD i Value.none).toArray }) :
  wpAny (model prog w) A (Builtin.«list.sort» ⟨[.ref a],[]⟩) P E s:=by
 rw [list_sort_plain]
 have ha:a < s.heap.objs.size:=aZ9 ho
 refine aZ1 (listItems_at ho rfl ?_)
 refine aZ1 (listUpdate_at ho rfl ?_ (by rw [bAe,bCy];omega) (bBo _))
 obtain ⟨e1,ho1⟩:∃ e1,(s.heap.update a (Obj.mapSeq fun _=>(#[]:Array Value))).get? a=some (seqObj "list" #[] e1):=⟨_,get?_update_seq ho (fun _=>#[])⟩
 refine aZ1 (seqEpoch_at ho1 rfl ?_)
 refine aZ1 (wpAny_newTuple ?_ (by show vs.length<=_;rw [bCy];omega))
 refine aZ1 (wpAny_newList ?_ (bBo _))
 refine bDa ?_
 have keep:∀ b o,b≠a->s.heap.get? b=some o->(((s.heap.update a (Obj.mapSeq fun _=>(#[]:Array Value))).push (seqObj "tuple" vs.toArray 0)).push (seqObj "list" #[] 0)).get? b=some o:=fun b o hb e=>by
  refine aZ4 _ (aZ4 _ ?_)
  rw [bDl _ _ _ _ hb]
  exact e
 have ho6:(((s.heap.update a (Obj.mapSeq fun _=>(#[]:Array Value))).push (seqObj "tuple" vs.toArray 0)).push (seqObj "list" #[] 0)).get? a=some (seqObj "list" #[] e1):=aZ4 _ (aZ4 _ ho1)
 show wpAny (model prog w) A _ P E { s with heap:=((s.heap.update a (Obj.mapSeq fun _=>(#[]:Array Value))).push (seqObj "tuple" vs.toArray 0)).push (seqObj "list" #[] 0) }
 dsimp only
 by_cases h2:vs.toArray.size < 2
 ·rw [bAc h2,bAc h2]
  refine aZ1 (bAl ?_)
  rw [StateT.run_pure]
  refine aZ1 (bAl ?_)
  dsimp only
  have e0:(arrOf (SortSt.mk' general' (vs.toArray.zip vs.toArray) #[] 7 none)).map (·.2)=((List.range vs.length).toArray.toList.map fun i=>vs.getD i Value.none).toArray:=by
   show (vs.toArray.zip vs.toArray).map (·.2)=_
   rw [bDm,range_getD]
   apply Array.toList_inj.mp
   simp [List.map_snd_zip]
  rw [e0]
  refine aZ1 (seqEpoch_at ho6 rfl ?_)
  refine aZ1 (listUpdate_at ho6 rfl ?_ (bBo _) (by rw [bDm,range_getD,bAe,bCy];omega))
  simp only [bne_self_eq_false,bA6,bCm]
  refine bAl (h (List.range vs.length).toArray (Array.Perm.refl _) fun i j hij hj=>?_)
  have:i=j:=by rw [bAe] at h2;omega
  subst this
  exact (aKc ks).rf _
 ·rw [bAg h2,bAg h2]
  have h2':2<=vs.length:=by rw [bAe] at h2;omega
  have ht6:TupsI (((s.heap.update a (Obj.mapSeq fun _=>(#[]:Array Value))).push (seqObj "tuple" vs.toArray 0)).push (seqObj "list" #[] 0)) vs ks:=⟨ht.1,fun i v k q1 q2=>by
   obtain ⟨z1,z2⟩:=ht.2 i v k q1 q2
   exact ⟨z1.at fun t o ev et=>keep t o (fun z=>hna v (bAq q1) (by rw [ev,z])) et,z2⟩⟩
  obtain ⟨fs,f1,f2,f3⟩:=aYo ht6
  refine aZ1 (kat_kind (T:=.type "int") f1 (by rw [f2];omega) (fun v hv=>?_) rfl ?_)
  ·obtain ⟨i,t,rfl⟩:=f3 v hv
   exact .now
  refine aZ1 (bBu (kat_run (κ:=tuples' (Value.type "int" != Value.type "tuple")) (ks:=vs) (Q:=fun st' s'=>∃ p:Array Nat,s'={ s with heap:=((s.heap.update a (Obj.mapSeq fun _=>(#[]:Array Value))).push (seqObj "tuple" vs.toArray 0)).push (seqObj "list" #[] 0) }/\p.size=vs.length/\arrOf st'=p.map (kas_item (vs.toArray.zip vs.toArray))/\failedOf st'=none/\Pm vs.length p/\Sd (fun i j=>HT.lexLt (ks.getD i []) (ks.getD j [])) p vs.length)
   (G:=fun p s'=>s'={ s with heap:=((s.heap.update a (Obj.mapSeq fun _=>(#[]:Array Value))).push (seqObj "tuple" vs.toArray 0)).push (seqObj "list" #[] 0) }/\Pm vs.length p/\Sd (fun i j=>HT.lexLt (ks.getD i []) (ks.getD j [])) p vs.length)
   rfl h2' h64 (fun p st' s' a1 a2 a3 a4=>⟨p,a4.1,a1,a2,a3,a4.2⟩) (aRe (n:=vs.length) (lt:=fun i j=>HT.lexLt (ks.getD i []) (ks.getD j [])) (fun i j C hi hj hC=>?_) (by omega) (aKc ks) fun q q1 q2=>⟨rfl,q1,q2⟩)) ?_ fun _ _ e=>e)
  ·unfold kas_ask
   have hi':vs[i]? = some vs[i]:=aZ5 hi
   have hj':vs[j]? = some vs[j]:=aZ5 hj
   have ki:i < ks.length:=by rw [<- ht.1];exact hi
   have kj:j < ks.length:=by rw [<- ht.1];exact hj
   have di:vs.getD i Value.none=vs[i]:=by simp [hi]
   have dj:vs.getD j Value.none=vs[j]:=by simp [hj]
   have ei:ks.getD i []=ks[i]:=by simp [ki]
   have ej:ks.getD j []=ks[j]:=by simp [kj]
   rw [di,dj]
   rw [ei,ej] at hC
   exact aK5 _ (ht6.2 i _ _ hi' (aZ5 ki)).1 (ht6.2 j _ _ hj' (aZ5 kj)).1 hC
  ·rintro ⟨⟨⟩,st'⟩ s' ⟨p,rfl,hp,har,hf,hpm,hsd⟩
   dsimp only
   have hout:=kat_snds (ks:=vs) (vs:=vs) rfl har
   have hsz:(List.toArray (p.toList.map fun i=>vs.getD i Value.none)).size=vs.length:=by rw [bAe,aZ0,bBc,hp]
   rw [hout]
   refine aZ1 (seqEpoch_at ho6 rfl ?_)
   refine aZ1 (listUpdate_at ho6 rfl ?_ (bBo _) (bA5 (bDn hsz) (by rw [bCy];omega)))
   rw [hf]
   simp only [bne_self_eq_false,bA6,bCm]
   exact bAl (h p hpm hsd)
theorem uF{h:Heap}{a:Addr}{vs:List Value}{out:Array Value}{b:Addr}{o:Obj}(hb:b≠a)(e:h.get? b=some o):(sortedHeap h a vs out).get? b=some o:=by
 unfold sortedHeap
 rw [bDl _ _ _ _ hb]
 refine aZ4 _ (aZ4 _ ?_)
 rw [bDl _ _ _ _ hb]
 exact e
theorem uO{h:Heap}{a:Addr}{vs:List Value}{n:Nat}{out:Array Value}(e:h.get? a=some (seqObj "list" vs.toArray n)):∃ c,(sortedHeap h a vs out).get? a=some (seqObj "list" out c):=by
 obtain ⟨e1,ho1⟩:∃ e1,(h.update a (Obj.mapSeq fun _=>(#[]:Array Value))).get? a=some (seqObj "list" #[] e1):=⟨_,get?_update_seq e (fun _=>#[])⟩
 exact ⟨_,get?_update_seq (aZ4 _ (aZ4 _ ho1)) fun _=>out⟩
theorem aEu{r:Addr}{Q:Value->Shared->Prop}{Ok:List Value->Prop}(hcol:∀ R:List Value->Shared->Prop,(∀ h' tk vs,(∀ b o,s.heap.get? b=some o->h'.get? b=some o)->Ok vs->R vs { s with heap:=h',toks:=tk })->wpAny (model prog w) A.in1 (collect (.ref r)) R E s)
  (ks:List (List Int)) (hok:∀ vs,Ok vs->TupsI s.heap vs ks/\vs.length < 64)
  (h:∀ (h' hf:Heap) (tk c:Nat) (vs:List Value) (q:Array Nat),(∀ b o,s.heap.get? b=some o->h'.get? b=some o)->(∀ b o,h'.get? b=some o->hf.get? b=some o)->Ok vs->Pm vs.length q->Sd (fun i j=>HT.lexLt (ks.getD i []) (ks.getD j [])) q vs.length ->
   hf.get? h'.objs.size=some (seqObj "list" (q.toList.map fun i=>vs.getD i Value.none).toArray c)->Q (.ref h'.objs.size) { s with heap:=hf,toks:=tk }) :
  wpAny (model prog w) A (call (.builtin "sorted") [.ref r]) Q E s:=by
 refine Calls.call_function_entry kind_sorted plain_sorted entry_sorted (args_sorted1 _) ?_
 unfold Builtin.«sorted»
 refine aZ1 (m:=checkCount "sorted" 1 1 _) (bAl ?_)
 refine aZ1 (hcol _ fun h' tk vs keep ov=>?_)
 obtain ⟨ht,h64⟩:=hok vs ov
 refine aZ1 (wpAny_newList ?_ (by rw [bCy];omega))
 have hoL:(h'.push (seqObj "list" vs.toArray 0)).get? h'.objs.size=some (seqObj "list" vs.toArray 0):=bAx _ rfl
 have keep2:∀ b o,s.heap.get? b=some o->(h'.push (seqObj "list" vs.toArray 0)).get? b=some o:=fun b o e=>aZ4 _ (keep b o e)
 have lt:∀ b o,s.heap.get? b=some o->b≠h'.objs.size:=fun b o e=>bAu (aZ9 (keep b o e))
 have tat:∀ v∈vs,∃ t o,v=.ref t/\s.heap.get? t=some o:=fun v hv=>by
  obtain ⟨i,hi,e⟩:=bEg.mp hv
  have ki:i < ks.length:=by rw [<- ht.1];exact hi
  obtain ⟨⟨t,o,_,_,e1,e2,_⟩,_⟩:=ht.2 i v ks[i] (by rw [aZ5 hi,e]) (aZ5 ki)
  exact ⟨t,o,e1,e2⟩
 have ht2:TupsI (h'.push (seqObj "list" vs.toArray 0)) vs ks:=⟨ht.1,fun i v k q1 q2=>let ⟨z1,z2⟩:=ht.2 i v k q1 q2;⟨z1.at fun t o _ et=>keep2 t o et,z2⟩⟩
 refine aZ1 (bDa (bDi slot_list_sort ⟨_,hoL,rfl⟩ entry_list_sort (x9 (s:={ s with heap:=h'.push (seqObj "list" vs.toArray 0),toks:=tk }) hoL ht2 (fun v hv z=>?_) h64 fun q a1 a2=>⟨_,rfl,?_⟩) (args_list_sort _)))
 ·obtain ⟨t,o,e1,e2⟩:=tat v hv
  rw [e1] at z
  injection z with z
  exact lt t o e2 z
 ·obtain ⟨c,hc⟩:=uO (out:=(q.toList.map fun i=>vs.getD i Value.none).toArray) hoL
  exact bAl ⟨_,rfl,h h' _ tk c vs q keep (fun b o e=>uF (bAu (aZ9 e)) (aZ4 _ e)) ov a1 a2 hc⟩
def aSe(H:Hp)(ts:List V)(ks:List (List Int)):Prop:=ts.length=ks.length/\∀ (i:Nat) (t:V) (k:List Int),ts[i]? = some t->ks[i]? = some k->(∃ b,t=.ref b/\H b=some (.tup (k.map V.int)))/\k≠[]
end
theorem aJz{P:Program}{w:World}{H:Hp}{h:Heap}{ts:List V}{ks:List (List Int)}{vs:List Value}(ok:HOk P w H h)(r:aSe H ts ks)(v:Vals ts vs):TupsI h vs ks:=by
 have hl:=v.length
 refine ⟨by rw [<- hl];exact r.1,fun i u k e1 e2=>?_⟩
 have hi:i < ts.length:=by
  have:=(bBe.mp e1).1
  omega
 obtain ⟨⟨b,eb,hb⟩,hk⟩:=r.2 i ts[i] k (aZ5 hi) e2
 obtain ⟨u',e3,ru⟩:=v.get (i:=i) (x:=ts[i]) (aZ5 hi)
 rw [e1] at e3
 cases e3
 rw [eb] at ru
 cases (show u=Value.ref b from ru)
 obtain ⟨_,its,rv,o,ho,hc,n,hd⟩:=(show ObjOk P w H h b (.tup (k.map V.int)) from ok b _ hb)
 exact ⟨⟨b,o,_,n,rfl,ho,hc,hd,by rw [bDm];exact intsAre_of rv⟩,hk⟩
def aQ9(ks:List (List Int)):Nat->Nat->Bool:=fun i j=>HT.lexLt (ks.getD i []) (ks.getD j [])
theorem zQ{ts:List V}{vs:List Value}(v:Vals ts vs):∀ (l:List Nat),(∀ i∈l,i < ts.length)->Vals (l.map fun i=>ts.getD i .non) (l.map fun i=>vs.getD i Value.none)
 | [],_=>.nil
 | i :: l,h=>by
  have hi:=h i (.head _)
  obtain ⟨u,e,r⟩:=v.get (i:=i) (x:=ts[i]) (aZ5 hi)
  have e1:ts.getD i .non=ts[i]:=by simp [hi]
  have e2:vs.getD i Value.none=u:=by simp [e]
  refine .cons ?_ (zQ v l fun j hj=>h j (.tail _ hj))
  show RelV (ts.getD i .non) (vs.getD i Value.none)
  rw [e1,e2];exact r
theorem Paired.get{α β:Type}{F:α->β->Prop}:∀ {l₁:List α} {l₂:List β} {i:Nat} {a:α},Paired F l₁ l₂->l₁[i]? = some a->∃ b,l₂[i]? = some b/\F a b
 | _,_,_,_,.nil,e=>by simp at e
 | _,_,0,_,.cons h _,e=>by simp at e;subst e;exact ⟨_,rfl,h⟩
 | _,_,i+1,_,.cons _ r,e=>by
  have:=Paired.get (i:=i) r (by simpa using e)
  simpa using this
theorem aAy{κ:Type}:∀ l:List (κ×Addr×Value),Vals (l.map fun x=>V.ref x.2.1) (l.map fun x=>Value.ref x.2.1)
 | []=>.nil
 | _ :: l=>.cons rfl (aAy l)
section
variable {X:Cx}
theorem aNg{pins:List (Addr×Obj)}{σ:L2.St}{H:Hp}{s:Shared}{Q:VK}{ts:List V}{vs:List Value}{h' hf:Heap}{tk c:Nat}{q:Array Nat}(I:Inv X pins σ H s)(v:Vals ts vs)(h64:vs.length < 64)(k1:∀ b o,s.heap.get? b=some o->h'.get? b=some o)(k2:∀ b o,h'.get? b=some o->hf.get? b=some o)(hp:Pm vs.length q)
  (hc:hf.get? h'.objs.size=some (seqObj "list" (q.toList.map fun i=>vs.getD i Value.none).toArray c)) (hq:∀ D,H D=none->Q (.ref D) (upd H D (.lst (q.toList.map fun i=>ts.getD i .non)))):EP X pins σ Q (.ref h'.objs.size) { s with heap:=hf,toks:=tk }:=by
 have I1:Inv X pins σ H { s with heap:=h',toks:=tk }:=I.kept (t':=tk) k1
 have hb:∀ i∈q.toList,i < ts.length:=fun i hi=>by
  have:i∈(List.range vs.length).toArray:=hp.mem_iff.mp (Array.mem_toList_iff.mp hi)
  rw [v.length]
  simpa using this
 have hl:q.toList.length=vs.length:=by rw [bBc];exact hp.size
 refine ⟨.ref h'.objs.size,_,I1.laid (a:=h'.objs.size) (o:=.lst (q.toList.map fun i=>ts.getD i .non)) (t':=tk) k2 (bAf _) ⟨?_,_,c,zQ v _ hb,hc⟩,rfl,hq _ (I1.hok.fresh (bAf _))⟩
 rw [aZ0,hl,bCy]
 omega
def aN9:List V->Hp->VK->Prop:=fun xs H Q=>∃ a ts ks,xs=[.ref a]/\Rd H a (.lst ts)/\aSe H ts ks/\ts.length < 64/\∀ D q,H D=none->Pm ts.length q->Sd (aQ9 ks) q ts.length->Q (.ref D) (upd H D (.lst (q.toList.map fun i=>ts.getD i .non)))
theorem vZ(hcm:X.calm=true):nU X (.builtin "sorted") aN9:=by
 intro pins s σ H xs us Q I r h
 obtain ⟨a,ts,ks,rfl,ha,hr,h64,q⟩:=h
 obtain ⟨u,rfl,ru⟩:=vals1 r
 cases (show u=Value.ref a from ru)
 obtain ⟨_,its,n,rv,ho⟩:=ha.ok I.hok
 have hlen:=rv.length
 have tup:=aJz I.hok hr rv
 refine aEu (Ok:=fun vs=>vs=its) (fun R hR=>?_) ks (fun vs e=>⟨e▸tup,by rw [e];omega⟩) fun h' hf tk c vs q' k1 k2 e p1 p2 hc=>?_
 ·refine collect_list (⟨_,ho,rfl,n,rfl⟩:s.heap.IsList a its.toArray) (hR _ _ _ (fun b o e=>?_) rfl) (by rw [bCy];omega)
  rw [bDl _ _ _ _ (bAu (aZ9 e))]
  exact aZ4 _ e
 ·subst e
  exact aNg I rv (by omega) k1 k2 p1 hc fun D hD=>q D q' hD (hlen▸p1) (hlen▸p2)
end
end SRT
namespace M
open PySem PySem.Spec PyProof.Rows L2 SRT
def rC(k:List Int):D:=.tuple (k.map .int)
def aCt:List D->Option (List Int)
 | []=>some []
 | .int i :: ds=>match aCt ds with
  | some r=>some (i :: r)
  | none=>none
 | _=>none
def aIp:D->Option (List Int)
 | .tuple ds=>aCt ds
 | _=>none
def vC:List D->Option (List (List Int))
 | []=>some []
 | d :: ds=>match aIp d with
  | none=>none
  | some k=>match vC ds with
   | none=>none
   | some ks=>some (k :: ks)
theorem aD4:∀ {ds:List D} {k:List Int},aCt ds=some k->ds=k.map .int
 | [],_,h=>by cases h;rfl
 | d :: ds,k,h=>by
  cases d with
  | int i =>
   unfold aCt at h
   cases e:aCt ds with
   | none=>rw [e] at h;cases h
   | some r=>rw [e] at h;cases h;rw [aD4 e];rfl
  | _=>cases h
theorem zW:∀ k:List Int,aCt (k.map .int)=some k
 | []=>rfl
 | i :: k=>by
  show (match aCt (k.map .int) with | some r=>some (i :: r) | none=>none)=_
  rw [zW k]
theorem aGa(k:List Int):aIp (rC k)=some k:=zW k
theorem aK4{d:D}{k:List Int}(h:aIp d=some k):d=rC k:=by
 cases d with
 | tuple ds=>unfold rC;rw [<- aD4 h]
 | _=>cases h
theorem rW:∀ {ds:List D} {ks:List (List Int)},vC ds=some ks->ds=ks.map rC
 | [],_,h=>by cases h;rfl
 | d :: ds,ks,h=>by
  unfold vC at h
  cases e:aIp d with
  | none=>rw [e] at h;cases h
  | some k =>
   rw [e] at h
   cases e2:vC ds with
   | none=>rw [e2] at h;cases h
   | some ks'=>rw [e2] at h;cases h;rw [aK4 e,rW e2];rfl
theorem uA:∀ ks:List (List Int),vC (ks.map rC)=some ks
 | []=>rfl
 | k :: ks=>by
  show (match aIp (rC k) with | none=>none | some k=>match vC (ks.map rC) with | none=>none | some ks=>some (k :: ks))=_
  rw [aGa,uA ks]
def aQ7(k:List Int):List (List Int)->List (List Int)
 | []=>[k]
 | x :: r=>if HT.lexLt k x=true then k :: x :: r else x :: aQ7 k r
def uR:List (List Int)->List (List Int)
 | []=>[]
 | k :: ks=>aQ7 k (uR ks)
def leK(a b:List Int):Prop:=HT.lexLt b a=false
theorem sZ(k:List Int):∀ l,(aQ7 k l).Perm (k :: l)
 | []=>.refl _
 | x :: r=>by
  unfold aQ7
  split
  ·exact .refl _
  ·exact ((sZ k r).cons x).trans (List.Perm.swap k x r)
theorem jO:∀ l,(uR l).Perm l
 | []=>.refl _
 | k :: ks=>(sZ k _).trans ((jO ks).cons k)
theorem aL4{k y:List Int}{l:List (List Int)}(h:y∈aQ7 k l):y=k\/y∈l:=by
 have:=(sZ k l).mem_iff.mp h
 exact aZ3.mp this
theorem sI(k:List Int):∀ l,l.Pairwise leK->(aQ7 k l).Pairwise leK
 | [],_=>bDu _ _
 | x :: r,h=>by
  unfold aQ7
  obtain ⟨h1,h2⟩:=bAd.mp h
  split
  ·rename_i e
   have e1:=aHu _ _ e
   exact bAd.mpr ⟨fun y hy=>by
    rcases aZ3.mp hy with rfl | hy
    ·exact e1
    ·exact aKm _ _ _ e1 (h1 y hy),h⟩
  ·rename_i e
   refine bAd.mpr ⟨fun y hy=>?_,sI k r h2⟩
   rcases aL4 hy with rfl | hy
   ·exact bB6.mpr e
   ·exact h1 y hy
theorem qL:∀ l,(uR l).Pairwise leK
 | []=>.nil
 | k :: ks=>sI k _ (qL ks)
theorem sO:∀ {a b:List (List Int)},a.Perm b->a.Pairwise leK->b.Pairwise leK->a=b
 | [],b,p,_,_=>(List.Perm.nil_eq p)
 | x :: a,[],p,_,_=>absurd p.length_eq (by simp)
 | x :: a,y :: b,p,ha,hb=>by
  obtain ⟨a1,a2⟩:=bAd.mp ha
  obtain ⟨b1,b2⟩:=bAd.mp hb
  have hx:x∈y :: b:=p.mem_iff.mp (.head _)
  have hy:y∈x :: a:=p.mem_iff.mpr (.head _)
  have e:x=y:=by
   rcases aZ3.mp hx with e | hx
   ·exact e
   ·rcases aZ3.mp hy with e | hy
    ·exact e.symm
    ·exact aOe _ _ (b1 x hx) (a1 y hy)
  subst e
  rw [sO (List.Perm.cons_inv p) a2 b2]
theorem picked{ks:List (List Int)}{q:Array Nat}{n:Nat}(hn:n=ks.length)(hp:Pm n q)(hs:Sd (aQ9 ks) q n):(q.toList.map fun i=>ks.getD i [])=uR ks:=by
 subst hn
 have e0:((List.range ks.length).map fun i=>ks.getD i [])=ks:=by
  refine bDb fun i=>?_
  rw [bA0]
  by_cases hi:i < ks.length
  ·rw [bEm hi];simp [hi]
  ·rw [bBr (by rw [bB5];omega),bBr (by omega)];rfl
 have p1:q.toList.Perm (List.range ks.length):=by
  have:=hp.toList
  simpa using this
 have p2:(q.toList.map fun i=>ks.getD i []).Perm ks:=by
  have:=p1.map (fun i=>ks.getD i [])
  rwa [e0] at this
 refine sO (p2.trans (jO ks).symm) ?_ (qL ks)
 rw [List.pairwise_iff_getElem]
 intro i j hi hj hij
 rw [aZ0] at hi hj
 rw [List.getElem_map,List.getElem_map]
 have sz:q.toList.length=ks.length:=by rw [bBc];exact hp.size
 have:=hs i j (bEz hij) (by omega)
 unfold SRT.le aQ9 Pt at this
 have e1:q.getD i 0=q.toList[i]:=by
  have:i < q.size:=by rw [<- bBc];exact hi
  simp [Array.getD,this]
 have e2:q.getD j 0=q.toList[j]:=by
  have:j < q.size:=by rw [<- bBc];exact hj
  simp [Array.getD,this]
 rw [e1,e2] at this
 exact this
section
variable {X:Cx}{K:aZz}
theorem aMh{G:Hp}{v:V}{k:List Int}(h:Rep K G v (rC k)):∃ b,v=.ref b/\G b=some (.tup (k.map V.int)):=by
 cases h with
 | @tup b xs _ h1 h2 =>
  refine ⟨b,rfl,?_⟩
  have:xs=k.map V.int:=by
   clear h1
   induction k generalizing xs with
   | nil=>cases h2;rfl
   | cons i k ih =>
    cases h2 with
    | cons r t=>cases r;rw [ih t];rfl
  rw [<- this];exact h1
theorem aNk{G:Hp}{b:Addr}{k:List Int}(h:G b=some (.tup (k.map V.int))):Rep K G (.ref b) (rC k):=by
 refine .tup h ?_
 clear h
 induction k with
 | nil=>exact .nil
 | cons i k ih=>exact .cons (.int i) ih
theorem aAu{G H:Hp}(gh:Same G H):∀ {ts:List V} {ks:List (List Int)},Reps K G ts (ks.map rC)->(∀ k∈ks,k≠[])->aSe H ts ks:=by
 intro ts ks r hne
 refine ⟨by rw [r.length,aZ0],fun i t k e1 e2=>?_⟩
 obtain ⟨d,e3,rd⟩:=r.get e1
 rw [bA0,e2] at e3
 cases e3
 obtain ⟨b,rfl,hb⟩:=aMh rd
 exact ⟨⟨b,rfl,gh _ _ hb⟩,hne k (bAq e2)⟩
theorem zY{G:Hp}{ts:List V}{ks:List (List Int)}(h:∀ (i:Nat),i < ks.length->Rep K G (ts.getD i .non) (rC (ks.getD i []))):∀ l:List Nat,(∀ i∈l,i < ks.length)->Reps K G (l.map fun i=>ts.getD i .non) ((l.map fun i=>ks.getD i []).map rC)
 | [],_=>.nil
 | i :: l,hl=>.cons (h i (hl i (.head _))) (zY h l fun j hj=>hl j (.tail _ hj))
theorem aXa{n:Nat}{q:Array Nat}(hp:Pm n q):∀ i∈q.toList,i < n:=fun i hi=>by
 have:i∈(List.range n).toArray:=hp.mem_iff.mp (Array.mem_toList_iff.mp hi)
 simpa using this
def lN(rs:List Ev):Res Ev:=match rs with
 | [x]=>match g9 x with
  | some ds=>match vC ds with
   | some ks=>if (ks.all fun k=>!k.isEmpty)=true/\ks.length < 64 then .ok (.f (.list ((uR ks).map rC))) else .bad
   | none=>.bad
  | none=>.bad
 | _=>.bad
theorem v7:aCe lN:=by
 intro rs C h
 unfold lN at h
 split at h
 ·split at h
  ·split at h
   ·split at h<;>cases h
   ·cases h
  ·cases h
 ·cases h
theorem aAx{ks:List (List Int)}(h:(ks.all fun k=>!k.isEmpty)=true):∀ k∈ks,k≠[]:=fun k hk z=>by
 have:=bCz.mp h k hk
 rw [z] at this
 cases this
theorem zC:oB K aN9 lN:=by
 intro W Hs G H vs rs Q gh he hw
 unfold lN at hw
 split at hw
 ·rename_i x
  match vs,he with
  | [v],⟨h1,_⟩ =>
   split at hw
   ·rename_i ds ed
    obtain ⟨a,xs,rfl,k1,k2⟩:=n5 gh h1 ed
    split at hw
    ·rename_i ks ek
     split at hw
     ·rename_i hz
      have:=rW ek
      subst this
      have hne:=aAx hz.1
      have rI:=aAu gh k2 hne
      have hl:xs.length=ks.length:=rI.1
      refine ⟨a,xs,ks,rfl,k1,rI,by omega,fun D q hD hp hs=>?_⟩
      have ep:=picked hl hp hs
      refine hw _ _ _ (Step.lay gh hD) ⟨D,_,rfl,?_,gh.free hD,b7,.lst ?_⟩
      ·exact hD
      ·rw [<- ep]
       refine zY (fun i hi=>?_) _ fun i hi=>by rw [<- hl];exact aXa hp i hi
       have hi':i < xs.length:=by omega
       obtain ⟨d,e3,rd⟩:=k2.get (aZ5 hi')
       rw [bA0,aZ5 hi] at e3
       cases e3
       have e1:xs.getD i .non=xs[i]:=by simp [hi']
       have e2:ks.getD i []=ks[i]:=by simp [hi]
       rw [e1,e2];exact rd
     ·exact hw.elim
    ·exact hw.elim
   ·exact hw.elim
 ·exact hw.elim
def wt(G H:Hp):Hp:=fun b=>match G b with
 | some o=>some o
 | none=>match H b with
  | some (.tup xs)=>some (.tup xs)
  | _=>none
theorem aQd{G H:Hp}:Same G (wt G H):=fun b o e=>by unfold wt;rw [e]
theorem aR4{G H:Hp}(gh:Same G H):Same (wt G H) H:=fun b o e=>by
 unfold wt at e
 cases eg:G b with
 | some u=>rw [eg] at e;cases e;exact gh _ _ eg
 | none =>
  rw [eg] at e
  dsimp only at e
  split at e
  ·rename_i xs eh
   cases e;exact eh
  ·cases e
theorem aUf{G H:Hp}(gh:Same G H){b:Addr}{xs:List V}(e:H b=some (.tup xs)):wt G H b=some (.tup xs):=by
 unfold wt
 cases eg:G b with
 | some u =>
  have:=gh _ _ eg
  rw [e] at this
  exact this.symm
 | none=>dsimp only;rw [e]
theorem aQj{G H:Hp}(gh:Same G H):Step G H (wt G H) H:=⟨aQd,Same.refl _,aR4 gh,fun b hb hg=>by
 unfold wt
 rw [hg]
 dsimp only
 split
 ·rename_i xs eh;exact .inr ⟨xs,eh⟩
 ·exact .inl rfl⟩
theorem aMo{k:List Key}{n:List Int}(h:tkD k=rC n):k=n.map Sum.inl:=by
 unfold tkD rC at h
 injection h with h
 induction k generalizing n with
 | nil=>cases n with
  | nil=>rfl
  | cons _ _=>cases h
 | cons x k ih =>
  cases n with
  | nil=>cases h
  | cons y n =>
   rw [bAb,bAb] at h
   injection h with h1 h2
   cases x with
   | inl i=>cases h1;rw [ih h2];rfl
   | inr i=>cases h1
theorem zG{G:Hp}:∀ {kv:List (List Key×V)} {kvs:List (D×D)} {ks:List (List Int)},RepT K G kv kvs->kvs.map (·.1)=ks.map rC->kv.map (·.1)=ks.map (List.map Sum.inl)
 | _,_,[],.nil,_=>rfl
 | _,_,_ :: _,.nil,h=>by cases h
 | _,_,[],.cons _ _,h=>by cases h
 | _,_,k :: ks,.cons _ t,h=>by
  rw [bAb,bAb] at h
  injection h with h1 h2
  rw [bAb,bAb,zG t h2,aMo h1]
end
end M
namespace L2
open PySem PySem.Spec PyProof.Rows
def Ite(K:aZz)(a:Addr):It :=
 ⟨fun i H=>∃ xs x,SqL K H a xs/\xs[i]? = some x,fun i H v H'=>∃ p x,H p=none/\v=.ref p/\(∀ xs,SqL K H a xs->xs[i]? = some x)/\H'=upd H p (.tup [.int i,x]),fun i H=>∃ xs,SqL K H a xs/\xs.length<=i⟩
theorem aIw{P:Program}{w:World}{K:aZz}{elts:List Expr}{x1}{tp:Pos}(a e it:Addr)(hne:e≠it):Turn P w K (.Tuple elts x1 tp) (Ite K a) [e,it] e (fun i h=>(∃ old,IsEnum h e it ((i:Nat):Int) old)/\h.IsListIter it a i) where
 mem:=by simp
 obj:=fun i h st b hb=>by
  rcases aZ3.mp hb with rfl | hb
  ·obtain ⟨⟨old,q⟩,_⟩:=st
   exact ⟨_,q,fun v z=>nomatch z⟩
  ·have:b=it:=by simpa using hb
   subst this
   obtain ⟨_,o,q,c,d⟩:=st
   exact ⟨o,q,fun v z=>by rw [d] at z;cases z⟩
 keep:=fun i h h' st k=>⟨let ⟨old,q⟩:=st.1;⟨old,k e (by simp) _ q⟩,st.2.at fun o q=>k it (by simp) o q⟩
 item:=by
  intro X hP hw hK hc i pins s σ H E I hf st hg
  subst hP hw hK
  obtain ⟨⟨old,he⟩,hit⟩:=st
  obtain ⟨xs,x,hq,hx⟩:=hg
  obtain ⟨its,rv,p,hz⟩:=I.list hq
  obtain ⟨u,hu,ru⟩:=rv.get hx
  obtain ⟨f0,f1,f2,f3,f4,f5⟩:=hf e (by simp)
  obtain ⟨g0,g1,g2,g3,g4,g5⟩:=hf it (by simp)
  refine wpAny_pyNext_enum_item he hit p.isList (x:=u) (by simpa using hu) hne fun h₁ heo hit₁ ht₁ hz₁ hk₁=>?_
  refine ⟨_,rfl,wpAny_letOwnedTupleGo_enum heo fun h₂ he₂ hs₂=>?_⟩
  have hs₂:Heap.SameBut e h₁ h₂:=hs₂
  have hn:H s.heap.objs.size=none:=I.fresh
  have nn:∀ b o,H b=some o->b≠s.heap.objs.size:=fun b o q=>dS q hn
  have eE:e < s.heap.objs.size:=aZ9 he
  have keep:∀ b o,b∉[e,it]->s.heap.get? b=some o->h₂.get? b=some o:=fun b o hb q=>by
   have b1:b≠e:=fun z=>hb (by simp [z])
   have b2:b≠it:=fun z=>hb (by simp [z])
   exact (hs₂.2 b b1).trans (hk₁ b o b1 b2 q)
  have trk:∀ b o,H b=some o->b∉[e,it]:=fun b o q hb=>by
   rcases aZ3.mp hb with z | hb
   ·rw [z,f0] at q;cases q
   ·rw [bAj.mp hb,g0] at q;cases q
  refine ⟨.ref s.heap.objs.size,upd H s.heap.objs.size (.tup [.int i,x]),?_,rfl,⟨_,x,hn,rfl,fun ys hy=>by rw [I.list_inj hy hq];exact hx,rfl⟩,⟨⟨u,?_⟩,?_⟩,fun b hb=>?_⟩
  ·refine Inv.step (X:=X) (pins:=pins) (σ:=σ) (H:=H) (s:=s) (H':=upd H s.heap.objs.size (.tup [.int i,x])) (h':=h₂) (g':=s.gens) (d':=s.drawn) (t':=s.toks+1) (ch:=[e,it]) I (fun b hb=>?_) (fun b o _ _ hb q _=>keep b o hb q) (fun b o _ _ hb q _=>⟨o.slots,keep b o hb q⟩) (fun b o _ q n=>?_) (fun b o hb q=>⟨o,keep b o hb q⟩)
    (fun b ys q=>?_) (fun b o v q=>?_) (fun b ps q=>⟨#[],?_⟩) (fun m hm=>?_) (fun b v q=>?_) I.bare
   ·rcases aZ3.mp hb with z | hb
    ·subst z;exact ⟨f3,f1,f4,f5⟩
    ·have z:=bAj.mp hb
     subst z;exact ⟨g3,g1,g4,g5⟩
   ·rw [bK (bAu (aZ9 q))];exact n
   ·rw [bK (nn b _ q)];exact q
   ·rw [bK (nn b _ q)];exact q
   ·rw [bK (nn b _ q),q];simp
   ·obtain ⟨o,es,ep,ho,r⟩:=hm
    exact ⟨o,es,ep,keep _ o (fun z=>by
     rcases aZ3.mp z with y | y
     ·exact f1 y.symm
     ·exact g1 (bAj.mp y).symm) ho,r⟩
   ·by_cases hb:b=s.heap.objs.size
    ·subst hb
     rw [b7] at q
     cases q
     refine ⟨by show 2<=sizeLine;decide,[.int i s.toks,u],.cons ⟨_,rfl⟩ (.cons ru .nil),_,(hs₂.2 _ (bD7 eE)).trans ht₁,rfl,_,rfl⟩
    ·rw [bK hb] at q
     refine (I.hok b v q).stay (fun c w' hc q'=>keep c w' ?_ q') (fun c q'=>?_) (fun c ys q'=>?_) fun c ys q'=>by rw [bK (nn c _ q')];exact q'
     ·rcases hc with z | z
      ·rw [z];exact trk b v q
      ·exact trk c _ z
     ·rw [bK (nn c _ q')];exact q'
     ·rw [bK (nn c _ q')];exact q'
  ·have:(((i+1:Nat)):Int)=(i:Int)+1:=by push_cast;rfl
   rw [this];exact he₂
  ·exact hit₁.at fun o q=>(hs₂.2 it (bD0 hne)).trans q
  ·have hb':=(hf b hb).1
   have:b≠s.heap.objs.size:=by
    rcases aZ3.mp hb with z | z
    ·rw [z];exact bAu eE
    ·rw [bAj.mp z]
     obtain ⟨o,q,_⟩:=id hit
     exact bAu (aZ9 q)
   rw [bK this];exact hb'
 done:=by
  intro X hP hw hK hc i pins s σ H E I hf st hg
  subst hP hw hK
  obtain ⟨⟨old,he⟩,hit⟩:=st
  obtain ⟨xs,hq,hx⟩:=hg
  obtain ⟨its,rv,p,hz⟩:=I.list hq
  obtain ⟨g0,g1,g2,g3,g4,g5⟩:=hf it (by simp)
  have hl:=rv.length
  exact wpAny_pyNext_enum_end (I.ok.hd hc) he hit p.isList (by simp;omega) fun h' eb=>⟨rfl,I.turned (t':=s.toks) (fun b o hb q=>eb b o hb q) g0 g1 g3 g4 g5⟩
 self:=fun _ _ _ _ _ st h=>let ⟨_,q⟩:=st.1;wpAny_pyIter_enum q h
section
variable {X:Cx}
def aXk(K:aZz)(ta:TA):TI:=fun σ H R=>ta σ H fun vs H1=>∃ a xs,vs=[.ref a]/\Rd H1 a (.lst xs)/\R (Ite K a) H1
theorem aH2:bootBuiltins "enumerate" = some (.type "enumerate"):=by decide +kernel
theorem aR2{a:Expr}{ta:TA}{p pos tp:Pos}{elts:List Expr}{x1}(hg:Gl X "enumerate")(hm:X.mg "enumerate" = none)(ha:PA X [a] ta)(hs:starEach [a] X.env=[(false,eval a X.env)]:=by rfl):PI X (.Tuple elts x1 tp) (.Call (.Name "enumerate" p) [a] [] pos) (aXk X.K ta):=by
 intro pins s σ H R I h
 refine Call_ (qO I hg hm aH2 (bBi (thn (ha pos pins s σ H _ I h) fun us s1 ⟨vs,H1,I1,r1,q1⟩=>?_) hs rfl))
 obtain ⟨a,xs,rfl,hr,q⟩:=q1
 obtain ⟨u,rfl,ru⟩:=vals1 r1
 cases (show u=Value.ref a from ru)
 obtain ⟨_,its,n,rv,ho⟩:=hr.ok I1.hok
 refine call_enumerate_1 ho fun h' he hit hz hk=>?_
 refine wpAny_pyIter_enum (s:={ s1 with heap:=h' }) he ?_
 refine ⟨s1.heap.objs.size+1,[s1.heap.objs.size+1,s1.heap.objs.size],_,_,H1,rfl,I1.kept (t':=s1.toks) hk,aIw a _ _ (bD7 (bFz _)),⟨⟨_,he⟩,hit⟩,fun b hb=>?_,q⟩
 have hle:s1.heap.objs.size<=b:=by
  rcases aZ3.mp hb with z | z
  ·rw [z];exact bEo _
  ·rw [bAj.mp z];exact bAf _
 exact I1.fpOk hle (I1.hok.fresh hle)
end
end L2
namespace M
open PySem PySem.Spec PyProof.Rows L2
def rG(k:Nat):List D->List D
 | []=>[]
 | d :: ds=>.tuple [.int (k:Int),d] :: rG (k+1) ds
theorem zS:∀ (ds:List D) (k:Nat),(rG k ds).length=ds.length
 | [],_=>rfl
 | _ :: ds,k=>by unfold rG;rw [aZ2,aZ2,zS ds]
theorem aAs:∀ (ds:List D) (k i:Nat),(rG k ds)[i]? = (ds[i]?).map fun d=>.tuple [.int ((k+i:Nat):Int),d]
 | [],_,_=>by simp [rG]
 | d :: ds,k,0=>by simp [rG]
 | d :: ds,k,i+1=>by
  unfold rG
  rw [aZ6,aZ6,aAs ds (k+1) i]
  have:k+1+i=k+(i+1):=by omega
  rw [this]
def aHz(rs:List Ev):Res (List D):=match rs with
 | [.p (.list ds)]=>.ok (rG 0 ds)
 | _=>.bad
theorem aHo{X:Cx}{E:L2.St->XK}{a:Expr}{fr:En->Res (List Ev)}{p pos tp:Pos}{elts:List Expr}{x1}(hg:Gl X "enumerate")(hm:X.mg "enumerate" = none)(ha:DA X E [a] fr)(hs:starEach [a] X.env=[(false,eval a X.env)]:=by rfl) :
  DI X E (.Tuple elts x1 tp) (.Call (.Name "enumerate" p) [a] [] pos) (yF aHz fr):=by
 obtain ⟨t,q,m⟩:=ha.out
 refine DI.in ⟨_,aR2 hg hm q hs,fun B G0 G W H σ en R hh hs hw=>m B G0 G W H σ en _ hh hs ?_⟩
 have hw:wpR ((fr en).bind _) _ _:=hw
 rw [cU] at hw
 refine bT hw (fun rs hr G1 H1 vs s e=>?_) fun C h=>h
 unfold aHz at hr
 split at hr
 ·rename_i ds
  match vs,e with
  | [v],⟨e1,_⟩ =>
   cases e1 with
   | @lst a xs _ h1 h2 =>
    refine ⟨a,xs,rfl,gL s.gh h1,hr G1 H1 _ s fun G3 H3 k1 k2=>⟨fun i d ed=>?_,?_⟩⟩
    ·rw [aAs,bDx] at ed
     obtain ⟨d',ed,rfl⟩:=ed
     obtain ⟨x,ex,rx⟩:=h2.get' ed
     have sq:SqL X.K H3 a xs:=.inl (gL (k1.trans k2) h1)
     refine ⟨⟨xs,x,sq,ex⟩,fun v H' hy=>?_⟩
     obtain ⟨p,x',hp,rfl,hy,rfl⟩:=hy
     have:=hy xs sq
     rw [ex] at this
     cases this
     have st:=Step.put (o:=.tup [.int i,x]) k2 hp
     refine ⟨_,st,.tup b7 (.cons ?_ (.cons (rx.mono (k1.trans st.g)) .nil))⟩
     have:((0+i:Nat):Int)=(i:Int):=by simp
     rw [this]
     exact .int _
    ·refine ⟨xs,.inl (gL (k1.trans k2) h1),?_⟩
     rw [zS,h2.length]
     exact bAf _
 ·exact hr.elim
section
variable {X:Cx}{E:L2.St->XK}
def aMz(i:Nat)(g:List D->Option (List D)):MS:=fun en=>match en[i]? with
 | some (some (.o (.list ds)))=>match g ds with
  | some es=>some (.nx (en.set i (some (.o (.list es)))))
  | none=>none
 | _=>none
theorem aPc{i:Nat}{st:Stmt}{r:V->List V->Hp->VK->Prop}{g:List D->Option (List D)}(hp:PS X st (aIb (aW5 X.K "list" r (aRt i))))
  (hg:∀ (G H:Hp) (a:Addr) (xs:List V) (ds es:List D) (Q:VK),H a=some (.lst xs)->Reps X.K G xs ds->g ds=some es->(∀ u ys,Reps X.K G ys es->Q u (upd H a (.lst ys)))->r (.ref a) [] H Q):DS X E st (aMz i g):=by
 refine DS.in ⟨_,hp,fun B G0 G W H σ en Dn hh hs hw=>?_⟩
 unfold aMz at hw
 split at hw
 ·rename_i ds ei
  obtain ⟨v,e1,a,o,rfl,e2,e3,e4⟩:=hs.2 i _ ei
  cases e4 with
  | @lst xs _ rp =>
  cases eg:g ds with
  | none=>rw [eg] at hw;exact hw.elim
  | some es =>
   rw [eg] at hw
   refine ⟨_,e1,.inl ⟨rfl,_,SqL.of e3⟩,hg G H a xs ds es _ e3 rp eg fun u ys ry=>?_⟩
   obtain ⟨w1,w2⟩:=pJ (o':=.lst ys) (d':=.list es) hh hs e2 e1 (.lst ry)
   exact hw _ _ _ _ w1 w2
 ·exact hw.elim
theorem Reps.rev{K:aZz}{G:Hp}:∀ {xs:List V} {ds:List D},Reps K G xs ds->Reps K G xs.reverse ds.reverse
 | _,_,.nil=>.nil
 | _,_,.cons h r=>by
  rw [bBz,bBz]
  exact (Reps.rev r).append (.cons h .nil)
theorem Reps.dropLast{K:aZz}{G:Hp}:∀ {xs:List V} {ds:List D},Reps K G xs ds->Reps K G xs.dropLast ds.dropLast
 | _,_,.nil=>.nil
 | _,_,.cons h .nil=>.nil
 | _,_,.cons h (.cons h2 r)=>.cons h (Reps.dropLast (.cons h2 r))
def aWf(i:Nat):MS:=aMz i fun ds=>if ds=[] then none else some ds.dropLast
theorem aUc{i:Nat}{st:Stmt}(hp:PS X st (aIb (aW5 X.K "list" aYv (aRt i)))):DS X E st (aWf i) :=
 aPc hp fun G H a xs ds es Q h rp e q=>by
  split at e
  ·cases e
  ·rename_i hne
   cases e
   have hl:=rp.length
   have hx:xs≠[]:=fun z=>hne (bBh.mp (by rw [<- hl,z];rfl))
   have hpos:xs.length - 1 < xs.length:=Nat.sub_lt (bEp.mpr hx) (by decide)
   exact ⟨a,xs,_,rfl,rfl,h,aZ5 hpos,q _ _ rp.dropLast⟩
def cutD(ds:List D)(lo hi:Option Int):List D:=(ds.drop (HT.sIx ds.length 0 lo)).take (HT.sIx ds.length ds.length hi - HT.sIx ds.length 0 lo)
theorem Reps.cut{K:aZz}{G:Hp}{xs:List V}{ds:List D}(r:Reps K G xs ds)(lo hi:Option Int):Reps K G (aSb xs lo hi) (cutD ds lo hi):=by
 unfold aSb cutD
 rw [r.length]
 exact (r.drop _).take _
def aV1:En->Res (Option Int):=fun _=>.ok none
def mPt(fe:En->Res Ev):En->Res (Option Int):=fun en=>(fe en).bind fun x=>match x.c with
 | .p (.int i)=>.ok (some i)
 | _=>.bad
def tP(K:aZz)(E:L2.St->XK)(f:En->Res (Option Int)):TO:=fun σ H R=>∃ B G0 G W en,SimH B G0 G W H/\SimS K W G H σ en/\wpR (f en) (fun k=>∀ G' H',Step G H G' H'->R k H') (PostX (E σ) G H)
def DP(X:Cx)(E:L2.St->XK)(o:Option Expr)(f:En->Res (Option Int)):Prop:=PO X o (tP X.K E f)
theorem aQl:DP X E none aV1:=fun pins s σ H R I ⟨B,G0,G,W,en,hh,hs,hw⟩=>aRo pins s σ H R I (hw G H (Step.refl hh.gh))
theorem tU{e:Expr}{fe:En->Res Ev}(he:DE X E e fe):DP X E (some e) (mPt fe):=fun pins s σ H R I ⟨B,G0,G,W,en,hh,hs,hw⟩=>by
 obtain ⟨t,p,m⟩:=he.out
 refine aQe p pins s σ H R I (m B G0 G W H σ en _ hh hs ?_)
 unfold mPt at hw
 rw [cU] at hw
 refine bT hw (fun x hx G1 H1 v s1 e1=>?_) fun C h=>h
 obtain ⟨G2,s2,e2⟩:=e1.c s1
 cases ex:x.c with
 | p d =>
  rw [ex] at hx e2
  cases d with
  | int i=>cases e2;exact ⟨i,rfl,hx G2 H1 s2⟩
  | _=>exact hx.elim
 | f d=>rw [ex] at hx;exact hx.elim
 | b d=>rw [ex] at hx;exact hx.elim
 | x C=>rw [ex] at hx;exact hx.elim
def mSl(fe:En->Res Ev)(fl fh:En->Res (Option Int)):En->Res Ev:=fun en=>(fe en).bind fun x=>(fl en).bind fun l=>(fh en).bind fun u=>match g9 x.c with
 | some ds=>.ok (.f (.list (cutD ds l u)))
 | none=>.bad
theorem aPu{e:Expr}{lo hi:Option Expr}{fe:En->Res Ev}{fl fh:En->Res (Option Int)}{p2 pos:Pos}(he:DE X E e fe)(hl:DP X E lo fl)(hu:DP X E hi fh):DE X E (.Subscript e (.Slice lo hi none p2) pos) (mSl fe fl fh):=by
 obtain ⟨t,p,m⟩:=he.out
 refine DE.in ⟨_,aNc aPt p hl hu,fun B G0 G W H σ en Q hh hs hw=>?_⟩
 unfold mSl at hw
 refine m B G0 G W H σ en _ hh hs (DE.go hw fun x G1 H1 v s1 e1 h1=>?_)
 refine ⟨B,G0,G1,W,en,hh.step s1,hs.step s1,?_⟩
 rw [cU] at h1
 refine bT h1 (fun l hx G2 H2 s2=>?_) fun C h=>h
 refine ⟨B,G0,G2,W,en,(hh.step s1).step s2,(hs.step s1).step s2,?_⟩
 have hx':=bT hx (fun r h=>h.step s2) (fun C h=>h.step s2)
 rw [cU] at hx'
 refine bT hx' (fun u hy G3 H3 s3=>?_) fun C h=>h
 cases ex:g9 x.c with
 | none=>rw [ex] at hy;exact hy.elim
 | some ds =>
  rw [ex] at hy
  obtain ⟨a,xs,rfl,rd,rp⟩:=n5 (Hs:=H) s3.gh (e1.step (s2.trans s3)) ex
  exact ⟨a,xs,rfl,.inl rd,fun p hp=>hy _ _ _ (s3.trans (Step.lay s3.gh hp)) ⟨p,_,rfl,s3.h.free hp,s3.gh.free hp,b7,.lst (rp.cut l u)⟩⟩
end
end M
namespace L2
open PySem PySem.Spec PyProof.Rows
def Itz(K:aZz)(a b:Addr):It :=
 ⟨fun i H=>∃ xs ys x y,SqL K H a xs/\xs[i]? = some x/\SqL K H b ys/\ys[i]? = some y,
   fun i H v H'=>∃ p x y,H p=none/\v=.ref p/\(∀ xs,SqL K H a xs->xs[i]? = some x)/\(∀ ys,SqL K H b ys->ys[i]? = some y)/\H'=upd H p (.tup [x,y]),
   fun i H=>∃ xs ys,SqL K H a xs/\SqL K H b ys/\(xs.length<=i\/ys.length<=i)⟩
theorem aMm{P:Program}{w:World}{K:aZz}{elts:List Expr}{x1}{tp:Pos}{l1 l2 z TI TO i1 i2:Addr}(D:ZipApart z TI TO i1 i2 l1 l2):Turn P w K (.Tuple elts x1 tp) (Itz K l1 l2) [z,TI,TO,i1,i2] z
  (fun i h=>IsZip h z TI TO Value.none/\IsPair h TI (.ref i1) (.ref i2)/\(∃ a b,IsPair h TO a b)/\h.IsListIter i1 l1 i/\h.IsListIter i2 l2 i) where
 mem:=by simp
 obj:=fun i h st b hb=>by
  obtain ⟨s1,s2,⟨_,_,s3⟩,⟨o4,q4,_,d4⟩,⟨o5,q5,_,d5⟩⟩:=st
  simp only [aZ3,bBt,bD6] at hb
  rcases hb with rfl | rfl | rfl | rfl | rfl
  ·exact ⟨_,s1,fun v z=>nomatch z⟩
  ·exact ⟨_,s2,fun v z=>nomatch z⟩
  ·exact ⟨_,s3,fun v z=>nomatch z⟩
  ·exact ⟨o4,q4,fun v z=>by rw [d4] at z;cases z⟩
  ·exact ⟨o5,q5,fun v z=>by rw [d5] at z;cases z⟩
 keep:=fun i h h' st k=>by
  obtain ⟨s1,s2,⟨a,b,s3⟩,s4,s5⟩:=st
  exact ⟨k _ (by simp) _ s1,k _ (by simp) _ s2,⟨a,b,k _ (by simp) _ s3⟩,s4.at fun o q=>k _ (by simp) o q,s5.at fun o q=>k _ (by simp) o q⟩
 item:=by
  intro X hP hw hK hc i pins s σ H E I hf st hg
  subst hP hw hK
  obtain ⟨s1,s2,⟨a0,b0,s3⟩,s4,s5⟩:=st
  obtain ⟨xs,ys,x,y,hq,hx,hq2,hy⟩:=hg
  obtain ⟨its,rv,p,hz⟩:=I.list hq
  obtain ⟨its2,rv2,p2,hz2⟩:=I.list hq2
  obtain ⟨u,hu,ru⟩:=rv.get hx
  obtain ⟨u2,hu2,ru2⟩:=rv2.get hy
  have hfz:=hf z (by simp)
  have hfT:=hf TO (by simp)
  have hf1:=hf i1 (by simp)
  have hf2:=hf i2 (by simp)
  refine wpAny_pyNext_zip_item D s1 s2 s3 s4 s5 p.isList p2.isList (x:=u) (y:=u2) (by simpa using hu) (by simpa using hu2) fun h₁ z1 to1 it1 it2 tt1 hz₁ hk₁=>?_
  refine ⟨_,rfl,wpAny_letOwnedTupleGo_zip z1 fun h₂ z2 hs₂=>?_⟩
  have hs₂:Heap.SameBut z h₁ h₂:=hs₂
  have hn:H s.heap.objs.size=none:=I.fresh
  have nn:∀ b o,H b=some o->b≠s.heap.objs.size:=fun b o q=>dS q hn
  have eE:z < s.heap.objs.size:=aZ9 s1
  have keep:∀ b o,b∉[z,TO,i1,i2]->s.heap.get? b=some o->h₂.get? b=some o:=fun b o hb q=>by
   simp only [aZ3,bBt,bD6,not_or] at hb
   exact (hs₂.2 b hb.1).trans (hk₁ b o hb.1 hb.2.1 hb.2.2.1 hb.2.2.2 q)
  have trk:∀ b o,H b=some o->b∉[z,TO,i1,i2]:=fun b o q hb=>by
   have hm:b∈[z,TI,TO,i1,i2]:=by
    simp only [aZ3,bBt,bD6] at hb ⊢
    rcases hb with h | h | h | h<;>simp [h]
   rw [(hf b hm).1] at q;cases q
  refine ⟨.ref s.heap.objs.size,upd H s.heap.objs.size (.tup [x,y]),?_,rfl,⟨_,x,y,hn,rfl,fun zs hz'=>by rw [I.list_inj hz' hq];exact hx,fun zs hz'=>by rw [I.list_inj hz' hq2];exact hy,rfl⟩,⟨z2,keep _ _ ?_ s2,⟨_,_,(hs₂.2 _ D.TOz).trans to1⟩,it1.at fun o q=>(hs₂.2 _ D.i1z).trans q,it2.at fun o q=>(hs₂.2 _ D.i2z).trans q⟩,fun b hb=>?_⟩
  ·refine Inv.step (X:=X) (pins:=pins) (σ:=σ) (H:=H) (s:=s) (H':=upd H s.heap.objs.size (.tup [x,y])) (h':=h₂) (g':=s.gens) (d':=s.drawn) (t':=s.toks) (ch:=[z,TO,i1,i2]) I (fun b hb=>?_) (fun b o _ _ hb q _=>keep b o hb q) (fun b o _ _ hb q _=>⟨o.slots,keep b o hb q⟩) (fun b o _ q n=>?_) (fun b o hb q=>⟨o,keep b o hb q⟩)
    (fun b ys q=>?_) (fun b o v q=>?_) (fun b ps q=>⟨#[],?_⟩) (fun m hm=>?_) (fun b v q=>?_) I.bare
   ·have hm:b∈[z,TI,TO,i1,i2]:=by
     simp only [aZ3,bBt,bD6] at hb ⊢
     rcases hb with h | h | h | h<;>simp [h]
    obtain ⟨f0,f1,f2,f3,f4,f5⟩:=hf b hm
    exact ⟨f3,f1,f4,f5⟩
   ·rw [bK (bAu (aZ9 q))];exact n
   ·rw [bK (nn b _ q)];exact q
   ·rw [bK (nn b _ q)];exact q
   ·rw [bK (nn b _ q),q];simp
   ·obtain ⟨o,es,ep,ho,r⟩:=hm
    refine ⟨o,es,ep,keep _ o (fun zz=>?_) ho,r⟩
    simp only [aZ3,bBt,bD6] at zz
    rcases zz with h | h | h | h
    ·exact hfz.2.1 h.symm
    ·exact hfT.2.1 h.symm
    ·exact hf1.2.1 h.symm
    ·exact hf2.2.1 h.symm
   ·by_cases hb:b=s.heap.objs.size
    ·subst hb
     rw [b7] at q
     cases q
     refine ⟨by show 2<=sizeLine;decide,[u,u2],.cons ru (.cons ru2 .nil),_,(hs₂.2 _ (bD7 eE)).trans tt1,rfl,_,rfl⟩
    ·rw [bK hb] at q
     refine (I.hok b v q).stay (fun c w' hc q'=>keep c w' ?_ q') (fun c q'=>?_) (fun c ys q'=>?_) fun c ys q'=>by rw [bK (nn c _ q')];exact q'
     ·rcases hc with zz | zz
      ·rw [zz];exact trk b v q
      ·exact trk c _ zz
     ·rw [bK (nn c _ q')];exact q'
     ·rw [bK (nn c _ q')];exact q'
  ·simp only [aZ3,bBt,bD6,not_or]
   exact ⟨D.TIz,D.TITO,D.TIi1,D.TIi2⟩
  ·have hb':=(hf b hb).1
   have:b≠s.heap.objs.size:=by
    simp only [aZ3,bBt,bD6] at hb
    obtain ⟨o4,q4,_⟩:=id s4
    obtain ⟨o5,q5,_⟩:=id s5
    rcases hb with h | h | h | h | h<;>rw [h]
    ·exact bAu eE
    ·exact bAu (aZ9 s2)
    ·exact bAu (aZ9 s3)
    ·exact bAu (aZ9 q4)
    ·exact bAu (aZ9 q5)
   rw [bK this];exact hb'
 done:=by
  intro X hP hw hK hc i pins s σ H E I hf st hg
  subst hP hw hK
  obtain ⟨s1,s2,⟨a0,b0,s3⟩,s4,s5⟩:=st
  obtain ⟨xs,ys,hq,hq2,hx⟩:=hg
  obtain ⟨its,rv,p,hz⟩:=I.list hq
  obtain ⟨its2,rv2,p2,hz2⟩:=I.list hq2
  have hl:=rv.length
  have hl2:=rv2.length
  refine wpAny_pyNext_zip_end (I.ok.hd hc) D s1 s2 s3 s4 s5 p.isList p2.isList (hx.imp (fun h=>by simp;omega) fun h=>by simp;omega) fun h' hk=>⟨rfl,?_⟩
  have keep:∀ b o,b∉[z,TO,i1,i2]->s.heap.get? b=some o->h'.get? b=some o:=fun b o hb q=>by
   simp only [aZ3,bBt,bD6,not_or] at hb
   exact hk b o hb.1 hb.2.1 hb.2.2.1 hb.2.2.2 q
  have hin:∀ b,b∈[z,TO,i1,i2]->b∈[z,TI,TO,i1,i2]:=fun b hb=>by
   simp only [aZ3,bBt,bD6] at hb ⊢
   rcases hb with h | h | h | h<;>simp [h]
  have trk:∀ b o,H b=some o->b∉[z,TO,i1,i2]:=fun b o q hb=>by rw [(hf b (hin b hb)).1] at q;cases q
  refine Inv.step (X:=X) (pins:=pins) (σ:=σ) (H:=H) (s:=s) (H':=H) (h':=h') (g':=s.gens) (d':=s.drawn) (t':=s.toks) (ch:=[z,TO,i1,i2]) I (fun b hb=>?_) (fun b o _ _ hb q _=>keep b o hb q) (fun b o _ _ hb q _=>⟨o.slots,keep b o hb q⟩) (fun b o _ q n=>n) (fun b o hb q=>⟨o,keep b o hb q⟩)
   (fun _ _ q=>q) (fun _ _ _ q=>q) (fun b ps q=>⟨#[],by rw [q];simp⟩) (fun m hm=>?_) (fun b v q=>?_) I.bare
  ·obtain ⟨f0,f1,f2,f3,f4,f5⟩:=hf b (hin b hb)
   exact ⟨f3,f1,f4,f5⟩
  ·obtain ⟨o,es,ep,ho,r⟩:=hm
   exact ⟨o,es,ep,keep _ o (fun zz=>(hf _ (hin _ zz)).2.1 rfl) ho,r⟩
  ·refine (I.hok b v q).stay (fun c w' hc q'=>keep c w' ?_ q') (fun _ q'=>q') fun _ _ q'=>q'
   rcases hc with zz | zz
   ·rw [zz];exact trk b v q
   ·exact trk c _ zz
 self:=fun _ _ _ _ _ st h=>wpAny_pyIter_zip st.1 h
section
variable {X:Cx}
def aZb(K:aZz)(ta:TA):TI:=fun σ H R=>ta σ H fun vs H1=>∃ a b xs ys,vs=[.ref a,.ref b]/\Rd H1 a (.lst xs)/\Rd H1 b (.lst ys)/\R (Itz K a b) H1
theorem aO8:bootBuiltins "zip" = some (.type "zip"):=by decide +kernel
theorem aTg{a b:Expr}{ta:TA}{p pos tp:Pos}{elts:List Expr}{x1}(hg:Gl X "zip")(hm:X.mg "zip" = none)(ha:PA X [a,b] ta)(hs:starEach [a,b] X.env=[(false,eval a X.env),(false,eval b X.env)]:=by rfl)(hs2:starEach [b] X.env=[(false,eval b X.env)]:=by rfl):PI X (.Tuple elts x1 tp) (.Call (.Name "zip" p) [a,b] [] pos) (aZb X.K ta):=by
 intro pins s σ H R I h
 refine Call_ (qO I hg hm aO8 (bBi (thn (ha pos pins s σ H _ I h) fun us s1 ⟨vs,H1,I1,r1,q1⟩=>?_) (by rw [hs,hs2]) (by rw [hs2];rfl)))
 obtain ⟨a,b,xs,ys,rfl,hr,hr2,q⟩:=q1
 obtain ⟨u,u2,rfl,ru,ru2⟩:=vals2 r1
 cases (show u=Value.ref a from ru)
 cases (show u2=Value.ref b from ru2)
 obtain ⟨_,its,n,rv,ho⟩:=hr.ok I1.hok
 obtain ⟨_,its2,n2,rv2,ho2⟩:=hr2.ok I1.hok
 refine call_zip_2 ⟨_,ho,rfl,_,rfl⟩ ⟨_,ho2,rfl,_,rfl⟩ fun h' he hp1 hp2 hit hit2 hz hk=>?_
 refine wpAny_pyIter_zip (s:={ s1 with heap:=h' }) he ?_
 refine ⟨s1.heap.objs.size+4,[s1.heap.objs.size+4,s1.heap.objs.size+2,s1.heap.objs.size+3,s1.heap.objs.size,s1.heap.objs.size+1],_,_,H1,rfl,I1.kept (t':=s1.toks) hk,aMm (zipApart_new (aZ9 ho) (aZ9 ho2)),⟨he,hp1,⟨_,_,hp2⟩,hit,hit2⟩,fun b hb=>?_,q⟩
 have hle:s1.heap.objs.size<=b:=by
  simp only [aZ3,bBt,bD6] at hb
  rcases hb with h | h | h | h | h<;>rw [h]
  ·exact bEd _ _
  ·exact bEd _ _
  ·exact bEd _ _
  ·exact bAf _
  ·exact bEd _ _
 exact I1.fpOk hle (I1.hok.fresh hle)
end
end L2
namespace M
open PySem PySem.Spec PyProof.Rows L2
def aFw:List D->List D->List D
 | x :: xs,y :: ys=>.tuple [x,y] :: aFw xs ys
 | _,_=>[]
theorem aEk:∀ (xs ys:List D) (i:Nat),(aFw xs ys)[i]? = match xs[i]?,ys[i]? with
  | some x,some y=>some (.tuple [x,y])
  | _,_=>none
 | [],_,i=>by simp [aFw]
 | _ :: _,[],i=>by cases i<;>simp [aFw]
 | x :: xs,y :: ys,0=>by simp [aFw]
 | x :: xs,y :: ys,i+1=>by
  unfold aFw
  rw [aZ6,aZ6,aZ6,aEk xs ys i]
theorem aDy:∀ (xs ys:List D),xs.length<=(aFw xs ys).length\/ys.length<=(aFw xs ys).length
 | [],_=>.inl (bBo _)
 | _ :: _,[]=>.inr (bBo _)
 | x :: xs,y :: ys=>by
  unfold aFw
  rcases aDy xs ys with h | h
  ·exact .inl (bF0 h)
  ·exact .inr (bF0 h)
def aSa(rs:List Ev):Res (List D):=match rs with
 | [.p (.list xs),.p (.list ys)]=>.ok (aFw xs ys)
 | _=>.bad
theorem aVj{X:Cx}{E:L2.St->XK}{a b:Expr}{fr:En->Res (List Ev)}{p pos tp:Pos}{elts:List Expr}{x1}(hg:Gl X "zip")(hm:X.mg "zip" = none)(ha:DA X E [a,b] fr)(hs:starEach [a,b] X.env=[(false,eval a X.env),(false,eval b X.env)]:=by rfl)(hs2:starEach [b] X.env=[(false,eval b X.env)]:=by rfl) :
  DI X E (.Tuple elts x1 tp) (.Call (.Name "zip" p) [a,b] [] pos) (yF aSa fr):=by
 obtain ⟨t,q,m⟩:=ha.out
 refine DI.in ⟨_,aTg hg hm q hs hs2,fun B G0 G W H σ en R hh hs hw=>m B G0 G W H σ en _ hh hs ?_⟩
 have hw:wpR ((fr en).bind _) _ _:=hw
 rw [cU] at hw
 refine bT hw (fun rs hr G1 H1 vs s e=>?_) fun C h=>h
 unfold aSa at hr
 split at hr
 ·rename_i ds es
  match vs,e with
  | [v,v2],⟨e1,e2,_⟩ =>
   cases e1 with
   | @lst a xs _ h1 h2 =>
    cases e2 with
    | @lst b ys _ g1 g2 =>
     refine ⟨a,b,xs,ys,rfl,gL s.gh h1,gL s.gh g1,hr G1 H1 _ s fun G3 H3 k1 k2=>⟨fun i d ed=>?_,?_⟩⟩
     ·rw [aEk] at ed
      cases ex0:ds[i]? with
      | none=>rw [ex0] at ed;cases ed
      | some d1 =>
       cases ey0:es[i]? with
       | none=>rw [ex0,ey0] at ed;cases ed
       | some d2 =>
        rw [ex0,ey0] at ed
        cases ed
        obtain ⟨x,ex,rx⟩:=h2.get' ex0
        obtain ⟨y,ey,ry⟩:=g2.get' ey0
        have sq:SqL X.K H3 a xs:=.inl (gL (k1.trans k2) h1)
        have sq2:SqL X.K H3 b ys:=.inl (gL (k1.trans k2) g1)
        refine ⟨⟨xs,ys,x,y,sq,ex,sq2,ey⟩,fun v H' hy=>?_⟩
        obtain ⟨p,x',y',hp,rfl,hx',hy',rfl⟩:=hy
        have e1:=hx' xs sq
        have e2:=hy' ys sq2
        rw [ex] at e1
        rw [ey] at e2
        cases e1
        cases e2
        have st:=Step.put (o:=.tup [x,y]) k2 hp
        exact ⟨_,st,.tup b7 (.cons (rx.mono (k1.trans st.g)) (.cons (ry.mono (k1.trans st.g)) .nil))⟩
     ·refine ⟨xs,ys,.inl (gL (k1.trans k2) h1),.inl (gL (k1.trans k2) g1),?_⟩
      rw [h2.length,g2.length]
      exact aDy ds es
 ·exact hr.elim
section
variable {X:Cx}{E:L2.St->XK}{e:Expr}
def qH(i:Nat)(fe:En->Res Ev):MS:=fun en=>match en[i]? with
 | some (some (.o (.list ds)))=>match fe en with
  | .ok (.f (.list es))=>if ds.length+es.length<=100000 then some (.nx (en.set i (some (.o (.list (ds++es)))))) else none
  | .exc C=>some (.ex C en)
  | _=>none
 | _=>none
theorem yL{i:Nat}{fe:En->Res Ev}{st:Stmt}(he:DE X E e fe)(hp:∀ t,PE X e t->PS X st (aIb (tBM X.K "list" aGm (aRt i) (aRx t aXq)))):DS X E st (qH i fe):=by
 obtain ⟨t,q,mm⟩:=he.out
 refine DS.in ⟨_,hp t q,fun B G0 G W H σ en Dn hh hs hw=>?_⟩
 unfold qH at hw
 split at hw
 ·rename_i ds ei
  obtain ⟨v,e1,a,o,rfl,e2,e3,e4⟩:=hs.2 i _ ei
  cases e4 with
  | @lst xs _ rp =>
  refine ⟨_,e1,.inl ⟨rfl,_,SqL.of e3⟩,mm B G0 G W H σ en _ hh hs ?_⟩
  cases ef:fe en with
  | bad=>rw [ef] at hw;exact hw
  | exc C=>rw [ef] at hw;exact fun G1 H1 s=>hw G1 W H1 σ (hh.step s) (hs.step s)
  | ok r =>
   rw [ef] at hw
   cases r with
   | p d=>exact hw.elim
   | b d=>exact hw.elim
   | x C=>exact hw.elim
   | f d =>
    cases d with
    | list es =>
     dsimp only at hw
     split at hw
     ·rename_i hl
      rintro G1 H1 y s ⟨b,ob,rfl,k1,k2,k3,k4⟩
      cases k4 with
      | @lst zs _ rz =>
      have hx:=s.h _ _ e3
      refine ⟨a,b,xs,zs,rfl,rfl,hx,k3,bA5 (by rw [rp.length,rz.length];exact hl) (by decide),?_⟩
      obtain ⟨w1,w2⟩:=pJ (o':=.lst (xs++zs)) (d':=.list (ds++es)) (hh.step s) (hs.step s) e2 e1 (.lst ((rp.mono s.g).append rz))
      exact hw _ _ _ _ w1 w2
     ·exact hw.elim
    | _=>exact hw.elim
 ·exact hw.elim
end
section
variable {X:Cx}{K:aZz}
def aYn(K:aZz)(ng:Bool):R2:=fun x y H Q=>∃ d ds,Rep K H x d/\Rep K H y (.list ds)/\SeqAt.shaped d=true/\SeqAt.shaped (.list ds)=true/\(∀ z∈ds,SeqAt.noMix z d=true)/\Q (.bl (if ng then !decide (countIn d ds≠0) else decide (countIn d ds≠0))) H
theorem aBn{K:aZz}(hu:X.A.units+65 < cLine):OpR X (compareOp .NotIn) (aYn K true):=by
 intro pins s σ H x y v u Q I rx ry h
 obtain ⟨d,ds,h1,h2,o1,o2,hm,q⟩:=h
 obtain ⟨as,r1⟩:=h1.reads I.hok (bBd.mp o1).1 rx
 obtain ⟨bs,r2⟩:=h2.reads I.hok (bBd.mp o2).1 ry
 exact notIn_list_dataH r2 r1 o2 o1 hu hm ⟨.bl _,H,I,rfl,q⟩
open Classical in
noncomputable def aDt(ng:Bool)(x y:Ev):Res Ev:=match dat x,dat y with
 | some d,some (.list ds)=>if SeqAt.shaped d=true/\SeqAt.shaped (.list ds)=true/\∀ z∈ds,SeqAt.noMix z d=true then .ok (.p (.bool (if ng then !decide (countIn d ds≠0) else decide (countIn d ds≠0)))) else .bad
 | _,_=>.bad
theorem aBm{ng:Bool}:NoX (aDt ng):=by
 intro x y A h
 unfold aDt at h
 split at h
 ·split at h<;>cases h
 ·cases h
theorem aGt{ng:Bool}:OpM K (aYn K ng) (aDt ng):=by
 intro W G H v u x y Q gh hx hy hw
 unfold aDt at hw
 split at hw
 ·rename_i d ds e1 e2
  split at hw
  ·rename_i hs
   exact ⟨d,ds,hx.read gh e1,hy.read gh e2,hs.1,hs.2.1,hs.2.2,hw G H _ (Step.refl gh) (.bl _)⟩
  ·exact hw.elim
 ·exact hw.elim
end
theorem u65{k:Nat}{A:Around}(hr:Room k A):A.units+65 < cLine:=by have:=hr.un;omega
end M
namespace L2
open PySem PySem.Spec PyProof.Rows
theorem aF8:typeLookup (Value.type "list_reverseiterator") (Str.ofString "__len__")=pure none:=by rfl
theorem aK0:typeLookup (Value.type "list_reverseiterator") (Str.ofString "__length_hint__")=pure (some (Value.builtin "list_reverseiterator.__length_hint__")):=by rfl
theorem aO3:isSubtype (Value.type "list_reverseiterator") (Value.type "list_reverseiterator")=pure true:=by rfl
theorem aHe{prog:Program}{w:World}{A:Around}(hh:A.handled=none){I l:Addr}(hne:l≠I)(items:Array Value) :
  WalksS prog w A I [I,l] [I] Eq items.size (fun i v=>items[items.size - 1 - i]? = some v) (fun i s=>s.heap.IsRevIter I l ((items.size:Int) - 1 - i)/\s.heap.IsList l items) where
 sub:=fun b hb=>by rw [bAj.mp hb];exact .head _
 grefl:=fun _=>rfl
 gtrans:=fun _ _ _ h1 h2=>h1.trans h2
 frame:=fun i s h' tk st _ k=>by
  obtain ⟨⟨o,h1,h2,h3⟩,⟨p,h4,h5⟩⟩:=st
  exact ⟨⟨o,k I (.head _) o h1,h2,h3⟩,⟨p,k l (.tail _ (.head _)) p h4,h5⟩⟩
 item:=fun i s Q E hi st k=>by
  obtain ⟨st1,st2⟩:=st
  have e:((items.size:Int) - 1 - i)=((items.size - 1 - i:Nat):Int):=by omega
  rw [e] at st1
  have hx:items.size - 1 - i < items.size:=by omega
  refine wpAny_pyNext_rev_item st1 st2 (x:=items[items.size - 1 - i]) (by simp [hx]) fun h' g1 g2=>?_
  refine k _ _ (by simp [hx]) ⟨?_,?_⟩ ⟨fun b o hb q=>?_,rfl,rfl,rfl,bAf _⟩
  ·have e2:((items.size - 1 - i:Nat):Int) - 1=(items.size:Int) - 1 - ((i+1:Nat):Int):=by omega
   rw [<- e2]
   exact g1
  ·obtain ⟨p,h4,h5⟩:=st2
   exact ⟨p,(g2.2 l hne).trans h4,h5⟩
  ·exact (g2.2 b (fun z=>hb (by rw [z];exact .head _))).trans q
 done:=fun s Q E st k=>by
  obtain ⟨st1,st2⟩:=st
  have e:((items.size:Int) - 1 - (items.size:Nat)) = -1:=by omega
  rw [e] at st1
  exact wpAny_pyNext_rev_end hh st1 fun h' g=>k _ ⟨fun b o hb q=>g b o (fun z=>hb (by rw [z];exact .head _)) q,rfl,rfl,rfl,bAf _⟩
 self:=fun i s Q E st h=>wpAny_pyIter_revIter st.1 h
theorem aL8{prog:Program}{w:World}{A:Around}{E:Value->Shared->Prop}{s:Shared}{I:Addr}{Q:Bool->Shared->Prop}(t:s.TypeIs (.ref I) "list_reverseiterator")(q:Q false s):wpAny (model prog w) A (Builtin.List.listLengthHint (.ref I)) Q E s:=by
 unfold Builtin.List.listLengthHint
 refine aZ1 (wpAny_specialOf t aF8 ?_)
 refine aZ1 (wpAny_specialOf t aK0 ?_)
 refine aZ1 (wpAny_isInstance t aO3 ?_)
 exact bAl q
theorem aFh{prog:Program}{w:World}{A:Around}(hh:A.in1.handled=none){s:Shared}{R:Result->Shared->Prop}{I l:Addr}{items:Array Value}(hne:l≠I)(hI:s.heap.IsRevIter I l ((items.size:Int) - 1))(hl:s.heap.IsList l items)(S:Addr)(hS1:S≠I)(hS2:S≠l)(res:Value)(c₀:Nat)
  (hS:s.heap.get? S=some { cls:=Value.type "list",data:=Data.seq #[] c₀ }) (hz:items.size<=sizeLine)
  (k:∀ (s':Shared) (acc':Array Value) (c':Nat),Moved [S,I] Eq s s'->s'.heap.get? S=some { cls:=Value.type "list",data:=Data.seq acc' c' }->ItemsOf (fun i v=>items[items.size - 1 - i]? = some v) acc' items.size->R (.ok (.ret res)) s') :
  wpAny (model prog w) A.in1 (Builtin.List.listExtendWith (.ref S) (.ref I) res) (fun fin s'=>match fin with
   | Fin.done f=>R (.ok f) s'
   | Fin.again c'=>c'.quiet=true/\codeAny (model prog w) A c' R s') (fun e s'=>R (.error e) s') s:=by
 have t:s.TypeIs (.ref I) "list_reverseiterator":=by
  obtain ⟨o,h1,h2,_⟩:=hI
  exact ⟨o,h1,h2⟩
 unfold Builtin.List.listExtendWith
 refine aZ1 (wpAny_typeOf t ?_)
 have e:(Builtin.List.listSameRef (.ref S) (.ref I) || Value.type "list_reverseiterator" == Value.type "list" || Value.type "list_reverseiterator" == Value.type "tuple")=false:=by
  have:(S == I)=false:=bF8 hS1
  show ((S == I) || _ || _)=false
  rw [this]
  decide
 rw [e,bAg (by decide)]
 refine aZ1 (wpAny_pyIter_revIter hI ?_)
 refine aZ1 (bDa (aL8 t ?_))
 refine bAl ?_
 refine ⟨bEi F.plain_extend_loop _,?_⟩
 exact codeAny_extend_loopS (aHe hh hne items) hz S (by simp [hS1,hS2]) res items.size 0 s #[] c₀ rfl (bBo _) ⟨by simpa using hI,hl⟩ hS ⟨rfl,fun j v h=>by simp at h⟩ k
theorem xV{prog:Program}{w:World}{A:Around}{E:Value->Shared->Prop}(hh:A.in1.in1.handled=none){s:Shared}{Q:Value->Shared->Prop}{I l:Addr}{items:Array Value}(hne:l≠I)(hI:s.heap.IsRevIter I l ((items.size:Int) - 1))(hl:s.heap.IsList l items)(hz:items.size<=sizeLine)
  (k:∀ (s':Shared) (acc':Array Value) (c':Nat),(∀ b o,b≠I->s.heap.get? b=some o->s'.heap.get? b=some o)->s'.gens=s.gens->s'.drawn=s.drawn->s'.os=s.os->s'.heap.get? s.heap.objs.size=some { cls:=Value.type "list",data:=Data.seq acc' c' }->ItemsOf (fun i v=>items[items.size - 1 - i]? = some v) acc' items.size->Q (.ref s.heap.objs.size) s') :
  wpAny (model prog w) A (call (.type "list") [.ref I]) Q E s:=by
 obtain ⟨oI,hI1,hI2,hI3⟩:=id hI
 obtain ⟨ol,hl1,hl2⟩:=id hl
 have lI:I < s.heap.objs.size:=aZ9 hI1
 have ll:l < s.heap.objs.size:=aZ9 hl1
 refine callType_codes F.called_list (F.typeCall_list_1 _) F.entry_list_init (code_list_new _ ?_) ?_ (Q₁:=fun obj s₁=>obj=.ref s.heap.objs.size/\s₁={ s with heap:=s.heap.push { cls:=Value.type "list",data:=Data.seq #[] } })
 ·exact ⟨rfl,rfl⟩
 ·rintro obj s₁ ⟨rfl,rfl⟩
  have hS:(s.heap.push { cls:=Value.type "list",data:=Data.seq #[] }).get? s.heap.objs.size=some { cls:=Value.type "list",data:=Data.seq #[] }:=bAx s.heap rfl
  refine ⟨⟨_,hS,rfl⟩,F.args_list_init_2 _ _,?_⟩
  have hI':(s.heap.push { cls:=Value.type "list",data:=Data.seq #[] }).get? I=some oI:=aZ4 _ hI1
  have hl':(s.heap.push { cls:=Value.type "list",data:=Data.seq #[] }).get? l=some ol:=aZ4 _ hl1
  have u1:((s.heap.push { cls:=Value.type "list",data:=Data.seq #[] }).update s.heap.objs.size (Obj.mapSeq fun _=>#[])).get? s.heap.objs.size=some { cls:=Value.type "list",data:=Data.seq #[] }:=(bC5 _ hS rfl).trans rfl
  have u2:∀ b o,b≠s.heap.objs.size->(s.heap.push { cls:=Value.type "list",data:=Data.seq #[] }).get? b=some o->((s.heap.push { cls:=Value.type "list",data:=Data.seq #[] }).update s.heap.objs.size (Obj.mapSeq fun _=>#[])).get? b=some o:=fun b o hb q=>(bCn _ _ (bD0 hb)).trans q
  refine aZ1 ?_
  unfold Builtin.List.listItems
  refine aZ1 (bE9 hS rfl (bAl ?_))
  refine aZ1 (bEq hS rfl ?_ (by decide) (by decide))
  refine aZ1 (bFs ?_)
  refine aFh (A:=A.in1) hh hne ⟨oI,u2 I oI (bAu lI) hI',hI2,hI3⟩ ⟨ol,u2 l ol (bAu ll) hl',hl2⟩ s.heap.objs.size (bD7 lI) (bD7 ll) .none 0 u1 hz fun s' acc' c' mv g it=>?_
  exact ⟨rfl,k s' acc' c' (fun b o hb q=>mv.heap b o (by
   have:b≠s.heap.objs.size:=bAu (aZ9 q)
   simp [hb,this]) (u2 b o (bAu (aZ9 q)) (aZ4 _ q))) mv.gens.symm mv.drawn mv.os g it⟩
section
variable {X:Cx}
theorem aR0:bootBuiltins "reversed" = some (.type "reversed"):=by decide +kernel
theorem aLu:bootBuiltins "list" = some (.type "list"):=by decide +kernel
def tLR(K:aZz)(te:TE):TE:=fun σ H Q=>te σ H fun x H1=>∃ a xs,x=.ref a/\SqL K H1 a xs/\∀ l,H1 l=none->Q (.ref l) (upd H1 l (.lst xs.reverse))
theorem aM0{xs:List V}{its:List Value}(r:Vals xs its){acc:Array Value}(h:ItemsOf (fun i v=>its.toArray[its.toArray.size - 1 - i]? = some v) acc its.toArray.size):acc.toList=its.reverse:=by
 obtain ⟨h1,h2⟩:=h
 have h1:acc.size=its.length:=h1.trans (bAe ..)
 apply bDb
 intro i
 rw [bC3]
 by_cases hi:i < its.length
 ·have hx:i < acc.size:=by omega
  have this:=h2 i acc[i] (by simp [hx])
  have this:its.toArray[its.toArray.size - 1 - i]? = some acc[i]:=this
  rw [bE7 hx,List.getElem?_reverse hi]
  rw [bAe,List.getElem?_toArray] at this
  exact this.symm
 ·rw [bF6 (by omega),bBr (by rw [bCj];omega)]
theorem qS:∀ {xs:List V} {us:List Value},Vals xs us->Vals xs.reverse us.reverse
 | _,_,.nil=>.nil
 | _,_,.cons r t=>by
  rw [bBz,bBz]
  exact (qS t).append (.cons r .nil)
theorem aFo{e:Expr}{te:TE}{p1 p2 pos1 pos2:Pos}(hc:X.calm=true)(hg1:Gl X "list")(hm1:X.mg "list" = none)(hg2:Gl X "reversed")(hm2:X.mg "reversed" = none)(he:PE X e te)
  (hs1:starEach [.Call (.Name "reversed" p2) [e] [] pos2] X.env=(false,eval (.Call (.Name "reversed" p2) [e] [] pos2) X.env) :: starEach [] X.env:=by rfl) (hs2:starEach [e] X.env=(false,eval e X.env) :: starEach [] X.env:=by rfl) :
  PE X (.Call (.Name "list" p1) [.Call (.Name "reversed" p2) [e] [] pos2] [] pos1) (tLR X.K te):=by
 intro pins s σ H Q I h
 refine bC0 (qO I hg1 hm1 aLu (bBi ?_ hs1 rfl))
 rw [hs1]
 show wpAny _ _ (spliced ((false,eval _ X.env) :: backTo pos1 (starEach [] X.env))) _ _ s
 refine bE1 (bC0 (qO I hg2 hm2 aR0 (bBi ?_ hs2 rfl)))
 rw [hs2]
 show wpAny _ _ (spliced ((false,eval _ X.env) :: backTo pos2 (starEach [] X.env))) _ _ s
 refine bE1 (thn (he pins s σ H _ I h) fun u s1 ⟨x,H1,I1,r1,a,xs,ex,hq,q⟩=>bFd ?_)
 subst ex
 cases (show u=Value.ref a from r1)
 obtain ⟨its,rv,pl,hz⟩:=I1.list hq
 refine call_reversed_list pl.isList (bFd ?_)
 have hlen:=rv.length
 have kp:∀ b o,s1.heap.get? b=some o->(s1.heap.push (revObj a ((its.toArray.size:Int) - 1))).get? b=some o:=fun b o q=>aZ4 _ q
 have I2:Inv X pins σ H1 { s1 with heap:=s1.heap.push (revObj a ((its.toArray.size:Int) - 1)) }:=I1.kept (t':=s1.toks) kp
 have hR:(s1.heap.push (revObj a ((its.toArray.size:Int) - 1))).get? s1.heap.objs.size=some (revObj a ((its.toArray.size:Int) - 1)):=bAx _ rfl
 have hp:=I1.fpOk (bAf _) (I1.hok.fresh (bAf s1.heap.objs.size))
 obtain ⟨o,n,ho,hoc,hod,hos⟩:=pl
 have lt:a < s1.heap.objs.size:=aZ9 ho
 refine xV (s:={ s1 with heap:=s1.heap.push (revObj a ((its.toArray.size:Int) - 1)) }) (I:=s1.heap.objs.size) (l:=a) (items:=its.toArray) (I.ok.hd hc) (bAu lt) ⟨_,hR,rfl,rfl⟩ ⟨o,kp a o ho,hoc,n,hos⟩ (by rw [bAe];omega) fun s' acc c' k1 k2 k3 k4 k5 k6=>?_
 have ev:=aM0 rv k6
 have hsz:(s1.heap.push (revObj a ((its.toArray.size:Int) - 1))).objs.size=s1.heap.objs.size+1:=by simp [Heap.push]
 have hH:H1 (s1.heap.objs.size+1)=none:=I2.hok.fresh (a:=s1.heap.objs.size+1) (by show (s1.heap.push _).objs.size<=_;rw [hsz];exact bAf _)
 rw [show ({ s1 with heap:=s1.heap.push (revObj a ((its.toArray.size:Int) - 1)) }:Shared).heap.objs.size=s1.heap.objs.size+1 from hsz] at k5 ⊢
 obtain ⟨f0,f1,f2,f3,f4,f5⟩:=hp
 have keep:∀ b o,b∉[s1.heap.objs.size]->(s1.heap.push (revObj a ((its.toArray.size:Int) - 1))).get? b=some o->s'.heap.get? b=some o:=fun b o hb q=>k1 b o (fun z=>hb (by rw [z];exact .head _)) q
 have trk:∀ b o,H1 b=some o->b∉[s1.heap.objs.size]:=fun b o q hb=>by rw [bAj.mp hb,f0] at q;cases q
 have nn:∀ b o,H1 b=some o->b≠s1.heap.objs.size+1:=fun b o q z=>by rw [z,hH] at q;cases q
 refine ⟨.ref (s1.heap.objs.size+1),upd H1 (s1.heap.objs.size+1) (.lst xs.reverse),?_,rfl,q _ hH⟩
 have st:=Inv.step (X:=X) (pins:=pins) (σ:=σ) (H:=H1) (s:={ s1 with heap:=s1.heap.push (revObj a ((its.toArray.size:Int) - 1)) }) (H':=upd H1 (s1.heap.objs.size+1) (.lst xs.reverse)) (h':=s'.heap) (g':=s1.gens) (d':=s1.drawn) (t':=s'.toks) (ch:=[s1.heap.objs.size]) I2 (fun b hb=>by rw [bAj.mp hb];exact ⟨f3,f1,f4,f5⟩) (fun b o _ _ hb q _=>keep b o hb q) (fun b o _ _ hb q _=>⟨o.slots,keep b o hb q⟩)
  (fun b o _ q n=>by rw [bK (fun z=>by have:=aZ9 q;rw [z] at this;exact absurd (show s1.heap.objs.size+1 < s1.heap.objs.size+1 by rw [<- hsz];exact hsz▸this) (bB7 _))];exact n) (fun b o hb q=>⟨o,keep b o hb q⟩)
  (fun b ys q=>by rw [bK (nn b _ q)];exact q) (fun b o v q=>by rw [bK (nn b _ q)];exact q) (fun b ps q=>⟨#[],by rw [bK (nn b _ q),q];simp⟩) (fun m hm=>by
   obtain ⟨o,es,ep,ho,r⟩:=hm
   exact ⟨o,es,ep,keep _ o (fun z=>f1 (bAj.mp z).symm) ho,r⟩) (fun b v q=>by
   by_cases hb:b=s1.heap.objs.size+1
   ·subst hb
    rw [b7] at q
    cases q
    refine ⟨by rw [bCj];exact hz,its.reverse,c',qS rv,?_⟩
    rw [k5,<- ev]
   ·rw [bK hb] at q
    refine (I2.hok b v q).stay (fun c w' hc q'=>keep c w' ?_ q') (fun c q'=>?_) (fun c ys q'=>?_) fun c ys q'=>by rw [bK (nn c _ q')];exact q'
    ·rcases hc with z | z
     ·rw [z];exact trk b v q
     ·exact trk c _ z
    ·rw [bK (nn c _ q')];exact q'
    ·rw [bK (nn c _ q')];exact q') I1.bare
 have es:s'={ heap:=s'.heap,gens:=s1.gens,drawn:=s1.drawn,toks:=s'.toks,os:=s1.os }:=by
  cases s'
  cases k2
  cases k3
  cases k4
  rfl
 rw [es]
 exact st
end
end L2
namespace M
open PySem PySem.Spec PyProof.Rows L2
def aQo(x:Ev):Res Ev:=match g9 x with
 | some ds=>.ok (.f (.list ds.reverse))
 | none=>.bad
theorem aFp{X:Cx}{E:L2.St->XK}{e:Expr}{fe:En->Res Ev}{p1 p2 pos1 pos2:Pos}(hc:X.calm=true)(hg1:Gl X "list")(hm1:X.mg "list" = none)(hg2:Gl X "reversed")(hm2:X.mg "reversed" = none)(he:DE X E e fe)
  (hs1:starEach [.Call (.Name "reversed" p2) [e] [] pos2] X.env=(false,eval (.Call (.Name "reversed" p2) [e] [] pos2) X.env) :: starEach [] X.env:=by rfl) (hs2:starEach [e] X.env=(false,eval e X.env) :: starEach [] X.env:=by rfl) :
  DE X E (.Call (.Name "list" p1) [.Call (.Name "reversed" p2) [e] [] pos2] [] pos1) (mUn aQo fe):=by
 obtain ⟨t,q,m⟩:=he.out
 refine DE.in ⟨_,aFo hc hg1 hm1 hg2 hm2 q hs1 hs2,fun B G0 G W H σ en Q hh hs hw=>m B G0 G W H σ en _ hh hs ?_⟩
 have hw:wpR ((fe en).bind _) _ _:=hw
 rw [cU] at hw
 refine bT hw (fun r hr G1 H1 v s e=>?_) fun C h=>h
 obtain ⟨G2,s2,e2⟩:=e.c s
 unfold aQo at hr
 cases el:g9 r.c with
 | none=>rw [el] at hr;exact hr.elim
 | some ds =>
  rw [el] at hr
  obtain ⟨a,xs,rfl,h1,h2⟩:=n5 s2.gh e2 el
  refine ⟨a,xs,rfl,.inl h1,fun l hl=>?_⟩
  exact hr G2 _ _ (s2.trans (Step.lay s2.gh hl)) ⟨l,_,rfl,s2.h.free hl,s2.gh.free hl,b7,.lst h2.rev⟩
end M
namespace L2
open PySem PySem.Spec PyProof.Rows
section
variable {X:Cx}
def aO9(i:Int)(is:List Int):Int:=is.foldl (fun a b=>if a < b then b else a) i
def aVu(K:aZz):List V->Hp->VK->Prop:=fun xs H Q=>∃ a i is,xs=[.ref a]/\SqL K H a ((i :: is).map V.int)/\Q (.int (aO9 i is)) H
theorem nS:∀ {is:List Int} {us:List Value},Vals (is.map V.int) us->∃ ts:List (Int×Tok),us=ts.map (fun p=>Value.int p.1 p.2)/\ts.map (·.1)=is
 | [],_,.nil=>⟨[],rfl,rfl⟩
 | i :: is,_,.cons r t=>by
  obtain ⟨tk,e⟩:=r
  obtain ⟨ts,e1,e2⟩:=nS t
  refine ⟨(i,tk) :: ts,?_,?_⟩
  ·rw [e,e1];rfl
  ·rw [bAb,e2]
theorem qV(f:Nat->Int):∀ k,f (argBest (fun i j=>decide (f i > f j)) k)=aO9 (f 0) ((List.range k).map fun j=>f (j+1))
 | 0=>rfl
 | k+1=>by
  have ih:=qV f k
  unfold aO9 at ih ⊢
  rw [List.range_succ,bA4,bFg,<- ih]
  show f (if decide (f (k+1) > f (argBest (fun i j=>decide (f i > f j)) k))=true then k+1 else argBest (fun i j=>decide (f i > f j)) k)=if f (argBest (fun i j=>decide (f i > f j)) k) < f (k+1) then f (k+1) else f (argBest (fun i j=>decide (f i > f j)) k)
  by_cases h:f (argBest (fun i j=>decide (f i > f j)) k) < f (k+1)
  ·rw [bAc h,bAc (aZ8 h)]
  ·rw [bAg h,bAg (by simpa using h)]
theorem yW(hc:X.calm=true){K:aZz}(hK:X.K=K):nU X (.builtin "max") (aVu K):=by
 subst hK
 intro pins s σ H xs us Q I r h
 obtain ⟨a,i,is,rfl,hq,q⟩:=h
 obtain ⟨u,rfl,ru⟩:=vals1 r
 cases ru
 obtain ⟨its,rv,p,hz⟩:=I.list hq
 obtain ⟨ts,e1,e2⟩:=nS rv
 have hn:ts.length=is.length+1:=by
  have:=bCl List.length e2
  rw [aZ0,aZ2] at this
  exact this
 have hl:s.heap.IsList a (intItems ts.toArray):=by
  have h:=p.isList
  rw [e1] at h
  simpa [intItems] using h
 have num:∀ j,numAt ts.toArray j=((i :: is)[j]?).getD 0:=fun j=>by
  rw [<- e2]
  simp [numAt]
 refine max_intList (A:=X.A) (I.ok.hd hc) hl (by simp;omega) fun v h' tk hP hk=>⟨.int (aO9 i is),H,I.kept hk,?_,q⟩
 obtain ⟨t,rfl⟩:=intItems_at hP
 refine ⟨t,?_⟩
 rw [qV (numAt ts.toArray)]
 have e0:numAt ts.toArray 0=i:=by rw [num];rfl
 have e3:((List.range (ts.toArray.size - 1)).map fun j=>numAt ts.toArray (j+1))=is:=by
  rw [bAe,hn,Nat.add_sub_cancel]
  apply List.ext_getElem
  ·simp
  ·intro j h1 h2
   simp [num,h2]
 rw [e0,e3]
end
end L2
namespace M
open PySem PySem.Spec PyProof.Rows L2
variable {K:aZz}
def intsOf:List D->Option (List Int)
 | []=>some []
 | .int b :: ds=>match intsOf ds with
  | some bs=>some (b :: bs)
  | none=>none
 | _=>none
theorem k9:∀ is:List Int,intsOf (is.map .int)=some is
 | []=>rfl
 | i :: is=>by
  show (match intsOf (is.map .int) with | some bs=>some (i :: bs) | none=>none)=_
  rw [k9 is]
theorem pR{G:Hp}:∀ {ds:List D} {bs:List Int} {xs:List V},intsOf ds=some bs->Reps K G xs ds->xs=bs.map V.int
 | [],_,_,h,.nil=>by cases h;rfl
 | d :: ds,bs,_,h,.cons r t=>by
  cases d with
  | int b =>
   unfold intsOf at h
   cases e:intsOf ds with
   | none=>rw [e] at h;cases h
   | some bs' =>
    rw [e] at h
    cases h
    cases r
    rw [pR e t]
    rfl
  | _=>cases h
def aOv(rs:List Ev):Res Ev:=match rs with
 | [x]=>match g9 x with
  | some ds=>match intsOf ds with
   | some (i :: is)=>.ok (.p (.int (aO9 i is)))
   | _=>.bad
  | none=>.bad
 | _=>.bad
theorem aH7:aCe aOv:=by
 intro rs C h
 unfold aOv at h
 split at h
 ·split at h
  ·split at h<;>cases h
  ·cases h
 ·cases h
theorem aIv:oB K (aVu K) aOv:=by
 intro W Hs G H vs rs Q gh he hw
 unfold aOv at hw
 split at hw
 ·rename_i x
  match vs,he with
  | [v],⟨h1,_⟩ =>
   split at hw
   ·rename_i ds ed
    obtain ⟨a,xs,rfl,k1,k2⟩:=n5 gh h1 ed
    split at hw
    ·rename_i i is eb
     have:=pR eb k2
     subst this
     exact ⟨a,i,is,rfl,.inl k1,hw G H _ (Step.refl gh) (.int _)⟩
    ·exact hw.elim
   ·exact hw.elim
 ·exact hw.elim
def insI(k:Int):List Int->List Int
 | []=>[k]
 | x :: r=>if k<=x then k :: x :: r else x :: insI k r
def sortI:List Int->List Int
 | []=>[]
 | k :: ks=>insI k (sortI ks)
theorem insI_perm(k:Int):∀ l,(insI k l).Perm (k :: l)
 | []=>.refl _
 | x :: r=>by
  unfold insI
  split
  ·exact .refl _
  ·exact ((insI_perm k r).cons x).trans (List.Perm.swap k x r)
theorem sortI_perm:∀ l,(sortI l).Perm l
 | []=>.refl _
 | k :: ks=>(insI_perm k _).trans ((sortI_perm ks).cons k)
theorem uH(k:Int):∀ l:List Int,l.Pairwise (·<=·)->(insI k l).Pairwise (·<=·)
 | [],_=>bDu _ _
 | x :: r,h=>by
  unfold insI
  obtain ⟨h1,h2⟩:=bAd.mp h
  split
  ·rename_i e
   exact bAd.mpr ⟨fun y hy=>by
    rcases aZ3.mp hy with z | z
    ·rw [z];exact e
    ·exact Int.le_trans e (h1 y z),h⟩
  ·rename_i e
   refine bAd.mpr ⟨fun y hy=>?_,uH k r h2⟩
   rcases aZ3.mp ((insI_perm k r).mem_iff.mp hy) with z | z
   ·rw [z];omega
   ·exact h1 y z
theorem mP:∀ l,(sortI l).Pairwise (·<=·)
 | []=>.nil
 | k :: ks=>uH k _ (mP ks)
theorem vH:∀ {a b:List Int},a.Perm b->a.Pairwise (·<=·)->b.Pairwise (·<=·)->a=b
 | [],b,p,_,_=>(List.Perm.nil_eq p)
 | x :: a,[],p,_,_=>absurd p.length_eq (by simp)
 | x :: a,y :: b,p,ha,hb=>by
  obtain ⟨a1,a2⟩:=bAd.mp ha
  obtain ⟨b1,b2⟩:=bAd.mp hb
  have hx:x∈y :: b:=p.mem_iff.mp (.head _)
  have hy:y∈x :: a:=p.mem_iff.mpr (.head _)
  have e:x=y:=by
   rcases aZ3.mp hx with e | hx
   ·exact e
   ·rcases aZ3.mp hy with e | hy
    ·exact e.symm
    ·exact Int.le_antisymm (a1 y hy) (b1 x hx)
  subst e
  rw [vH (List.Perm.cons_inv p) a2 b2]
end M
namespace L2
open PySem PySem.Spec PyProof.Rows M
section
variable {X:Cx}
theorem aEa:∀ {ns:List Int} {us:List Value},Vals (ns.map V.int) us->IntsAre us ns
 | [],_,.nil=>.nil
 | n :: ns,_,.cons r t=>by
  obtain ⟨tk,rfl⟩:=r
  exact .cons _ _ (aEa t)
theorem aDd:∀ {ns:List Int} {us:List Value},IntsAre us ns->Vals (ns.map V.int) us
 | [],_,.nil=>.nil
 | _ :: _,_,.cons _ _ t=>.cons ⟨_,rfl⟩ (aDd t)
end
end L2
namespace M
open PySem PySem.Spec PyProof.Rows L2
variable {K:aZz}
theorem ints_rep{G:Hp}:∀ ns:List Int,Reps K G (ns.map V.int) (ns.map .int)
 | []=>.nil
 | _ :: ns=>.cons (.int _) (ints_rep ns)
end M
namespace L2
open PySem PySem.Spec PyProof.Rows M
section
variable {X:Cx}
theorem aJ3{kv:List (Key×V)}{vs:List (Key×Value)}{ns:List Int}(r:KV kv vs)(hk:kv.map (·.1)=ns.map Sum.inl){us:List Value}(hl:us.length=vs.length)(hu:∀ (j:Nat) (u:Value),us[j]? = some u->∃ k x,vs[j]? = some (k,x)/\aAl k u=true):Vals (ns.map V.int) us:=by
 induction r generalizing ns us with
 | nil =>
  cases ns with
  | nil =>
   cases us with
   | nil=>exact .nil
   | cons u t=>cases hl
  | cons n t=>cases hk
 | @cons p q ps qs h t ih =>
  cases ns with
  | nil=>cases hk
  | cons n ns =>
   cases us with
   | nil=>cases hl
   | cons u us =>
    rw [bAb,bAb] at hk
    injection hk with hk1 hk2
    obtain ⟨k,x,e1,e2⟩:=hu 0 u rfl
    cases e1
    have hq:k=Sum.inl n:=h.1.symm.trans hk1
    refine .cons ?_ (ih hk2 (bD9 hl) fun j v e=>hu (j+1) v e)
    rw [hq] at e2
    exact Value.isInt_shape e2
end
end L2
namespace M
open PySem PySem.Spec PyProof.Rows L2
variable {K:aZz}
theorem aAh{G:Hp}:∀ {kv:List (Key×V)} {kvs:List (D×D)} {ns:List Int},RepK K G kv kvs->intsOf (kvs.map (·.1))=some ns->kv.map (·.1)=ns.map Sum.inl
 | [],_,_,.nil,h=>by cases h;rfl
 | (k,x) :: kv,_,ns,.cons (kvs:=kvs) r t,h=>by
  rw [bAb] at h
  cases k with
  | inl i =>
   have h:(match intsOf (kvs.map (·.1)) with | some bs=>some (i :: bs) | none=>none)=some ns:=h
   cases e:intsOf (kvs.map (·.1)) with
   | none=>rw [e] at h;cases h
   | some bs =>
    rw [e] at h
    cases h
    rw [bAb,bAb,aAh t e]
  | inr y=>cases h
end M
namespace L2
open PySem PySem.Spec PyProof.Rows
def aK9(i j:Int):Prop:=CMulW i j\/CMul i j
theorem yA{X:Cx}:OpR X (binaryOp .Mult) (rI aK9 fun i j=>.int (i*j)):=opI fun _ _ _ _ _ _ _ hc q=>mul_int q (hc.elim CMulW.ok CMul.ok)
end L2
namespace M
open PySem PySem.Spec PyProof.Rows L2
variable {K:aZz}
noncomputable abbrev sN:Ev->Ev->Res Ev:=aEd aK9 fun i j=>.int (i*j)
theorem w6:OpM K (rI aK9 fun i j=>.int (i*j)) sN:=zK fun _ _ _=>.int _
theorem aA9{i j:Int}(h:aK9 i j):sN (.p (.int i)) (.p (.int j))=.ok (.p (.int (i*j))):=by simp [aEd,h]
theorem aN5{i j:Int}(h1:-(2 ^ 64) < j)(h2:j < 2 ^ 64):sN (.p (.int i)) (.p (.int j))=.ok (.p (.int (i*j))):=aA9 (.inr (.inr ⟨h1,h2⟩))
end M
namespace L2
open PySem PySem.Spec PyProof.Rows M SRT
section
variable {prog:Program}{w:World}{A:Around}{E:Value->Shared->Prop}{s:Shared}
theorem aEs{r:Addr}{Q:Value->Shared->Prop}{Ok:List Value->Prop}(hcol:∀ R:List Value->Shared->Prop,(∀ h' tk vs,(∀ b o,s.heap.get? b=some o->h'.get? b=some o)->Ok vs->R vs { s with heap:=h',toks:=tk })->wpAny (model prog w) A.in1 (collect (.ref r)) R E s)
  (ns:List Int) (hok:∀ vs,Ok vs->IntsAre vs ns/\vs.length < 64)
  (h:∀ (h' hf:Heap) (tk c:Nat) (out:Array Value) (ns':List Int),(∀ b o,s.heap.get? b=some o->h'.get? b=some o)->(∀ b o,h'.get? b=some o->hf.get? b=some o)->IntsAre out.toList ns'->ns'.Perm ns->ns'.Pairwise (·<=·) ->
   hf.get? h'.objs.size=some (seqObj "list" out c)->Q (.ref h'.objs.size) { s with heap:=hf,toks:=tk }) :
  wpAny (model prog w) A (call (.builtin "sorted") [.ref r]) Q E s:=by
 refine Calls.call_function_entry kind_sorted plain_sorted entry_sorted (args_sorted1 _) ?_
 unfold Builtin.«sorted»
 refine aZ1 (m:=checkCount "sorted" 1 1 _) (bAl ?_)
 refine aZ1 (hcol _ fun h' tk vs keep ov=>?_)
 obtain ⟨hI,h64⟩:=hok vs ov
 refine aZ1 (wpAny_newList ?_ (by rw [bCy];omega))
 have hoL:(h'.push (seqObj "list" vs.toArray 0)).get? h'.objs.size=some (seqObj "list" vs.toArray 0):=bAx _ rfl
 refine aZ1 (bDa (bDi slot_list_sort ⟨_,hoL,rfl⟩ entry_list_sort (list_sort_tree (s:={ s with heap:=h'.push (seqObj "list" vs.toArray 0),toks:=tk }) hoL hI h64 fun out ns' a1 a2 a3=>⟨_,rfl,?_⟩) (args_list_sort _)))
 obtain ⟨c,hc⟩:=uO (out:=out) hoL
 exact bAl ⟨_,rfl,h h' _ tk c out ns' keep (fun b o e=>uF (bAu (aZ9 e)) (aZ4 _ e)) a1 a2 a3 hc⟩
end
section
variable {X:Cx}
def aJl:List V->Hp->VK->Prop:=fun xs H Q=>∃ (a:Addr) (kv:List (Key×V)) (ns:List Int),xs=[.ref a]/\Rd H a (.dK kv)/\kv.map (·.1)=ns.map Sum.inl/\ns.length < 64/\∀ l,H l=none->Q (.ref l) (upd H l (.lst ((sortI ns).map V.int)))
theorem zP(hc:X.calm=true):nU X (.builtin "sorted") aJl:=by
 intro pins s σ H xs us Q I r h
 obtain ⟨a,kv,ns,rfl,ha,hk,h64,q⟩:=h
 obtain ⟨u,rfl,ru⟩:=vals1 r
 cases (show u=Value.ref a from ru)
 obtain ⟨hz,lo,vs,rel,hd⟩:=aEy I.hok ha
 obtain ⟨ep,hat⟩:=hd.dictAt
 have len1:kv.length=vs.length:=Paired.length rel
 have hn:ns.length=kv.length:=by
  have:=bCl List.length hk
  rw [aZ0,aZ0] at this
  exact this.symm
 refine aEs (Ok:=fun us=>us.length=vs.length/\∀ (j:Nat) v,us[j]? = some v->∃ k x,vs[j]? = some (k,x)/\aAl k v=true) (fun R hR=>?_) ns (fun us e=>⟨aEa (aJ3 rel hk e.1 e.2),by omega⟩) fun h' hf tk c out ns' k1 k2 a1 a2 a3 hc=>?_
 ·refine PySem.W.kdu_collect (A:=X.A.in1) (PySem.W.kdl_dict (knd:=g8 X.prog X.w) (kvs:=vs) (ep:=ep) lo) (I.ok.hd hc) hat (by omega) fun h' tk acc hk' hacc=>hR h' tk _ hk' ⟨by rw [bBc];exact hacc.1,fun j v e=>?_⟩
  obtain ⟨k,x,e1,e2⟩:=hacc.2 j v (by rw [<- bC3];exact e)
  exact ⟨k,x,e1,e2⟩
 ·have es:ns'=sortI ns:=vH (a2.trans (sortI_perm ns).symm) a3 (mP ns)
  subst es
  have I1:Inv X pins σ H { s with heap:=h',toks:=tk }:=I.kept (t':=tk) k1
  refine ⟨.ref h'.objs.size,_,I1.laid (a:=h'.objs.size) (o:=.lst ((sortI ns).map V.int)) (t':=tk) k2 (bAf _) ⟨?_,out.toList,c,aDd a1,hc⟩,rfl,q _ (I1.hok.fresh (bAf _))⟩
  rw [aZ0,(sortI_perm ns).length_eq,bCy]
  omega
def aO1:List V->Hp->VK->Prop:=fun xs H Q=>∃ a kv ks,xs=[.ref a]/\H a=some (.dT kv)/\kv.map (·.1)=ks.map (List.map Sum.inl)/\(∀ k∈ks,k≠[])/\∀ ts l,aSe H ts ks->H l=none->Q (.ref l) (upd H l (.lst ts))
theorem qX(hcm:X.calm=true):nU X (.type "list") aO1:=by
 intro pins s σ H xs us Q I r h
 obtain ⟨a,kv,ks,rfl,ha,hk,hne,q⟩:=h
 obtain ⟨u,rfl,ru⟩:=vals1 r
 cases (show u=Value.ref a from ru)
 obtain ⟨hz,hsys,es0,rel,o,es,ep,h1,h2,h3,h4,h5⟩:=(show ObjOk X.prog X.w H s.heap a (.dT kv) from I.hok a _ ha)
 have hraw:RawD s.heap a es ep:=⟨o,h1,h2,h3⟩
 have len1:kv.length=es0.length:=rel.length
 have len2:es.size=es0.length:=by rw [<- bBc,h4,aZ0]
 have len3:ks.length=kv.length:=by
  have:=bCl List.length hk
  simpa using this.symm
 have hts:aSe H (es0.map fun x=>V.ref x.2.1) ks:=by
  refine ⟨by rw [aZ0];omega,fun i t k e1 e2=>?_⟩
  rw [bA0] at e1
  cases ex:es0[i]? with
  | none=>rw [ex] at e1;cases e1
  | some x =>
   rw [ex] at e1
   cases e1
   have hi:i < kv.length:=by rw [len1];exact (bBe.mp ex).1
   obtain ⟨y,ey,hy1,hy2,_⟩:=SRT.Paired.get rel (aZ5 hi)
   rw [ex] at ey
   cases ey
   refine ⟨⟨x.2.1,rfl,?_⟩,hne k (bAq e2)⟩
   have hkk:(kv.map (·.1))[i]? = (ks.map (List.map Sum.inl))[i]?:=by rw [hk]
   rw [bA0,bA0,aZ5 hi,e2] at hkk
   have hkk:kv[i].1=k.map Sum.inl:=bAn hkk
   rw [hkk,bA3] at hy2
   exact hy2
 refine PySem.W.kdl_call (aPe (prog:=X.prog) (w:=X.w) (ep:=ep) (es:=es) hsys) (I.ok.hd hcm) hraw (by omega) fun h' tk acc c' kp e it=>?_
 have hv:∀ (j:Nat) v,acc.toList[j]? = some v->∃ e,es[j]? = some e/\v=e.key:=fun j v e=>it.2 j v (by rw [<- bC3];exact e)
 have hl:acc.toList.length=es.size:=by rw [bBc];exact it.1
 have ev:acc.toList=es0.map fun x=>Value.ref x.2.1:=by
  refine bDb fun i=>?_
  rw [bA0]
  by_cases hi:i < acc.toList.length
  ·have hi2:i < es0.length:=by omega
   obtain ⟨e,e1,e2⟩:=hv i acc.toList[i] (aZ5 hi)
   have e3:es.toList[i]? = some e:=by simpa using e1
   rw [h4,bA0,aZ5 hi2] at e3
   have e3:=bAn e3
   rw [aZ5 hi,aZ5 hi2,e2,<- e3]
   rfl
  ·rw [bBr (by omega),bBr (by omega)]
   rfl
 have rv:Vals (es0.map fun x=>V.ref x.2.1) acc.toList:=by
  rw [ev]
  exact aAy _
 exact ⟨.ref s.heap.objs.size,_,I.laid (a:=s.heap.objs.size) (o:=.lst (es0.map fun x=>V.ref x.2.1)) (t':=tk) kp (bAf _) ⟨by rw [aZ0];omega,acc.toList,c',rv,e⟩,rfl,q _ _ hts (I.hok.fresh (bAf _))⟩
end
end L2
namespace M
open PySem PySem.Spec PyProof.Rows L2 SRT
variable {K:aZz}
def mH(rs:List Ev):Res Ev:=match rs with
 | [x]=>match rF x with
  | some ((.none,.none) :: kvs)=>match intsOf (kvs.map (·.1)) with
   | some ns=>if ns.length < 64 then .ok (.f (.list ((sortI ns).map .int))) else .bad
   | none=>.bad
  | _=>.bad
 | _=>.bad
theorem aE5:aCe mH:=by
 intro rs C h
 unfold mH at h
 split at h
 ·split at h
  ·split at h
   ·split at h<;>cases h
   ·cases h
  ·cases h
 ·cases h
theorem aKh:oB K aJl mH:=by
 intro W Hs G H vs rs Q gh he hw
 unfold mH at hw
 split at hw
 ·rename_i x
  match vs,he with
  | [v],⟨h1,_⟩ =>
   split at hw
   ·rename_i kvs ed
    obtain ⟨a,rfl,hd⟩:=aIu gh h1 ed
    split at hw
    ·rename_i ns eb
     split at hw
     ·rename_i hl
      rcases hd with ⟨kv,k1,k2⟩ | ⟨kv,r,er,k1,k2⟩
      ·cases k2
      ·cases er
       refine ⟨a,kv,ns,rfl,.inl k1,aAh k2 eb,hl,fun l hl=>?_⟩
       exact hw _ _ _ (Step.lay gh hl) ⟨l,_,rfl,hl,gh.free hl,b7,.lst (ints_rep _)⟩
     ·exact hw.elim
    ·exact hw.elim
   ·exact hw.elim
 ·exact hw.elim
def pH(rs:List Ev):Res Ev:=match rs with
 | [x]=>match rF x with
  | some kvs=>if (dsp kvs).1=false then match vC (kvs.map (·.1)) with
    | some ks=>if (ks.all fun k=>!k.isEmpty)=true then .ok (.f (.list (ks.map rC))) else .bad
    | none=>.bad
   else .bad
  | none=>.bad
 | _=>.bad
theorem yK:aCe pH:=by
 intro rs C h
 unfold pH at h
 split at h
 ·split at h
  ·split at h
   ·split at h
    ·split at h<;>cases h
    ·cases h
   ·cases h
  ·cases h
 ·cases h
theorem y9{G:Hp}:∀ {ts:List V} {ks:List (List Int)},aSe G ts ks->Reps K G ts (ks.map rC)
 | [],[],_=>.nil
 | [],_ :: _,h=>by cases h.1
 | _ :: _,[],h=>by cases h.1
 | t :: ts,k :: ks,h=>by
  obtain ⟨⟨b,eb,hb⟩,_⟩:=h.2 0 t k rfl rfl
  rw [eb]
  exact .cons (aNk hb) (y9 ⟨bD9 h.1,fun i t k e1 e2=>h.2 (i+1) t k e1 e2⟩)
theorem aDa:oB K aO1 pH:=by
 intro W Hs G H vs rs Q gh he hw
 unfold pH at hw
 split at hw
 ·rename_i x
  match vs,he with
  | [v],⟨h1,_⟩ =>
   split at hw
   ·rename_i kvs ed
    obtain ⟨a,rfl,hd⟩:=aIu gh h1 ed
    split at hw
    ·rename_i hk
     rcases hd with ⟨kv,k1,k2⟩ | ⟨kv,r,rfl,k1,k2⟩
     ·split at hw
      ·rename_i ks ek
       split at hw
       ·rename_i hz
        have ek:=rW ek
        have hne:=aAx hz
        refine ⟨a,kv,ks,rfl,k1,zG k2 ek,hne,fun ts D rI hD=>?_⟩
        have st:=(aQj gh).trans (Step.lay (o:=.lst ts) (aR4 gh) hD)
        refine hw _ _ _ st ⟨D,_,rfl,hD,(aR4 gh).free hD,b7,.lst (y9 ⟨rI.1,fun i t k e1 e2=>?_⟩)⟩
        obtain ⟨⟨b,eb,hb⟩,z⟩:=rI.2 i t k e1 e2
        exact ⟨⟨b,eb,aUf gh hb⟩,z⟩
       ·exact hw.elim
      ·exact hw.elim
     ·cases hk
    ·exact hw.elim
   ·exact hw.elim
 ·exact hw.elim
end M
namespace L2
open PySem PySem.Spec PyProof.Rows
section
variable {X:Cx}
def aYm(K:aZz):List V->Hp->VK->Prop:=fun xs H Q=>∃ (a:Addr) (is:List Int),xs=[.ref a]/\SqL K H a (is.map V.int)/\Q (.int is.sum) H
theorem aEw(f:Nat->Int):∀ (is:List Int),(∀ j,j < is.length->f j=(is[j]?).getD 0)->preSum f is.length=is.sum:=by
 have gen:∀ (n:Nat) (is:List Int),is.length=n->(∀ j,j < is.length->f j=(is[j]?).getD 0)->preSum f n=is.sum:=by
  intro n
  induction n with
  | zero =>
   intro is h _
   rw [bBh.mp h]
   rfl
  | succ n ih =>
   intro is h hj
   have hne:is≠[]:=fun z=>by rw [z] at h;cases h
   have e:is=is.dropLast++[is.getLast hne]:=(List.dropLast_concat_getLast hne).symm
   have hl:is.dropLast.length=n:=by rw [List.length_dropLast];omega
   have h1:=ih is.dropLast hl fun j hj'=>by
    rw [hj j (by omega)]
    conv=>lhs;rw [e]
    rw [bBl hj']
   show preSum f n+f n=is.sum
   rw [h1,hj n (by omega)]
   conv=>rhs;rw [e,List.sum_append]
   conv=>lhs;rw [e]
   rw [bBg (by omega),hl]
   simp
 exact fun is hj=>gen _ is rfl hj
theorem aH9(hc:X.calm=true){K:aZz}(hK:X.K=K):nU X (.builtin "sum") (aYm K):=by
 subst hK
 intro pins s σ H xs us Q I r h
 obtain ⟨a,is,rfl,hq,q⟩:=h
 obtain ⟨u,rfl,ru⟩:=vals1 r
 cases ru
 obtain ⟨its,rv,p,hz⟩:=I.list hq
 obtain ⟨ts,e1,e2⟩:=nS rv
 have hl:s.heap.IsList a (intItems ts.toArray):=by
  have h:=p.isList
  rw [e1] at h
  simpa [intItems] using h
 have hn:ts.length=is.length:=by
  have:=bCl List.length e2
  rw [aZ0] at this
  exact this
 have num:∀ j,numAt ts.toArray j=(is[j]?).getD 0:=fun j=>by
  rw [<- e2]
  simp [numAt]
 refine sum_intListG (A:=X.A) (I.ok.hd hc) hl fun h' tk t' hk=>⟨.int is.sum,H,I.kept hk,?_,q⟩
 refine ⟨t',?_⟩
 rw [bAe,hn,aEw _ is fun j _=>num j]
end
end L2
namespace M
open PySem PySem.Spec PyProof.Rows L2
section
variable {K:aZz}
def aPo(rs:List Ev):Res Ev:=match rs with
 | [x]=>match g9 x with
  | some ds=>match intsOf ds with
   | some is=>.ok (.p (.int is.sum))
   | none=>.bad
  | none=>.bad
 | _=>.bad
theorem aPi:aCe aPo:=by
 intro rs C h
 unfold aPo at h
 split at h
 ·split at h
  ·split at h<;>cases h
  ·cases h
 ·cases h
theorem aS0:oB K (aYm K) aPo:=by
 intro W Hs G H vs rs Q gh he hw
 unfold aPo at hw
 split at hw
 ·rename_i x
  match vs,he with
  | [v],⟨h1,_⟩ =>
   split at hw
   ·rename_i ds ed
    obtain ⟨a,xs,rfl,k1,k2⟩:=n5 gh h1 ed
    split at hw
    ·rename_i is eb
     have:=pR eb k2
     subst this
     exact ⟨a,is,rfl,.inl k1,hw G H _ (Step.refl gh) (.int _)⟩
    ·exact hw.elim
   ·exact hw.elim
 ·exact hw.elim
end
def mMt(op:Ev->Ev->Res Ev)(fo fe:En->Res Ev):En->Res Ev:=fun en=>(fo en).bind fun x=>if (g9 x.c).isSome=true then (fe en).bind fun y=>op x.c y.c else .bad
theorem aW1{X:Cx}{E:L2.St->XK}{o e:Expr}{fo fe:En->Res Ev}{name:Str}{id:String}{apos cpos:Pos}{r:V->List V->Hp->VK->Prop}{f:Ev->Ev->Res Ev}(slot:PySem.Slot "list" name id)(hty:typeOf (.builtin id)=pure (.type "method_descriptor"))(hm:MtR X id r)(hM:OpM X.K (fun v u H Q=>r v [u] H Q) f)(hn:NoX f)(ho:DE X E o fo)(ha:DE X E e fe)
  (hbase:attributeBase o name X.env (eval o X.env)=eval o X.env:=by rfl)
  (hfew:((backTo cpos (starEach [e] X.env)).all (fun x=>!x.1) && (backToKw cpos (keywordEach [] X.env)).all (fun x=>x.1.isSome)
   && decide ([e].length+([]:List Keyword).length+(if ([]:List Keyword).isEmpty then 0 else 1) < 30))=true:=by rfl)
  (hline:(apos.endLine == cpos.line)=true:=by rfl) (hs:starEach [e] X.env=(false,eval e X.env) :: starEach [] X.env:=by rfl) (hplain:(backTo cpos (starEach [] X.env)).any (·.1)=false:=by rfl) :
  DE X E (.Call (.Attribute o name apos) [e] [] cpos) (mMt f fo fe):=by
 obtain ⟨to,po,mo⟩:=ho.out
 obtain ⟨te,pe,me⟩:=ha.out
 refine DE.in ⟨_,aGr bB2 slot hty hm po (qI pe vP hs) hbase hfew hline hs hplain,fun B G0 G W H σ en Q hh hs' hw=>?_⟩
 refine mo B G0 G W H σ en _ hh hs' (DE.go hw fun x G1 H1 v s1 e1 h1=>?_)
 split at h1
 ·rename_i hx
  obtain ⟨ds,ed⟩:=bBp.mp hx
  obtain ⟨a,xs,rfl,k1,k2⟩:=n5 s1.gh e1 ed
  refine ⟨.inl ⟨rfl,xs,.inl k1⟩,?_⟩
  refine me B G0 G1 W H1 σ en _ (hh.step s1) (hs'.step s1) (DE.go h1 fun y G2 H2 u s2 e2 h2=>?_)
  exact hM W G2 H2 (.ref a) u x y Q s2.gh (e1.step s2) (by cases y<;>exact e2) (noX h2 (hn _ _))
 ·exact h1.elim
end M
namespace L2
open PySem PySem.Spec PyProof.Rows
section
variable {X:Cx}
end
end L2
namespace M
open PySem PySem.Spec PyProof.Rows L2
end M
namespace L2
open PySem PySem.Spec PyProof.Rows
section
variable {X:Cx}
def aQf(i:Int)(is:List Int):Int:=is.foldl (fun a b=>if b < a then b else a) i
def aSq(K:aZz):List V->Hp->VK->Prop:=fun xs H Q=>∃ a i is,xs=[.ref a]/\SqL K H a ((i :: is).map V.int)/\Q (.int (aQf i is)) H
theorem qN(f:Nat->Int):∀ k,f (argBest (fun i j=>decide (f i < f j)) k)=aQf (f 0) ((List.range k).map fun j=>f (j+1))
 | 0=>rfl
 | k+1=>by
  have ih:=qN f k
  unfold aQf at ih ⊢
  rw [List.range_succ,bA4,bFg,<- ih]
  show f (if decide (f (k+1) < f (argBest (fun i j=>decide (f i < f j)) k))=true then k+1 else argBest (fun i j=>decide (f i < f j)) k)=if f (k+1) < f (argBest (fun i j=>decide (f i < f j)) k) then f (k+1) else f (argBest (fun i j=>decide (f i < f j)) k)
  by_cases h:f (k+1) < f (argBest (fun i j=>decide (f i < f j)) k)
  ·rw [bAc h,bAc (aZ8 h)]
  ·rw [bAg h,bAg (by simpa using h)]
theorem yZ(hc:X.calm=true){K:aZz}(hK:X.K=K):nU X (.builtin "min") (aSq K):=by
 subst hK
 intro pins s σ H xs us Q I r h
 obtain ⟨a,i,is,rfl,hq,q⟩:=h
 obtain ⟨u,rfl,ru⟩:=vals1 r
 cases ru
 obtain ⟨its,rv,p,hz⟩:=I.list hq
 obtain ⟨ts,e1,e2⟩:=nS rv
 have hn:ts.length=is.length+1:=by
  have:=bCl List.length e2
  rw [aZ0,aZ2] at this
  exact this
 have hl:s.heap.IsList a (intItems ts.toArray):=by
  have h:=p.isList
  rw [e1] at h
  simpa [intItems] using h
 have num:∀ j,numAt ts.toArray j=((i :: is)[j]?).getD 0:=fun j=>by
  rw [<- e2]
  simp [numAt]
 refine min_intList (A:=X.A) (I.ok.hd hc) hl (by simp;omega) fun v h' tk hP hk=>⟨.int (aQf i is),H,I.kept hk,?_,q⟩
 obtain ⟨t,rfl⟩:=intItems_at hP
 refine ⟨t,?_⟩
 rw [qN (numAt ts.toArray)]
 have e0:numAt ts.toArray 0=i:=by rw [num];rfl
 have e3:((List.range (ts.toArray.size - 1)).map fun j=>numAt ts.toArray (j+1))=is:=by
  rw [bAe,hn,Nat.add_sub_cancel]
  apply List.ext_getElem
  ·simp
  ·intro j h1 h2
   simp [num,h2]
 rw [e0,e3]
end
end L2
namespace M
open PySem PySem.Spec PyProof.Rows L2
variable {K:aZz}
def aOr(rs:List Ev):Res Ev:=match rs with
 | [x]=>match g9 x with
  | some ds=>match intsOf ds with
   | some (i :: is)=>.ok (.p (.int (aQf i is)))
   | _=>.bad
  | none=>.bad
 | _=>.bad
theorem aD5:aCe aOr:=by
 intro rs C h
 unfold aOr at h
 split at h
 ·split at h
  ·split at h<;>cases h
  ·cases h
 ·cases h
theorem aJ9:oB K (aSq K) aOr:=by
 intro W Hs G H vs rs Q gh he hw
 unfold aOr at hw
 split at hw
 ·rename_i x
  match vs,he with
  | [v],⟨h1,_⟩ =>
   split at hw
   ·rename_i ds ed
    obtain ⟨a,xs,rfl,k1,k2⟩:=n5 gh h1 ed
    split at hw
    ·rename_i i is eb
     have:=pR eb k2
     subst this
     exact ⟨a,i,is,rfl,.inl k1,hw G H _ (Step.refl gh) (.int _)⟩
    ·exact hw.elim
   ·exact hw.elim
 ·exact hw.elim
end M
namespace HS
open PySem
open PySem.Spec PyProof.Rows
section
variable {prog:Program}{w:World}{A:Around}{E:Value->Shared->Prop}{s:Shared}
abbrev IK(prog:Program)(w:World)(h:Heap)(k:List Int)(a:Addr):Prop:=IsTupleKey (intKind prog w) h k a
abbrev hK(prog:Program)(w:World)(k:List Int):Int:=tupleKeyHash (intKind prog w) k
theorem items_int{ks:List Int}{vs:List Value}(h:ItemsAre (intKind prog w) ks vs):∀ v∈vs,∃ i t,v=.int i t:=by
 induction h with
 | nil=>intro v hv;exact nomatch hv
 | @cons k v ks vs h1 _ ih =>
  intro x hx
  rcases aZ3.mp hx with z | z
  ·subst z
   cases x with
   | int i t=>exact ⟨i,t,rfl⟩
   | _=>simp [intKind,Value.isInt] at h1
  ·exact ih x z
theorem IK.keep{h h':Heap}{k:List Int}{a:Addr}(hk:IK prog w h k a)(q:∀ o,h.get? a=some o->h'.get? a=some o):IK prog w h' k a:=by
 obtain ⟨o,items,n,ho,r⟩:=hk
 exact ⟨o,items,n,q o ho,r⟩
end
section
variable {prog:Program}{w:World}{A:Around}{E:Value->Shared->Prop}{s:Shared}{S I:Addr}{hs:List Int}{o:Obj}{es:Array (Int×Value)}{ep:Nat}{t:SetTable}
end
end HS
namespace L2
open PySem PySem.Spec PyProof.Rows
section
variable {X:Cx}
theorem aSk{P:Program}{w:World}{H:Hp}{h:Heap}{b:Addr}{k:List Int}(ok:HOk P w H h)(e:H b=some (.tup (k.map V.int))):HS.IK P w h k b:=by
 obtain ⟨_,its,rv,o,ho,hc,n,hd⟩:=(show ObjOk P w H h b (.tup (k.map V.int)) from ok b _ e)
 refine ⟨o,its.toArray,n,ho,hc,hd,?_⟩
 rw [bDm]
 have key:∀ {ns:List Int} {vs:List Value},IntsAre vs ns->ItemsAre (intKind P w) ns vs:=by
  intro ns vs q
  induction q with
  | nil=>exact .nil
  | cons i t _ ih=>exact .cons (intKind_is _ _ _ _) ih
 exact key (intsAre_of rv)
end
end L2
namespace M
open PySem PySem.Spec PyProof.Rows L2
end M
namespace HS
open PySem PySem.Spec PyProof.Rows
section
open PySem.SeqAt
open PySem.AutoSeq1 (wpAny_loadPart')
open PySem.MeetsSeq PySem.MeetsSeq2 PySem.MeetsSeq3
structure aY5(items items2:Array Value)(rest:List (Value×Value))(ns ms:List Int)(vs us:List Value):Prop where
 z:rest=vs.zip us
 v:IntsAre vs ns
 u:IntsAre us ms
 l:ns.length+items2.size=ms.length+items.size
theorem aPh(a b:Addr)(items items2:Array Value)(n n2:Nat)(dd dd2:Option Addr)(sl sl2:Array (Option Value))(ns ms:List Int)(hi:IntsAre items.toList ns)(hj:IntsAre items2.toList ms) :
  Meets (Builtin.«tuple.__gt__» ⟨[.ref a,.ref b],[]⟩)
   (fun _ R s=>s.heap.get? a=some { cls:=.type "tuple",dict:=dd,data:=.seq items n,slots:=sl }/\s.heap.get? b=some { cls:=.type "tuple",dict:=dd2,data:=.seq items2 n2,slots:=sl2 }/\R (.ok (.ret (.bool (HT.lexLt ms ns)))) s) :=
 .of_wp fun prog w A R s h=>by
  obtain ⟨hp,g,d,tk,os⟩:=s
  obtain ⟨ha,hb,h⟩:=h
  have f2:=AutoSeq1.sub_tuple_tuple
  have z1:items.size=ns.length:=by rw [<- hi.length];simp
  have z2:items2.size=ms.length:=by rw [<- hj.length];simp
  wp_walk using wpAny_loadPart' ha,wpAny_loadPart' hb,wpAny_forIn_list _ (fun rest x s'=>x.1=none/\s'=⟨hp,g,d,tk,os⟩/\∃ ns' ms' vs us,aY5 items items2 rest ns' ms' vs us/\R (.ok (.ret (.bool (HT.lexLt ms' ns')))) ⟨hp,g,d,tk,os⟩) _
  case turn =>
   rintro ⟨y,x⟩ rest t s' ⟨_,rfl,ns',ms',vs,us,B,hR⟩
   obtain ⟨hz,hv,hu,hl⟩:=B
   cases hv with
   | nil=>rw [List.zip_nil_left] at hz;cases hz
   | cons i ti hv =>
    cases hu with
    | nil=>rw [List.zip_nil_right] at hz;cases hz
    | cons j tj hu =>
     rw [List.zip_cons_cons] at hz
     injection hz with e1 e2
     injection e1 with e3 e4
     subst e3 e4
     rw [HT.lA] at hR
     simp only [aZ2] at hl
     refine aZ1 (SeqAt.EqAt.int_int i ti j tj prog w _ _ ?_)
     by_cases q:i=j
     ·rw [bAc q.symm] at hR
      have q':(i == j)=true:=by rw [bD3];exact q
      rw [q']
      wp_walk
      exact ⟨rfl,rfl,_,_,_,_,⟨e2,hv,hu,by omega⟩,hR⟩
     ·rw [bAg (fun z=>q z.symm)] at hR
      have q':(i == j)=false:=by rw [bCh];exact q
      rw [q']
      have gi:∀ (E:Value->Shared->Prop) (Q:Value->Shared->Prop),Q (.bool (decide (i > j))) ⟨hp,g,d,tk,os⟩->wpAny (model prog w) A.in1 (richCompare .Gt (.int i ti) (.int j tj)) Q E ⟨hp,g,d,tk,os⟩:=fun E Q hq=>(PyProof.Rows.gt_int hq:wpAny (model prog w) A.in1 (compareOp .Gt (.int i ti) (.int j tj)) Q E _)
      wp_walk using gi
      exact ⟨_,rfl,by simpa using hR⟩
  case fin =>
   rintro ⟨x1,x2⟩ s' ⟨hx,rfl,ns',ms',vs,us,B,hR⟩
   obtain ⟨hz,hv,hu,hl⟩:=B
   simp only at hx
   subst hx
   have e:HT.lexLt ms' ns'=decide (items2.size < items.size):=by
    cases hv with
    | nil =>
     cases hu with
     | nil =>
      simp only [bAv] at hl
      exact (aZ7 (by omega)).symm
     | cons j tj hu =>
      simp only [bAv,aZ2] at hl
      exact (aZ7 (by omega)).symm
    | cons i ti hv =>
     cases hu with
     | nil =>
      simp only [bAv,aZ2] at hl
      exact (aZ8 (by omega)).symm
     | cons j tj hu =>
      rw [List.zip_cons_cons] at hz
      cases hz
   rw [e] at hR
   wp_walk
   exact ⟨_,rfl,by simpa [Builtin.Tuple.tupleCompareSizes] using hR⟩
  case h=>exact ⟨rfl,rfl,_,_,_,_,⟨rfl,hi,hj,by omega⟩,h⟩
end
section
variable {prog:Program}{w:World}{A:Around}{E:Value->Shared->Prop}{s:Shared}
theorem aJk{ks:List Int}{vs:List Value}(h:ItemsAre (intKind prog w) ks vs):IntsAre vs ks:=by
 induction h with
 | nil=>exact .nil
 | @cons k v ks vs h1 _ ih =>
  cases v with
  | int i t =>
   have:i=k:=by simpa [intKind,Value.isInt] using h1
   rw [this]
   exact .cons k t ih
  | _=>simp [intKind,Value.isInt] at h1
theorem aPl{a b:Addr}{k k':List Int}{Q:Value->Shared->Prop}(ha:IK prog w s.heap k a)(hb:IK prog w s.heap k' b)(hu:A.units < cLine)(h:Q (.bool (HT.lexLt k' k)) s):wpAny (model prog w) A (richCompare .Gt (.ref a) (.ref b)) Q E s:=by
 obtain ⟨⟨cls,dd,data,sl⟩,items,n,ho,hc,hd,hi⟩:=ha
 obtain ⟨⟨cls2,dd2,data2,sl2⟩,items2,n2,ho2,hc2,hd2,hi2⟩:=hb
 simp only at hc hd hc2 hd2
 subst hc hd hc2 hd2
 exact richCompare_meets_room (op:=.Gt) ⟨_,ho,rfl⟩ ⟨_,ho2,rfl⟩ PySem.F.slot_tuple_gt PySem.F.entry_tuple_gt (PySem.F.args_tuple_gt_2 _ _) (aPh a b items items2 n n2 dd dd2 sl sl2 k k' (aJk hi) (aJk hi2))
  ⟨ho,ho2,show Value.bool (HT.lexLt k' k)≠Value.notImplemented/\Q (.bool (HT.lexLt k' k)) s from ⟨(fun x=>nomatch x),h⟩⟩ hu
end
section
variable {prog:Program}{w:World}{A:Around}{R:Result->Shared->Prop}{I S:Addr}{fp wr:List Addr}{n:Nat}{P:Nat->Value->Prop}{St:Nat->Heap->Prop}{Ok:Heap->Prop}{bt:Nat->Nat->Bool}
end
section
variable {prog:Program}{w:World}{A:Around}{E:Value->Shared->Prop}{s:Shared}
end
section
variable {prog:Program}{w:World}{A:Around}{R:Result->Shared->Prop}{I S:Addr}{fp wr:List Addr}{n:Nat}{P:Nat->Value->Prop}{St:Nat->Heap->Prop}{Ok:Heap->Prop}{bt:Nat->Nat->Bool}
theorem aLp(W:Walks prog w A.in1 I fp wr n P St)(hcmp:∀ i j x y (s:Shared) (Q E:Value->Shared->Prop),P i x->P j y->Ok s.heap->Q (.bool (bt i j)) s->wpAny (model prog w) A.in1 (richCompare .Gt x y) Q E s)(hSf:S∉fp)
  (hOk:∀ h h',Ok h->(∀ b o,b∉wr->b≠S->h.get? b=some o->h'.get? b=some o)->Ok h'):∀ (k j:Nat) (s:Shared) (best:Value) (c:Nat),j+1+k=n->St (j+1) s.heap->Ok s.heap->P (argBest bt j) best->s.heap.get? S=some (seqObj "list" #[best,best] c) ->
  (∀ v h' tk,P (argBest bt (n - 1)) v->(∀ b o,b∉wr->b≠S->s.heap.get? b=some o->h'.get? b=some o)->R (.ok (.ret v)) { s with heap:=h',toks:=tk })->codeAny (model prog w) A (.builtin "max.loop" ⟨[.ref I,.none,.ref S],[]⟩) R s:=by
 have hSw:S∉wr:=fun z=>hSf (W.sub _ z)
 have nm:(toString "max"++toString ".loop" : String) = "max.loop":=by decide
 intro k
 induction k with
 | zero =>
  intro j s best c hj st ok hb hS q
  cases hj
  refine codeAny_builtin bDy ?_
  rw [bEh bBv _]
  refine aZ1 (m:=seqItems? (.ref S)) (bE9 hS rfl ?_)
  refine aZ1 (m:=tryCatch (pyNext (.ref I)) _) (bFa (W.done s _ _ st fun h' tk kp=>?_))
  refine aZ1 (m:=updateSeq S (fun _=>#[])) (bEq (kp S _ hSw hS) rfl (aZ1 (bFs (bAl ?_))))
  exact q best _ tk hb fun b o h1 h2 e=>(bCn _ _ (bD0 h2)).trans (kp b o h1 e)
 | succ k ih =>
  intro j s best c hj st ok hb hS q
  refine codeAny_builtin bDy ?_
  rw [bEh bBv _]
  refine aZ1 (m:=seqItems? (.ref S)) (bE9 hS rfl ?_)
  refine aZ1 (m:=tryCatch (pyNext (.ref I)) _) (bFa (W.item (j+1) s _ _ (by omega) st fun v h' tk hv st' kp=>?_))
  have hS':=kp S _ hSw hS
  have ok':=hOk _ _ ok fun b o h1 _ e=>kp b o h1 e
  refine aZ1 (m:=tryCatch (holding [v,v] (richCompare .Gt v best >>= _)) _) (bFa (bDa (aZ1 (hcmp (j+1) (argBest bt j) v best _ _ _ hv hb ok' ?_))))
  refine aZ1 (bDa (bCf ?_))
  refine aZ1 (bFs (bAl ?_))
  cases e:bt (j+1) (argBest bt j) with
  | true =>
   simp only [bDq]
   refine aZ1 (bEq hS' rfl (aZ1 (bFs ?_)))
   rw [nm]
   have up:∀ b o,b≠S->h'.get? b=some o->(h'.update S (Obj.mapSeq fun _=>#[v,v])).get? b=some o:=fun b o h2 q=>(bCn _ _ (bD0 h2)).trans q
   refine bAl ⟨bEi bBv _,ih (j+1) _ v _ (by omega) (W.frame _ _ _ st' fun b hf o q=>up b o (fun z=>hSf (z▸hf)) q) (hOk _ _ ok' fun b o _ h2 q=>up b o h2 q) (by simp only [argBest,e,bDq];exact hv) (bC5 _ hS' rfl) fun v' h2 tk2 hv' kp2=>?_⟩
   exact q v' h2 tk2 hv' fun b o h1 h3 q=>kp2 b o h1 h3 (up b o h3 (kp b o h1 q))
  | false =>
   simp only [bA6,bCm]
   refine aZ1 (bFs ?_)
   rw [nm]
   refine bAl ⟨bEi bBv _,ih (j+1) _ best c (by omega) st' ok' (by simp only [argBest,e,bA6,bCm];exact hb) hS' fun v' h2 tk2 hv' kp2=>?_⟩
   exact q v' h2 tk2 hv' fun b o h1 h3 q=>kp2 b o h1 h3 (kp b o h1 q)
end
section
variable {prog:Program}{w:World}{A:Around}{E:Value->Shared->Prop}{s:Shared}
end
end HS
namespace L2
open PySem PySem.Spec PyProof.Rows
section
variable {X:Cx}
end
end L2
namespace M
open PySem PySem.Spec PyProof.Rows L2
section
variable {K:aZz}{f:List (List Int)->Nat->Nat->Bool}
end
end M
namespace L2
open PySem PySem.Spec PyProof.Rows
section
variable {X:Cx}{pins:List (Addr×Obj)}{σ:St}{H:Hp}{s:Shared}
end
end L2
namespace SRT
open PySem PySem.W PyProof.Rows L2
section
variable {prog:Program}{w:World}{A:Around}{E:Value->Shared->Prop}{s:Shared}
end
end SRT
namespace L2
open PySem PySem.Spec PyProof.Rows
section
variable {X:Cx}{pins:List (Addr×Obj)}{σ:St}
end
end L2
namespace HS
open PySem PySem.W PyProof.Rows
section
variable {prog:Program}{w:World}{A:Around}{E:Value->Shared->Prop}{s:Shared}
theorem tQ{a b:Addr}{ka kb:List Int}{Q:Value->Shared->Prop}(hh:A.handled=none)(hu:A.units+10 < cLine)(ha:IK prog w s.heap ka a)(hb:IK prog w s.heap kb b)
  (q:∀ h' tk,(∀ x o,s.heap.get? x=some o->h'.get? x=some o)->Q (if HT.lexLt ka kb=true then .ref b else .ref a) { s with heap:=h',toks:=tk }):wpAny (model prog w) A (call (.builtin "max") [.ref a,.ref b]) Q E s:=by
 have nm:(toString "max"++toString ".loop" : String) = "max.loop":=by decide
 refine PySem.call_function_tree PySem.F.kind_max PySem.F.plain_max PySem.F.entry_max (PySem.F.args_max2 _ _) ?_
 refine aZ1 (m:=Builtin.Builtins.bindParams "max" ["key","default"] 0 ⟨[],[]⟩) (wpAny_of_eq (a:=[none,none]) rfl ?_)
 refine aZ1 (bCs ?_ (show 2<=sizeLine by decide))
 generalize hT:({ cls:=Value.type "tuple",data:=Data.seq #[Value.ref a,Value.ref b] }:Obj)=T
 have kT:∀ x o,s.heap.get? x=some o->(s.heap.push T).get? x=some o:=fun x o e=>aZ4 _ e
 have hl:(s.heap.push T).IsTuple s.heap.objs.size #[.ref a,.ref b]:=⟨T,bAx _ (by rw [<- hT];rfl),by rw [<- hT],_,by rw [<- hT]⟩
 have ll:s.heap.objs.size < (s.heap.push T).objs.size:=by rw [Heap.size_push];exact bFz _
 generalize hl0:s.heap.objs.size=l at hl ll
 obtain ⟨s1,hs1⟩:∃ s1:Shared,s1={ s with heap:=s.heap.push T }:=⟨_,rfl⟩
 have e1:s1.heap=s.heap.push T:=by rw [hs1]
 rw [<- e1] at hl ll
 have ha1:IK prog w s1.heap ka a:=ha.keep fun o ho=>by rw [e1];exact kT _ _ ho
 have hb1:IK prog w s1.heap kb b:=hb.keep fun o ho=>by rw [e1];exact kT _ _ ho
 have q1:∀ h' tk,(∀ x o,s1.heap.get? x=some o->h'.get? x=some o)->Q (if HT.lexLt ka kb=true then .ref b else .ref a) { s1 with heap:=h',toks:=tk }:=fun h' tk k=>by
  rw [hs1]
  exact q h' tk fun x o e=>k x o (by rw [e1];exact kT x o e)
 rw [<- hs1]
 clear hs1 q kT
 refine aZ1 (wpAny_pyIter_tuple hl ?_)
 refine aZ1 (bCs ?_)
 rw [nm]
 generalize hO:({ cls:=Value.type "tuple_iterator",data:=Data.fields #[Value.ref l,Value.int 0 0] }:Obj)=O
 have sz:(s1.heap.push O).objs.size=s1.heap.objs.size+1:=by rw [Heap.size_push]
 have kp:∀ b o,s1.heap.get? b=some o->((s1.heap.push O).push (seqObj "list" #[] 0)).get? b=some o:=fun b o e=>aZ4 _ (aZ4 _ e)
 have W:=Walks.tuple (prog:=prog) (w:=w) (A:=A.in1) hh s1.heap.objs.size l (bAu ll) #[.ref a,.ref b]
 have hSf:(s1.heap.push O).objs.size∉[s1.heap.objs.size,l]:=fun z=>by
  rw [sz] at z
  rcases aZ3.mp z with z | z
  ·exact absurd z (Nat.succ_ne_self _)
  ·rw [<- bAj.mp z] at ll
   exact absurd ll (Nat.not_lt.mpr (bEo _))
 have hS:((s1.heap.push O).push (seqObj "list" #[] 0)).get? (s1.heap.push O).objs.size=some (seqObj "list" #[] 0):=bAx _ rfl
 have hSw:(s1.heap.push O).objs.size∉[s1.heap.objs.size]:=fun z=>hSf (by rw [bAj.mp z];exact .head _)
 have st0:((s1.heap.push O).push (seqObj "list" #[] 0)).IsTupleIter s1.heap.objs.size l 0/\((s1.heap.push O).push (seqObj "list" #[] 0)).IsTuple l #[.ref a,.ref b]:=by
  obtain ⟨o,h1,h2,n,h3⟩:=hl
  exact ⟨⟨O,aZ4 _ (bAx _ (by rw [<- hO];rfl)),by rw [<- hO],by rw [<- hO];rfl⟩,⟨o,kp _ _ h1,h2,n,h3⟩⟩
 refine bAl ⟨bEi bBv _,codeAny_builtin bDy ?_⟩
 rw [bEh bBv _]
 refine aZ1 (m:=seqItems? (.ref (s1.heap.push O).objs.size)) (bE9 hS rfl ?_)
 refine aZ1 (m:=tryCatch (pyNext (.ref s1.heap.objs.size)) _) (bFa (W.item 0 _ _ _ (show 0 < 2 by decide) st0 fun v h' tk hv st' kp1=>?_))
 have hS':=kp1 _ _ hSw hS
 refine aZ1 (m:=updateSeq (s1.heap.push O).objs.size (fun _=>#[v,v])) (bEq hS' rfl ?_)
 rw [nm]
 have up:∀ b o,b≠(s1.heap.push O).objs.size->h'.get? b=some o->(h'.update (s1.heap.push O).objs.size (Obj.mapSeq fun _=>#[v,v])).get? b=some o:=fun b o h2 q=>(bCn _ _ (bD0 h2)).trans q
 have lw:∀ b,b < s1.heap.objs.size->b∉[s1.heap.objs.size]/\b≠(s1.heap.push O).objs.size:=fun b hb=>by
  refine ⟨fun z=>?_,fun z=>?_⟩
  ·rw [bAj.mp z] at hb
   exact bB7 _ hb
  ·rw [z,sz] at hb
   exact absurd hb (Nat.not_lt.mpr (bEo _))
 have hk:∀ (i:Nat) (v:Value),(#[.ref a,.ref b]:Array Value)[i]? = some v->∃ x,v=.ref x/\IK prog w s1.heap (if i=0 then ka else kb) x:=fun i v hv=>by
  match i,hv with
  | 0,hv=>cases hv;exact ⟨a,rfl,ha1⟩
  | 1,hv=>cases hv;exact ⟨b,rfl,hb1⟩
  | i+2,hv=>simp at hv
 refine bAl ⟨bEi bBv _,aLp (bt:=fun i j=>HT.lexLt (if j=0 then ka else kb) (if i=0 then ka else kb)) (Ok:=fun h=>∀ (i:Nat) (v:Value),(#[.ref a,.ref b]:Array Value)[i]? = some v->∃ x,v=.ref x/\x < s1.heap.objs.size/\IK prog w h (if i=0 then ka else kb) x) W (fun i j x y s' Q E hx hy ok hq=>?_) hSf (fun h h2 ok kk i x hx=>?_) 1 0 _ v _ rfl (W.frame _ _ _ st' fun b hf o q=>up b o (fun z=>hSf (z▸hf)) q) (fun i x hx=>?_) hv (bC5 _ hS' rfl) fun v' h2 tk2 hv' kp2=>?_⟩
 ·obtain ⟨a,rfl,_,ka⟩:=ok i x hx
  obtain ⟨b,rfl,_,kb⟩:=ok j y hy
  exact aPl ka kb (show A.units+1 < cLine by omega) hq
 ·obtain ⟨a,e,la,ka⟩:=ok i x hx
  exact ⟨a,e,la,ka.keep fun o ho=>kk a o (lw a la).1 (lw a la).2 ho⟩
 ·obtain ⟨a,e,ka⟩:=hk i x hx
  obtain ⟨oa,_,_,hoa,_⟩:=id ka
  have la:=aZ9 hoa
  exact ⟨a,e,la,ka.keep fun o ho=>up a o (lw a la).2 (kp1 a o (lw a la).1 (kp a o ho))⟩
 ·have ev:v'=if HT.lexLt ka kb=true then .ref b else .ref a:=by
   have hv':(#[.ref a,.ref b]:Array Value)[if HT.lexLt ka kb=true then 1 else 0]? = some v':=hv'
   split
   ·rename_i z;rw [bAc z] at hv';cases hv';rfl
   ·rename_i z;rw [bAg z] at hv';cases hv';rfl
  rw [ev]
  refine q1 h2 tk2 fun b o e=>?_
  have lb:=aZ9 e
  exact kp2 b o (lw b lb).1 (lw b lb).2 (up b o (lw b lb).2 (kp1 b o (lw b lb).1 (kp b o e)))
end
end HS
namespace L2
open PySem PySem.Spec PyProof.Rows
section
variable {X:Cx}
def aSp:List V->Hp->VK->Prop:=fun xs H Q=>∃ a b ka kb,xs=[.ref a,.ref b]/\H a=some (.tup (ka.map .int))/\H b=some (.tup (kb.map .int))/\ka≠[]/\kb≠[]/\Q (if HT.lexLt ka kb=true then .ref b else .ref a) H
theorem aEx(hc:X.calm=true)(hu:X.A.units+64 < cLine):nU X (.builtin "max") aSp:=by
 intro pins s σ H xs us Q I r h
 obtain ⟨a,b,ka,kb,rfl,h1,h2,n1,n2,q⟩:=h
 obtain ⟨u,w',rfl,r1,r2⟩:=vals2 r
 cases r1
 cases r2
 refine HS.tQ (prog:=X.prog) (w:=X.w) (I.ok.hd hc) (by omega) (aSk I.hok h1) (aSk I.hok h2) fun h' tk k=>⟨_,H,I.kept k,?_,q⟩
 split<;>rfl
end
end L2
namespace M
open PySem PySem.Spec PyProof.Rows L2
section
variable {K:aZz}
noncomputable def aRv(rs:List Ev):Res Ev:=match rs with
 | [.p d,.p e]=>match vC [d,e] with
  | some [ka,kb]=>if ka≠[]/\kb≠[] then .ok (.p (if HT.lexLt ka kb=true then e else d)) else .bad
  | _=>.bad
 | _=>.bad
theorem aM3:aCe aRv:=by
 intro rs C h
 unfold aRv at h
 split at h
 ·split at h
  ·split at h<;>cases h
  ·cases h
 ·cases h
theorem aP3:oB K aSp aRv:=by
 intro W Hs G H vs rs Q gh he hw
 unfold aRv at hw
 split at hw
 ·rename_i d e
  split at hw
  ·rename_i ka kb ek
   split at hw
   ·rename_i hz
    match vs,he with
    | [v,u],⟨h1,h2,_⟩ =>
     have h1:Rep K G v d:=h1
     have h2:Rep K G u e:=h2
     have rf:=aAu (ks:=[ka,kb]) gh (show Reps K G [v,u] ([ka,kb].map rC) from rW ek▸.cons h1 (.cons h2 .nil)) (fun k hk=>by
      rcases aZ3.mp hk with rfl | hk
      ·exact hz.1
      ·rw [bAj.mp hk];exact hz.2)
     obtain ⟨⟨a,rfl,ha⟩,_⟩:=rf.2 0 v ka rfl rfl
     obtain ⟨⟨b,rfl,hb⟩,_⟩:=rf.2 1 u kb rfl rfl
     refine ⟨a,b,ka,kb,rfl,ha,hb,hz.1,hz.2,?_⟩
     have q:=hw G H (if HT.lexLt ka kb=true then .ref b else .ref a) (Step.refl gh)
     refine q ?_
     show Rep K G _ _
     split
     ·exact h2
     ·exact h1
   ·exact hw.elim
  ·exact hw.elim
 ·exact hw.elim
end
section
variable {X:Cx}{K:aZz}
def aF7(K:aZz):V->List V->Hp->VK->Prop:=fun x vs H Q=>∃ d ds y,vs=[y]/\Rep K H x (.list ds)/\Rep K H y d/\SeqAt.shaped d=true/\SeqAt.shaped (.list ds)=true/\ds.findIdx (fun z=>z.eqv d) < ds.length/\ds.length<=100000/\Q (.int (ds.findIdx (fun z=>z.eqv d):Nat)) H
theorem aGk(hu:X.A.units+65 < cLine):MtR X "list.index" (aF7 K):=by
 intro pins s σ H x vs v us Q I rx rv h
 obtain ⟨d,ds,y,rfl,h1,h2,o1,o2,hj,hl,q⟩:=h
 obtain ⟨u,rfl,ru⟩:=vals1 rv
 have c2:=bDz o2
 obtain ⟨as,r1⟩:=h1.reads I.hok c2 rx
 obtain ⟨bs,r2⟩:=h2.reads I.hok (bDz o1) ru
 cases r1 with
 | @list a o its n xs as k1 k2 k3 k4 =>
 obtain ⟨cls,dd,data,sl⟩:=o
 simp only at k2 k3
 subst k2 k3
 have c2:PyData.canLayAll0 ds=true:=c2
 have em:=SeqAt.readsAll_map _ _ _ c2 k4
 have hs:its.size=ds.length:=by rw [<- em,aZ0,bBc]
 have ea:∀ (m:Nat) (hm:m < its.size),SeqAt.readOf s.heap its[m]=ds[m]'(by omega):=fun m hm=>by
  have:(its.toList.map (SeqAt.readOf s.heap))[m]? = ds[m]?:=by rw [em]
  rw [bA0,aZ5 (by rw [bBc];exact hm),aZ5 (by omega)] at this
  simpa using this
 have hn:=aD0
 refine call_meets bFt ⟨_,k1,rfl⟩ PySem.F.entry_list_index (PySem.F.args_list_index_2 _ _)
  (SeqAt.list_indexAt a its n dd sl u (fun y=>(SeqAt.readOf s.heap y).eqv d) (ds.findIdx fun z=>z.eqv d) (by rw [hs];exact hj) (by omega) ?_ ?_) ⟨k1,SeqAt.items_eqAt k4 r2 c2 (bDz o1) (room_in_shaped o1 hu),⟨.int (ds.findIdx (fun z=>z.eqv d):Nat),H,I.tok _,⟨_,rfl⟩,q⟩⟩
 ·show (SeqAt.readOf s.heap its[ds.findIdx fun z=>z.eqv d]).eqv d=true
  rw [ea]
  exact List.findIdx_getElem (p:=fun z:PyData=>z.eqv d) (w:=hj)
 ·intro m hm hlt
  show (SeqAt.readOf s.heap its[m]).eqv d=false
  rw [ea m hm]
  exact List.not_of_lt_findIdx (p:=fun z:PyData=>z.eqv d) hlt
noncomputable def mM(x y:Ev):Res Ev:=match dat y,dat x with
 | some d,some (.list ds)=>if SeqAt.shaped d=true/\SeqAt.shaped (.list ds)=true/\ds.findIdx (fun z=>z.eqv d) < ds.length/\ds.length<=100000 then .ok (.p (.int (ds.findIdx (fun z=>z.eqv d):Nat))) else .bad
 | _,_=>.bad
theorem aEv:NoX mM:=by
 intro x y C h
 unfold mM at h
 split at h
 ·split at h<;>cases h
 ·cases h
theorem aGx:OpM K (fun v u H Q=>aF7 K v [u] H Q) mM:=by
 intro W G H v u x y Q gh hx hy hw
 unfold mM at hw
 split at hw
 ·rename_i d ds e1 e2
  split at hw
  ·rename_i hz
   exact ⟨d,ds,u,rfl,hx.read gh e2,hy.read gh e1,hz.1,hz.2.1,hz.2.2.1,hz.2.2.2,hw G H _ (Step.refl gh) (.int _)⟩
  ·exact hw.elim
 ·exact hw.elim
end
end M
namespace N
open PySem PySem.Spec PyProof.Rows L2 M
def frD(x:Int×Int):D:=.tuple [.int x.1,.int x.2]
abbrev Pl:=Int×Int×(Int×Int)
def plD(p:Pl):D:=.tuple [.int p.1,.int p.2.1,frD p.2.2]
def slD(p:Int×Int):D:=.tuple [.int p.1,.int p.2]
theorem at0{α:Type}(x:α)(r:List α):atI (x :: r) 0=some x:=xQ (j:=0) rfl
theorem at1{α:Type}(x y:α)(r:List α):atI (x :: y :: r) 1=some y:=xQ (j:=1) rfl
theorem at2{α:Type}(x y z:α)(r:List α):atI (x :: y :: z :: r) 2=some z:=xQ (j:=2) rfl
theorem gP(i j:Int):PyData.eqv (.int i) (.int j)=(i == j):=by simp [PyData.eqv]
theorem iE(i:Int):SeqAt.shaped (.int i)=true:=by simp [SeqAt.shaped,PyData.canLay0,PyData.depth]
def aVh{α:Type}(f:D->Option α):List D->Option (List α)
 | []=>some []
 | d :: r=>match f d with
  | none=>none
  | some a=>match aVh f r with
   | none=>none
   | some as=>some (a :: as)
theorem o9{α:Type}{f:D->Option α}{enc:α->D}(h:∀ a,f (enc a)=some a):∀ xs:List α,aVh f (xs.map enc)=some xs
 | []=>rfl
 | x :: xs=>by
  show (match f (enc x) with | none=>none | some a=>match aVh f (xs.map enc) with | none=>none | some as=>some (a :: as))=_
  rw [h x,o9 h xs]
def aW4:D->Option (Int×Int)
 | .tuple [.int a,.int b]=>some (a,b)
 | _=>none
def aWh:D->Option Pl
 | .tuple [.int i,.int j,.tuple [.int a,.int b]]=>some (i,j,(a,b))
 | _=>none
theorem aDx(x:Int×Int):aW4 (frD x)=some x:=rfl
theorem aDj(x:Pl):aWh (plD x)=some x:=rfl
theorem dR{α:Type}{g:D->Option (Option D)}{enc:α->D}{out:α->D}:∀ xs:List α,(∀ x∈xs,g (enc x)=some (some (out x)))->nV g (xs.map enc)=some (xs.map out)
 | [],_=>rfl
 | x :: xs,h=>by
  show (match g (enc x) with | none=>none | some o=>match nV g (xs.map enc) with | none=>none | some r=>some (match o with | some y=>y :: r | none=>r))=_
  rw [h x (.head _),dR xs fun y hy=>h y (.tail _ hy)]
  rfl
def ltF(x y:Int×Int):Bool:=decide (x.1*y.2 < y.1*x.2)
def best(b:Int×Int):List (Int×Int)->Int×Int
 | []=>b
 | x :: r=>best (if ltF b x=true then x else b) r
def FSz(n:Nat)(x:Int×Int):Prop:=Sz n x.1/\Sz n x.2
def Good(n:Nat)(x:Int×Int):Prop:=1<=x.2/\Sz n x.1/\Sz n x.2
theorem Good.fsz{n:Nat}{x:Int×Int}(h:Good n x):FSz n x:=h.2
theorem Good.mono{m n:Nat}{x:Int×Int}(h:Good m x)(l:m<=n):Good n x:=⟨h.1,h.2.1.mono l,h.2.2.mono l⟩
theorem oE{n:Nat}{t b:Int}(ht:Sz n t)(hb:Sz n b)(h0:b≠0):Good n (FR.mk t b):=⟨(FR.sS h0).1.pos,Sz.le ht (bA7 _ _),Sz.le hb (bA7 _ _)⟩
def hT(i:Int)(x:Int×Int):Int×Int:=FR.mk (i*x.1) (1*x.2)
def hP(x y:Int×Int):Int×Int:=FR.mk (x.1*y.2+y.1*x.2) (x.2*y.2)
def hgt(p:Pl)(pt:(Int×Int)×(Int×Int)):Int×Int:=hP (hP (hT p.1 pt.1) (hT p.2.1 pt.2)) p.2.2
theorem gR{m n:Nat}{i:Int}{x:Int×Int}(hi:Sz m i)(hx:Good n x):Good (m+n) (hT i x) :=
 oE (Sz.mul hi hx.2.1) (by rw [bFu];exact hx.2.2.mono (Nat.le_add_left _ _)) (by have:=hx.1;omega)
theorem mK{m n:Nat}{x y:Int×Int}(hx:Good m x)(hy:Good n y):Good (m+n+1) (hP x y) :=
 oE (Sz.add (Sz.mul hx.2.1 hy.2.2) ((Sz.mul hy.2.1 hx.2.2).mono (by omega))) ((Sz.mul hx.2.2 hy.2.2).mono (by omega)) (fun z=>by
  rcases bC6.mp z with q | q
  ·have:=hx.1;omega
  ·have:=hy.1;omega)
theorem Good.ne{m n:Nat}{x y:Int×Int}(hx:Good m x)(hy:Good n y):x.2*y.2≠0:=fun z=>by
 rcases bC6.mp z with q | q
 ·have:=hx.1;omega
 ·have:=hy.1;omega
theorem aC8:Sz 2000 (1:Int):=by unfold Sz;exact Nat.one_lt_two_pow (by decide)
open Classical in
noncomputable def mOf{α:Type}(enc:α->List L)(P:α->Prop)(g:α->Res L)(ls:List L):Res L:=if h:∃ a,enc a=ls/\P a then g h.choose else .bad
theorem cK{α:Type}{enc:α->List L}{P:α->Prop}{g:α->Res L}(inj:∀ a b,enc a=enc b->a=b){a:α}(h:P a):mOf enc P g (enc a)=g a:=by
 have hx:∃ b,enc b=enc a/\P b:=⟨a,rfl,h⟩
 unfold mOf
 rw [dif_pos hx,inj _ _ hx.choose_spec.1]
theorem cJ{α:Type}{enc:α->List L}{P:α->Prop}{g:α->Res L}{n:Nat}{f:MS}(h:∀ a,P a->eK n f (enc a)=g a):∀ ls,mOf enc P g ls=.bad\/eK n f ls=mOf enc P g ls:=by
 intro ls
 unfold mOf
 by_cases hx:∃ a,enc a=ls/\P a
 ·rw [dif_pos hx]
  exact .inr ((bCl _ hx.choose_spec.1.symm).trans (h _ hx.choose_spec.2))
 ·exact .inl (dif_neg hx)
theorem frI{a b:Int×Int}(h:frD a=frD b):a=b:=bAn (bCl aW4 h)
theorem plI{a b:Pl}(h:plD a=plD b):a=b:=bAn (bCl aWh h)
theorem aV7{a b:List Pl}(h:a.map plD=b.map plD):a=b:=by
 have e:=bCl (aVh aWh) h
 rw [o9 aDj,o9 aDj] at e
 exact bAn e
theorem ptI{x y:(Int×Int)×(Int×Int)}(h:PyData.tuple [frD x.1,frD x.2]=.tuple [frD y.1,frD y.2]):x=y:=by
 injection h with h
 injection h with h1 h2
 injection h2 with h2 _
 exact bBq (frI h1) (frI h2)
def ePH(a:Pl×(Int×Int)×(Int×Int)):List L:=[.p (plD a.1),.p (.tuple [frD a.2.1,frD a.2.2])]
theorem aHg(a b:Pl×(Int×Int)×(Int×Int))(h:ePH a=ePH b):a=b:=by
 unfold ePH at h
 injection h with h1 h2
 injection h2 with h2 _
 injection h1 with h1
 injection h2 with h2
 exact bBq (plI h1) (ptI h2)
theorem iY(a:D)(r:List D):ixE (.p (.tuple (a :: r))) (.p (.int 0))=.ok (.p a):=by simp [ixE,kY,at0]
theorem i8(a b:D)(r:List D):ixE (.p (.tuple (a :: b :: r))) (.p (.int 1))=.ok (.p b):=by simp [ixE,kY,at1]
theorem u4(a b d:D)(r:List D):ixE (.p (.tuple (a :: b :: d :: r))) (.p (.int 2))=.ok (.p d):=by simp [ixE,kY,at2]
theorem s8(p:Pl):ixE (.p (plD p)) (.p (.int 0))=.ok (.p (.int p.1)):=iY _ _
theorem tM(p:Pl):ixE (.p (plD p)) (.p (.int 1))=.ok (.p (.int p.2.1)):=i8 _ _ _
theorem qW(p:Pl):ixE (.p (plD p)) (.p (.int 2))=.ok (.p (frD p.2.2)):=u4 _ _ _ _
theorem qQ(p:Int×Int):ixE (.p (frD p)) (.p (.int 0))=.ok (.p (.int p.1)):=iY _ _
theorem qR(p:Int×Int):ixE (.p (frD p)) (.p (.int 1))=.ok (.p (.int p.2)):=i8 _ _ _
section
variable {κ α:Type}[DecidableEq κ]
def gF:List (κ×α)->κ->Option α
 | [],_=>none
 | p :: r,k=>if p.1=k then some p.2 else gF r k
def aKs(k:κ)(v:α):List (κ×α)->List (κ×α)
 | []=>[]
 | p :: r=>(if p.1=k then (p.1,v) else p) :: aKs k v r
def vM(m:List (κ×α))(k:κ)(v:α):List (κ×α):=if (gF m k).isSome=true then aKs k v m else m++[(k,v)]
def encM(ek:κ->D)(ev:α->D)(m:List (κ×α)):List (D×D):=m.map fun p=>(ek p.1,ev p.2)
variable {ek:κ->D}{ev:α->D}(inj:∀ a b,ek a=ek b->a=b)
include inj
theorem rO(k:κ):∀ m:List (κ×α),aBx (encM ek ev m) (ek k)=(gF m k).map ev
 | []=>rfl
 | p :: r=>by
  unfold encM
  rw [bAb]
  unfold aBx gF
  by_cases e:p.1=k
  ·rw [bAc (by rw [e]),bAc e];rfl
  ·rw [bAg (fun z=>e (inj _ _ z)),bAg e]
   exact rO k r
theorem aC4(k:κ)(v:α):∀ m:List (κ×α),aOo (ek k) (ev v) (encM ek ev m)=encM ek ev (aKs k v m)
 | []=>rfl
 | p :: r=>by
  have ih:=aC4 k v r
  unfold encM at ih ⊢
  rw [bAb]
  unfold aOo aKs
  rw [bAb,ih]
  by_cases e:p.1=k
  ·rw [bAc (by rw [e]),bAc e]
  ·rw [bAg (fun z=>e (inj _ _ z)),bAg e]
theorem aDp(k:κ)(v:α)(m:List (κ×α)):aHx (encM ek ev m) (ek k) (ev v)=encM ek ev (vM m k v):=by
 unfold aHx vM
 rw [rO inj]
 cases e:gF m k with
 | none =>
  rw [bAg (by simp),bAg (by simp)]
  unfold encM
  rw [bA4]
  rfl
 | some x =>
  rw [bAc (by rfl),bAc (by rfl)]
  exact aC4 inj k v m
end
theorem oK(a b:Int×Int)(h:slD a=slD b):a=b:=by
 unfold slD at h
 injection h with h
 injection h with h1 h2
 injection h2 with h2 _
 injection h1 with h1
 injection h2 with h2
 exact bBq h1 h2
theorem aG1{α:Type}{ev:α->D}(m:List ((Int×Int)×α)):dsp (encM slD ev m)=(false,encM slD ev m):=by
 cases m<;>rfl
theorem aHh(s:Int×Int):(aSd (slD s)).isSome=true:=rfl
theorem aDc{α:Type}{ev:α->D}(m:List ((Int×Int)×α))(s:Int×Int):zD (encM slD ev m) (slD s)=some ((gF m s).map ev):=by
 unfold zD
 rw [aG1]
 dsimp only
 rw [bAc (aHh s),rO oK]
theorem aKo{α:Type}{ev:α->D}(m:List ((Int×Int)×α))(s:Int×Int)(v:α)(h:m.length<=100000):aFc (encM slD ev m) (slD s) (ev v)=some (encM slD ev (vM m s v)):=by
 unfold aFc
 rw [aG1]
 dsimp only
 rw [bAc ⟨aHh s,by unfold encM;rw [aZ0];exact h⟩,aDp oK]
theorem rX{α κ:Type}[DecidableEq κ](k:κ)(v:α):∀ m:List (κ×α),(aKs k v m).length=m.length
 | []=>rfl
 | _ :: r=>by unfold aKs;rw [aZ2,aZ2,rX k v r]
theorem wW{α κ:Type}[DecidableEq κ](m:List (κ×α))(k:κ)(v:α):(vM m k v).length<=m.length+1:=by
 unfold vM
 split
 ·rw [rX];exact bEo _
 ·rw [bAi];exact bAf _
theorem yT{α κ:Type}[DecidableEq κ](k:κ)(v:α)(j:κ):∀ m:List (κ×α),gF (aKs k v m) j=if j=k then (gF m k).map (fun _=>v) else gF m j
 | []=>by unfold aKs gF;split<;>rfl
 | p :: r=>by
  have ih:=yT k v j r
  unfold aKs gF
  by_cases e:p.1=k
  ·rw [bAc e]
   by_cases e2:p.1=j
   ·have:j=k:=by rw [<- e2,e]
    rw [bAc e2,bAc this,bAc e];rfl
   ·have:j≠k:=fun z=>e2 (by rw [e,z])
    rw [bAg e2,bAg this,bAg e2]
    rw [bAg this] at ih
    exact ih
  ·rw [bAg e]
   by_cases e2:p.1=j
   ·have:j≠k:=fun z=>e (by rw [e2,z])
    rw [bAc e2,bAg this,bAc e2]
   ·rw [bAg e2,ih]
    by_cases e3:j=k
    ·rw [bAc e3,bAc e3,bAg e]
    ·rw [bAg e3,bAg e3,bAg e2]
theorem aEh{α κ:Type}[DecidableEq κ](j:κ)(l:List (κ×α)):∀ m:List (κ×α),gF (m++l) j=match gF m j with
  | some x=>some x
  | none=>gF l j
 | []=>rfl
 | p :: r=>by
  have ih:=aEh j l r
  rw [bAm]
  show (if p.1=j then some p.2 else gF (r++l) j)=match (if p.1=j then some p.2 else gF r j) with
   | some x=>some x
   | none=>gF l j
  by_cases e:p.1=j
  ·rw [bAc e,bAc e]
  ·rw [bAg e,bAg e];exact ih
theorem jQ{α κ:Type}[DecidableEq κ](m:List (κ×α))(k:κ)(v:α)(j:κ):gF (vM m k v) j=if j=k then some v else gF m j:=by
 unfold vM
 cases e:gF m k with
 | none =>
  rw [bAg (by simp),aEh]
  by_cases ej:j=k
  ·subst ej;rw [e,bAc rfl];unfold gF;rw [bAc rfl]
  ·rw [bAg ej]
   cases e2:gF m j with
   | some x=>rfl
   | none=>unfold gF;rw [bAg (fun z=>ej z.symm)];rfl
 | some x =>
  rw [bAc (by rfl),yT]
  by_cases ej:j=k
  ·rw [bAc ej,bAc ej,e];rfl
  ·rw [bAg ej,bAg ej]
def slp(p:Pl):Int×Int:=(p.1,p.2.1)
def kys{α:Type}(m:List ((Int×Int)×α)):List (List Int):=m.map fun e=>[e.1.1,e.1.2]
def un2(k:List Int):Int×Int:=(k.getD 0 0,k.getD 1 0)
def aUe{α:Type}(m:List ((Int×Int)×α))(d:α)(k:List Int):α:=(gF m (un2 k)).getD d
theorem aM5{α:Type}{ev:α->D}(m:List ((Int×Int)×α)):(encM slD ev m).map (·.1)=(kys m).map rC:=by
 unfold encM kys
 rw [bA3,bA3]
 rfl
theorem aN2{α:Type}(m:List ((Int×Int)×α)):((kys m).all fun k=>!k.isEmpty)=true:=by
 unfold kys
 rw [List.all_map]
 exact bCz.mpr fun _ _=>rfl
theorem yC{α κ:Type}[DecidableEq κ]:∀ {m:List (κ×α)} {e:κ×α},e∈m->∃ v,gF m e.1=some v
 | p :: r,e,h=>by
  unfold gF
  by_cases q:p.1=e.1
  ·rw [bAc q];exact ⟨_,rfl⟩
  ·rw [bAg q]
   rcases aZ3.mp h with z | z
   ·exact absurd (by rw [z]) q
   ·exact yC z
theorem aEe{α:Type}{m:List ((Int×Int)×α)}{k:List Int}(h:k∈uR (kys m))(d:α):rC k=slD (un2 k)/\k=[(un2 k).1,(un2 k).2]/\gF m (un2 k)=some (aUe m d k):=by
 have h1:=(jO (kys m)).mem_iff.mp h
 obtain ⟨e,he,rfl⟩:=bAa.mp h1
 obtain ⟨v,hv⟩:=yC he
 have hu:un2 [e.1.1,e.1.2]=e.1:=rfl
 refine ⟨rfl,rfl,?_⟩
 unfold aUe
 rw [hu,hv]
 rfl
theorem aGp{α:Type}(f:α->Bool):∀ xs:List α,aCv (xs.map fun x=>PyData.bool (f x))=some (xs.map f)
 | []=>rfl
 | x :: xs=>by
  show (match aCv (xs.map fun x=>PyData.bool (f x)) with | some bs=>some (f x :: bs) | none=>none)=_
  rw [aGp f xs]
  rfl
theorem any_map{α:Type}(f:α->Bool)(xs:List α):(xs.map f).any id=xs.any f:=by rw [List.any_map];rfl
theorem aAz{x:Int}(n:Nat)(h:x.natAbs < 2 ^ n):Sz n x:=h
theorem cm{i j:Int}{m n:Nat}(h1:Sz m i)(h2:Sz n j)(hm:m<=60000)(hn:n<=60000):CMulW i j:=⟨h1.mono hm,h2.mono hn⟩
theorem cT{a b:Int}(hb:0 < b):0<=a.fmod b/\a.fmod b < b:=by
 rw [bEv a (bCv hb)]
 exact ⟨Int.emod_nonneg a (by omega),Int.emod_lt_of_pos a hb⟩
theorem aL{f g:MS}{en e1:En}(h:f en=some (.nx e1)):bU f g en=g e1:=by unfold bU;rw [h]
theorem jA{f g:MS}{en:En}{l:L}(h:f en=some (.rt l)):bU f g en=some (.rt l):=by unfold bU;rw [h]
theorem b9{i:Nat}{fe:En->Res Ev}{en:En}{d:D}(h:fe en=.ok (.p d)):cO i fe en=some (.nx (en.set i (some (.p d)))):=by unfold cO;rw [h]
theorem gH{i:Nat}{fe:En->Res Ev}{en:En}{d:D}(h:fe en=.ok (.f d)):cO i fe en=some (.nx (en.set i (some (.o d)))):=by unfold cO;rw [h]
theorem pL{ft:En->Res Bool}{f g:MS}{en:En}(h:ft en=.ok true):i9 ft f g en=f en:=by unfold i9;rw [h];rfl
theorem nJ{ft:En->Res Bool}{f g:MS}{en:En}(h:ft en=.ok false):i9 ft f g en=g en:=by unfold i9;rw [h];rfl
theorem bH{n:Nat}{f:MS}{ls:List L}{l:L}(h:f (bD n ls)=some (.rt l)):eK n f ls=.ok l:=by unfold eK;rw [h]
theorem aZc{x:Int}(h0:-100000<=x)(h1:x<=100000):Sz 100 x:=by
 unfold Sz
 omega
theorem aTp(C:Int){b:Int}(h0:1<=b)(h1:b<=100000):mG C b:=⟨by omega,(aZc (by omega) h1).mono (by decide)⟩
theorem aIa{α:Type}(f:α->D)(h:∀ a,PyData.canLay0 (f a)=true):∀ xs:List α,PyData.canLayAll0 (xs.map f)=true
 | []=>rfl
 | x :: xs=>by rw [bAb,PyData.canLayAll0,h x,aIa f h xs];rfl
theorem aHs{α:Type}(f:α->D)(n:Nat)(h:∀ a,PyData.depth (f a)<=n):∀ xs:List α,PyData.depthAll (xs.map f)<=n
 | []=>bBo _
 | x :: xs=>by
  rw [bAb,PyData.depthAll]
  exact Nat.max_le.mpr ⟨h x,aHs f n h xs⟩
theorem aJf{α:Type}(f:α->D)(h1:∀ a,PyData.canLay0 (f a)=true)(h2:∀ a,PyData.depth (f a)<=9)(xs:List α):SeqAt.shaped (.list (xs.map f))=true:=by
 have a:PyData.canLay0 (.list (xs.map f))=true:=by rw [PyData.canLay0];exact aIa f h1 xs
 have b:PyData.depth (.list (xs.map f))<=64:=by
  rw [PyData.depth]
  have:=aHs f 9 h2 xs
  omega
 unfold SeqAt.shaped
 rw [a,aZ8 b]
 rfl
theorem aS7(x:Int×Int):SeqAt.shaped (frD x)=true:=by simp [SeqAt.shaped,frD,PyData.canLay0,PyData.canLayAll0,PyData.depth,PyData.depthAll]
theorem qY{fi:En->Res (List D)}{tg:D->En->Option En}{f:MS}{en:En}{ds:List D}(h:fi en=.ok ds):aA2 fi tg f en=gS tg f ds en:=by unfold aA2;rw [h]
theorem iT{α:Type}{g:D->Option (Option D)}{enc:α->D}{out:α->D}{p:α->Bool}:∀ xs:List α,(∀ x∈xs,g (enc x)=some (if p x=true then some (out x) else none))->nV g (xs.map enc)=some ((xs.filter p).map out)
 | [],_=>rfl
 | x :: xs,h=>by
  show (match g (enc x) with | none=>none | some o=>match nV g (xs.map enc) with | none=>none | some r=>some (match o with | some y=>y :: r | none=>r))=_
  rw [h x (.head _),iT xs fun y hy=>h y (.tail _ hy),List.filter_cons]
  cases p x<;>rfl
theorem aC2{α:Type}(f g:α->D):∀ xs:List α,aFw (xs.map f) (xs.map g)=xs.map fun x=>.tuple [f x,g x]
 | []=>rfl
 | x :: xs=>by
  show PyData.tuple [f x,g x] :: aFw (xs.map f) (xs.map g)=_
  rw [aC2 f g xs]
  rfl
theorem aN8(x y:Int×Int):PyData.eqv (frD x) (frD y)=decide (x=y):=by
 have:PyData.eqv (frD x) (frD y)=(x.1 == y.1 && (x.2 == y.2 && true)):=by simp [frD,PyData.eqv,PyData.eqvAll]
 rw [this]
 by_cases h:x=y
 ·subst h;simp
 ·rw [aZ7 h]
  by_cases h1:x.1=y.1
  ·have h2:¬ x.2=y.2:=fun h2=>h (bBq h1 h2)
   simp [h1,h2]
  ·simp [h1]
theorem aIx{α:Type}(f:α->D)(h:∀ a,lfD (f a)=true):∀ xs:List α,lfA (xs.map f)=true
 | []=>by simp [lfA]
 | x :: xs=>by rw [bAb];unfold lfA;rw [h x,aIx f h xs];rfl
theorem aYk(x:Int×Int):lfD (frD x)=true:=by simp [frD,lfD,lfA]
theorem Sz.addM{m n:Nat}{x y:Int}(hx:Sz m x)(hy:Sz n y):Sz (max m n+1) (x+y):=Sz.add (hx.mono (Nat.le_max_left _ _)) (hy.mono (Nat.le_max_right _ _))
theorem Sz.subM{m n:Nat}{x y:Int}(hx:Sz m x)(hy:Sz n y):Sz (max m n+1) (x - y):=Sz.sub (hx.mono (Nat.le_max_left _ _)) (hy.mono (Nat.le_max_right _ _))
theorem wQ{n:Nat}{a b:Int}(h:0 < b)(hb:Sz n b):Sz n (a.fmod b):=by
 have:=cT (a:=a) h
 exact Sz.le hb (by omega)
theorem x6{n:Nat}{a b:Int}(ha:Sz n a):Sz n (a.fdiv b):=Sz.le ha (bA7 _ _)
theorem cm2{m n:Nat}{i j:Int}(h1:Sz m i)(h2:Sz n j)(hm:m<=60000)(hn:n<=60000):CMulW i j:=⟨h1.mono hm,h2.mono hn⟩
theorem jV{i j:Int}(h:CMulW i j):eV (.p (.int i)) (.p (.int j))=.ok (.p (.int (i*j))):=by simp [eV,aEd,h]
theorem i6{i j:Int}(h:mG i j):j6 (.p (.int i)) (.p (.int j))=.ok (.p (.int (i.fdiv j))):=by simp [j6,aEd,h]
theorem fK{i j:Int}(h:j≠0):kL (.p (.int i)) (.p (.int j))=.ok (.p (.int (i.fmod j))):=by simp [kL,aEd,h]
theorem l6{i j:Int}(h:aJd i j):aB3 (.p (.int i)) (.p (.int j))=.ok (.p (.int (i ^ j.toNat))):=by simp [aB3,aEd,h]
theorem lF(i j:Int):iD (.p (.int i)) (.p (.int j))=.ok (.p (.int (i+j))):=by simp [iD]
theorem hX(i j:Int):kZ (.p (.int i)) (.p (.int j))=.ok (.p (.int (i - j))):=by simp [kZ,iG]
def eII(a:Int×Int):List L:=[.p (.int a.1),.p (.int a.2)]
theorem aBo(a b:Int×Int)(h:eII a=eII b):a=b:=by
 unfold eII at h
 injection h with h1 h2
 injection h2 with h2 _
 injection h1 with h1
 injection h2 with h2
 injection h1 with h1
 injection h2 with h2
 exact bBq h1 h2
theorem aWa{a b:List (Int×Int)}(h:a.map frD=b.map frD):a=b:=by
 have e:=bCl (aVh aW4) h
 rw [o9 aDx,o9 aDx] at e
 exact bAn e
def eFs(hs:List (Int×Int)):List L:=[.p (.list (hs.map frD))]
theorem xS(a b:List (Int×Int))(h:eFs a=eFs b):a=b:=by
 unfold eFs at h
 injection h with h _
 injection h with h
 injection h with h
 exact aWa h
def eFF(a:(Int×Int)×(Int×Int)):List L:=[.p (frD a.1),.p (frD a.2)]
theorem mS(a b:(Int×Int)×(Int×Int))(h:eFF a=eFF b):a=b:=by
 unfold eFF at h
 injection h with h1 h2
 injection h2 with h2 _
 injection h1 with h1
 injection h2 with h2
 exact bBq (frI h1) (frI h2)
abbrev Pt:=(Int×Int)×(Int×Int)
theorem aCs{α β:Type}(a:α)(f:α->Res β):(Res.ok a).bind f=f a:=rfl
theorem xK{fe:En->Res Ev}{en:En}{d:D}(h:fe en=.ok (.f d)):dW fe en=some (.rt (.o d)):=by unfold dW;rw [h];rfl
theorem dC{fe:En->Res Ev}{en:En}{d:D}(h:fe en=.ok (.p d)):dW fe en=some (.rt (.p d)):=by unfold dW;rw [h];rfl
theorem eB{n:Nat}{js:List Nat}{fi:En->Res (List D)}{tg:D->En->Option En}{ft:En->Res Bool}{fe:En->Res Ev}{en:En}{ds es:List D}(h1:fi en=.ok ds)(h2:ds.length<=100000)(h3:nV (aV n js tg ft fe en) ds=some es):dJ n js fi tg ft fe en=.ok (.f (.list es)):=by
 unfold dJ
 rw [h1,aCs]
 unfold aRm
 rw [bAc h2,h3]
end N
local macro_rules | `(tactic| walk_at "z") => `(tactic| repeat (first | assumption | apply L2.Sz.mul | apply N.Sz.addM | apply N.Sz.subM | apply L2.Sz.neg | apply N.x6 | (apply N.wQ; (first | decide | omega)) | exact N.sz_lit4 (by decide) | exact N.sz_lit (by decide) | exact N.sz_lit70 (by decide) | exact N.sz_big (by decide)))
local macro_rules | `(tactic| walk_at "d") => `(tactic| first | assumption | (first | apply N.cm2 | apply N.cd2) <;> (first | decide | omega | (walk_at "z")) | decide | omega)
namespace N
open PySem PySem.Spec PyProof.Rows L2 M
def leF(x y:Int×Int):Prop:=x.1*y.2<=y.1*x.2
theorem fN(x:Int×Int):leF x x:=bCk _
theorem tN{x y:Int×Int}(h:ltF y x=false):leF x y:=by
 unfold ltF at h
 have:=bCp h
 unfold leF
 omega
theorem aAc{x y:Int×Int}(h:ltF x y=true):leF x y:=by
 unfold ltF at h
 have:=bBa h
 unfold leF
 omega
theorem eW{x y z:Int×Int}(hx:1<=x.2)(hy:1<=y.2)(hz:1<=z.2)(h1:leF x y)(h2:leF y z):leF x z:=by
 unfold leF at *
 have a:=bCw h1 (show 0<=z.2 by omega)
 have b:=bCw h2 (show 0<=x.2 by omega)
 refine bEw (a:=y.2) ?_ (by omega)
 have e1:x.1*z.2*y.2=x.1*y.2*z.2:=by ac_rfl
 have e2:z.1*x.2*y.2=z.1*y.2*x.2:=by ac_rfl
 have e3:y.1*x.2*z.2=y.1*z.2*x.2:=by ac_rfl
 omega
theorem aIr{a b d:Int}(h:d∣a*b)(g:Int.gcd a d=1):d∣b:=by
 have h1:d.natAbs∣a.natAbs*b.natAbs:=by
  rw [<- bE6]
  exact bC7.mpr h
 have c:Nat.Coprime d.natAbs a.natAbs:=by
  show Nat.gcd d.natAbs a.natAbs=1
  rw [Nat.gcd_comm]
  exact g
 exact bC7.mp (Nat.Coprime.dvd_of_dvd_mul_left c h1)
theorem aD3{x y:Int×Int}(hx:FR.Fr x)(hy:FR.Fr y)(h1:leF x y)(h2:leF y x):x=y:=by
 have e:x.1*y.2=y.1*x.2:=Int.le_antisymm h1 h2
 have p1:=hx.pos
 have p2:=hy.pos
 have d1:x.2∣y.2:=by
  have:x.2∣x.1*y.2:=⟨y.1,by rw [e];ac_rfl⟩
  exact aIr this hx.low
 have d2:y.2∣x.2:=by
  have:y.2∣y.1*x.2:=⟨x.1,by rw [<- e];ac_rfl⟩
  exact aIr this hy.low
 have eb:x.2=y.2:=Int.dvd_antisymm (by omega) (by omega) d1 d2
 have et:x.1=y.1:=by
  rw [eb] at e
  exact bCo (by omega) e
 exact bBq et eb
theorem mk_le{t b u d:Int}(hb:1<=b)(hd:1<=d)(h:t*d<=u*b):leF (FR.mk t b) (FR.mk u d):=by
 obtain ⟨f1,e1⟩:=FR.sS (t:=t) (b:=b) (by omega)
 obtain ⟨f2,e2⟩:=FR.sS (t:=u) (b:=d) (by omega)
 have a:leF (FR.mk t b) (t,b):=bF9 e1
 have b':leF (u,d) (FR.mk u d):=bF9 e2.symm
 have m:leF (t,b) (u,d):=h
 exact eW f1.pos hb f2.pos a (eW hb hd f2.pos m b')
theorem aWr{a h h':Int×Int}(ha:1<=a.2)(h1:1<=h.2)(h2:1<=h'.2)(h0:leF h h'):leF (hP a h) (hP a h'):=by
 unfold hP
 have pos:∀ {x y:Int},1<=x->1<=y->1<=x*y:=fun {x y} hx hy=>by
  have:=bBs (show 0 < x by omega) (show 0 < y by omega)
  omega
 refine mk_le (pos ha h1) (pos ha h2) ?_
 unfold leF at h0
 have k:=Int.mul_le_mul_of_nonneg_left h0 (show 0<=a.2*a.2 by have:=pos ha ha;omega)
 rw [bGd,bGd]
 have e1:a.1*h.2*(a.2*h'.2)=a.1*h'.2*(a.2*h.2):=by ac_rfl
 have e2:h.1*a.2*(a.2*h'.2)=a.2*a.2*(h.1*h'.2):=by ac_rfl
 have e3:h'.1*a.2*(a.2*h.2)=a.2*a.2*(h'.1*h.2):=by ac_rfl
 omega
theorem aDu:∀ (xs:List (Int×Int)) (b:Int×Int),best b xs=b\/best b xs∈xs
 | [],b=>.inl rfl
 | x :: xs,b=>by
  show best (if ltF b x=true then x else b) xs=b\/best (if ltF b x=true then x else b) xs∈x :: xs
  rcases aDu xs (if ltF b x=true then x else b) with h | h
  ·rw [h]
   split
   ·exact .inr (.head _)
   ·exact .inl rfl
  ·exact .inr (.tail _ h)
theorem aIz:∀ (xs:List (Int×Int)) (b:Int×Int),1<=b.2->(∀ x∈xs,1<=x.2)->leF b (best b xs)/\(∀ x∈xs,leF x (best b xs))/\1<=(best b xs).2
 | [],b,h,_=>⟨fN b,(fun _ z=>nomatch z),h⟩
 | x :: xs,b,h,hx=>by
  have hx0:=hx x (.head _)
  have hb2:1<=(if ltF b x=true then x else b).2:=by split<;>assumption
  have g:best b (x :: xs)=best (if ltF b x=true then x else b) xs:=rfl
  obtain ⟨i1,i2,i3⟩:=aIz xs (if ltF b x=true then x else b) hb2 fun y hy=>hx y (.tail _ hy)
  rw [g]
  have l1:leF b (if ltF b x=true then x else b):=by
   split
   ·rename_i z;exact aAc z
   ·exact fN b
  have l2:leF x (if ltF b x=true then x else b):=by
   split
   ·exact fN x
   ·rename_i z;exact tN (by simpa using z)
  refine ⟨eW h hb2 i3 l1 i1,fun y hy=>?_,i3⟩
  rcases aZ3.mp hy with z | z
  ·rw [z];exact eW hx0 hb2 i3 l2 i1
  ·exact i2 y z
structure AF(x y:Int×Int):Prop where
 a:1<=x.2
 b:1<=y.2
 e:x.1*y.2=y.1*x.2
theorem AF.refl{x:Int×Int}(h:1<=x.2):AF x x:=⟨h,h,rfl⟩
theorem dG{x y:Int}(hx:1<=x)(hy:1<=y):1<=x*y:=by
 have:=bBs (show 0 < x by omega) (show 0 < y by omega)
 omega
theorem xA{t b:Int}{y:Int×Int}(hb:1<=b)(hy:1<=y.2)(h:t*y.2=y.1*b):AF (FR.mk t b) y:=by
 obtain ⟨f1,e1⟩:=FR.sS (t:=t) (b:=b) (by omega)
 refine ⟨f1.pos,hy,?_⟩
 have h2:(FR.mk t b).1*y.2*b=y.1*(FR.mk t b).2*b:=by
  have e3:(FR.mk t b).1*y.2*b=(FR.mk t b).1*b*y.2:=by ac_rfl
  rw [e3,e1]
  have e4:t*(FR.mk t b).2*y.2=t*y.2*(FR.mk t b).2:=by ac_rfl
  rw [e4,h]
  ac_rfl
 exact bCo (by omega) h2
theorem aKx{i:Int}{x x':Int×Int}(h:AF x x'):AF (hT i x) (i*x'.1,x'.2):=by
 obtain ⟨a,b,e⟩:=h
 refine xA (by omega) b ?_
 show i*x.1*x'.2=i*x'.1*(1*x.2)
 rw [bFr,e,bFu,bFr]
theorem aOh{x x' y y':Int×Int}(h:AF x x')(g:AF y y'):AF (hP x y) (x'.1*y'.2+y'.1*x'.2,x'.2*y'.2):=by
 obtain ⟨a,b,e⟩:=h
 obtain ⟨a2,b2,e2⟩:=g
 refine xA (dG a a2) (dG b b2) ?_
 show (x.1*y.2+y.1*x.2)*(x'.2*y'.2)=(x'.1*y'.2+y'.1*x'.2)*(x.2*y.2)
 rw [bGd,bGd]
 have e3:x.1*y.2*(x'.2*y'.2)=x.1*x'.2*(y.2*y'.2):=by ac_rfl
 have e4:y.1*x.2*(x'.2*y'.2)=y.1*y'.2*(x.2*x'.2):=by ac_rfl
 rw [e3,e4,e,e2]
 have e5:x'.1*x.2*(y.2*y'.2)=x'.1*y'.2*(x.2*y.2):=by ac_rfl
 have e6:y'.1*y.2*(x.2*x'.2)=y'.1*x'.2*(x.2*y.2):=by ac_rfl
 rw [e5,e6]
theorem aFa{x x' y y':Int×Int}(h:AF x x')(g:AF y y'):ltF x y=ltF x' y':=by
 obtain ⟨a,b,e⟩:=h
 obtain ⟨a2,b2,e2⟩:=g
 unfold ltF
 have k:(y.1*x.2 - x.1*y.2)*(x'.2*y'.2)=(y'.1*x'.2 - x'.1*y'.2)*(x.2*y.2):=by
  rw [Int.sub_mul,Int.sub_mul]
  have e3:y.1*x.2*(x'.2*y'.2)=y.1*y'.2*(x.2*x'.2):=by ac_rfl
  have e4:x.1*y.2*(x'.2*y'.2)=x.1*x'.2*(y.2*y'.2):=by ac_rfl
  rw [e3,e4,e,e2]
  have e5:y'.1*y.2*(x.2*x'.2)=y'.1*x'.2*(x.2*y.2):=by ac_rfl
  have e6:x'.1*x.2*(y.2*y'.2)=x'.1*y'.2*(x.2*y.2):=by ac_rfl
  rw [e5,e6]
 have p1:=dG b b2
 have p2:=dG a a2
 have iff:0 < (y.1*x.2 - x.1*y.2)↔0 < (y'.1*x'.2 - x'.1*y'.2):=by
  constructor
  ·intro q
   have:=bBs q (show 0 < x'.2*y'.2 by omega)
   rw [k] at this
   exact bDv this (by omega)
  ·intro q
   have:=bBs q (show 0 < x.2*y.2 by omega)
   rw [<- k] at this
   exact bDv this (by omega)
 rw [bDj]
 constructor
 ·intro q;have:=iff.mp (by omega);omega
 ·intro q;have:=iff.mpr (by omega);omega
abbrev R2:=Int×Int
abbrev R3:=Int×Int×Int
def hM(x y:Int×Int):Int×Int:=FR.mk (x.1*y.2 - y.1*x.2) (x.2*y.2)
def hO(x y:Int×Int):Int×Int:=FR.mk (x.1*y.2) (x.2*y.1)
def worst(b:Int×Int):List (Int×Int)->Int×Int
 | []=>b
 | x :: r=>worst (if ltF x b=true then x else b) r
theorem y8:∀ (xs:List (Int×Int)) (b:Int×Int),worst b xs=b\/worst b xs∈xs
 | [],b=>.inl rfl
 | x :: xs,b=>by
  show worst (if ltF x b=true then x else b) xs=b\/worst (if ltF x b=true then x else b) xs∈x :: xs
  rcases y8 xs (if ltF x b=true then x else b) with h | h
  ·rw [h]
   split
   ·exact .inr (.head _)
   ·exact .inl rfl
  ·exact .inr (.tail _ h)
theorem aDb:∀ (xs:List (Int×Int)) (b:Int×Int),1<=b.2->(∀ x∈xs,1<=x.2)->leF (worst b xs) b/\(∀ x∈xs,leF (worst b xs) x)/\1<=(worst b xs).2
 | [],b,h,_=>⟨fN b,(fun _ z=>nomatch z),h⟩
 | x :: xs,b,h,hx=>by
  have hx0:=hx x (.head _)
  have hb2:1<=(if ltF x b=true then x else b).2:=by split<;>assumption
  have g:worst b (x :: xs)=worst (if ltF x b=true then x else b) xs:=rfl
  obtain ⟨i1,i2,i3⟩:=aDb xs (if ltF x b=true then x else b) hb2 fun y hy=>hx y (.tail _ hy)
  rw [g]
  have l1:leF (if ltF x b=true then x else b) b:=by
   split
   ·rename_i z;exact aAc z
   ·exact fN b
  have l2:leF (if ltF x b=true then x else b) x:=by
   split
   ·exact fN x
   ·rename_i z;exact tN (by simpa using z)
  refine ⟨eW i3 hb2 h i1 l1,fun y hy=>?_,i3⟩
  rcases aZ3.mp hy with z | z
  ·rw [z];exact eW i3 hb2 hx0 i1 l2
  ·exact i2 y z
theorem aTl{x y z:Int×Int}(hx:1<=x.2)(hy:1<=y.2)(hz:1<=z.2)(h1:ltF x y=true)(h2:leF y z):ltF x z=true:=by
 cases e:ltF x z with
 | true=>rfl
 | false =>
  have:=eW hy hz hx h2 (tN e)
  unfold ltF at h1
  have:=bBa h1
  unfold leF at *
  omega
theorem aTh{x y z:Int×Int}(hx:1<=x.2)(hy:1<=y.2)(hz:1<=z.2)(h1:leF x y)(h2:ltF y z=true):ltF x z=true:=by
 cases e:ltF x z with
 | true=>rfl
 | false =>
  have:=eW hz hx hy (tN e) h1
  unfold ltF at h2
  have:=bBa h2
  unfold leF at *
  omega
theorem aBf{p q a b:Int}(hp:0 < p)(hq:0 < q)(e:p*a=q*b):0 < a↔0 < b:=by
 constructor
 ·intro h
  have:=bBs hp h
  rw [e] at this
  exact bCu this (by omega)
 ·intro h
  have:=bBs hq h
  rw [<- e] at this
  exact bCu this (by omega)
def Sat(rows:List R2)(x:Int×Int):Prop:=1<=x.2/\∀ r∈rows,0 < r.1*x.1+r.2*x.2
def C2(rows:List R2):Prop:=(∀ r∈rows,r.1=0->0 < r.2)/\∀ r∈rows,∀ s∈rows,0 < r.1->s.1 < 0->0 < r.1*s.2 - s.1*r.2
def pG(r:R2):Int×Int:=FR.mk (-r.2) r.1
theorem wD{r:R2}(h:r.1≠0):1<=(pG r).2/\(pG r).1*r.1 = -r.2*(pG r).2:=by
 obtain ⟨f,e⟩:=FR.sS (t:=-r.2) h
 exact ⟨f.pos,e⟩
theorem aRs{r:R2}(h:0 < r.1)(x:Int×Int):ltF (pG r) x=true↔0 < r.1*x.1+r.2*x.2:=by
 obtain ⟨p,e⟩:=wD (r:=r) (by omega)
 have k:=aBf (p:=r.1) (q:=(pG r).2) (a:=x.1*(pG r).2 - (pG r).1*x.2) (b:=r.1*x.1+r.2*x.2) h (by omega) (by grind)
 unfold ltF
 rw [bC2,<- k]
 omega
theorem aMf{r:R2}(h:r.1 < 0)(x:Int×Int):ltF x (pG r)=true↔0 < r.1*x.1+r.2*x.2:=by
 obtain ⟨p,e⟩:=wD (r:=r) (by omega)
 have k:=aBf (p:=-r.1) (q:=(pG r).2) (a:=(pG r).1*x.2 - x.1*(pG r).2) (b:=r.1*x.1+r.2*x.2) (by omega) (by omega) (by grind)
 unfold ltF
 rw [bC2,<- k]
 omega
theorem aM6{r s:R2}(hr:0 < r.1)(hs:s.1 < 0):ltF (pG r) (pG s)=true↔0 < r.1*s.2 - s.1*r.2:=by
 obtain ⟨p,e⟩:=wD (r:=r) (by omega)
 obtain ⟨p2,e2⟩:=wD (r:=s) (by omega)
 have k:=aBf (p:=-s.1*r.1) (q:=(pG r).2*(pG s).2) (a:=(pG s).1*(pG r).2 - (pG r).1*(pG s).2) (b:=r.1*s.2 - s.1*r.2) (bBs (by omega) hr) (bBs (by omega) (by omega)) (by grind)
 unfold ltF
 rw [bC2,<- k]
 omega
def kO(rows:List R2):List (Int×Int):=(rows.filter fun r=>decide (0 < r.1)).map pG
def gZ(rows:List R2):List (Int×Int):=(rows.filter fun r=>decide (r.1 < 0)).map pG
def btw(lows highs:List (Int×Int)):Option (Int×Int) :=
 if lows=[]/\highs=[] then some (0,1)
 else if highs=[] then some (hP (best (lows.headD (0,1)) lows) (1,1))
 else if lows=[] then some (hM (worst (highs.headD (0,1)) highs) (1,1))
 else if ltF (best (lows.headD (0,1)) lows) (worst (highs.headD (0,1)) highs)=true then some (hO (hP (best (lows.headD (0,1)) lows) (worst (highs.headD (0,1)) highs)) (2,1)) else none
def solve(rows:List R2):Option (Int×Int):=if rows.any (fun r=>decide (r.1=0) && decide (r.2<=0))=true then none else btw (kO rows) (gZ rows)
theorem head_mem{α:Type}{xs:List α}(d:α)(h:xs≠[]):xs.headD d∈xs:=by
 cases xs with
 | nil=>exact absurd rfl h
 | cons p r=>exact .head _
theorem qC{xs:List (Int×Int)}(h:xs≠[])(hp:∀ x∈xs,1<=x.2):best (xs.headD (0,1)) xs∈xs/\(∀ x∈xs,leF x (best (xs.headD (0,1)) xs))/\1<=(best (xs.headD (0,1)) xs).2:=by
 have hm:=head_mem (0,1) h
 obtain ⟨a,b,c⟩:=aIz xs (xs.headD (0,1)) (hp _ hm) hp
 refine ⟨?_,b,c⟩
 rcases aDu xs (xs.headD (0,1)) with z | z
 ·rw [z];exact hm
 ·exact z
theorem nQ{xs:List (Int×Int)}(h:xs≠[])(hp:∀ x∈xs,1<=x.2):worst (xs.headD (0,1)) xs∈xs/\(∀ x∈xs,leF (worst (xs.headD (0,1)) xs) x)/\1<=(worst (xs.headD (0,1)) xs).2:=by
 have hm:=head_mem (0,1) h
 obtain ⟨a,b,c⟩:=aDb xs (xs.headD (0,1)) (hp _ hm) hp
 refine ⟨?_,b,c⟩
 rcases y8 xs (xs.headD (0,1)) with z | z
 ·rw [z];exact hm
 ·exact z
theorem aWo{x:Int×Int}(h:1<=x.2):AF (hM x (1,1)) (x.1 - x.2,x.2):=by
 refine xA (by show 1<=x.2*1;omega) h ?_
 show (x.1*1 - 1*x.2)*x.2=(x.1 - x.2)*(x.2*1)
 grind
theorem aYj{x:Int×Int}(h:1<=x.2):AF (hP x (1,1)) (x.1+x.2,x.2):=by
 refine xA (by show 1<=x.2*1;omega) h ?_
 show (x.1*1+1*x.2)*x.2=(x.1+x.2)*(x.2*1)
 grind
theorem aYi{x x':Int×Int}(h:AF x x'):AF (hO x (2,1)) (x'.1,x'.2*2):=by
 obtain ⟨a,b,e⟩:=h
 refine xA (by show 1<=x.2*2;omega) (by show 1<=x'.2*2;omega) ?_
 show x.1*1*(x'.2*2)=x'.1*(x.2*2)
 grind
theorem mem_lows{rows:List R2}{x:Int×Int}:x∈kO rows↔∃ r∈rows,0 < r.1/\pG r=x:=by
 unfold kO
 rw [bAa]
 constructor
 ·rintro ⟨r,hr,e⟩
  obtain ⟨h1,h2⟩:=bA8.mp hr
  exact ⟨r,h1,bBa h2,e⟩
 ·rintro ⟨r,h1,h2,e⟩
  exact ⟨r,bA8.mpr ⟨h1,aZ8 h2⟩,e⟩
theorem mem_highs{rows:List R2}{x:Int×Int}:x∈gZ rows↔∃ r∈rows,r.1 < 0/\pG r=x:=by
 unfold gZ
 rw [bAa]
 constructor
 ·rintro ⟨r,hr,e⟩
  obtain ⟨h1,h2⟩:=bA8.mp hr
  exact ⟨r,h1,bBa h2,e⟩
 ·rintro ⟨r,h1,h2,e⟩
  exact ⟨r,bA8.mpr ⟨h1,aZ8 h2⟩,e⟩
theorem aUy{lows highs:List (Int×Int)}{x:Int×Int}(hl:∀ x∈lows,1<=x.2)(hh:∀ x∈highs,1<=x.2)(e:btw lows highs=some x):1<=x.2/\(∀ l∈lows,ltF l x=true)/\∀ h∈highs,ltF x h=true:=by
 unfold btw at e
 split at e
 ·rename_i z
  cases e
  rw [z.1,z.2]
  exact ⟨by decide,(fun _ h=>nomatch h),(fun _ h=>nomatch h)⟩
 ·rename_i z
  split at e
  ·rename_i z2
   cases e
   obtain ⟨b1,b2,b3⟩:=qC (fun q=>z ⟨q,z2⟩) hl
   have af:=aYj b3
   refine ⟨af.a,fun l h=>?_,fun h q=>by rw [z2] at q;cases q⟩
   refine aTh (hl l h) b3 af.a (b2 l h) ?_
   rw [aFa (AF.refl b3) af]
   exact aZ8 (by show _*_ < (_+_)*_;have:=dG b3 b3;grind)
  ·rename_i z2
   split at e
   ·rename_i z3
    cases e
    obtain ⟨b1,b2,b3⟩:=nQ z2 hh
    have af:=aWo b3
    refine ⟨af.a,fun l q=>(by rw [z3] at q;cases q),fun h q=>?_⟩
    refine aTl af.a b3 (hh h q) ?_ (b2 h q)
    rw [aFa af (AF.refl b3)]
    exact aZ8 (by show (_ - _)*_ < _*_;have:=dG b3 b3;grind)
   ·rename_i z3
    split at e
    ·rename_i z4
     cases e
     obtain ⟨b1,b2,b3⟩:=qC z3 hl
     obtain ⟨c1,c2,c3⟩:=nQ z2 hh
     have af:=aYi (aOh (AF.refl b3) (AF.refl c3))
     unfold ltF at z4
     have z4:=bBa z4
     generalize best (lows.headD (0,1)) lows=l at *
     generalize worst (highs.headD (0,1)) highs=h at *
     refine ⟨af.a,fun y q=>aTh (hl y q) b3 af.a (b2 y q) ?_,fun y q=>aTl af.a c3 (hh y q) ?_ (c2 y q)⟩
     ·rw [aFa (AF.refl b3) af]
      refine aZ8 ?_
      show l.1*(l.2*h.2*2) < (l.1*h.2+h.1*l.2)*l.2
      have:=bBs (show 0 < h.1*l.2 - l.1*h.2 by omega) (show 0 < l.2 by omega)
      grind
     ·rw [aFa af (AF.refl c3)]
      refine aZ8 ?_
      show (l.1*h.2+h.1*l.2)*h.2 < h.1*(l.2*h.2*2)
      have:=bBs (show 0 < h.1*l.2 - l.1*h.2 by omega) (show 0 < h.2 by omega)
      grind
    ·cases e
theorem xN{rows:List R2}:∀ x∈kO rows,1<=x.2:=fun x hx=>by
 obtain ⟨r,_,h,rfl⟩:=mem_lows.mp hx
 exact (wD (by omega)).1
theorem rP{rows:List R2}:∀ x∈gZ rows,1<=x.2:=fun x hx=>by
 obtain ⟨r,_,h,rfl⟩:=mem_highs.mp hx
 exact (wD (by omega)).1
theorem aG3{rows:List R2}{x:Int×Int}(e:solve rows=some x):Sat rows x:=by
 unfold solve at e
 split at e
 ·cases e
 ·rename_i z
  obtain ⟨h1,h2,h3⟩:=aUy xN rP e
  refine ⟨h1,fun r hr=>?_⟩
  rcases Int.lt_trichotomy r.1 0 with q | q | q
  ·exact (aMf q x).mp (h3 _ (mem_highs.mpr ⟨r,hr,q,rfl⟩))
  ·rw [q,Int.zero_mul,Int.zero_add]
   refine bBs ?_ (by omega)
   by_cases y:0 < r.2
   ·exact y
   ·exfalso
    refine z (bDh.mpr ⟨r,hr,?_⟩)
    simp only [bCa,decide_eq_true_eq]
    exact ⟨q,by omega⟩
  ·exact (aRs q x).mp (h2 _ (mem_lows.mpr ⟨r,hr,q,rfl⟩))
theorem aFr{rows:List R2}(h:C2 rows):∃ x,solve rows=some x:=by
 unfold solve
 have:¬ rows.any (fun r=>decide (r.1=0) && decide (r.2<=0))=true:=fun z=>by
  obtain ⟨r,hr,q⟩:=bDh.mp z
  simp only [bCa,decide_eq_true_eq] at q
  have:=h.1 r hr q.1
  omega
 rw [bAg this]
 unfold btw
 split
 ·exact ⟨_,rfl⟩
 ·split
  ·exact ⟨_,rfl⟩
  ·split
   ·exact ⟨_,rfl⟩
   ·rename_i z1 z2 z3
    obtain ⟨b1,_,_⟩:=qC z3 xN
    obtain ⟨c1,_,_⟩:=nQ z2 rP
    obtain ⟨r,hr,q,er⟩:=mem_lows.mp b1
    obtain ⟨s,hs,q2,es⟩:=mem_highs.mp c1
    rw [bAc (by rw [<- er,<- es];exact (aM6 q q2).mpr (h.2 r hr s hs q q2))]
    exact ⟨_,rfl⟩
def pX(l h:R3):R2:=(l.2.1*h.1 - h.2.1*l.1,l.2.1*h.2.2 - h.2.1*l.2.2)
def tY(rows:List R3):List R2:=(rows.filter fun r=>decide (r.2.1=0)).map fun r=>(r.1,r.2.2)
def i5(rows:List R3):List R3:=rows.filter fun r=>decide (r.2.1 < 0)
def qA(highs:List R3)(k:List R2)(l:R3):List R2:=if 0 < l.2.1 then k++highs.map (pX l) else k
def elim(rows:List R3):List R2:=rows.foldl (qA (i5 rows)) (tY rows)
theorem zZ{highs:List R3}{x:R2}:∀ (rows:List R3) (k:List R2),x∈rows.foldl (qA highs) k↔x∈k\/∃ l∈rows,0 < l.2.1/\∃ h∈highs,pX l h=x
 | [],k=>by simp
 | l :: rows,k=>by
  rw [bB9,zZ rows]
  unfold qA
  constructor
  ·rintro (h | ⟨m,h1,h2⟩)
   ·split at h
    ·rename_i z
     rcases bB1.mp h with q | q
     ·exact .inl q
     ·obtain ⟨y,hy,e⟩:=bAa.mp q
      exact .inr ⟨l,.head _,z,y,hy,e⟩
    ·exact .inl h
   ·exact .inr ⟨m,.tail _ h1,h2⟩
  ·rintro (h | ⟨m,h1,h2,y,hy,e⟩)
   ·left
    split
    ·exact bDd _ h
    ·exact h
   ·rcases aZ3.mp h1 with z | z
    ·left
     subst z
     rw [bAc h2]
     exact bAo _ (bAa.mpr ⟨y,hy,e⟩)
    ·exact .inr ⟨m,z,h2,y,hy,e⟩
theorem mem_elim{rows:List R3}{x:R2}:x∈elim rows↔(∃ r∈rows,r.2.1=0/\(r.1,r.2.2)=x)\/∃ l∈rows,0 < l.2.1/\∃ h∈rows,h.2.1 < 0/\pX l h=x:=by
 unfold elim
 rw [zZ]
 have k:x∈tY rows↔∃ r∈rows,r.2.1=0/\(r.1,r.2.2)=x:=by
  unfold tY
  rw [bAa]
  constructor
  ·rintro ⟨r,hr,e⟩
   obtain ⟨h1,h2⟩:=bA8.mp hr
   exact ⟨r,h1,bBa h2,e⟩
  ·rintro ⟨r,h1,h2,e⟩
   exact ⟨r,bA8.mpr ⟨h1,aZ8 h2⟩,e⟩
 have hh:∀ h,h∈i5 rows↔h∈rows/\h.2.1 < 0:=fun h=>by
  unfold i5
  rw [bA8,bC2]
 rw [k]
 constructor
 ·rintro (h | ⟨l,h1,h2,h,h3,e⟩)
  ·exact .inl h
  ·exact .inr ⟨l,h1,h2,h,((hh h).mp h3).1,((hh h).mp h3).2,e⟩
 ·rintro (h | ⟨l,h1,h2,h,h3,h4,e⟩)
  ·exact .inl h
  ·exact .inr ⟨l,h1,h2,h,(hh h).mpr ⟨h3,h4⟩,e⟩
def aOw(x:Int×Int)(r:R3):R2:=(r.2.1*x.2,r.1*x.1+r.2.2*x.2)
theorem aWe{rows:List R3}{x:Int×Int}(h:Sat (elim rows) x):C2 (rows.map (aOw x)):=by
 have x0:=h.1
 refine ⟨fun y hy e=>?_,fun y hy z hz y0 z0=>?_⟩
 ·obtain ⟨r,hr,rfl⟩:=bAa.mp hy
  have:r.2.1=0:=by
   rcases bC6.mp e with q | q
   ·exact q
   ·omega
  exact h.2 _ (mem_elim.mpr (.inl ⟨r,hr,this,rfl⟩))
 ·obtain ⟨r,hr,rfl⟩:=bAa.mp hy
  obtain ⟨s,hs,rfl⟩:=bAa.mp hz
  have r0:0 < r.2.1:=bDv y0 (by omega)
  have s0:s.2.1 < 0:=by
   have z0:s.2.1*x.2 < 0:=z0
   by_cases q:s.2.1 < 0
   ·exact q
   ·have:=bBm (show 0<=s.2.1 by omega) (show 0<=x.2 by omega)
    omega
  have k:=h.2 _ (mem_elim.mpr (.inr ⟨r,hr,r0,s,hs,s0,rfl⟩))
  have k:0 < (r.2.1*s.1 - s.2.1*r.1)*x.1+(r.2.1*s.2.2 - s.2.1*r.2.2)*x.2:=k
  have m:=bBs (show 0 < x.2 by omega) k
  show 0 < r.2.1*x.2*(s.1*x.1+s.2.2*x.2) - s.2.1*x.2*(r.1*x.1+r.2.2*x.2)
  have e:r.2.1*x.2*(s.1*x.1+s.2.2*x.2) - s.2.1*x.2*(r.1*x.1+r.2.2*x.2)=x.2*((r.2.1*s.1 - s.2.1*r.1)*x.1+(r.2.1*s.2.2 - s.2.1*r.2.2)*x.2):=by grind
  rw [e]
  exact m
def aAo(rows:List R3):Option ((Int×Int)×(Int×Int)):=match solve (elim rows) with
 | none=>none
 | some x=>match solve (rows.map (aOw x)) with
  | none=>none
  | some y=>some (x,y)
theorem aQq{rows:List R3}{x:Int×Int}(e:solve (elim rows)=some x):∃ y,solve (rows.map (aOw x))=some y/\aAo rows=some (x,y):=by
 obtain ⟨y,hy⟩:=aFr (aWe (aG3 e))
 refine ⟨y,hy,?_⟩
 unfold aAo
 rw [e]
 dsimp only
 rw [hy]
end N
namespace N
abbrev Q2:=Int×Int
def bM(a b c:Q2):Int:=(b.1 - a.1)*(c.2 - a.2) - (b.2 - a.2)*(c.1 - a.1)
def kC(p:Q2):List Q2->List Q2
 | k1 :: k2 :: r=>if bM k2 k1 p<=0 then kC p (k2 :: r) else k1 :: k2 :: r
 | s=>s
def pushS(s:List Q2)(p:Q2):List Q2:=p :: kC p s
def oZ(ps:List Q2):List Q2:=ps.foldl pushS []
def mU:List Q2->List (Q2×Q2)
 | a :: b :: r=>(b,a) :: mU (b :: r)
 | _=>[]
def pQ:List Q2->Prop
 | a :: b :: c :: r=>0 < bM c b a/\pQ (b :: c :: r)
 | _=>True
def aFy(l:List Q2):Prop:=l.Pairwise fun a b=>a.1 < b.1
theorem aE4{a b:Int}(ha:a<=0)(hb:0<=b):a*b<=0:=by
 have:=bBm (show 0<=-a by omega) hb
 rw [Int.neg_mul] at this
 omega
theorem aGu{a b:Int}(ha:a < 0)(h:a*b<=0):0<=b:=by
 by_cases z:0<=b
 ·exact z
 ·have:=Int.mul_pos_of_neg_of_neg ha (show b < 0 by omega)
  omega
theorem aUv{a b:Int}(ha:a < 0)(h:a*b < 0):0 < b:=by
 by_cases z:0 < b
 ·exact z
 ·have:=Int.mul_nonneg_of_nonpos_of_nonpos (bCv ha) (show b<=0 by omega)
  omega
theorem aLb{a b c p:Q2}(h1:b.1 < a.1)(h2:c.1 < b.1)(h3:p.1 < c.1)(t1:0 < bM a b c)(t2:0 < bM b c p):0 < bM a b p:=by
 refine aUv (a:=c.1 - b.1) (by omega) ?_
 have e:(c.1 - b.1)*bM a b p=(p.1 - b.1)*bM a b c+(b.1 - a.1)*bM b c p:=by unfold bM;grind
 rw [e]
 have x:=bFb (show p.1 - b.1 < 0 by omega) t1
 have y:=bFb (show b.1 - a.1 < 0 by omega) t2
 omega
theorem aJx{k2 k1 p q:Q2}(h1:k1.1 < k2.1)(h2:p.1 < k2.1)(hq:q.1<=k2.1)(l:0<=bM k2 k1 q)(t:bM k2 k1 p<=0):0<=bM k2 p q:=by
 refine aGu (a:=k1.1 - k2.1) (by omega) ?_
 have e:(k1.1 - k2.1)*bM k2 p q=(p.1 - k2.1)*bM k2 k1 q+(k2.1 - q.1)*bM k2 k1 p:=by unfold bM;grind
 rw [e]
 have x:=aE4 (show p.1 - k2.1<=0 by omega) l
 have y:=Int.mul_nonpos_of_nonneg_of_nonpos (show 0<=k2.1 - q.1 by omega) t
 omega
theorem aBc{k2 k1 p q:Q2}(h1:k1.1 < k2.1)(h2:p.1 < k1.1)(hq:p.1<=q.1)(l:0<=bM k1 p q)(t:bM k2 k1 p<=0):0<=bM k2 p q:=by
 have e:(k1.1 - p.1)*bM k2 p q=(k2.1 - p.1)*bM k1 p q+(q.1 - p.1)*(- bM k2 k1 p):=by unfold bM;grind
 have x:=bBm (show 0<=k2.1 - p.1 by omega) l
 have y:=bBm (show 0<=q.1 - p.1 by omega) (show 0<=- bM k2 k1 p by omega)
 have z:0<=(k1.1 - p.1)*bM k2 p q:=by rw [e];omega
 by_cases w:0<=bM k2 p q
 ·exact w
 ·have:=bDf (show 0 < k1.1 - p.1 by omega) (show bM k2 p q < 0 by omega)
  omega
theorem aFd{k' k p q:Q2}(h1:k.1 < k'.1)(h2:p.1 < k.1)(hq:k.1<=q.1)(l:0<=bM k' k q)(t:0 < bM k' k p):0<=bM k p q:=by
 have e:(k'.1 - k.1)*bM k p q=(k.1 - p.1)*bM k' k q+(q.1 - k.1)*bM k' k p:=by unfold bM;grind
 have x:=bBm (show 0<=k.1 - p.1 by omega) l
 have y:=bBm (show 0<=q.1 - k.1 by omega) (bCv t)
 have z:0<=(k'.1 - k.1)*bM k p q:=by rw [e];omega
 by_cases w:0<=bM k p q
 ·exact w
 ·have:=bDf (show 0 < k'.1 - k.1 by omega) (show bM k p q < 0 by omega)
  omega
structure ChI(seen s:List Q2):Prop where
 sub:s.Sublist seen
 hd:s.head? = seen.head?
 ls:s.getLast? = seen.getLast?
 conv:pQ s
 left:∀ e∈mU s,∀ q∈seen,0<=bM e.1 e.2 q
theorem jR(p:Q2):∀ s:List Q2,kC p s <:+ s
 | []=>by unfold kC;exact bF1 _
 | [a]=>by unfold kC;exact bF1 _
 | k1 :: k2 :: r=>by
  unfold kC
  split
  ·exact (jR p (k2 :: r)).trans (bF2 _ _)
  ·exact bF1 _
theorem aC0:∀ (u t:List Q2),pQ (u++t)->pQ t
 | [],_,h=>h
 | a :: u,t,h=>by
  refine aC0 u t ?_
  rw [bAm] at h
  revert h
  generalize u++t=l
  intro h
  cases l with
  | nil=>exact trivial
  | cons b l =>
   cases l with
   | nil=>exact trivial
   | cons c r=>exact h.2
theorem n9{s t:List Q2}(h:t <:+ s)(hc:pQ s):pQ t:=by
 obtain ⟨u,e⟩:=h
 rw [<- e] at hc
 exact aC0 u t hc
theorem aAw(e:Q2×Q2):∀ (u t:List Q2),e∈mU t->e∈mU (u++t)
 | [],_,h=>h
 | a :: u,t,h=>by
  have ih:=aAw e u t h
  rw [bAm]
  revert ih
  generalize u++t=l
  intro ih
  cases l with
  | nil=>exact nomatch ih
  | cons b r=>exact .tail _ ih
theorem qM{s t:List Q2}(h:t <:+ s)(e:Q2×Q2)(he:e∈mU t):e∈mU s:=by
 obtain ⟨u,eu⟩:=h
 rw [<- eu]
 exact aAw e u t he
theorem aIm{p:Q2}{seen:List Q2}:∀ {s:List Q2},(∀ k∈s,p.1 < k.1)->aFy s->(∀ e∈mU s,∀ q∈seen,0<=bM e.1 e.2 q)->(∀ q∈seen,p.1<=q.1)->(∀ k∈s.head?,∀ q∈seen,q.1<=k.1->0<=bM k p q) ->
  (∀ k∈(kC p s).head?,∀ q∈seen,q.1<=k.1->0<=bM k p q)/\∀ k1 k2 r,kC p s=k1 :: k2 :: r->0 < bM k2 k1 p
 | [],_,_,_,_,h=>⟨by unfold kC;exact h,fun k1 k2 r e=>by unfold kC at e;cases e⟩
 | [a],_,_,_,_,h=>⟨by unfold kC;exact h,fun k1 k2 r e=>by unfold kC at e;cases e⟩
 | k1 :: k2 :: r,hp,hf,hl,hq,h=>by
  unfold kC
  split
  ·rename_i z
   have f:=bAd.mp hf
   have f2:k1.1 < k2.1:=f.1 k2 (.head _)
   refine aIm (fun k hk=>hp k (.tail _ hk)) f.2 (fun e he=>hl e (.tail _ he)) hq ?_
   intro k hk q hqs hle
   have:k2=k:=by simpa using hk
   subst this
   by_cases c:q.1<=k1.1
   ·exact aBc f2 (hp k1 (.head _)) (hq q hqs) (h k1 rfl q hqs c) z
   ·exact aJx f2 (hp k2 (.tail _ (.head _))) hle (hl (k2,k1) (.head _) q hqs) z
  ·rename_i z
   refine ⟨h,fun a b c e=>?_⟩
   injection e with e1 e2
   injection e2 with e2 _
   subst e1 e2
   omega
theorem vU{p:Q2}:∀ {s:List Q2},(∀ k∈s,p.1 < k.1)->aFy s->pQ s->(∀ k1 k2 r,s=k1 :: k2 :: r->0 < bM k2 k1 p)->∀ e∈mU s,0 < bM e.1 e.2 p
 | [],_,_,_,_,e,he=>nomatch he
 | [a],_,_,_,_,e,he=>nomatch he
 | k1 :: k2 :: r,hp,hf,hc,h,e,he=>by
  have f:=bAd.mp hf
  rcases aZ3.mp he with z | z
  ·rw [z];exact h k1 k2 r rfl
  ·refine vU (fun k hk=>hp k (.tail _ hk)) f.2 ?_ ?_ e z
   ·match r,hc with
    | [],_=>exact trivial
    | c :: r',hc=>exact hc.2
   ·intro a b c e2
    injection e2 with e1 e3
    subst e1
    subst e3
    have g:=bAd.mp f.2
    exact aLb (g.1 b (.head _)) (f.1 k2 (.head _)) (hp k1 (.head _)) hc.1 (h k1 k2 (b :: c) rfl)
theorem aM1{l:List Q2}(hf:aFy l){k:Q2}(h:l.getLast? = some k):∀ q∈l,q.1<=k.1:=by
 induction l with
 | nil=>cases h
 | cons a l ih =>
  intro q hq
  have f:=bAd.mp hf
  cases l with
  | nil =>
   have:a=k:=by simpa using h
   rw [bAj.mp hq,this]
   exact bCk _
  | cons b r =>
   have h':(b :: r).getLast? = some k:=by simpa using h
   have ih:=ih f.2 h'
   rcases aZ3.mp hq with z | z
   ·rw [z]
    have:=f.1 b (.head _)
    have:=ih b (.head _)
    omega
   ·exact ih q z
theorem aL0{seen s:List Q2}{p:Q2}(h:ChI seen s)(hn:seen≠[])(hf:aFy (p :: seen)):ChI (p :: seen) (pushS s p):=by
 have f:=bAd.mp hf
 have fs:aFy s:=bAz h.sub f.2
 have ps:∀ k∈s,p.1 < k.1:=fun k hk=>f.1 k (h.sub.subset hk)
 have s0:s≠[]:=fun z=>by
  have:=h.hd
  rw [z] at this
  cases seen with
  | nil=>exact hn rfl
  | cons a r=>cases this
 obtain ⟨a1,a2⟩:=aIm (p:=p) (seen:=seen) ps fs h.left (fun q hq=>bCv (f.1 q hq)) (fun k hk q hq hle=>by
  rw [h.hd] at hk
  cases seen with
  | nil=>exact nomatch hk
  | cons b r =>
   have:b=k:=by simpa using hk
   subst this
   rcases aZ3.mp hq with z | z
   ·rw [z];unfold bM;simp
   ·have:=(bAd.mp f.2).1 q z
    omega)
 have suf:=jR p s
 have fs':aFy (kC p s):=bAz suf.sublist fs
 have ps':∀ k∈kC p s,p.1 < k.1:=fun k hk=>ps k (suf.subset hk)
 have cs':=n9 suf h.conv
 have el:=vU ps' fs' cs' a2
 have ne:kC p s≠[]:=by
  intro z
  match s,s0 with
  | [a],_=>unfold kC at z;cases z
  | k1 :: k2 :: r,_ =>
   have:∀ t:List Q2,t≠[]->kC p t≠[]:=fun t=>by
    induction t with
    | nil=>intro h;exact absurd rfl h
    | cons x t ih =>
     intro _
     cases t with
     | nil=>unfold kC;exact bB3 _ _
     | cons y t =>
      unfold kC
      split
      ·exact ih (bB3 _ _)
      ·exact bB3 _ _
   exact this _ (bB3 _ _) z
 have lst:(kC p s).getLast? = seen.getLast?:=by
  obtain ⟨u,e⟩:=suf
  have e2:=bCl List.getLast? e
  rw [List.getLast?_append] at e2
  rw [<- h.ls,<- e2]
  cases hg:(kC p s).getLast? with
  | none=>exact absurd (bDg.mp hg) ne
  | some x=>rfl
 refine ⟨(suf.sublist.trans h.sub).cons₂ p,rfl,?_,?_,?_⟩
 ·unfold pushS
  cases hs:kC p s with
  | nil=>exact absurd hs ne
  | cons k r =>
   rw [bCe,<- hs,lst]
   cases seen with
   | nil=>exact absurd rfl hn
   | cons b t=>rw [bCe]
 ·unfold pushS
  match hs:kC p s,cs',a2 with
  | [],_,_=>exact trivial
  | [k],_,_=>exact trivial
  | k1 :: k2 :: r,c,a2=>exact ⟨a2 k1 k2 r rfl,c⟩
 ·intro e he q hq
  unfold pushS at he
  cases hs:kC p s with
  | nil=>exact absurd hs ne
  | cons k r =>
   rw [hs] at he
   rcases aZ3.mp he with z | z
   ·rw [z]
    show 0<=bM k p q
    rcases aZ3.mp hq with y | y
    ·rw [y];unfold bM;rw [Int.mul_comm];omega
    ·by_cases c:q.1<=k.1
     ·exact a1 k (by rw [hs];rfl) q y c
     ·cases r with
      | nil =>
       have:seen.getLast? = some k:=by rw [<- lst,hs];rfl
       exact absurd (aM1 f.2 this q y) c
      | cons k' r =>
       have kk:=bAd.mp (show aFy (k :: k' :: r) by rw [<- hs];exact fs')
       have em:((k',k):Q2×Q2)∈mU s:=qM suf _ (by rw [hs];exact .head _)
       exact aFd (kk.1 k' (.head _)) (ps' k (by rw [hs];exact .head _)) (by omega) (h.left _ em q y) (a2 k k' r hs)
   ·rcases aZ3.mp hq with y | y
    ·rw [y];exact bCv (el e (by rw [hs];exact z))
    ·exact h.left e (qM suf e (by rw [hs];exact z)) q y
theorem aAm:∀ (ps seen s:List Q2),ChI seen s->seen≠[]->aFy (ps.reverse++seen)->ChI (ps.reverse++seen) (ps.foldl pushS s)
 | [],seen,s,h,_,_=>h
 | p :: ps,seen,s,h,hn,hf=>by
  rw [bBz,bCg] at hf ⊢
  have hf2:aFy (p :: seen):=(List.pairwise_append.mp hf).2.1
  rw [bB9]
  exact aAm ps (p :: seen) (pushS s p) (aL0 h hn hf2) (bB3 _ _) hf
theorem aLq{p:Q2}{ps:List Q2}(hf:aFy (p :: ps).reverse):ChI (p :: ps).reverse (oZ (p :: ps)):=by
 rw [bBz] at hf ⊢
 have h1:ChI [p] [p]:=⟨List.Sublist.refl _,rfl,rfl,trivial,fun e he=>nomatch he⟩
 exact aAm ps [p] [p] h1 (bB3 _ _) hf
theorem aQ1{x y a b:Int×Int}(hx:FR.Fr x)(hy:FR.Fr y)(h:AF x a)(g:AF y b)(e:a.1*b.2=b.1*a.2):x=y:=by
 have q:x.1*y.2=y.1*x.2:=by
  have e1:=h.e
  have e2:=g.e
  have p:=dG h.b g.b
  have z:x.1*y.2*(a.2*b.2)=y.1*x.2*(a.2*b.2):=by grind
  exact bCo (by omega) z
 exact aD3 hx hy (bF9 q) (bF9 q.symm)
theorem sD{t b:Int}(h:1<=b):FR.Fr (FR.mk t b):=(FR.sS (by omega)).1
theorem aRd{x y:Int×Int}(hx:1<=x.2)(hy:1<=y.2):FR.Fr (hP x y):=sD (dG hx hy)
def ng(x:Int×Int):Int×Int:=hM (0,1) x
theorem aN0{p:Pl}{pt:Pt}{a b c:Int×Int}(h1:AF pt.1 a)(h2:AF pt.2 b)(h3:AF p.2.2 c):AF (hgt p pt) ((p.1*a.1*b.2+p.2.1*b.1*a.2)*c.2+c.1*(a.2*b.2),a.2*b.2*c.2):=aOh (aOh (aKx h1) (aKx h2)) h3
theorem qJ{p:Pl}{pt:Pt}(h1:1<=pt.1.2)(h2:1<=pt.2.2)(h3:1<=p.2.2.2):FR.Fr (hgt p pt):=aRd (aOh (aKx (i:=p.1) (AF.refl h1)) (aKx (i:=p.2.1) (AF.refl h2))).a h3
end N
namespace N
section
open PySem PySem.Spec PyProof.Rows L2 M
variable {en:En}{f g:En->Res Ev}{x y:Ev}{o:Res Ev}{a b d r:D}
theorem aQ{op:Ev->Ev->Res Ev}(h1:f en=.ok x)(h2:g en=.ok y)(h:op x.c y.c=o):aH op f g en=o:=by simp only [aH,h1,h2,Res.bind,h]
theorem aRj{op:Ev->Res Ev}(h1:f en=.ok x)(h:op x.c=o):mUn op f en=o:=by simp only [mUn,h1,Res.bind,h]
theorem hV{b:Bool}(h:f en=.ok (.p (.bool b))):bV f en=.ok b:=by simp only [bV,h,Res.bind,dO]
theorem aWp{f:En->Res Bool}(h:f en=.ok true):aJn f en=.ok false:=by simp only [aJn,h,Res.bind];rfl
theorem aXl{f g:En->Res Bool}(h1:f en=.ok false)(h2:g en=.ok false):mOr f g en=.ok false:=by simp only [mOr,h1,h2,Res.bind];rfl
theorem aYu{f g:En->Res Bool}{o:Res Bool}(h1:f en=.ok false)(h2:g en=o):mOr f g en=o:=by simp only [mOr,h1,h2,Res.bind];rfl
theorem aYq{f g:En->Res Bool}(h1:f en=.ok true):mOr f g en=.ok true:=by simp only [mOr,h1,Res.bind];rfl
theorem aWy{f g:En->Res Bool}{o:Res Bool}(h1:f en=.ok true)(h2:g en=o):wA f g en=o:=by simp only [wA,h1,h2,Res.bind];rfl
theorem aWb{f g:En->Res Bool}(h1:f en=.ok false):wA f g en=.ok false:=by simp only [wA,h1,Res.bind];rfl
theorem bP{g:En->Res (List Ev)}{xs:List Ev}(h1:f en=.ok x)(h2:g en=.ok xs):aB f g en=.ok (x.c :: xs):=by simp only [aB,h1,h2,Res.bind]
theorem aH0{n:Nat}{m:List L->Res L}{fr:En->Res (List Ev)}{rs:List Ev}{ls:List L}{r:L}(h:fr en=.ok rs)(ha:eZ oT rs=some ls)(hn:ls.length=n)(hm:m ls=.ok r):aN n m fr en=.ok (nX r):=by
 unfold aN
 rw [h]
 show gN n m rs=_
 unfold gN
 rw [ha]
 dsimp only
 rw [bAc hn,hm]
 rfl
theorem aXd{n:Nat}{m:List L->Res L}{fr:En->Res (List Ev)}{rs:List Ev}{ls:List L}{r:L}(h:fr en=.ok rs)(h0:eZ oT rs=none)(ha:eZ aEc rs=some ls)(hn:ls.length=n)(hm:m ls=.ok r)(hf:xE r=true):aN n m fr en=.ok (nX r):=by
 unfold aN
 rw [h]
 show gN n m rs=_
 unfold gN
 rw [h0,ha]
 dsimp only
 rw [bAc hn,hm]
 show (if xE r=true then Res.ok (nX r) else .bad)=_
 rw [bAc hf]
theorem gO{r:List Ev->Res Ev}{f:En->Res (List Ev)}{rs:List Ev}(h1:f en=.ok rs)(h:r rs=o):aK r f en=o:=by simp only [aK,h1,Res.bind,h]
theorem pS{m:List L->Res L}{r:L}(h1:f en=.ok x)(hx:x.c=.p a)(hm:m [.p a]=.ok r):aN 1 m (aB f aT) en=.ok (nX r):=aH0 (bP h1 rfl) (by rw [hx];rfl) rfl hm
theorem dD{m:List L->Res L}{r:L}(h1:f en=.ok x)(h2:g en=.ok y)(hm:m [.p a,.p b]=.ok r)(hx:x.c=.p a:=by rfl)(hy:y.c=.p b:=by rfl):aN 2 m (aB f (aB g aT)) en=.ok (nX r):=aH0 (bP h1 (bP h2 rfl)) (by rw [hx,hy];rfl) rfl hm
theorem aFb{h:En->Res Ev}{z:Ev}{m:List L->Res L}{r:L}(h1:f en=.ok x)(h2:g en=.ok y)(h3:h en=.ok z)(hm:m [.p a,.p b,.p d]=.ok r)(hx:x.c=.p a:=by rfl)(hy:y.c=.p b:=by rfl)(hz:z.c=.p d:=by rfl):aN 3 m (aB f (aB g (aB h aT))) en=.ok (nX r):=aH0 (bP h1 (bP h2 (bP h3 rfl))) (by rw [hx,hy,hz];rfl) rfl hm
theorem uP(h1:f en=.ok x)(h2:g en=.ok y)(hx:x.c=.p a:=by rfl)(hy:y.c=.p b:=by rfl):aK bQ (aB f (aB g aT)) en=.ok (.p (.tuple [a,b])):=gO (bP h1 (bP h2 rfl)) (by rw [hx,hy];rfl)
theorem aV3{h:En->Res Ev}{z:Ev}(h1:f en=.ok x)(h2:g en=.ok y)(h3:h en=.ok z)(hx:x.c=.p a:=by rfl)(hy:y.c=.p b:=by rfl)(hz:z.c=.p d:=by rfl):aK bQ (aB f (aB g (aB h aT))) en=.ok (.p (.tuple [a,b,d])):=gO (bP h1 (bP h2 (bP h3 rfl))) (by rw [hx,hy,hz];rfl)
theorem aZf(h1:f en=.ok x)(hx:x.c=.p a:=by rfl):aK oN (aB f aT) en=.ok (.f (.list [a])):=gO (bP h1 rfl) (by rw [hx];rfl)
theorem itA{r:List Ev->Res (List D)}{f:En->Res (List Ev)}{rs:List Ev}{o:Res (List D)}(h1:f en=.ok rs)(h:r rs=o):yF r f en=o:=by simp only [yF,h1,Res.bind,h]
theorem itL{ds:List D}(h1:f en=.ok x)(h:x.c=.p (.list ds):=by rfl):eX f en=.ok ds:=by
 unfold eX
 rw [h1]
 show aPg x.c=_
 rw [h]
 rfl
theorem aGy{tg:D->En->Option En}{f:MS}{d:D}{ds:List D}{en e e':En}(h1:tg d en=some e)(h2:f e=some (.nx e')):gS tg f (d :: ds) en=gS tg f ds e':=by
 rw [gS,h1]
 dsimp only
 rw [h2]
theorem aTo{i:Nat}{ds:List D}(h1:en[i]? = some (some (.o (.list ds))))(h2:f en=.ok x)(h3:ds.length<=100000)(hx:x.c=.p d:=by rfl):mO i f en=some (.nx (en.set i (some (.o (.list (ds++[d])))))):=by
 unfold mO
 rw [h1]
 dsimp only
 rw [h2]
 dsimp only
 rw [hx]
 dsimp only
 rw [bAc h3]
theorem aG7{i:Nat}{kvs kvs':List (D×D)}{fk fv:En->Res Ev}{k v:D}(h1:en[i]? = some (some (.o (.dict kvs))))(h2:fv en=.ok (.p v))(h3:fk en=.ok (.p k))(h:aFc kvs k v=some kvs'):qE i fk fv en=some (.nx (en.set i (some (.o (.dict kvs'))))):=by
 unfold qE
 rw [h1]
 dsimp only
 rw [h2]
 dsimp only
 rw [h3]
 dsimp only [Ev.c]
 rw [h]
theorem mQ{i:Nat}{f:MS}{en e1:En}{o:Option Out}(h:frz i en=e1)(k:f e1=o):f (frz i en)=o:=by rw [h];exact k
theorem aFk{g:D->Option (Option D)}{lo:Int}:∀ (n:Nat) (out:Nat->D),(∀ k,k < n->g (.int (lo+(k:Int)))=some (some (out k)))->nV g (aFz lo n)=some ((List.range n).map out):=by
 intro n out h
 show nV g ((List.range n).map fun k:Nat=>.int (lo+(k:Int)))=_
 exact dR (List.range n) fun k hk=>h k (bE4.mp hk)
theorem uN{α:Type}{enc:α->D}{xs:List α}{d:α}{k:Nat}{i:Int}(hx:kY x=some (xs.map enc))(hk:k < xs.length)(hi:i=(k:Int)):ixE x (.p (.int i))=.ok (.p (enc (xs.getD k d))):=by
 subst hi
 have e:atI (xs.map enc) (k:Int)=some (enc (xs.getD k d)):=by
  have e1:ixN (xs.map enc).length (k:Int)=some k:=by
   unfold ixN
   rw [aZ0,bAc (by omega),bAc (by omega)]
   rfl
  unfold atI
  rw [e1]
  show (xs.map enc)[k]? = _
  rw [bA0,List.getD_eq_getElem?_getD,aZ5 hk]
  rfl
 simp only [ixE,hx,e]
theorem aRg{ds:List D}(h1:f en=.ok x)(hx:kY x.c=some ds):aK jM (aB f aT) en=.ok (.p (.int (ds.length:Nat))):=by
 refine gO (bP h1 rfl) ?_
 cases hc:x.c with
 | p v =>
  rw [hc] at hx
  cases v<;>first | (cases hx;rfl) | cases hx
 | b v =>
  rw [hc] at hx
  cases v<;>first | (cases hx;rfl) | cases hx
 | f v=>rw [hc] at hx;cases hx
 | x C=>rw [hc] at hx;cases hx
theorem aXe{fl fh:En->Res (Option Int)}{ds:List D}{l u:Option Int}(h1:f en=.ok x)(hl:fl en=.ok l)(hu:fh en=.ok u)(hd:g9 x.c=some ds:=by rfl):mSl f fl fh en=.ok (.f (.list (cutD ds l u))):=by
 simp only [mSl,h1,hl,hu,Res.bind,hd]
theorem aSm(vs:List Int)(a b:Nat):∃ cs:List Int,cutD (vs.map .int) (some (a:Int)) (some (b:Int))=cs.map .int/\cs.length<=b - a:=by
 refine ⟨(vs.drop (HT.sIx vs.length 0 (some (a:Int)))).take (HT.sIx vs.length vs.length (some (b:Int)) - HT.sIx vs.length 0 (some (a:Int))),?_,?_⟩
 ·unfold M.cutD
  rw [aZ0,List.map_take,List.map_drop]
 ·rw [bEb,bFx,HT.aCm,HT.aCm]
  omega
end
end N
namespace My
open PySem PySem.Spec PyProof.Rows L2 M N
theorem ra{α:Sort u}{β:Sort v}{γ:Sort w}{f:α->β->γ}:∀ a b,f a b=f a b:=fun _ _=>rfl
local macro_rules | `(tactic| walk_at "z") => `(tactic| repeat (first | assumption | apply L2.Sz.mul | apply N.Sz.addM | apply N.Sz.subM | apply L2.Sz.neg | apply N.x6 | (apply N.wQ; (first | decide | omega)) | exact N.sz_lit4 (by decide) | exact N.sz_lit (by decide) | exact N.sz_lit70 (by decide) | exact N.sz_big (by decide)))
local macro_rules | `(tactic| walk_at "d") => `(tactic| first | assumption | (first | apply N.cm2 | apply N.cd2) <;> (first | decide | omega | (walk_at "z")) | decide | omega)
local macro_rules | `(tactic| walk_at "1") => `(tactic| simp only [bU, cO, dW, i9, aD, mC, aH, mUn, aB, aT, aN, gN, eZ, oT, aEc, Res.bind, Ev.c, aNi, nX, aK, bQ, oN, oW, bV, dO, wA, mOr, aJn, o7, aFq, aBt, mL, dX, iD, iG, qF, g9, dat, jM, eqE, iE, gP, qW, s8, tM, qQ, qR, iY, i8, u4, jV, i6, fK, l6, bAk, aZ6, bAt, bAp, aZ2, bAv, aZ0, bAi, bDq, bCm, bE2, bEa, bC8, bCx, bA6, bB4, Nat.reduceAdd, Nat.reduceEqDiff, Nat.reduceLeDiff, reduceIte, bA4, bAb, bB8])
local macro_rules | `(tactic| walk_at "1a") => `(tactic| simp (disch := assumption) only [bU, cO, dW, i9, aD, mC, aH, mUn, aB, aT, aN, gN, eZ, oT, aEc, Res.bind, Ev.c, aNi, nX, aK, bQ, oN, oW, bV, dO, wA, mOr, aJn, o7, aFq, aBt, mL, dX, iD, iG, qF, g9, dat, jM, eqE, iE, gP, qW, s8, tM, qQ, qR, iY, i8, u4, jV, i6, fK, l6, bAk, aZ6, bAt, bAp, aZ2, bAv, aZ0, bAi, bDq, bCm, bE2, bEa, bC8, bCx, bA6, bB4, Nat.reduceAdd, Nat.reduceEqDiff, Nat.reduceLeDiff, reduceIte, bA4, bAb, bB8])
local macro_rules | `(tactic| ktr_call 11 ⟨$xs,*⟩) => `(tactic| simp (disch := assumption) only [bU, cO, dW, i9, aD, mC, aH, mUn, aB, aT, aN, gN, eZ, oT, aEc, Res.bind, Ev.c, aNi, nX, aK, bQ, oN, oW, bV, dO, wA, mOr, aJn, o7, aFq, aBt, mL, dX, iD, iG, qF, g9, dat, jM, eqE, iE, gP, qW, s8, tM, qQ, qR, iY, i8, u4, jV, i6, fK, l6, bAk, aZ6, bAt, bAp, aZ2, bAv, aZ0, bAi, bDq, bCm, bE2, bEa, bC8, bCx, bA6, bB4, Nat.reduceAdd, Nat.reduceEqDiff, Nat.reduceLeDiff, reduceIte, bA4, bAb, bB8, $[$xs:term],*])
local macro_rules | `(tactic| walk_at "1d") => `(tactic| simp (disch := (walk_at "d")) only [bU, cO, dW, i9, aD, mC, aH, mUn, aB, aT, aN, gN, eZ, oT, aEc, Res.bind, Ev.c, aNi, nX, aK, bQ, oN, oW, bV, dO, wA, mOr, aJn, o7, aFq, aBt, mL, dX, iD, iG, qF, g9, dat, jM, eqE, iE, gP, qW, s8, tM, qQ, qR, iY, i8, u4, jV, i6, fK, l6, bAk, aZ6, bAt, bAp, aZ2, bAv, aZ0, bAi, bDq, bCm, bE2, bEa, bC8, bCx, bA6, bB4, Nat.reduceAdd, Nat.reduceEqDiff, Nat.reduceLeDiff, reduceIte, bA4, bAb, bB8])
local macro_rules | `(tactic| ktr_call 21 ⟨$xs,*⟩) => `(tactic| simp (disch := (walk_at "d")) only [bU, cO, dW, i9, aD, mC, aH, mUn, aB, aT, aN, gN, eZ, oT, aEc, Res.bind, Ev.c, aNi, nX, aK, bQ, oN, oW, bV, dO, wA, mOr, aJn, o7, aFq, aBt, mL, dX, iD, iG, qF, g9, dat, jM, eqE, iE, gP, qW, s8, tM, qQ, qR, iY, i8, u4, jV, i6, fK, l6, bAk, aZ6, bAt, bAp, aZ2, bAv, aZ0, bAi, bDq, bCm, bE2, bEa, bC8, bCx, bA6, bB4, Nat.reduceAdd, Nat.reduceEqDiff, Nat.reduceLeDiff, reduceIte, bA4, bAb, bB8, $[$xs:term],*])
local macro_rules | `(tactic| walk_at "2") => `(tactic| simp only [bU, cO, dW, i9, aD, mC, aH, mUn, aB, aT, aN, gN, eZ, oT, aEc, Res.bind, Ev.c, aNi, nX, aK, bQ, oN, oW, bV, dO, wA, mOr, aJn, o7, aFq, aBt, mL, dX, iD, iG, qF, g9, dat, jM, eqE, iE, gP, qW, s8, tM, qQ, qR, iY, i8, u4, bAk, aZ6, bAt, bAp, aZ2, bAv, aZ0, bAi, bDq, bCm, bE2, bEa, bC8, bCx, bA6, bB4, Nat.reduceAdd, Nat.reduceEqDiff, Nat.reduceLeDiff, reduceIte, bA4, bAb, bB8])
local macro_rules | `(tactic| ktr_call 2 ⟨$xs,*⟩) => `(tactic| simp only [bU, cO, dW, i9, aD, mC, aH, mUn, aB, aT, aN, gN, eZ, oT, aEc, Res.bind, Ev.c, aNi, nX, aK, bQ, oN, oW, bV, dO, wA, mOr, aJn, o7, aFq, aBt, mL, dX, iD, iG, qF, g9, dat, jM, eqE, iE, gP, qW, s8, tM, qQ, qR, iY, i8, u4, bAk, aZ6, bAt, bAp, aZ2, bAv, aZ0, bAi, bDq, bCm, bE2, bEa, bC8, bCx, bA6, bB4, Nat.reduceAdd, Nat.reduceEqDiff, Nat.reduceLeDiff, reduceIte, bA4, bAb, bB8, $[$xs:term],*])
local macro_rules | `(tactic| ktr_call 3 ⟨$xs,*⟩) => `(tactic| simp only [bAk, aZ6, bAt, bAp, aZ2, bAv, aZ0, bAi, bDq, bCm, bE2, bEa, bC8, bCx, bA6, bB4, Nat.reduceAdd, Nat.reduceEqDiff, Nat.reduceLeDiff, reduceIte, bA4, bAb, bB8, $[$xs:term],*])
local macro_rules | `(tactic| ktr_call 13 ⟨$xs,*⟩) => `(tactic| simp (disch := assumption) only [bAk, aZ6, bAt, bAp, aZ2, bAv, aZ0, bAi, bDq, bCm, bE2, bEa, bC8, bCx, bA6, bB4, Nat.reduceAdd, Nat.reduceEqDiff, Nat.reduceLeDiff, reduceIte, bA4, bAb, bB8, $[$xs:term],*])
def top(i:Nat):Stmt:=PySem.Challenge.pw_creasecurve_k68_whole_lines_cut_creases.main.body.getD i (.Pass ⟨0,0,0,0⟩)
abbrev fF:Stmt:=top 5
abbrev nI:Stmt:=top 6
abbrev aD2:Stmt:=top 7
abbrev x5:Stmt:=top 8
abbrev w4:Stmt:=top 9
abbrev aC1:Stmt:=top 10
abbrev aEm:Stmt:=top 11
abbrev nN:Stmt:=top 12
abbrev xD:Stmt:=top 13
abbrev gW:Stmt:=top 14
abbrev xG:Stmt:=top 15
abbrev aDm:Stmt:=top 17
abbrev xR:Stmt:=top 18
abbrev nR:Stmt:=top 20
abbrev iN:Stmt:=top 21
abbrev fG:Stmt:=top 22
abbrev iK:Stmt:=top 23
abbrev nC:Stmt:=top 24
abbrev rS:Stmt:=top 25
abbrev pN:Stmt:=top 27
abbrev iM:Stmt:=top 28
abbrev wF:Stmt:=top 29
abbrev iP:Stmt:=top 31
abbrev wX:Stmt:=top 32
abbrev o6:Stmt:=top 34
abbrev rQ:Stmt:=top 35
abbrev lW:Stmt:=top 36
abbrev aLt:Stmt:=top 37
abbrev kP:Stmt:=top 38
abbrev jK:Stmt:=top 39
abbrev pD:Stmt:=top 40
abbrev lY:Stmt:=top 42
abbrev pO:Stmt:=top 43
abbrev iR:Stmt:=top 44
abbrev jG:Stmt:=top 45
abbrev aD6:Stmt:=top 46
abbrev nM:Stmt:=top 47
abbrev rN:Stmt:=top 48
abbrev iQ:Stmt:=top 51
abbrev nO:Stmt:=top 52
abbrev jH:Stmt:=top 53
abbrev nL:Stmt:=top 54
abbrev iJ:Stmt:=top 55
abbrev jJ:Stmt:=top 56
abbrev jN:Stmt:=top 58
abbrev hZ:Stmt:=top 59
abbrev lQ:Stmt:=top 60
abbrev jE:Stmt:=top 61
abbrev lJ:Stmt:=top 62
abbrev lX:Stmt:=top 63
abbrev kN:Stmt:=top 64
abbrev lL:Stmt:=top 65
abbrev hU:Stmt:=top 66
abbrev fL:Stmt:=top 67
abbrev nD:Stmt:=top 68
abbrev fJ:Stmt:=top 69
abbrev fX:Stmt:=top 70
abbrev kH:Stmt:=top 71
abbrev aAk:Stmt:=top 72
theorem zM:bootBuiltins "abs" = some (.builtin "abs"):=by decide +kernel
theorem aSz:bootBuiltins "any" = some (.builtin "any"):=by decide +kernel
theorem wN:bootBuiltins "list" = some (.type "list"):=by decide +kernel
theorem aDf:bootBuiltins "max" = some (.builtin "max"):=by decide +kernel
theorem aOq:bootBuiltins "min" = some (.builtin "min"):=by decide +kernel
theorem tO:bootBuiltins "sorted" = some (.builtin "sorted"):=by decide +kernel
theorem aSf:bootBuiltins "sum" = some (.builtin "sum"):=by decide +kernel
structure Blt(mg:Str->Option Value):Prop where
 abs_:mg "abs" = none
 any_:mg "any" = none
 bool_:mg "bool" = none
 enumerate_:mg "enumerate" = none
 int_:mg "int" = none
 isinstance_:mg "isinstance" = none
 len_:mg "len" = none
 list_:mg "list" = none
 max_:mg "max" = none
 min_:mg "min" = none
 range_:mg "range" = none
 reversed_:mg "reversed" = none
 sorted_:mg "sorted" = none
 sum_:mg "sum" = none
 tuple_:mg "tuple" = none
 zip_:mg "zip" = none
structure Cls where
 RoofError:Addr
 NoFraction:Addr
 NoRoof:Addr
structure gT(mg:Str->Option Value)(c:Cls):Prop where
 mRoofError:mg "RoofError" = some (.ref c.RoofError)
 mNoFraction:mg "NoFraction" = some (.ref c.NoFraction)
 mNoRoof:mg "NoRoof" = some (.ref c.NoRoof)
structure gU(mg:Str->Option Value)(base:Heap)(c:Cls):Prop where
 NoFraction:PyProof.Rows.OwnCls "NoFraction" c.NoFraction [.type "ValueError",.type "Exception",.type "BaseException",.type "object"] "ValueError.__new__" mg base
 NoRoof:PyProof.Rows.OwnCls "NoRoof" c.NoRoof [.type "ValueError",.type "Exception",.type "BaseException",.type "object"] "ValueError.__new__" mg base
noncomputable def bF(K:aZz)(c:Cls):List L->Res L:=mOf eII (fun _=>True) fun a=>.ok (.p (.int (Int.gcd a.1 a.2:Nat)))
noncomputable def cQ(K:aZz)(c:Cls):En->Res Bool:=(bV (aH (eqE true) (aD 3) (mC (.int 0))))
noncomputable def dI(K:aZz)(c:Cls):MS:=(bU (cO 4 (aH kL (aD 2) (aD 3))) (bU (cO 2 (aD 3)) (cO 3 (aD 4))))
variable (K:aZz)(c:Cls)
noncomputable def kG:MS:=(bU (cO 2 (aK aHf (aB (aD 0) aT))) (bU (cO 3 (aK aHf (aB (aD 1) aT))) (bU (pC (cQ K c) (dI K c)) (dW (aD 2)))))
theorem aTu(A B:Option L):∀ (n:Nat) (l s:Int) (r:Option L),0<=l->0<=s->s.toNat<=n->∃ r',mWh (cQ K c) (dI K c) (n+1) [A,B,some (.p (.int l)),some (.p (.int s)),r]=some (.nx [A,B,some (.p (.int (Int.gcd l s:Nat))),some (.p (.int 0)),r']):=by
 intro n
 have hc:∀ (l s:Int) (r:Option L),cQ K c [A,B,some (.p (.int l)),some (.p (.int s)),r]=.ok (!(s == 0)):=fun l s r=>by
  ktr_call 3 ⟨cQ,bV,aH,aD,mC,Res.bind,Ev.c,eqE,dat,iE,gP,dO⟩
  rfl
 have done:∀ (n:Nat) (l:Int) (r:Option L),0<=l->mWh (cQ K c) (dI K c) (n+1) [A,B,some (.p (.int l)),some (.p (.int 0)),r]=some (.nx [A,B,some (.p (.int (Int.gcd l 0:Nat))),some (.p (.int 0)),r]):=fun n l r hl=>by
  unfold mWh
  rw [hc,FR.aPp hl]
  rfl
 induction n with
 | zero =>
  intro l s r hl hs hn
  have:s=0:=by omega
  subst this
  exact ⟨r,done 0 l r hl⟩
 | succ n ih =>
  intro l s r hl hs hn
  by_cases h0:s=0
  ·subst h0
   exact ⟨r,done _ l r hl⟩
  ·have em:l.fmod s=l % s:=bEv l hs
   have m0:=Int.emod_nonneg l h0
   have m1:=Int.emod_lt_of_pos l (show 0 < s by omega)
   obtain ⟨r',ih⟩:=ih s (l.fmod s) (some (.p (.int (l.fmod s)))) hs (by omega) (by omega)
   refine ⟨r',?_⟩
   rw [em,FR.aLj hl hs] at ih
   have hb:dI K c [A,B,some (.p (.int l)),some (.p (.int s)),r]=some (.nx [A,B,some (.p (.int s)),some (.p (.int (l % s))),some (.p (.int (l % s)))]):=by
    ktr_call 13 ⟨dI,aH,aD,mC,bU,cO,Res.bind,Ev.c,fK,em⟩
   have ht:cQ K c [A,B,some (.p (.int l)),some (.p (.int s)),r]=.ok true:=by rw [hc,bF8 h0];rfl
   unfold mWh
   rw [ht]
   dsimp only
   rw [hb]
   exact ih
theorem oM:∀ ls,bF K c ls=.bad\/eK 5 (kG K c) ls=bF K c ls:=cJ fun x _=>by
 obtain ⟨a,b⟩:=x
 obtain ⟨r',h⟩:=aTu K c (some (.p (.int a))) (some (.p (.int b))) _ (if a < 0 then -a else a) (if b < 0 then -b else b) none (by split<;>omega) (by split<;>omega) (bAf _)
 have h:=uG h
 rw [FR.aKd] at h
 refine bH ?_
 rw [show bD 5 (eII (a,b))=[some (.p (.int a)),some (.p (.int b)),none,none,none] from rfl]
 refine (aL (b9 (d:=.int (if a < 0 then -a else a)) rfl)).trans ((aL (b9 (d:=.int (if b < 0 then -b else b)) rfl)).trans ((aL h).trans ?_))
 rfl
theorem wO(a b:Int):bF K c [.p (.int a),.p (.int b)]=.ok (.p (.int (Int.gcd a b:Nat))):=cK (a:=(a,b)) aBo trivial
theorem aTz{b:Int}(t:Int)(hb:b≠0)(hz:Sz 8000 b):mG t ((Int.gcd t b:Nat):Int)/\mG t (-((Int.gcd t b:Nat):Int)):=by
 have g0:=FR.aB6 (t:=t) hb
 have gle:Int.gcd t b<=b.natAbs:=bFv (by omega) (bFh t b)
 refine ⟨⟨by omega,Sz.le hz (by rw [bE3];exact gle)⟩,by omega,Sz.le hz (by rw [bGc,bE3];exact gle)⟩
open Classical in
noncomputable def bL(K:aZz)(c:Cls):List L->Res L:=mOf eII (fun a=>Sz 8000 a.2) fun a=>if a.2=0 then .exc c.NoFraction else .ok (.p (frD (FR.mk a.1 a.2)))
noncomputable def jP:MS:=(bU (i9 (bV (aH (eqE false) (aD 1) (mC (.int 0)))) (mL c.NoFraction (aB (mC (.str "nothing is divided by 0")) aT)) dX) (bU (cO 2 (aN 2 (bF K c) (aB (aD 0) (aB (aD 1) aT)))) (bU (i9 (bV (aH ltE (aD 1) (mC (.int 0)))) (cO 2 (mUn qF (aD 2))) dX) (dW (aK bQ (aB (aH j6 (aD 0) (aD 2)) (aB (aH j6 (aD 1) (aD 2)) aT)))))))
theorem aCj:∀ ls,bL K c ls=.bad\/eK 3 (jP K c) ls=bL K c ls:=cJ fun x hz=>by
 obtain ⟨t,b⟩:=x
 have hz:Sz 8000 b:=hz
 show eK 3 (jP K c) (eII (t,b))=if b=0 then .exc c.NoFraction else .ok (.p (frD (FR.mk t b)))
 have t0:bV (aH (eqE false) (aD 1) (mC (.int 0))) [some (.p (.int t)),some (.p (.int b)),none]=.ok (b == 0):=by
  ktr_call 3 ⟨bV,aH,aD,mC,Res.bind,Ev.c,eqE,dat,iE,gP,dO⟩
  rfl
 by_cases hb:b=0
 ·rw [bAc hb]
  have t0:bV (aH (eqE false) (aD 1) (mC (.int 0))) [some (.p (.int t)),some (.p (.int b)),none]=.ok true:=by rw [t0,hb];rfl
  have e:jP K c (bD 3 (eII (t,b)))=some (.ex c.NoFraction [some (.p (.int t)),some (.p (.int b)),none]):=by
   unfold jP bU
   rw [show bD 3 (eII (t,b))=[some (.p (.int t)),some (.p (.int b)),none] from rfl,pL t0]
   rfl
  unfold eK
  rw [e]
 ·rw [bAg hb]
  rw [bF8 hb] at t0
  obtain ⟨q1,q2⟩:=aTz t hb hz
  have q1':mG b ((Int.gcd t b:Nat):Int):=q1
  have q2':mG b (-((Int.gcd t b:Nat):Int)):=q2
  have g:=wO K c t b
  have e1:(aN 2 (bF K c) (aB (aD 0) (aB (aD 1) aT))) [some (.p (.int t)),some (.p (.int b)),none]=.ok (.p (.int (Int.gcd t b:Nat))):=by
   ktr_call 3 ⟨aN,aB,aT,aD,Res.bind,Ev.c,gN,eZ,oT,g,nX⟩
  refine bH ?_
  rw [show bD 3 (eII (t,b))=[some (.p (.int t)),some (.p (.int b)),none] from rfl]
  unfold jP
  refine (aL (nJ t0)).trans ((aL (b9 e1)).trans ?_)
  have t1:bV (aH ltE (aD 1) (mC (.int 0))) [some (.p (.int t)),some (.p (.int b)),some (.p (.int (Int.gcd t b:Nat)))]=.ok (decide (b < 0)):=by
   ktr_call 3 ⟨bV,aH,aD,mC,Res.bind,Ev.c,iG,dO⟩
  by_cases hn:b < 0
  ·rw [aZ8 hn] at t1
   have es:FR.mk t b=(t.fdiv (-((Int.gcd t b:Nat):Int)),b.fdiv (-((Int.gcd t b:Nat):Int))):=by unfold FR.mk FR.sgn;rw [bAc hn]
   refine (aL ((pL t1).trans (b9 (d:=.int (-((Int.gcd t b:Nat):Int))) rfl))).trans (dC ?_)
   rw [es]
   ktr_call 11 ⟨frD⟩
  ·rw [aZ7 hn] at t1
   have es:FR.mk t b=(t.fdiv ((Int.gcd t b:Nat):Int),b.fdiv ((Int.gcd t b:Nat):Int)):=by unfold FR.mk FR.sgn;rw [bAg hn]
   refine (aL (nJ t1)).trans (dC ?_)
   rw [es]
   ktr_call 11 ⟨frD⟩
theorem mJ{t b:Int}(h0:b≠0)(h1:Sz 8000 b):bL K c [.p (.int t),.p (.int b)]=.ok (.p (frD (FR.mk t b))):=(cK (a:=(t,b)) aBo h1).trans (bAg h0)
noncomputable def jD(K:aZz)(c:Cls):List L->Res L:=mOf eFF (fun a=>FSz 2000 a.1/\FSz 2000 a.2/\a.1.2*a.2.2≠0) fun a=>.ok (.p (frD (FR.mk (a.1.1*a.2.2+a.2.1*a.1.2) (a.1.2*a.2.2))))
noncomputable def aIt:MS:=(dW (aN 2 (bL K c) (aB (aH iD (aH eV (aH ixE (aD 0) (mC (.int 0))) (aH ixE (aD 1) (mC (.int 1)))) (aH eV (aH ixE (aD 1) (mC (.int 0))) (aH ixE (aD 0) (mC (.int 1))))) (aB (aH eV (aH ixE (aD 0) (mC (.int 1))) (aH ixE (aD 1) (mC (.int 1)))) aT))))
theorem aQu:∀ ls,jD K c ls=.bad\/eK 2 (aIt K c) ls=jD K c ls:=cJ fun a h=>by
 obtain ⟨x,y⟩:=a
 obtain ⟨⟨x1,x2⟩,⟨y1,y2⟩,hb⟩:=h
 dsimp only at x1 x2 y1 y2 hb ⊢
 have f:=mJ K c (t:=x.1*y.2+y.1*x.2) hb ((Sz.mul x2 y2).mono (by decide))
 refine bH ?_
 rw [show bD 2 (eFF (x,y))=[some (.p (frD x)),some (.p (frD y))] from rfl]
 unfold aIt
 refine dC ?_
 ktr_call 21 ⟨f⟩
theorem aK1{x y:Int×Int}(h1:FSz 2000 x)(h2:FSz 2000 y)(h3:x.2*y.2≠0):jD K c [.p (frD x),.p (frD y)]=.ok (.p (frD (FR.mk (x.1*y.2+y.1*x.2) (x.2*y.2)))):=cK (a:=(x,y)) mS ⟨h1,h2,h3⟩
theorem lC{m n:Nat}{x y:Int×Int}(hx:Good m x)(hy:Good n y)(hm:m<=2000)(hn:n<=2000):jD K c [.p (frD x),.p (frD y)]=.ok (.p (frD (hP x y))):=aK1 K c (hx.mono hm).fsz (hy.mono hn).fsz (hx.ne hy)
noncomputable def kA(K:aZz)(c:Cls):List L->Res L:=mOf eFF (fun a=>FSz 2000 a.1/\FSz 2000 a.2/\a.1.2*a.2.2≠0) fun a=>.ok (.p (frD (FR.mk (a.1.1*a.2.2 - a.2.1*a.1.2) (a.1.2*a.2.2))))
noncomputable def aBh:MS:=(dW (aN 2 (bL K c) (aB (aH kZ (aH eV (aH ixE (aD 0) (mC (.int 0))) (aH ixE (aD 1) (mC (.int 1)))) (aH eV (aH ixE (aD 1) (mC (.int 0))) (aH ixE (aD 0) (mC (.int 1))))) (aB (aH eV (aH ixE (aD 0) (mC (.int 1))) (aH ixE (aD 1) (mC (.int 1)))) aT))))
theorem aLw:∀ ls,kA K c ls=.bad\/eK 2 (aBh K c) ls=kA K c ls:=cJ fun a h=>by
 obtain ⟨x,y⟩:=a
 obtain ⟨⟨x1,x2⟩,⟨y1,y2⟩,hb⟩:=h
 dsimp only at x1 x2 y1 y2 hb ⊢
 have f:=mJ K c (t:=x.1*y.2 - y.1*x.2) hb ((Sz.mul x2 y2).mono (by decide))
 refine bH ?_
 rw [show bD 2 (eFF (x,y))=[some (.p (frD x)),some (.p (frD y))] from rfl]
 unfold aBh
 refine dC ?_
 ktr_call 21 ⟨f⟩
theorem aGw{x y:Int×Int}(h1:FSz 2000 x)(h2:FSz 2000 y)(h3:x.2*y.2≠0):kA K c [.p (frD x),.p (frD y)]=.ok (.p (frD (FR.mk (x.1*y.2 - y.1*x.2) (x.2*y.2)))):=cK (a:=(x,y)) mS ⟨h1,h2,h3⟩
theorem vI{m n:Nat}{x y:Int×Int}(hx:Good m x)(hy:Good n y)(hm:m<=2000)(hn:n<=2000):kA K c [.p (frD x),.p (frD y)]=.ok (.p (frD (hM x y))):=aGw K c (hx.mono hm).fsz (hy.mono hn).fsz (hx.ne hy)
noncomputable def gX(K:aZz)(c:Cls):List L->Res L:=mOf eFF (fun a=>FSz 2000 a.1/\FSz 2000 a.2/\a.1.2*a.2.2≠0) fun a=>.ok (.p (frD (FR.mk (a.1.1*a.2.1) (a.1.2*a.2.2))))
noncomputable def aBq:MS:=(dW (aN 2 (bL K c) (aB (aH eV (aH ixE (aD 0) (mC (.int 0))) (aH ixE (aD 1) (mC (.int 0)))) (aB (aH eV (aH ixE (aD 0) (mC (.int 1))) (aH ixE (aD 1) (mC (.int 1)))) aT))))
theorem aNo:∀ ls,gX K c ls=.bad\/eK 2 (aBq K c) ls=gX K c ls:=cJ fun a h=>by
 obtain ⟨x,y⟩:=a
 obtain ⟨⟨x1,x2⟩,⟨y1,y2⟩,hb⟩:=h
 dsimp only at x1 x2 y1 y2 hb ⊢
 have f:=mJ K c (t:=x.1*y.1) hb ((Sz.mul x2 y2).mono (by decide))
 refine bH ?_
 rw [show bD 2 (eFF (x,y))=[some (.p (frD x)),some (.p (frD y))] from rfl]
 unfold aBq
 refine dC ?_
 ktr_call 21 ⟨f⟩
theorem aHq{x y:Int×Int}(h1:FSz 2000 x)(h2:FSz 2000 y)(h3:x.2*y.2≠0):gX K c [.p (frD x),.p (frD y)]=.ok (.p (frD (FR.mk (x.1*y.1) (x.2*y.2)))):=cK (a:=(x,y)) mS ⟨h1,h2,h3⟩
theorem nK{n:Nat}{i:Int}{x:Int×Int}(hi:Sz 2000 i)(hx:Good n x)(hn:n<=2000):gX K c [.p (.tuple [.int i,.int 1]),.p (frD x)]=.ok (.p (frD (hT i x))):=aHq K c (x:=(i,1)) ⟨hi,aC8⟩ (hx.mono hn).fsz (by have:=hx.1;show 1*x.2≠0;omega)
noncomputable def nZ(K:aZz)(c:Cls):List L->Res L:=mOf eFF (fun a=>FSz 2000 a.1/\FSz 2000 a.2/\a.1.2*a.2.1≠0) fun a=>.ok (.p (frD (FR.mk (a.1.1*a.2.2) (a.1.2*a.2.1))))
noncomputable def aGv:MS:=(dW (aN 2 (bL K c) (aB (aH eV (aH ixE (aD 0) (mC (.int 0))) (aH ixE (aD 1) (mC (.int 1)))) (aB (aH eV (aH ixE (aD 0) (mC (.int 1))) (aH ixE (aD 1) (mC (.int 0)))) aT))))
theorem aQ0:∀ ls,nZ K c ls=.bad\/eK 2 (aGv K c) ls=nZ K c ls:=cJ fun a h=>by
 obtain ⟨x,y⟩:=a
 obtain ⟨⟨x1,x2⟩,⟨y1,y2⟩,hb⟩:=h
 dsimp only at x1 x2 y1 y2 hb ⊢
 have f:=mJ K c (t:=x.1*y.2) hb ((Sz.mul x2 y1).mono (by decide))
 refine bH ?_
 rw [show bD 2 (eFF (x,y))=[some (.p (frD x)),some (.p (frD y))] from rfl]
 unfold aGv
 refine dC ?_
 ktr_call 21 ⟨f⟩
theorem aD7{x y:Int×Int}(h1:FSz 2000 x)(h2:FSz 2000 y)(h3:x.2*y.1≠0):nZ K c [.p (frD x),.p (frD y)]=.ok (.p (frD (FR.mk (x.1*y.2) (x.2*y.1)))):=cK (a:=(x,y)) mS ⟨h1,h2,h3⟩
theorem aJm{m:Nat}{x:Int×Int}(hx:Good m x)(hm:m<=2000):nZ K c [.p (frD x),.p (.tuple [.int 2,.int 1])]=.ok (.p (frD (hO x (2,1)))):=aD7 K c (y:=(2,1)) (hx.mono hm).fsz ⟨aAz _ (bAy (show (2:Int).natAbs < 2 ^ 4 by decide) (Nat.pow_le_pow_right (by decide) (by decide))),aC8⟩ (by have:=hx.1;show x.2*2≠0;omega)
noncomputable def jB(K:aZz)(c:Cls):List L->Res L:=mOf eFF (fun a=>FSz 2000 a.1/\FSz 2000 a.2) fun a=>.ok (.p (.bool (ltF a.1 a.2)))
noncomputable def aKg(K:aZz)(c:Cls):MS:=(dW (aH ltE (aH eV (aH ixE (aD 0) (mC (.int 0))) (aH ixE (aD 1) (mC (.int 1)))) (aH eV (aH ixE (aD 1) (mC (.int 0))) (aH ixE (aD 0) (mC (.int 1))))))
theorem aQr:∀ ls,jB K c ls=.bad\/eK 2 (aKg K c) ls=jB K c ls:=cJ fun a h=>by
 obtain ⟨x,y⟩:=a
 obtain ⟨⟨x1,x2⟩,⟨y1,y2⟩⟩:=h
 dsimp only at x1 x2 y1 y2 ⊢
 refine bH ?_
 rw [show bD 2 (eFF (x,y))=[some (.p (frD x)),some (.p (frD y))] from rfl]
 unfold aKg
 refine dC ?_
 walk_at "1d"
 rfl
theorem pA{x y:Int×Int}(hx:FSz 2000 x)(hy:FSz 2000 y):jB K c [.p (frD x),.p (frD y)]=.ok (.p (.bool (ltF x y))):=cK (a:=(x,y)) mS ⟨hx,hy⟩
noncomputable def fW(K:aZz)(c:Cls):List L->Res L:=mOf eFs (fun xs=>xs≠[]/\∀ y∈xs,FSz 2000 y) fun xs=>.ok (.p (frD (best (xs.headD (0,1)) xs)))
noncomputable def jL:MS:=(i9 (bV (aN 2 (jB K c) (aB (aD 1) (aB (aD 2) aT)))) (cO 1 (aD 2)) dX)
noncomputable def wC:MS:=(bU (cO 1 (aH ixE (aD 0) (mC (.int 0)))) (bU (aA2 (eX (aD 0)) (aJ 2) (jL K c)) (dW (aD 1))))
theorem oX(K:aZz)(c:Cls)(Z:Option L):∀ (xs:List (Int×Int)) (b:Int×Int) (r:Option L),FSz 2000 b->(∀ y∈xs,FSz 2000 y)->∃ r',gS (aJ 2) (jL K c) (xs.map frD) [Z,some (.p (frD b)),r]=some (.nx [Z,some (.p (frD (best b xs))),r'])
 | [],b,r,_,_=>⟨r,rfl⟩
 | x :: xs,b,r,hb,h=>by
  have hx:=h x (.head _)
  have hl:=pA K c hb hx
  have hb1:jL K c [Z,some (.p (frD b)),some (.p (frD x))]=some (.nx [Z,some (.p (frD (if ltF b x=true then x else b))),some (.p (frD x))]):=by
   unfold jL
   cases e:ltF b x<;>rw [e] at hl<;>ktr_call 2 ⟨hl⟩
  obtain ⟨r',ih⟩:=oX K c Z xs (if ltF b x=true then x else b) (some (.p (frD x))) (by split;exact hx;exact hb) fun y hy=>h y (.tail _ hy)
  refine ⟨r',?_⟩
  rw [bAb]
  unfold gS
  simp only [aJ,bAp,bAt]
  rw [hb1]
  exact ih
theorem aA7:∀ ls,fW K c ls=.bad\/eK 3 (wC K c) ls=fW K c ls:=cJ fun xs h=>by
 obtain ⟨h0,hz⟩:=h
 obtain ⟨r',h⟩:=oX K c (some (.p (.list (xs.map frD)))) xs (xs.headD (0,1)) none (hz _ (head_mem _ h0)) hz
 have e1:(aH ixE (aD 0) (mC (.int 0))) [some (.p (.list (xs.map frD))),none,none]=.ok (.p (frD (xs.headD (0,1)))):=by
  cases xs with
  | nil=>exact absurd rfl h0
  | cons x r=>ktr_call 3 ⟨aH,aD,mC,Res.bind,Ev.c,ixE,kY,at0,List.headD_cons⟩
 refine bH ?_
 rw [show bD 3 (eFs xs)=[some (.p (.list (xs.map frD))),none,none] from rfl]
 refine (aL (b9 e1)).trans ((aL ((qY (ds:=xs.map frD) rfl).trans h)).trans ?_)
 rfl
theorem pK(xs:List (Int×Int))(h0:xs≠[])(h:∀ y∈xs,FSz 2000 y):fW K c [.p (.list (xs.map frD))]=.ok (.p (frD (best (xs.headD (0,1)) xs))):=cK (a:=xs) xS ⟨h0,h⟩
noncomputable def lO(K:aZz)(c:Cls):List L->Res L:=mOf eFs (fun xs=>xs≠[]/\∀ y∈xs,FSz 2000 y) fun xs=>.ok (.p (frD (worst (xs.headD (0,1)) xs)))
noncomputable def nG:MS:=(i9 (bV (aN 2 (jB K c) (aB (aD 2) (aB (aD 1) aT)))) (cO 1 (aD 2)) dX)
noncomputable def aJy:MS:=(bU (cO 1 (aH ixE (aD 0) (mC (.int 0)))) (bU (aA2 (eX (aD 0)) (aJ 2) (nG K c)) (dW (aD 1))))
theorem v9(K:aZz)(c:Cls)(Z:Option L):∀ (xs:List (Int×Int)) (b:Int×Int) (r:Option L),FSz 2000 b->(∀ y∈xs,FSz 2000 y)->∃ r',gS (aJ 2) (nG K c) (xs.map frD) [Z,some (.p (frD b)),r]=some (.nx [Z,some (.p (frD (worst b xs))),r'])
 | [],b,r,_,_=>⟨r,rfl⟩
 | x :: xs,b,r,hb,h=>by
  have hx:=h x (.head _)
  have hl:=pA K c hx hb
  have hb1:nG K c [Z,some (.p (frD b)),some (.p (frD x))]=some (.nx [Z,some (.p (frD (if ltF x b=true then x else b))),some (.p (frD x))]):=by
   unfold nG
   cases e:ltF x b<;>rw [e] at hl<;>ktr_call 2 ⟨hl⟩
  obtain ⟨r',ih⟩:=v9 K c Z xs (if ltF x b=true then x else b) (some (.p (frD x))) (by split;exact hx;exact hb) fun y hy=>h y (.tail _ hy)
  refine ⟨r',?_⟩
  rw [bAb]
  unfold gS
  simp only [aJ,bAp,bAt]
  rw [hb1]
  exact ih
theorem aLa:∀ ls,lO K c ls=.bad\/eK 3 (aJy K c) ls=lO K c ls:=cJ fun xs h=>by
 obtain ⟨h0,hz⟩:=h
 obtain ⟨r',h⟩:=v9 K c (some (.p (.list (xs.map frD)))) xs (xs.headD (0,1)) none (hz _ (head_mem _ h0)) hz
 have e1:(aH ixE (aD 0) (mC (.int 0))) [some (.p (.list (xs.map frD))),none,none]=.ok (.p (frD (xs.headD (0,1)))):=by
  cases xs with
  | nil=>exact absurd rfl h0
  | cons x r=>ktr_call 3 ⟨aH,aD,mC,Res.bind,Ev.c,ixE,kY,at0,List.headD_cons⟩
 refine bH ?_
 rw [show bD 3 (eFs xs)=[some (.p (.list (xs.map frD))),none,none] from rfl]
 refine (aL (b9 e1)).trans ((aL ((qY (ds:=xs.map frD) rfl).trans h)).trans ?_)
 rfl
theorem vX(xs:List (Int×Int))(h0:xs≠[])(h:∀ y∈xs,FSz 2000 y):lO K c [.p (.list (xs.map frD))]=.ok (.p (frD (worst (xs.headD (0,1)) xs))):=cK (a:=xs) xS ⟨h0,h⟩
structure GoodQ(p:Pl)(pt:Pt):Prop where
 i:Sz 10 p.1
 j:Sz 10 p.2.1
 h:Good 700 p.2.2
 x:Good 610 pt.1
 y:Good 610 pt.2
theorem GoodQ.hgt{p:Pl}{pt:Pt}(g:GoodQ p pt):Good 1942 (hgt p pt):=mK (mK (gR g.i g.x) (gR g.j g.y)) g.h
noncomputable def cH(K:aZz)(c:Cls):List L->Res L:=mOf ePH (fun a=>GoodQ a.1 a.2) fun a=>.ok (.p (frD (hgt a.1 a.2)))
noncomputable def kU:MS:=(bU (cO 2 (aN 2 (gX K c) (aB (aK bQ (aB (aH ixE (aD 0) (mC (.int 0))) (aB (mC (.int 1)) aT))) (aB (aH ixE (aD 1) (mC (.int 0))) aT)))) (bU (cO 3 (aN 2 (gX K c) (aB (aK bQ (aB (aH ixE (aD 0) (mC (.int 1))) (aB (mC (.int 1)) aT))) (aB (aH ixE (aD 1) (mC (.int 1))) aT)))) (dW (aN 2 (jD K c) (aB (aN 2 (jD K c) (aB (aD 2) (aB (aD 3) aT))) (aB (aH ixE (aD 0) (mC (.int 2))) aT))))))
theorem sP:∀ ls,cH K c ls=.bad\/eK 4 (kU K c) ls=cH K c ls:=cJ fun a g=>by
 obtain ⟨p,pt⟩:=a
 dsimp only at g ⊢
 have t1:=nK K c (g.i.mono (show 10<=2000 by decide)) g.x (by decide)
 have t2:=nK K c (g.j.mono (show 10<=2000 by decide)) g.y (by decide)
 have p1:=lC K c (gR g.i g.x) (gR g.j g.y) (by decide) (by decide)
 have p2:=lC K c (mK (gR g.i g.x) (gR g.j g.y)) g.h (by decide) (by decide)
 refine bH ?_
 rw [show bD 4 (ePH (p,pt))=[some (.p (plD p)),some (.p (.tuple [frD pt.1,frD pt.2])),none,none] from rfl]
 unfold kU
 have e1:(aN 2 (gX K c) (aB (aK bQ (aB (aH ixE (aD 0) (mC (.int 0))) (aB (mC (.int 1)) aT))) (aB (aH ixE (aD 1) (mC (.int 0))) aT))) [some (.p (plD p)),some (.p (.tuple [frD pt.1,frD pt.2])),none,none]=.ok (.p (frD (hT p.1 pt.1))):=by
  ktr_call 2 ⟨t1⟩
 have e2:(aN 2 (gX K c) (aB (aK bQ (aB (aH ixE (aD 0) (mC (.int 1))) (aB (mC (.int 1)) aT))) (aB (aH ixE (aD 1) (mC (.int 1))) aT))) [some (.p (plD p)),some (.p (.tuple [frD pt.1,frD pt.2])),some (.p (frD (hT p.1 pt.1))),none]=.ok (.p (frD (hT p.2.1 pt.2))):=by
  ktr_call 2 ⟨t2⟩
 refine (aL (b9 e1)).trans ((aL (b9 e2)).trans (dC ?_))
 ktr_call 2 ⟨p1,p2⟩
 rfl
theorem aJ5{p:Pl}{pt:Pt}(g:GoodQ p pt):cH K c [.p (plD p),.p (.tuple [frD pt.1,frD pt.2])]=.ok (.p (frD (hgt p pt))):=cK (a:=(p,pt)) aHg g
def cbS(c b:Int):Int:=(c*b).fdiv (Int.gcd c b:Nat)
def cb(hs:List (Int×Int)):Int:=hs.foldl (fun c h=>cbS c h.2) 1
theorem aJ6{c b:Int}(hc:1<=c)(hb:1<=b):1<=cbS c b/\c∣cbS c b/\b∣cbS c b:=by
 have g0:0 < Int.gcd c b:=bCd c (by omega)
 obtain ⟨k,hk⟩:=bFe c b
 obtain ⟨j,hj⟩:=bFy c b
 have e1:cbS c b=c*k:=by
  unfold cbS
  have:c*b=((Int.gcd c b:Nat):Int)*(c*k):=by
   conv=>lhs;rw [hk]
   ac_rfl
  rw [this]
  exact bBj _ (by omega)
 have e2:cbS c b=b*j:=by
  unfold cbS
  have:c*b=((Int.gcd c b:Nat):Int)*(b*j):=by
   conv=>lhs;rw [hj]
   ac_rfl
  rw [this]
  exact bBj _ (by omega)
 have k0:0 < k:=bCu (show 0 < ((Int.gcd c b:Nat):Int)*k by rw [<- hk];omega) (by omega)
 refine ⟨?_,⟨k,e1⟩,⟨j,e2⟩⟩
 rw [e1]
 exact dG hc k0
theorem aPv{b:Nat}:∀ (hs:List (Int×Int)) (c:Int) (n:Nat),1<=c->Sz n c->(∀ h∈hs,1<=h.2/\Sz b h.2)->1<=hs.foldl (fun c h=>cbS c h.2) c/\c∣hs.foldl (fun c h=>cbS c h.2) c/\(∀ h∈hs,h.2∣hs.foldl (fun c h=>cbS c h.2) c)/\Sz (n+b*hs.length) (hs.foldl (fun c h=>cbS c h.2) c)
 | [],c,n,h1,h2,_=>⟨h1,Int.dvd_refl _,(fun _ h=>nomatch h),h2⟩
 | h :: hs,c,n,h1,h2,hg=>by
  have g:=hg h (.head _)
  obtain ⟨a1,a2,a3⟩:=aJ6 h1 g.1
  have sz:Sz (n+b) (cbS c h.2):=Sz.le (Sz.mul h2 g.2) (bA7 _ _)
  obtain ⟨b1,b2,b3,b4⟩:=aPv hs (cbS c h.2) (n+b) a1 sz fun x hx=>hg x (.tail _ hx)
  rw [bB9]
  refine ⟨b1,bFw a2 b2,fun x hx=>?_,b4.mono (by rw [aZ2,Nat.mul_succ];omega)⟩
  rcases aZ3.mp hx with z | z
  ·rw [z];exact bFw a3 b2
  ·exact b3 x z
def CbP(hs:List (Int×Int)):Prop:=∃ b:Nat,b<=400/\b*hs.length<=40000/\∀ h∈hs,1<=h.2/\Sz b h.2
noncomputable def bW(K:aZz)(c:Cls):List L->Res L:=mOf eFs CbP fun hs=>.ok (.p (.int (cb hs)))
noncomputable def fI:MS:=(cO 1 (aH j6 (aH eV (aD 1) (aH ixE (aD 2) (mC (.int 1)))) (aN 2 (bF K c) (aB (aD 1) (aB (aH ixE (aD 2) (mC (.int 1))) aT)))))
noncomputable def mX:MS:=(bU (cO 1 (mC (.int 1))) (bU (aA2 (eX (aD 0)) (aJ 2) (fI K c)) (dW (aD 1))))
theorem rJ:∀ ls,bW K c ls=.bad\/eK 3 (mX K c) ls=bW K c ls:=cJ fun hs h=>by
 obtain ⟨b,hb,hl,hg⟩:=h
 have gen:∀ (xs:List (Int×Int)) (x:Int) (n:Nat) (r:Option L),1<=x->Sz n x->n+b*xs.length<=40001->(∀ h∈xs,1<=h.2/\Sz b h.2)->∃ r',gS (aJ 2) (fI K c) (xs.map frD) [some (.p (.list (hs.map frD))),some (.p (.int x)),r]=some (.nx [some (.p (.list (hs.map frD))),some (.p (.int (xs.foldl (fun c h=>cbS c h.2) x))),r']):=by
  intro xs
  induction xs with
  | nil=>intro x n r _ _ _ _;exact ⟨r,rfl⟩
  | cons h xs ih =>
   intro x n r x1 x2 hk hxs
   have g:=hxs h (.head _)
   rw [aZ2,Nat.mul_succ] at hk
   obtain ⟨a1,a2,a3⟩:=aJ6 x1 g.1
   have sz:Sz (n+b) (cbS x h.2):=Sz.le (Sz.mul x2 g.2) (bA7 _ _)
   obtain ⟨r',ih⟩:=ih (cbS x h.2) (n+b) (some (.p (frD h))) a1 sz (by omega) fun y hy=>hxs y (.tail _ hy)
   refine ⟨r',?_⟩
   have g0:0 < Int.gcd x h.2:=bCd x (by have:=g.1;omega)
   have q1:CMulW x h.2:=⟨x2.mono (by omega),g.2.mono (by omega)⟩
   have q2:mG (x*h.2) ((Int.gcd x h.2:Nat):Int):=⟨by omega,(Sz.le g.2 (by rw [bE3];exact bFv (by have:=g.1;omega) (bFh x h.2))).mono (by omega)⟩
   have hb:fI K c [some (.p (.list (hs.map frD))),some (.p (.int x)),some (.p (frD h))]=some (.nx [some (.p (.list (hs.map frD))),some (.p (.int (cbS x h.2))),some (.p (frD h))]):=by
    ktr_call 11 ⟨fI,wO⟩
    rfl
   rw [bAb]
   unfold gS
   simp only [aJ,bAp,bAt]
   rw [hb]
   exact ih
 obtain ⟨r',h⟩:=gen hs 1 1 none (bCk 1) (aAz _ (by decide)) (by omega) hg
 refine bH ?_
 rw [show bD 3 (eFs hs)=[some (.p (.list (hs.map frD))),none,none] from rfl]
 refine (aL (b9 (d:=.int 1) rfl)).trans ?_
 refine (aL ((qY (ds:=hs.map frD) rfl).trans h)).trans (dC rfl)
theorem aGh{hs:List (Int×Int)}(h:CbP hs):bW K c [.p (.list (hs.map frD))]=.ok (.p (.int (cb hs))):=cK (a:=hs) xS h
def eHI(a:(Int×Int)×Int):List L:=[.p (frD a.1),.p (.int a.2)]
theorem aQn(a b:(Int×Int)×Int)(h:eHI a=eHI b):a=b:=by
 unfold eHI at h
 injection h with h1 h2
 injection h2 with h2 _
 injection h1 with h1
 injection h2 with h2
 injection h2 with h2
 exact bBq (frI h1) h2
def wI(x:Int×Int)(F:Int):Int:=x.1*F.fdiv x.2
noncomputable def k8(K:aZz)(c:Cls):List L->Res L:=mOf eHI (fun a=>Good 400 a.1/\Sz 41000 a.2) fun a=>.ok (.p (.int (wI a.1 a.2)))
noncomputable def aBi(K:aZz)(c:Cls):MS:=(dW (aH eV (aH ixE (aD 0) (mC (.int 0))) (aH j6 (aD 1) (aH ixE (aD 0) (mC (.int 1))))))
theorem aMi:∀ ls,k8 K c ls=.bad\/eK 2 (aBi K c) ls=k8 K c ls:=cJ fun a h=>by
 obtain ⟨x,F⟩:=a
 obtain ⟨⟨p,t,b⟩,hF⟩:=h
 dsimp only at p t b hF ⊢
 have bn:x.2≠0:=by omega
 have q1:mG F x.2:=⟨bn,b.mono (by decide)⟩
 have q2:CMulW x.1 (F.fdiv x.2):=⟨t.mono (by decide),(Sz.le hF (bA7 _ _)).mono (by decide)⟩
 refine bH ?_
 rw [show bD 2 (eHI (x,F))=[some (.p (frD x)),some (.p (.int F))] from rfl]
 unfold aBi
 refine dC ?_
 walk_at "1a"
 rfl
theorem vQ{x:Int×Int}{F:Int}(h1:Good 400 x)(h2:Sz 41000 F):k8 K c [.p (frD x),.p (.int F)]=.ok (.p (.int (wI x F))):=cK (a:=(x,F)) aQn ⟨h1,h2⟩
def eT3(a:Q2×Q2×Q2):List L:=[.p (slD a.1),.p (slD a.2.1),.p (slD a.2.2)]
theorem aRh(a b:Q2×Q2×Q2)(h:eT3 a=eT3 b):a=b:=by
 unfold eT3 at h
 injection h with h1 h2
 injection h2 with h2 h3
 injection h3 with h3 _
 injection h1 with h1
 injection h2 with h2
 injection h3 with h3
 exact bBq (oK _ _ h1) (bBq (oK _ _ h2) (oK _ _ h3))
def GQ(q:Q2):Prop:=Sz 5000 q.1/\Sz 5000 q.2
noncomputable def qU(K:aZz)(c:Cls):List L->Res L:=mOf eT3 (fun a=>GQ a.1/\GQ a.2.1/\GQ a.2.2) fun a=>.ok (.p (.int (bM a.1 a.2.1 a.2.2)))
noncomputable def aGc(K:aZz)(c:Cls):MS:=(bU (cO 3 (aH eV (aH kZ (aH ixE (aD 1) (mC (.int 0))) (aH ixE (aD 0) (mC (.int 0)))) (aH kZ (aH ixE (aD 2) (mC (.int 1))) (aH ixE (aD 0) (mC (.int 1)))))) (bU (cO 4 (aH eV (aH kZ (aH ixE (aD 1) (mC (.int 1))) (aH ixE (aD 0) (mC (.int 1)))) (aH kZ (aH ixE (aD 2) (mC (.int 0))) (aH ixE (aD 0) (mC (.int 0)))))) (dW (aH kZ (aD 3) (aD 4)))))
theorem aQy:∀ ls,qU K c ls=.bad\/eK 5 (aGc K c) ls=qU K c ls:=cJ fun a h=>by
 obtain ⟨a,b,d⟩:=a
 obtain ⟨⟨a1,a2⟩,⟨b1,b2⟩,d1,d2⟩:=h
 dsimp only at a1 a2 b1 b2 d1 d2 ⊢
 have z:∀ {x y:Int},Sz 5000 x->Sz 5000 y->Sz 60000 (x - y):=fun h1 h2=>(N.Sz.subM h1 h2).mono (by decide)
 have q1:CMulW (b.1 - a.1) (d.2 - a.2):=⟨z b1 a1,z d2 a2⟩
 have q2:CMulW (b.2 - a.2) (d.1 - a.1):=⟨z b2 a2,z d1 a1⟩
 have x0:∀ y:Int×Int,ixE (.p (slD y)) (.p (.int 0))=.ok (.p (.int y.1)):=fun y=>iY _ _
 have x1:∀ y:Int×Int,ixE (.p (slD y)) (.p (.int 1))=.ok (.p (.int y.2)):=fun y=>i8 _ _ _
 refine bH ?_
 rw [show bD 5 (eT3 (a,b,d))=[some (.p (slD a)),some (.p (slD b)),some (.p (slD d)),none,none] from rfl]
 unfold aGc
 refine (aL (b9 (d:=.int ((b.1 - a.1)*(d.2 - a.2))) ?_)).trans ((aL (b9 (d:=.int ((b.2 - a.2)*(d.1 - a.1))) ?_)).trans (dC ?_))
 ·ktr_call 11 ⟨x0,x1⟩
 ·ktr_call 11 ⟨x0,x1⟩
 ·walk_at "2"
  rfl
theorem aIn{a b d:Q2}(ha:GQ a)(hb:GQ b)(hd:GQ d):qU K c [.p (slD a),.p (slD b),.p (slD d)]=.ok (.p (.int (bM a b d))):=cK (a:=(a,b,d)) aRh ⟨ha,hb,hd⟩
def eQs(ps:List Q2):List L:=[.p (.list (ps.map slD))]
theorem aO2(a b:List Q2)(h:eQs a=eQs b):a=b:=by
 unfold eQs at h
 injection h with h _
 injection h with h
 injection h with h
 exact List.map_inj_right (fun _ _ e=>oK _ _ e) |>.mp h
noncomputable def l4(K:aZz)(c:Cls):List L->Res L:=mOf eQs (fun ps=>ps.length<=1000/\∀ p∈ps,GQ p) fun ps=>.ok (.o (.list ((oZ ps).reverse.map slD)))
noncomputable def iH:En->Res Bool:=(wA (bV (aH gtE (aK jM (aB (aD 1) aT)) (mC (.int 1)))) (bV (aH leE (aN 3 (qU K c) (aB (aH ixE (aD 1) (mUn qF (mC (.int 2)))) (aB (aH ixE (aD 1) (mUn qF (mC (.int 1)))) (aB (aD 2) aT)))) (mC (.int 0)))))
noncomputable def lD(K:aZz)(c:Cls):MS:=(aWf 1)
noncomputable def nP:MS:=(bU (pC (iH K c) (lD K c)) (mO 1 (aD 2)))
noncomputable def aBb:MS:=(bU (cO 1 (aK oN aT)) (bU (aA2 (eX (aD 0)) (aJ 2) (nP K c)) (dW (aD 1))))
theorem aWn(xs:List D)(a b:D):atI (xs++[a,b]) (-2)=some a:=by
 have hl:(xs++[a,b]).length=xs.length+2:=by simp
 have e:ixN (xs++[a,b]).length (-2)=some xs.length:=by
  unfold ixN
  rw [hl,bAg (by decide),bAc (by omega)]
  congr 1
  omega
 unfold atI
 rw [e]
 simp
theorem aWg(xs:List D)(a b:D):atI (xs++[a,b]) (-1)=some b:=by
 have:=aMs (xs++[a]) b
 rw [bCg] at this
 exact this
theorem aMq(p:Q2)(s:List Q2):∀ k∈kC p s,k∈s:=fun k hk=>(jR p s).sublist.subset hk
theorem aMp(Z:Option L){p:Q2}(gp:GQ p):∀ (n:Nat) (s:List Q2),s.length<=n->(∀ k∈s,GQ k)->mWh (iH K c) (lD K c) (n+1) [Z,some (.o (.list (s.reverse.map slD))),some (.p (slD p))]=some (.nx [Z,some (.o (.list ((kC p s).reverse.map slD))),some (.p (slD p))]):=by
 have hlen:∀ s:List Q2,jM [.b (.list (s.reverse.map slD))]=.ok (.p (.int (s.length:Nat))):=fun s=>by simp [jM,kY]
 have neg2:qF (.p (.int 2))=.ok (.p (.int (-2))):=rfl
 have neg1:qF (.p (.int 1))=.ok (.p (.int (-1))):=rfl
 have t1:∀ s:List Q2,bV (aH gtE (aK jM (aB (aD 1) aT)) (mC (.int 1))) [Z,some (.o (.list (s.reverse.map slD))),some (.p (slD p))]=.ok (decide ((1:Int) < (s.length:Nat))):=fun s=>by
  ktr_call 3 ⟨bV,aH,aK,aB,aT,aD,mC,Res.bind,Ev.c,hlen,iG,dO⟩
 have short:∀ (n:Nat) (s:List Q2),s.length<=1->mWh (iH K c) (lD K c) (n+1) [Z,some (.o (.list (s.reverse.map slD))),some (.p (slD p))]=some (.nx [Z,some (.o (.list (s.reverse.map slD))),some (.p (slD p))]):=fun n s hs=>by
  have t:iH K c [Z,some (.o (.list (s.reverse.map slD))),some (.p (slD p))]=.ok false:=by
   unfold iH wA
   rw [t1 s,aZ7 (by omega)]
   rfl
  unfold mWh
  rw [t]
 intro n
 induction n with
 | zero =>
  intro s hs _
  have e:s=[]:=bBh.mp (by omega)
  subst e
  rw [show kC p []=[] from by unfold kC;rfl]
  exact short 0 [] (by decide)
 | succ n ih =>
  intro s hs hg
  match s,hs,hg with
  | [],_,_ =>
   rw [show kC p []=[] from by unfold kC;rfl]
   exact short _ [] (by decide)
  | [a],_,_ =>
   rw [show kC p [a]=[a] from by unfold kC;rfl]
   exact short _ [a] (bAf _)
  | k1 :: k2 :: r,hs,hg =>
   have er:(k1 :: k2 :: r).reverse.map slD=(r.reverse.map slD)++[slD k2,slD k1]:=by simp
   have i2:ixE (.b (.list ((r.reverse.map slD)++[slD k2,slD k1]))) (.p (.int (-2)))=.ok (.p (slD k2)):=by simp only [ixE,kY,aWn]
   have i1:ixE (.b (.list ((r.reverse.map slD)++[slD k2,slD k1]))) (.p (.int (-1)))=.ok (.p (slD k1)):=by simp only [ixE,kY,aWg]
   have tg:=aIn K c (hg k2 (.tail _ (.head _))) (hg k1 (.head _)) gp
   have t2:bV (aH leE (aN 3 (qU K c) (aB (aH ixE (aD 1) (mUn qF (mC (.int 2)))) (aB (aH ixE (aD 1) (mUn qF (mC (.int 1)))) (aB (aD 2) aT)))) (mC (.int 0))) [Z,some (.o (.list ((k1 :: k2 :: r).reverse.map slD))),some (.p (slD p))]=.ok (decide (bM k2 k1 p<=0)):=by
    rw [er]
    ktr_call 3 ⟨bV,aH,aN,aB,aT,aD,mUn,mC,Res.bind,Ev.c,neg2,neg1,i2,i1,gN,eZ,oT,tg,nX,iG,dO⟩
   have t:iH K c [Z,some (.o (.list ((k1 :: k2 :: r).reverse.map slD))),some (.p (slD p))]=.ok (decide (bM k2 k1 p<=0)):=by
    unfold iH wA
    rw [t1,aZ8 (by simp only [aZ2];omega),aCs]
    exact t2
   by_cases h:bM k2 k1 p<=0
   ·rw [aZ8 h] at t
    have hp:lD K c [Z,some (.o (.list ((k1 :: k2 :: r).reverse.map slD))),some (.p (slD p))]=some (.nx [Z,some (.o (.list ((k2 :: r).reverse.map slD))),some (.p (slD p))]):=by
     have ne:(k1 :: k2 :: r).reverse.map slD≠[]:=by simp
     have dl:((k1 :: k2 :: r).reverse.map slD).dropLast=(k2 :: r).reverse.map slD:=by
      rw [bBz,bA4]
      exact List.dropLast_concat
     unfold lD aWf aMz
     simp only [aZ6,bAk]
     rw [bAg ne,dl]
     rfl
    have e:kC p (k1 :: k2 :: r)=kC p (k2 :: r):=by
     show (if bM k2 k1 p<=0 then kC p (k2 :: r) else k1 :: k2 :: r)=_
     rw [bAc h]
    rw [e]
    unfold mWh
    rw [t]
    dsimp only
    rw [hp]
    exact ih (k2 :: r) (by simp only [aZ2] at hs ⊢;omega) fun k hk=>hg k (.tail _ hk)
   ·rw [aZ7 h] at t
    have e:kC p (k1 :: k2 :: r)=k1 :: k2 :: r:=by
     show (if bM k2 k1 p<=0 then kC p (k2 :: r) else k1 :: k2 :: r)=_
     rw [bAg h]
    rw [e]
    unfold mWh
    rw [t]
theorem wB(K:aZz)(c:Cls)(Z:Option L):∀ (ps s:List Q2) (r:Option L),s.length+ps.length<=2000->(∀ k∈s,GQ k)->(∀ p∈ps,GQ p)->∃ r',gS (aJ 2) (nP K c) (ps.map slD) [Z,some (.o (.list (s.reverse.map slD))),r]=some (.nx [Z,some (.o (.list ((ps.foldl pushS s).reverse.map slD))),r'])
 | [],s,r,_,_,_=>⟨r,rfl⟩
 | p :: ps,s,r,hl,hs,hp=>by
  rw [aZ2] at hl
  have gp:=hp p (.head _)
  have w:=aMp K c Z gp (List.length s) s (bAf _) hs
  have w:=uG w
  have ll:(kC p s).length<=s.length:=(jR p s).sublist.length_le
  have hb:nP K c [Z,some (.o (.list (s.reverse.map slD))),some (.p (slD p))]=some (.nx [Z,some (.o (.list ((pushS s p).reverse.map slD))),some (.p (slD p))]):=by
   unfold nP
   refine (aL w).trans ?_
   unfold mO
   simp only [bAp,bAt,aZ6,bAk,aD,Ev.c]
   rw [bAc (by rw [aZ0,bCj];omega)]
   show some (Out.nx [Z,some (.o (.list ((kC p s).reverse.map slD++[slD p]))),some (.p (slD p))])=_
   unfold pushS
   rw [bBz,bA4]
   rfl
  obtain ⟨r',ih⟩:=wB K c Z ps (pushS s p) (some (.p (slD p))) (by show (kC p s).length+1+ps.length<=2000;omega) (fun k hk=>by
   rcases aZ3.mp hk with z | z
   ·rw [z];exact gp
   ·exact hs k (aMq p s k z)) fun q hq=>hp q (.tail _ hq)
  refine ⟨r',?_⟩
  rw [bAb]
  unfold gS
  simp only [aJ,bAp,bAt]
  rw [hb]
  exact ih
theorem aNq:∀ ls,l4 K c ls=.bad\/eK 3 (aBb K c) ls=l4 K c ls:=cJ fun ps h=>by
 obtain ⟨hl,hg⟩:=h
 obtain ⟨r',hlp⟩:=wB K c (some (.p (.list (ps.map slD)))) ps [] none (by rw [bAv];omega) (fun _ h=>nomatch h) hg
 refine bH ?_
 rw [show bD 3 (eQs ps)=[some (.p (.list (ps.map slD))),none,none] from rfl]
 unfold aBb
 refine (aL (gH (d:=.list []) rfl)).trans ((aL ((qY (ds:=ps.map slD) rfl).trans hlp)).trans ?_)
 rfl
theorem aEp{ps:List Q2}(hl:ps.length<=1000)(hg:∀ p∈ps,GQ p):l4 K c [.p (.list (ps.map slD))]=.ok (.o (.list ((oZ ps).reverse.map slD))):=cK (a:=ps) aO2 ⟨hl,hg⟩
abbrev Rw:=Int×(Int×Int)
def lrD(r:Rw):D:=.tuple [.int r.1,frD r.2]
theorem lrI{a b:Rw}(h:lrD a=lrD b):a=b:=by
 unfold lrD at h
 injection h with h
 injection h with h1 h2
 injection h2 with h2 _
 injection h1 with h1
 exact bBq h1 (frI h2)
theorem aZv{a b:List Rw}(h:a.map lrD=b.map lrD):a=b:=List.map_inj_right (fun _ _ e=>lrI e) |>.mp h
def eLs(rs:List Rw):List L:=[.p (.list (rs.map lrD))]
theorem xF(a b:List Rw)(h:eLs a=eLs b):a=b:=by
 unfold eLs at h
 injection h with h _
 injection h with h
 injection h with h
 exact aZv h
def lh(t:Int×Int)(r:Rw):Int×Int:=hP (hT r.1 t) r.2
def zA(rs:List Rw):Int:=cb (rs.map (·.2))
def ptL(F:Int)(r:Rw):Q2:=(r.1,wI r.2 F)
def aMb(rs:List Rw):List Int:=((oZ ((rs.map (ptL (zA rs))).reverse)).reverse).map (·.1)
def eY(rs:List Rw):List Rw:=rs.filter fun r=>decide (r.1∈aMb rs)
def GLs(rs:List Rw):Prop:=rs.length<=200/\∀ r∈rs,Sz 100 r.1/\1<=r.2.2/\Sz 300 r.2.1/\Sz 20 r.2.2
noncomputable def dF(K:aZz)(c:Cls):List L->Res L:=mOf eLs GLs fun rs=>.ok (.o (.list ((eY rs).map lrD)))
noncomputable def fY(K:aZz)(c:Cls):En->Res Ev:=(aD 0)
noncomputable def fV(K:aZz)(c:Cls):En->Res Ev:=(aD 0)
noncomputable def eQ:En->Res Ev:=(aK bQ (aB (aD 0) (aB (aN 2 (k8 K c) (aB (aD 1) (aB (aD 2) aT))) aT)))
noncomputable def eP(K:aZz)(c:Cls):En->Res Ev:=(aD 1)
noncomputable def nW:MS:=(bU (cO 1 (aN 1 (bW K c) (aB (dJ 2 [] (eX (aD 0)) (fD 2 (bE (aJ 0) (bE (aJ 1) fB))) eR (eP K c)) aT))) (bU (cO 2 (dJ 2 [1] (eX (aD 0)) (fD 2 (bE (aJ 0) (bE (aJ 1) fB))) eR (eQ K c))) (fun en=>(bU (cO 3 (dJ 2 [] (eX (aN 1 (l4 K c) (aB (mUn aQo (aD 2)) aT))) (fD 2 (bE (aJ 0) (bE (aJ 1) fB))) eR (fV K c))) (fun en=>(dW (dJ 1 [3] (eX (aD 0)) (aJ 0) (bV (aH (inE false) (aH ixE (aD 0) (mC (.int 0))) (aD 1))) (fY K c))) (frz 3 en))) (frz 2 en))))
theorem aUl(i:Int)(ns:List Int):inE false (.p (.int i)) (.p (.list (ns.map .int)))=.ok (.p (.bool (decide (i∈ns)))):=by
 unfold inE
 simp only [kY]
 rw [bAc ⟨rfl,by rw [bCz];intro x hx;obtain ⟨n,_,rfl⟩:=bAa.mp hx;rfl⟩,bAg (by decide)]
 congr 3
 rw [Bool.eq_iff_iff,bDh,bC2]
 constructor
 ·rintro ⟨x,hx,e⟩
  obtain ⟨n,hn,rfl⟩:=bAa.mp hx
  rw [gP] at e
  rw [<- (bD3.mp e)]
  exact hn
 ·intro h
  exact ⟨_,bAa.mpr ⟨i,h,rfl⟩,by rw [gP];exact bF3 i⟩
theorem t9:∀ ls,dF K c ls=.bad\/eK 4 (nW K c) ls=dF K c ls:=cJ fun rs h=>by
 obtain ⟨hl,hz⟩:=h
 have FC:CbP (rs.map (·.2)):=⟨20,by decide,by rw [aZ0];omega,fun x hx=>by
  obtain ⟨r,hr,rfl⟩:=bAa.mp hx
  exact ⟨(hz r hr).2.1,(hz r hr).2.2.2⟩⟩
 obtain ⟨F1,_,Fd,FS⟩:=aPv (b:=20) (rs.map (·.2)) 1 1 (bCk 1) (aAz _ (by decide)) (fun x hx=>by
  obtain ⟨r,hr,rfl⟩:=bAa.mp hx
  exact ⟨(hz r hr).2.1,(hz r hr).2.2.2⟩)
 have FS:Sz 4200 (zA rs):=FS.mono (by rw [aZ0];omega)
 have hcb:=aGh K c FC
 have gh:∀ r∈rs,Good 400 r.2:=fun r hr=>⟨(hz r hr).2.1,(hz r hr).2.2.1.mono (by decide),(hz r hr).2.2.2.mono (by decide)⟩
 have gq:∀ r∈rs,GQ (ptL (zA rs) r):=fun r hr=>⟨(hz r hr).1.mono (by decide),(Sz.mul (hz r hr).2.2.1 (Sz.le FS (bA7 _ _))).mono (by decide)⟩
 have hw:=fun r (hr:r∈rs)=>vQ K c (gh r hr) (FS.mono (show 4200<=41000 by decide))
 have hch:=aEp K c (ps:=(rs.map (ptL (zA rs))).reverse) (by rw [bCj,aZ0];omega) (fun p hp=>by
  obtain ⟨r,hr,rfl⟩:=bAa.mp (bEe.mp hp)
  exact gq r hr)
 have hcb:bW K c [.p (.list ((rs.map (·.2)).map frD))]=.ok (.p (.int (zA rs))):=hcb
 unfold eY aMb
 generalize zA rs=F at *
 refine bH ?_
 rw [show bD 4 (eLs rs)=[some (.p (.list (rs.map lrD))),none,none,none] from rfl]
 have hm4:nV (aV 2 [] (fD 2 (bE (aJ 0) (bE (aJ 1) fB))) eR (eP K c) [some (.p (.list (rs.map lrD))),none,none,none]) (rs.map lrD)=some (rs.map fun r=>frD r.2):=by
  refine dR _ fun r hr=>?_
  simp [aV,fD,bE,fB,aJ,mF,eR,eP,aD,Ev.c,lrD]
 have hc4:=eB (n:=2) (js:=[]) (fi:=eX (aD 0)) (tg:=fD 2 (bE (aJ 0) (bE (aJ 1) fB))) (ft:=eR) (fe:=eP K c) (en:=[some (.p (.list (rs.map lrD))),none,none,none]) (ds:=rs.map lrD) rfl (by rw [aZ0];omega) hm4
 rw [show (rs.map fun r=>frD r.2)=(rs.map (·.2)).map frD by rw [bA3];rfl] at hc4
 have e1:(aN 1 (bW K c) (aB (dJ 2 [] (eX (aD 0)) (fD 2 (bE (aJ 0) (bE (aJ 1) fB))) eR (eP K c)) aT)) [some (.p (.list (rs.map lrD))),none,none,none]=.ok (.p (.int F)):=by
  simp only [aN,aB,aT,hc4,Res.bind,Ev.c,gN,eZ,oT,aZ2,bAv,hcb,nX]
  rfl
 have hm3:nV (aV 2 [1] (fD 2 (bE (aJ 0) (bE (aJ 1) fB))) eR (eQ K c) [some (.p (.list (rs.map lrD))),some (.p (.int F)),none,none]) (rs.map lrD)=some (rs.map fun r=>slD (ptL F r)):=by
  refine dR _ fun r hr=>?_
  have w:=hw r hr
  have he:eQ K c [some (.p (.int r.1)),some (.p (frD r.2)),some (.p (.int F))]=.ok (.p (slD (ptL F r))):=by
   ktr_call 2 ⟨eQ,w⟩
   rfl
  simp [aV,fD,bE,fB,aJ,mF,sV,eR,he,Ev.c,lrD]
 have hc3:=eB (n:=2) (js:=[1]) (fi:=eX (aD 0)) (tg:=fD 2 (bE (aJ 0) (bE (aJ 1) fB))) (ft:=eR) (fe:=eQ K c) (en:=[some (.p (.list (rs.map lrD))),some (.p (.int F)),none,none]) (ds:=rs.map lrD) rfl (by rw [aZ0];omega) hm3
 rw [show (rs.map fun r=>slD (ptL F r))=(rs.map (ptL F)).map slD by rw [bA3];rfl] at hc3
 refine (aL (b9 e1)).trans ((aL (gH hc3)).trans ?_)
 simp only [bAp,bAt,frz,aZ6,bAk]
 have hrv:aQo (.p (.list ((rs.map (ptL F)).map slD)))=.ok (.f (.list ((rs.map (ptL F)).reverse.map slD))):=by
  simp only [aQo,g9]
  rw [List.map_reverse]
 have hlc:(oZ ((rs.map (ptL F)).reverse)).length<=1000:=by
  have:∀ (ps s:List Q2),(ps.foldl pushS s).length<=s.length+ps.length:=by
   intro ps
   induction ps with
   | nil=>intro s;exact bAf _
   | cons p ps ih =>
    intro s
    have:=ih (pushS s p)
    have ll:(kC p s).length<=s.length:=(jR p s).sublist.length_le
    have:(pushS s p).length=(kC p s).length+1:=rfl
    rw [bB9,aZ2]
    omega
  have:=this ((rs.map (ptL F)).reverse) []
  rw [bCj,aZ0,bAv] at this
  unfold oZ
  omega
 generalize oZ ((rs.map (ptL F)).reverse)=ch at hch hlc ⊢
 have hit:(eX (aN 1 (l4 K c) (aB (mUn aQo (aD 2)) aT))) [some (.p (.list (rs.map lrD))),some (.p (.int F)),some (.p (.list ((rs.map (ptL F)).map slD))),none]=.ok (ch.reverse.map slD):=by
  simp only [eX,aN,aB,aT,mUn,aD,aZ6,bAk,Res.bind,Ev.c,hrv,gN,eZ,oT,aZ2,bAv]
  rw [bAc (by decide),hch]
  rfl
 have hm2:nV (aV 2 [] (fD 2 (bE (aJ 0) (bE (aJ 1) fB))) eR (fV K c) [some (.p (.list (rs.map lrD))),some (.p (.int F)),some (.p (.list ((rs.map (ptL F)).map slD))),none]) (ch.reverse.map slD)=some (ch.reverse.map fun q=>.int q.1):=by
  refine dR _ fun r hr=>?_
  simp [aV,fD,bE,fB,aJ,mF,eR,fV,aD,Ev.c,slD]
 have hc2:=eB (n:=2) (js:=[]) (fi:=eX (aN 1 (l4 K c) (aB (mUn aQo (aD 2)) aT))) (tg:=fD 2 (bE (aJ 0) (bE (aJ 1) fB))) (ft:=eR) (fe:=fV K c) (en:=[some (.p (.list (rs.map lrD))),some (.p (.int F)),some (.p (.list ((rs.map (ptL F)).map slD))),none]) hit (by rw [aZ0,bCj];omega) hm2
 rw [show (ch.reverse.map fun q=>PyData.int q.1)=(ch.reverse.map (·.1)).map .int by rw [bA3];rfl] at hc2
 refine (aL (gH hc2)).trans ?_
 simp only [bAp,bAt,frz,aZ6,bAk]
 generalize ch.reverse.map (·.1)=ks
 have hm1:nV (aV 1 [3] (aJ 0) (bV (aH (inE false) (aH ixE (aD 0) (mC (.int 0))) (aD 1))) (fY K c) [some (.p (.list (rs.map lrD))),some (.p (.int F)),some (.p (.list ((rs.map (ptL F)).map slD))),some (.p (.list (ks.map .int)))]) (rs.map lrD)=some ((rs.filter fun r=>decide (r.1∈ks)).map lrD):=by
  refine iT _ fun r hr=>?_
  have i0:ixE (.p (lrD r)) (.p (.int 0))=.ok (.p (.int r.1)):=iY _ _
  have ii:=aUl r.1 ks
  by_cases hq:r.1∈ks
  ·rw [aZ8 hq] at ii
   simp [aV,aJ,mF,sV,fY,bV,aH,aD,mC,Res.bind,Ev.c,i0,ii,dO,hq]
  ·rw [aZ7 hq] at ii
   simp [aV,aJ,mF,sV,fY,bV,aH,aD,mC,Res.bind,Ev.c,i0,ii,dO,hq]
 exact xK (eB (n:=1) (js:=[3]) (fi:=eX (aD 0)) rfl (by rw [aZ0];omega) hm1)
theorem aKt{rs:List Rw}(h:GLs rs):dF K c [.p (.list (rs.map lrD))]=.ok (.o (.list ((eY rs).map lrD))):=cK (a:=rs) xF h
def GB(h:Int×Int):Prop:=1<=h.2/\Sz 80 h.1/\Sz 6 h.2
theorem aNj{hs:List (Int×Int)}(h1:hs.length<=100)(h2:∀ h∈hs,GB h):bW K c [.p (.list (hs.map frD))]=.ok (.p (.int (cb hs))):=aGh K c ⟨6,by decide,by omega,fun h hh=>⟨(h2 h hh).1,(h2 h hh).2.2⟩⟩
theorem aCr{x:Int×Int}{F:Int}(h1:GB x)(h2:Sz 1000 F):k8 K c [.p (frD x),.p (.int F)]=.ok (.p (.int (x.1*F.fdiv x.2))):=vQ K c ⟨h1.1,h1.2.1.mono (by decide),h1.2.2.mono (by decide)⟩ (h2.mono (by decide))
def ePs(ps:List Pl):List L:=[.p (.list (ps.map plD))]
theorem aHp(a b:List Pl)(h:ePs a=ePs b):a=b:=by
 unfold ePs at h
 injection h with h _
 injection h with h
 injection h with h
 exact aV7 h
def wf(ps:List Pl):Int:=cb (ps.map fun p=>p.2.2)
def GBs(ps:List Pl):Prop:=ps.length<=100/\∀ p∈ps,GB p.2.2
noncomputable def cV(K:aZz)(c:Cls):List L->Res L:=mOf ePs GBs fun ps=>.ok (.p (.int (wf ps)))
noncomputable def fU(K:aZz)(c:Cls):En->Res Ev:=(aH ixE (aD 0) (mC (.int 2)))
noncomputable def k7:MS:=(dW (aN 1 (bW K c) (aB (dJ 1 [] (eX (aD 0)) (aJ 0) eR (fU K c)) aT)))
theorem uL:∀ ls,cV K c ls=.bad\/eK 1 (k7 K c) ls=cV K c ls:=cJ fun ps h=>by
 obtain ⟨hl,hg⟩:=h
 refine bH ?_
 rw [show bD 1 (ePs ps)=[some (.p (.list (ps.map plD)))] from rfl]
 unfold k7
 have hm:nV (aV 1 [] (aJ 0) eR (fU K c) [some (.p (.list (ps.map plD)))]) (ps.map plD)=some (ps.map fun p=>frD p.2.2):=by
  refine dR _ fun p hp=>?_
  simp [aV,aJ,mF,eR,fU,aH,aD,mC,Res.bind,Ev.c,qW]
 have hc:=eB (n:=1) (js:=[]) (fi:=eX (aD 0)) (tg:=aJ 0) (ft:=eR) (fe:=fU K c) (en:=[some (.p (.list (ps.map plD)))]) (ds:=ps.map plD) rfl (by rw [aZ0];omega) hm
 have e1:(ps.map fun p=>frD p.2.2)=(ps.map fun p=>p.2.2).map frD:=by rw [bA3];rfl
 have hcb:=aNj K c (hs:=ps.map fun p=>p.2.2) (by rw [aZ0];exact hl) (fun h hh=>by obtain ⟨p,hp,rfl⟩:=bAa.mp hh;exact hg p hp)
 rw [<- e1] at hcb
 refine dC ?_
 ktr_call 3 ⟨aN,aB,aT,hc,Res.bind,Ev.c,gN,eZ,oT,hcb,nX⟩
 rfl
theorem aHc{ps:List Pl}(h:GBs ps):cV K c [.p (.list (ps.map plD))]=.ok (.p (.int (wf ps))):=cK (a:=ps) aHp h
theorem aU5{ps:List Pl}(h:GBs ps):1<=wf ps/\(∀ p∈ps,p.2.2.2∣wf ps)/\Sz (6*ps.length+1) (wf ps):=by
 obtain ⟨a,b,c,d⟩:=aPv (b:=6) (ps.map fun p=>p.2.2) 1 1 (bCk 1) (show Sz 1 (1:Int) by unfold Sz;decide) (fun h' hh=>by obtain ⟨p,hp,rfl⟩:=bAa.mp hh;exact ⟨(h.2 p hp).1,(h.2 p hp).2.2⟩)
 refine ⟨a,fun p hp=>c _ (bAa.mpr ⟨p,hp,rfl⟩),?_⟩
 rw [aZ0,Nat.add_comm] at d
 exact d
def blow(F:Int)(p:Pl):Pl:=(p.1,p.2.1,(p.2.2.1*F.fdiv p.2.2.2,1))
def ePI(a:List Pl×Int):List L:=[.p (.list (a.1.map plD)),.p (.int a.2)]
theorem aF2(a b:List Pl×Int)(h:ePI a=ePI b):a=b:=by
 unfold ePI at h
 injection h with h1 h2
 injection h2 with h2 _
 injection h1 with h1
 injection h1 with h1
 injection h2 with h2
 injection h2 with h2
 exact bBq (aV7 h1) h2
noncomputable def e9(K:aZz)(c:Cls):List L->Res L:=mOf ePI (fun a=>GBs a.1/\Sz 1000 a.2) fun a=>.ok (.o (.list ((a.1.map (blow a.2)).map plD)))
noncomputable def jF:En->Res Ev:=(aK bQ (aB (aH ixE (aD 0) (mC (.int 0))) (aB (aH ixE (aD 0) (mC (.int 1))) (aB (aK bQ (aB (aN 2 (k8 K c) (aB (aH ixE (aD 0) (mC (.int 2))) (aB (aD 1) aT))) (aB (mC (.int 1)) aT))) aT))))
noncomputable def pW:MS:=(dW (dJ 1 [1] (eX (aD 0)) (aJ 0) eR (jF K c)))
theorem aCo:∀ ls,e9 K c ls=.bad\/eK 2 (pW K c) ls=e9 K c ls:=cJ fun a h=>by
 obtain ⟨ps,F⟩:=a
 obtain ⟨⟨hl,hg⟩,hF⟩:=h
 dsimp only at hl hg hF ⊢
 refine bH ?_
 rw [show bD 2 (ePI (ps,F))=[some (.p (.list (ps.map plD))),some (.p (.int F))] from rfl]
 unfold pW
 have hm:nV (aV 1 [1] (aJ 0) eR (jF K c) [some (.p (.list (ps.map plD))),some (.p (.int F))]) (ps.map plD)=some (ps.map fun p=>plD (blow F p)):=by
  refine dR _ fun p hp=>?_
  have hw:=aCr K c (hg p hp) hF
  unfold aV
  ktr_call 2 ⟨aJ,mF,sV,eR,jF,List.replicate,bAm,bAw,hw⟩
  rfl
 have hc:=eB (n:=1) (js:=[1]) (fi:=eX (aD 0)) (tg:=aJ 0) (ft:=eR) (fe:=jF K c) (en:=[some (.p (.list (ps.map plD))),some (.p (.int F))]) (ds:=ps.map plD) rfl (by rw [aZ0];omega) hm
 refine (xK hc).trans ?_
 rw [bA3]
 rfl
theorem yS{ps:List Pl}{F:Int}(h:GBs ps)(hF:Sz 1000 F):e9 K c [.p (.list (ps.map plD)),.p (.int F)]=.ok (.o (.list ((ps.map (blow F)).map plD))):=cK (a:=(ps,F)) aF2 ⟨h,hF⟩
def aUj(a:Pt×Int):List L:=[.p (.tuple [frD a.1.1,frD a.1.2]),.p (.int a.2)]
theorem aMr(a b:Pt×Int)(h:aUj a=aUj b):a=b:=by
 unfold aUj at h
 injection h with h1 h2
 injection h2 with h2 _
 injection h1 with h1
 injection h2 with h2
 injection h2 with h2
 exact bBq (ptI h1) h2
def shr(F:Int)(pt:Pt):Pt:=(FR.mk pt.1.1 (pt.1.2*F),FR.mk pt.2.1 (pt.2.2*F))
noncomputable def lM(K:aZz)(c:Cls):List L->Res L:=mOf aUj (fun a=>1<=a.1.1.2/\1<=a.1.2.2/\Sz 3000 a.1.1.2/\Sz 3000 a.1.2.2/\1<=a.2/\Sz 1000 a.2) fun a=>.ok (.p (.tuple [frD (shr a.2 a.1).1,frD (shr a.2 a.1).2]))
noncomputable def wR:MS:=(dW (aK bQ (aB (aN 2 (bL K c) (aB (aH ixE (aH ixE (aD 0) (mC (.int 0))) (mC (.int 0))) (aB (aH eV (aH ixE (aH ixE (aD 0) (mC (.int 0))) (mC (.int 1))) (aD 1)) aT))) (aB (aN 2 (bL K c) (aB (aH ixE (aH ixE (aD 0) (mC (.int 1))) (mC (.int 0))) (aB (aH eV (aH ixE (aH ixE (aD 0) (mC (.int 1))) (mC (.int 1))) (aD 1)) aT))) aT))))
theorem aH3:∀ ls,lM K c ls=.bad\/eK 2 (wR K c) ls=lM K c ls:=cJ fun a h=>by
 obtain ⟨pt,F⟩:=a
 obtain ⟨x0,y0,x1,y1,f0,f1⟩:=h
 dsimp only at x0 y0 x1 y1 f0 f1 ⊢
 have p1:=dG x0 f0
 have p2:=dG y0 f0
 have a1:=mJ K c (t:=pt.1.1) (b:=pt.1.2*F) (by omega) ((Sz.mul x1 f1).mono (by decide))
 have a2:=mJ K c (t:=pt.2.1) (b:=pt.2.2*F) (by omega) ((Sz.mul y1 f1).mono (by decide))
 refine bH ?_
 rw [show bD 2 (aUj (pt,F))=[some (.p (.tuple [frD pt.1,frD pt.2])),some (.p (.int F))] from rfl]
 unfold wR
 refine dC ?_
 ktr_call 21 ⟨a1,a2⟩
 rfl
theorem aLm{pt:Pt}{F:Int}(h1:1<=pt.1.2)(h2:1<=pt.2.2)(h3:Sz 3000 pt.1.2)(h4:Sz 3000 pt.2.2)(h5:1<=F)(h6:Sz 1000 F):lM K c [.p (.tuple [frD pt.1,frD pt.2]),.p (.int F)]=.ok (.p (.tuple [frD (shr F pt).1,frD (shr F pt).2])):=cK (a:=(pt,F)) aMr ⟨h1,h2,h3,h4,h5,h6⟩
def aFx:Option (Int×Int)->D
 | none=>.none
 | some x=>frD x
def eLH(a:List (Int×Int)×List (Int×Int)):List L:=[.p (.list (a.1.map frD)),.p (.list (a.2.map frD))]
theorem aRc(a b:List (Int×Int)×List (Int×Int))(h:eLH a=eLH b):a=b:=by
 unfold eLH at h
 injection h with h1 h2
 injection h2 with h2 _
 injection h1 with h1
 injection h1 with h1
 injection h2 with h2
 injection h2 with h2
 exact bBq (aWa h1) (aWa h2)
def Gs(n:Nat)(xs:List (Int×Int)):Prop:=∀ x∈xs,Good n x
theorem Gs.best{n:Nat}{xs:List (Int×Int)}(h:Gs n xs)(h0:xs≠[]):Good n (best (xs.headD (0,1)) xs):=h _ (qC h0 fun x hx=>(h x hx).1).1
theorem Gs.worst{n:Nat}{xs:List (Int×Int)}(h:Gs n xs)(h0:xs≠[]):Good n (worst (xs.headD (0,1)) xs):=h _ (nQ h0 fun x hx=>(h x hx).1).1
theorem aEi:Good 10 (1,1):=⟨bCk 1,aAz _ (by decide),aAz _ (by decide)⟩
noncomputable def jX(K:aZz)(c:Cls):List L->Res L:=mOf eLH (fun a=>Gs 900 a.1/\Gs 900 a.2) fun a=>.ok (.p (aFx (btw a.1 a.2)))
noncomputable def tH:MS:=(bU (i9 (wA (bV (aH (eqE false) (aK jM (aB (aD 0) aT)) (mC (.int 0)))) (bV (aH (eqE false) (aK jM (aB (aD 1) aT)) (mC (.int 0))))) (dW (aK bQ (aB (mC (.int 0)) (aB (mC (.int 1)) aT)))) dX) (bU (i9 (bV (aH (eqE false) (aK jM (aB (aD 1) aT)) (mC (.int 0)))) (dW (aN 2 (jD K c) (aB (aN 1 (fW K c) (aB (aD 0) aT)) (aB (aK bQ (aB (mC (.int 1)) (aB (mC (.int 1)) aT))) aT)))) dX) (bU (i9 (bV (aH (eqE false) (aK jM (aB (aD 0) aT)) (mC (.int 0)))) (dW (aN 2 (kA K c) (aB (aN 1 (lO K c) (aB (aD 1) aT)) (aB (aK bQ (aB (mC (.int 1)) (aB (mC (.int 1)) aT))) aT)))) dX) (bU (cO 2 (aN 1 (fW K c) (aB (aD 0) aT))) (bU (cO 3 (aN 1 (lO K c) (aB (aD 1) aT))) (dW (mIf (bV (aN 2 (jB K c) (aB (aD 2) (aB (aD 3) aT)))) (aN 2 (nZ K c) (aB (aN 2 (jD K c) (aB (aD 2) (aB (aD 3) aT))) (aB (aK bQ (aB (mC (.int 2)) (aB (mC (.int 1)) aT))) aT))) (mC (.none)))))))))
theorem aU2(n:Nat):eqE false (.p (.int (n:Int))) (.p (.int 0))=.ok (.p (.bool (decide (n=0)))):=by
 simp [eqE,dat,iE,gP]
 by_cases h:n=0
 ·subst h;rfl
 ·simp [h]
theorem aFt:∀ ls,jX K c ls=.bad\/eK 4 (tH K c) ls=jX K c ls:=cJ fun a h=>by
 obtain ⟨lo,hi⟩:=a
 obtain ⟨hl,hh⟩:=h
 dsimp only at hl hh ⊢
 have L0:∀ xs:List (Int×Int),jM [.p (.list (xs.map frD))]=.ok (.p (.int (xs.length:Nat))):=fun xs=>by simp [jM,kY]
 refine bH ?_
 rw [show bD 4 (eLH (lo,hi))=[some (.p (.list (lo.map frD))),some (.p (.list (hi.map frD))),none,none] from rfl]
 unfold tH btw
 have t0:∀ r2 r3,bV (aH (eqE false) (aK jM (aB (aD 0) aT)) (mC (.int 0))) [some (.p (.list (lo.map frD))),some (.p (.list (hi.map frD))),r2,r3]=.ok (decide (lo.length=0)):=fun r2 r3=>by
  ktr_call 3 ⟨bV,aH,aK,aB,aT,aD,mC,Res.bind,Ev.c,L0,aU2,dO⟩
 have t1:∀ r2 r3,bV (aH (eqE false) (aK jM (aB (aD 1) aT)) (mC (.int 0))) [some (.p (.list (lo.map frD))),some (.p (.list (hi.map frD))),r2,r3]=.ok (decide (hi.length=0)):=fun r2 r3=>by
  ktr_call 3 ⟨bV,aH,aK,aB,aT,aD,mC,Res.bind,Ev.c,L0,aU2,dO⟩
 have t01:∀ r2 r3,(wA (bV (aH (eqE false) (aK jM (aB (aD 0) aT)) (mC (.int 0)))) (bV (aH (eqE false) (aK jM (aB (aD 1) aT)) (mC (.int 0))))) [some (.p (.list (lo.map frD))),some (.p (.list (hi.map frD))),r2,r3]=.ok (decide (lo.length=0) && decide (hi.length=0)):=fun r2 r3=>by
  unfold wA
  rw [t0,t1]
  cases decide (lo.length=0)<;>rfl
 have zl:∀ xs:List (Int×Int),xs.length=0↔xs=[]:=fun xs=>bBh
 by_cases c1:lo=[]
 ·by_cases c2:hi=[]
  ·rw [bAc ⟨c1,c2⟩]
   have t:=t01 none none
   rw [aZ8 ((zl lo).mpr c1),aZ8 ((zl hi).mpr c2)] at t
   exact jA ((pL t).trans rfl)
  ·rw [bAg (fun z=>c2 z.2),bAg c2,bAc c1]
   have t:=t01 none none
   have u1:=t1 none none
   have u0:=t0 none none
   rw [aZ8 ((zl lo).mpr c1)] at u0
   rw [aZ7 (fun z=>c2 ((zl hi).mp z))] at u1
   rw [aZ8 ((zl lo).mpr c1),aZ7 (fun z=>c2 ((zl hi).mp z))] at t
   have w:=hh.worst c2
   have hw:=vX K c hi c2 fun y hy=>((hh y hy).mono (show 900<=2000 by decide)).fsz
   have hm:=vI K c w aEi (by decide) (by decide)
   have hm:kA K c [.p (frD (worst (hi.headD (0,1)) hi)),.p (.tuple [.int 1,.int 1])]=.ok (.p (frD (hM (worst (hi.headD (0,1)) hi) (1,1)))):=hm
   refine (aL (nJ t)).trans ((aL (nJ u1)).trans (jA ((pL u0).trans (dC ?_))))
   ktr_call 2 ⟨hw,hm,aFx⟩
 ·by_cases c2:hi=[]
  ·rw [bAg (fun z=>c1 z.1),bAc c2]
   have t:=t01 none none
   have u1:=t1 none none
   rw [aZ8 ((zl hi).mpr c2)] at u1
   rw [aZ7 (fun z=>c1 ((zl lo).mp z)),aZ8 ((zl hi).mpr c2)] at t
   have w:=hl.best c1
   have hw:=pK K c lo c1 fun y hy=>((hl y hy).mono (show 900<=2000 by decide)).fsz
   have hm:=lC K c w aEi (by decide) (by decide)
   have hm:jD K c [.p (frD (best (lo.headD (0,1)) lo)),.p (.tuple [.int 1,.int 1])]=.ok (.p (frD (hP (best (lo.headD (0,1)) lo) (1,1)))):=hm
   refine (aL (nJ t)).trans (jA ((pL u1).trans (dC ?_)))
   ktr_call 2 ⟨hw,hm,aFx⟩
  ·rw [bAg (fun z=>c1 z.1),bAg c2,bAg c1]
   have t:=t01 none none
   have u1:=t1 none none
   have u0:=t0 none none
   rw [aZ7 (fun z=>c1 ((zl lo).mp z))] at u0
   rw [aZ7 (fun z=>c2 ((zl hi).mp z))] at u1
   rw [aZ7 (fun z=>c1 ((zl lo).mp z)),aZ7 (fun z=>c2 ((zl hi).mp z))] at t
   have w1:=hl.best c1
   have w2:=hh.worst c2
   have h1:=pK K c lo c1 fun y hy=>((hl y hy).mono (show 900<=2000 by decide)).fsz
   have h2:=vX K c hi c2 fun y hy=>((hh y hy).mono (show 900<=2000 by decide)).fsz
   generalize best (lo.headD (0,1)) lo=l at *
   generalize worst (hi.headD (0,1)) hi=h at *
   have hp:=lC K c w1 w2 (by decide) (by decide)
   have ho:=aJm K c (mK w1 w2) (by decide)
   have hlt:=pA K c ((w1.mono (show 900<=2000 by decide)).fsz) ((w2.mono (show 900<=2000 by decide)).fsz)
   have e1:(aN 1 (fW K c) (aB (aD 0) aT)) [some (.p (.list (lo.map frD))),some (.p (.list (hi.map frD))),none,none]=.ok (.p (frD l)):=by
    ktr_call 3 ⟨aN,aB,aT,aD,Res.bind,Ev.c,gN,eZ,oT,h1,nX⟩
   have e2:(aN 1 (lO K c) (aB (aD 1) aT)) [some (.p (.list (lo.map frD))),some (.p (.list (hi.map frD))),some (.p (frD l)),none]=.ok (.p (frD h)):=by
    ktr_call 3 ⟨aN,aB,aT,aD,Res.bind,Ev.c,gN,eZ,oT,h2,nX⟩
   refine (aL (nJ t)).trans ((aL (nJ u1)).trans ((aL (nJ u0)).trans ((aL (b9 e1)).trans ((aL (b9 e2)).trans (dC ?_)))))
   cases hb:ltF l h with
   | true =>
    rw [hb] at hlt
    ktr_call 2 ⟨mIf,hlt,hp,ho,aFx⟩
   | false =>
    rw [hb] at hlt
    ktr_call 2 ⟨mIf,hlt,aFx⟩
theorem aLg{lo hi:List (Int×Int)}(h1:Gs 900 lo)(h2:Gs 900 hi):jX K c [.p (.list (lo.map frD)),.p (.list (hi.map frD))]=.ok (.p (aFx (btw lo hi))):=cK (a:=(lo,hi)) aRc ⟨h1,h2⟩
noncomputable def iO(K:aZz)(c:Cls):List L->Res L:=mOf eFs (fun rows=>rows.length<=10000/\∀ r∈rows,Sz 900 r.1/\Sz 900 r.2) fun rows=>.ok (.p (aFx (solve rows)))
noncomputable def jU:En->Res Ev:=(aN 2 (bL K c) (aB (mUn qF (aH ixE (aD 0) (mC (.int 1)))) (aB (aH ixE (aD 0) (mC (.int 0))) aT)))
noncomputable def jY:En->Res Ev:=(aN 2 (bL K c) (aB (mUn qF (aH ixE (aD 0) (mC (.int 1)))) (aB (aH ixE (aD 0) (mC (.int 0))) aT)))
noncomputable def jZ(K:aZz)(c:Cls):En->Res Ev:=(o7 (aH (eqE false) (aH ixE (aD 0) (mC (.int 0))) (mC (.int 0))) (aH leE (aH ixE (aD 0) (mC (.int 1))) (mC (.int 0))))
noncomputable def wH:MS:=(bU (i9 (bV (aK aNu (aB (dJ 1 [] (eX (aD 0)) (aJ 0) eR (jZ K c)) aT))) (dW (mC (.none))) dX) (bU (cO 1 (dJ 1 [] (eX (aD 0)) (aJ 0) (bV (aH gtE (aH ixE (aD 0) (mC (.int 0))) (mC (.int 0)))) (jY K c))) (bU (cO 2 (dJ 1 [] (eX (aD 0)) (aJ 0) (bV (aH ltE (aH ixE (aD 0) (mC (.int 0))) (mC (.int 0)))) (jU K c))) (dW (aN 2 (jX K c) (aB (aD 1) (aB (aD 2) aT)))))))
theorem aAa{n:Nat}{r:N.R2}(h:r.1≠0)(h1:Sz n r.1)(h2:Sz n r.2):Good n (pG r):=oE h2.neg h1 h
theorem aKf:∀ ls,iO K c ls=.bad\/eK 3 (wH K c) ls=iO K c ls:=cJ fun rows h=>by
 obtain ⟨hl,hz⟩:=h
 refine bH ?_
 rw [show bD 3 (eFs rows)=[some (.p (.list (rows.map frD))),none,none] from rfl]
 unfold wH solve
 have hlen:(rows.map frD).length<=100000:=by rw [aZ0];omega
 have fr:∀ r∈rows,r.1≠0->bL K c [.p (.int (-r.2)),.p (.int r.1)]=.ok (.p (frD (pG r))):=fun r hr h0=>mJ K c h0 ((hz r hr).1.mono (by decide))
 have m1:nV (aV 1 [] (aJ 0) eR (jZ K c) [some (.p (.list (rows.map frD))),none,none]) (rows.map frD)=some (rows.map fun r=>PyData.bool (decide (r.1=0) && decide (r.2<=0))):=by
  refine dR _ fun r hr=>?_
  have q:eqE false (.p (.int r.1)) (.p (.int 0))=.ok (.p (.bool (decide (r.1=0)))):=by
   simp [eqE,dat,iE,gP]
   by_cases h:r.1=0
   ·simp [h]
   ·simp [h]
  unfold aV
  ktr_call 3 ⟨aJ,mF,eR,jZ,o7,aH,aD,mC,List.replicate,bAm,bAw,Res.bind,Ev.c,qQ,qR,q,iG⟩
  by_cases h:r.1=0
  ·simp [h]
  ·simp [h]
 have c1:=eB (n:=1) (js:=[]) (fi:=eX (aD 0)) (tg:=aJ 0) (ft:=eR) (fe:=jZ K c) (en:=[some (.p (.list (rows.map frD))),none,none]) (ds:=rows.map frD) rfl hlen m1
 have ta:bV (aK aNu (aB (dJ 1 [] (eX (aD 0)) (aJ 0) eR (jZ K c)) aT)) [some (.p (.list (rows.map frD))),none,none]=.ok (rows.any fun r=>decide (r.1=0) && decide (r.2<=0)):=by
  have:aNu [.p (.list (rows.map fun r=>PyData.bool (decide (r.1=0) && decide (r.2<=0))))]=.ok (.p (.bool (rows.any fun r=>decide (r.1=0) && decide (r.2<=0)))):=by
   simp only [aNu,g9,aGp]
   rw [any_map]
  simp only [bV,aK,aB,aT,c1,Res.bind,Ev.c,this,dO]
 cases hb:(rows.any fun r=>decide (r.1=0) && decide (r.2<=0)) with
 | true =>
  rw [hb] at ta
  rw [bAc rfl]
  exact jA ((pL ta).trans rfl)
 | false =>
  rw [hb] at ta
  rw [bAg (by decide)]
  have m2:nV (aV 1 [] (aJ 0) (bV (aH gtE (aH ixE (aD 0) (mC (.int 0))) (mC (.int 0)))) (jY K c) [some (.p (.list (rows.map frD))),none,none]) (rows.map frD)=some (((rows.filter fun r=>decide (0 < r.1))).map fun r=>frD (pG r)):=by
   refine iT _ fun r hr=>?_
   unfold aV
   by_cases h:0 < r.1
   ·have f:=fr r hr (by omega)
    rw [aZ8 h]
    ktr_call 2 ⟨aJ,mF,jY,List.replicate,bAm,bAw,aZ8 h,f⟩
   ·rw [aZ7 h]
    ktr_call 2 ⟨aJ,mF,jY,List.replicate,bAm,bAw,aZ7 h⟩
  have c2:=eB (n:=1) (js:=[]) (fi:=eX (aD 0)) (tg:=aJ 0) (ft:=bV (aH gtE (aH ixE (aD 0) (mC (.int 0))) (mC (.int 0)))) (fe:=jY K c) (en:=[some (.p (.list (rows.map frD))),none,none]) (ds:=rows.map frD) rfl hlen m2
  have m3:∀ x,nV (aV 1 [] (aJ 0) (bV (aH ltE (aH ixE (aD 0) (mC (.int 0))) (mC (.int 0)))) (jU K c) [some (.p (.list (rows.map frD))),x,none]) (rows.map frD)=some (((rows.filter fun r=>decide (r.1 < 0))).map fun r=>frD (pG r)):=fun x=>by
   refine iT _ fun r hr=>?_
   unfold aV
   by_cases h:r.1 < 0
   ·have f:=fr r hr (by omega)
    rw [aZ8 h]
    ktr_call 2 ⟨aJ,mF,jU,List.replicate,bAm,bAw,aZ8 h,f⟩
   ·rw [aZ7 h]
    ktr_call 2 ⟨aJ,mF,jU,List.replicate,bAm,bAw,aZ7 h⟩
  have c3:=fun x=>eB (n:=1) (js:=[]) (fi:=eX (aD 0)) (tg:=aJ 0) (ft:=bV (aH ltE (aH ixE (aD 0) (mC (.int 0))) (mC (.int 0)))) (fe:=jU K c) (en:=[some (.p (.list (rows.map frD))),x,none]) (ds:=rows.map frD) rfl hlen (m3 x)
  have el:((rows.filter fun r=>decide (0 < r.1)).map fun r=>frD (pG r))=(kO rows).map frD:=by unfold kO;rw [bA3];rfl
  have eh:((rows.filter fun r=>decide (r.1 < 0)).map fun r=>frD (pG r))=(gZ rows).map frD:=by unfold gZ;rw [bA3];rfl
  rw [el] at c2
  simp only [eh] at c3
  have gl:Gs 900 (kO rows):=fun x hx=>by
   obtain ⟨r,hr,h0,rfl⟩:=mem_lows.mp hx
   exact aAa (by omega) (hz r hr).1 (hz r hr).2
  have gh:Gs 900 (gZ rows):=fun x hx=>by
   obtain ⟨r,hr,h0,rfl⟩:=mem_highs.mp hx
   exact aAa (by omega) (hz r hr).1 (hz r hr).2
  have hbt:=aLg K c gl gh
  have hfl:xE (.p (aFx (btw (kO rows) (gZ rows))))=true:=by
   unfold xE
   cases btw (kO rows) (gZ rows) with
   | none=>simp [aFx,lfD]
   | some x=>exact aYk x
  refine (aL (nJ ta)).trans ((aL (gH c2)).trans ((aL (gH (c3 _))).trans (dC ?_)))
  ktr_call 3 ⟨aN,aB,aT,aD,Res.bind,Ev.c,gN,eZ,oT,aEc,hbt,hfl,nX⟩
theorem vK{rows:List N.R2}(h1:rows.length<=10000)(h2:∀ r∈rows,Sz 900 r.1/\Sz 900 r.2):iO K c [.p (.list (rows.map frD))]=.ok (.p (aFx (solve rows))):=cK (a:=rows) xS ⟨h1,h2⟩
def r3D(r:R3):D:=.tuple [.int r.1,.int r.2.1,.int r.2.2]
theorem r3I{a b:R3}(h:r3D a=r3D b):a=b:=by
 unfold r3D at h
 injection h with h
 injection h with h1 h
 injection h with h2 h
 injection h with h3 _
 injection h1 with h1
 injection h2 with h2
 injection h3 with h3
 exact bBq h1 (bBq h2 h3)
theorem aYx{α:Type}{f:α->D}(hf:∀ a b,f a=f b->a=b):∀ {xs ys:List α},xs.map f=ys.map f->xs=ys
 | [],[],_=>rfl
 | [],_ :: _,h=>by cases h
 | _ :: _,[],h=>by cases h
 | x :: xs,y :: ys,h=>by
  injection h with h1 h2
  rw [hf x y h1,aYx hf h2]
theorem aO4(p:R3):ixE (.p (r3D p)) (.p (.int 0))=.ok (.p (.int p.1)):=iY _ _
theorem aCb(p:R3):ixE (.p (r3D p)) (.p (.int 1))=.ok (.p (.int p.2.1)):=i8 _ _ _
theorem aRa(p:R3):ixE (.p (r3D p)) (.p (.int 2))=.ok (.p (.int p.2.2)):=u4 _ _ _ _
def eRs(rows:List R3):List L:=[.p (.list (rows.map r3D))]
theorem aQm(a b:List R3)(h:eRs a=eRs b):a=b:=by
 unfold eRs at h
 injection h with h _
 injection h with h
 injection h with h
 exact aYx (fun _ _=>r3I) h
def G3(n:Nat)(r:R3):Prop:=Sz n r.1/\Sz n r.2.1/\Sz n r.2.2
noncomputable def fQ(K:aZz)(c:Cls):List L->Res L:=mOf eRs (fun rows=>rows.length<=100/\∀ r∈rows,G3 400 r) fun rows=>.ok (.o (.list ((elim rows).map frD)))
noncomputable def iU(K:aZz)(c:Cls):En->Res Ev:=(aK bQ (aB (aH kZ (aH eV (aH ixE (aD 1) (mC (.int 1))) (aH ixE (aD 0) (mC (.int 0)))) (aH eV (aH ixE (aD 0) (mC (.int 1))) (aH ixE (aD 1) (mC (.int 0))))) (aB (aH kZ (aH eV (aH ixE (aD 1) (mC (.int 1))) (aH ixE (aD 0) (mC (.int 2)))) (aH eV (aH ixE (aD 0) (mC (.int 1))) (aH ixE (aD 1) (mC (.int 2))))) aT)))
noncomputable def iL:MS:=(i9 (bV (aH gtE (aH ixE (aD 3) (mC (.int 1))) (mC (.int 0)))) (qH 1 (dJ 1 [3] (eX (aD 2)) (aJ 0) eR (iU K c))) dX)
noncomputable def gI(K:aZz)(c:Cls):En->Res Ev:=(aD 0)
noncomputable def gJ(K:aZz)(c:Cls):En->Res Ev:=(aK bQ (aB (aH ixE (aD 0) (mC (.int 0))) (aB (aH ixE (aD 0) (mC (.int 2))) aT)))
noncomputable def oG:MS:=(bU (cO 1 (dJ 1 [] (eX (aD 0)) (aJ 0) (bV (aH (eqE false) (aH ixE (aD 0) (mC (.int 1))) (mC (.int 0)))) (gJ K c))) (bU (cO 2 (dJ 1 [] (eX (aD 0)) (aJ 0) (bV (aH ltE (aH ixE (aD 0) (mC (.int 1))) (mC (.int 0)))) (gI K c))) (fun en=>(bU (aA2 (eX (aD 0)) (aJ 3) (iL K c)) (dW (aD 1))) (frz 2 en))))
theorem aAr(highs:List R3):∀ (rows:List R3) (k:List N.R2),(rows.foldl (qA highs) k).length<=k.length+rows.length*highs.length
 | [],k=>by simp
 | l :: rows,k=>by
  rw [bB9]
  have h:=aAr highs rows (qA highs k l)
  have h2:(qA highs k l).length<=k.length+highs.length:=by
   unfold qA
   split
   ·rw [bAi,aZ0];exact bAf _
   ·omega
  have e:(l :: rows).length*highs.length=highs.length+rows.length*highs.length:=by rw [aZ2,Nat.add_mul,Nat.one_mul,Nat.add_comm]
  omega
theorem aNd(rows:List R3):(elim rows).length<=rows.length+rows.length*rows.length:=by
 unfold elim
 have h:=aAr (i5 rows) rows (tY rows)
 have h1:(tY rows).length<=rows.length:=by unfold tY;rw [aZ0];exact bBk _ _
 have h2:(i5 rows).length<=rows.length:=by unfold i5;exact bBk _ _
 have h3:=Nat.mul_le_mul_left rows.length h2
 omega
theorem yX:∀ ls,fQ K c ls=.bad\/eK 4 (oG K c) ls=fQ K c ls:=cJ fun rows h=>by
 obtain ⟨hl,hz⟩:=h
 refine bH ?_
 rw [show bD 4 (eRs rows)=[some (.p (.list (rows.map r3D))),none,none,none] from rfl]
 unfold oG
 have hlen:(rows.map r3D).length<=100000:=by rw [aZ0];omega
 have q0:∀ x:Int,eqE false (.p (.int x)) (.p (.int 0))=.ok (.p (.bool (decide (x=0)))):=fun x=>by
  simp [eqE,dat,iE,gP]
  by_cases h:x=0
  ·simp [h]
  ·simp [h]
 have m1:nV (aV 1 [] (aJ 0) (bV (aH (eqE false) (aH ixE (aD 0) (mC (.int 1))) (mC (.int 0)))) (gJ K c) [some (.p (.list (rows.map r3D))),none,none,none]) (rows.map r3D)=some ((rows.filter fun r=>decide (r.2.1=0)).map fun r=>frD (r.1,r.2.2)):=by
  refine iT _ fun r hr=>?_
  unfold aV
  by_cases h:r.2.1=0
  ·rw [aZ8 h]
   ktr_call 3 ⟨aJ,mF,gJ,bV,aH,aD,mC,aK,aB,aT,bQ,oW,dO,List.replicate,bAm,bAw,Res.bind,Ev.c,aO4,aCb,aRa,q0,aZ8 h⟩
   rfl
  ·rw [aZ7 h]
   ktr_call 3 ⟨aJ,mF,gJ,bV,aH,aD,mC,dO,List.replicate,bAm,bAw,Res.bind,Ev.c,aCb,q0,aZ7 h⟩
 have c1:=eB (n:=1) (js:=[]) (fi:=eX (aD 0)) (tg:=aJ 0) (ft:=bV (aH (eqE false) (aH ixE (aD 0) (mC (.int 1))) (mC (.int 0)))) (fe:=gJ K c) (en:=[some (.p (.list (rows.map r3D))),none,none,none]) (ds:=rows.map r3D) rfl hlen m1
 have m2:∀ x,nV (aV 1 [] (aJ 0) (bV (aH ltE (aH ixE (aD 0) (mC (.int 1))) (mC (.int 0)))) (gI K c) [some (.p (.list (rows.map r3D))),x,none,none]) (rows.map r3D)=some ((rows.filter fun r=>decide (r.2.1 < 0)).map r3D):=fun x=>by
  refine iT _ fun r hr=>?_
  unfold aV
  by_cases h:r.2.1 < 0
  ·rw [aZ8 h]
   ktr_call 3 ⟨aJ,mF,gI,bV,aH,aD,mC,iG,dO,List.replicate,bAm,bAw,Res.bind,Ev.c,aCb,aZ8 h⟩
  ·rw [aZ7 h]
   ktr_call 3 ⟨aJ,mF,gI,bV,aH,aD,mC,iG,dO,List.replicate,bAm,bAw,Res.bind,Ev.c,aCb,aZ7 h⟩
 have c2:=fun x=>eB (n:=1) (js:=[]) (fi:=eX (aD 0)) (tg:=aJ 0) (ft:=bV (aH ltE (aH ixE (aD 0) (mC (.int 1))) (mC (.int 0)))) (fe:=gI K c) (en:=[some (.p (.list (rows.map r3D))),x,none,none]) (ds:=rows.map r3D) rfl hlen (m2 x)
 have ek:((rows.filter fun r=>decide (r.2.1=0)).map fun r=>frD (r.1,r.2.2))=(tY rows).map frD:=by unfold tY;rw [bA3];rfl
 rw [ek] at c1
 have eh:((rows.filter fun r=>decide (r.2.1 < 0)).map r3D)=(i5 rows).map r3D:=rfl
 simp only [eh] at c2
 have hz2:∀ r∈i5 rows,G3 400 r:=fun r hr=>hz r (bA8.mp hr).1
 have hl2:(i5 rows).length<=100:=bA5 (bBk _ _) hl
 have gen:∀ (xs:List R3) (k:List N.R2) (r3:Option L),(∀ r∈xs,G3 400 r)->k.length+xs.length*100<=50000->∃ r',gS (aJ 3) (iL K c) (xs.map r3D) [some (.p (.list (rows.map r3D))),some (.o (.list (k.map frD))),some (.p (.list ((i5 rows).map r3D))),r3]=some (.nx [some (.p (.list (rows.map r3D))),some (.o (.list ((xs.foldl (qA (i5 rows)) k).map frD))),some (.p (.list ((i5 rows).map r3D))),r']):=by
  intro xs
  induction xs with
  | nil=>intro k r3 _ _;exact ⟨r3,rfl⟩
  | cons l xs ih =>
   intro k r3 hx hk
   have gl:=hx l (.head _)
   have hk':k.length+(xs.length+1)*100<=50000:=hk
   have tl:bV (aH gtE (aH ixE (aD 3) (mC (.int 1))) (mC (.int 0))) [some (.p (.list (rows.map r3D))),some (.o (.list (k.map frD))),some (.p (.list ((i5 rows).map r3D))),some (.p (r3D l))]=.ok (decide (0 < l.2.1)):=by
    ktr_call 3 ⟨bV,aH,aD,mC,iG,dO,Res.bind,Ev.c,aCb⟩
   have hb:iL K c [some (.p (.list (rows.map r3D))),some (.o (.list (k.map frD))),some (.p (.list ((i5 rows).map r3D))),some (.p (r3D l))]=some (.nx [some (.p (.list (rows.map r3D))),some (.o (.list ((qA (i5 rows) k l).map frD))),some (.p (.list ((i5 rows).map r3D))),some (.p (r3D l))]):=by
    unfold iL qA
    by_cases h:0 < l.2.1
    ·rw [aZ8 h] at tl
     rw [bAc h]
     refine (pL tl).trans ?_
     have m3:nV (aV 1 [3] (aJ 0) eR (iU K c) [some (.p (.list (rows.map r3D))),some (.o (.list (k.map frD))),some (.p (.list ((i5 rows).map r3D))),some (.p (r3D l))]) ((i5 rows).map r3D)=some ((i5 rows).map fun h=>frD (pX l h)):=by
      refine dR _ fun g hg=>?_
      obtain ⟨a1,a2,a3⟩:=gl
      obtain ⟨b1,b2,b3⟩:=hz2 g hg
      unfold aV
      ktr_call 21 ⟨aJ,mF,sV,eR,iU,List.replicate,bAm,bAw,aO4,aCb,aRa⟩
      rfl
     have c3:=eB (n:=1) (js:=[3]) (fi:=eX (aD 2)) (tg:=aJ 0) (ft:=eR) (fe:=iU K c) (en:=[some (.p (.list (rows.map r3D))),some (.o (.list (k.map frD))),some (.p (.list ((i5 rows).map r3D))),some (.p (r3D l))]) (ds:=(i5 rows).map r3D) rfl (by rw [aZ0];omega) m3
     have e3:((i5 rows).map fun h=>frD (pX l h))=((i5 rows).map (pX l)).map frD:=by rw [bA3];rfl
     unfold qH
     ktr_call 3 ⟨c3⟩
     rw [bAc (by omega),e3]
    ·rw [aZ7 h] at tl
     rw [bAg h]
     exact nJ tl
   have hln:(qA (i5 rows) k l).length<=k.length+100:=by
    unfold qA
    split
    ·rw [bAi,aZ0];omega
    ·omega
   obtain ⟨r',ih⟩:=ih (qA (i5 rows) k l) (some (.p (r3D l))) (fun r hr=>hx r (.tail _ hr)) (by omega)
   refine ⟨r',?_⟩
   rw [bAb]
   unfold gS
   simp only [aJ,bAp,bAt]
   rw [hb]
   exact ih
 have hkl:(tY rows).length<=rows.length:=by unfold tY;rw [aZ0];exact bBk _ _
 obtain ⟨r',hloop⟩:=gen rows (tY rows) none hz (by omega)
 refine (aL (gH c1)).trans ((aL (gH (c2 _))).trans ?_)
 simp only [bAp,bAt,frz,aZ6,bAk]
 refine (aL ((qY (ds:=rows.map r3D) rfl).trans hloop)).trans ?_
 rfl
theorem aGe{rows:List R3}(h1:rows.length<=100)(h2:∀ r∈rows,G3 400 r):fQ K c [.p (.list (rows.map r3D))]=.ok (.o (.list ((elim rows).map frD))):=cK (a:=rows) aQm ⟨h1,h2⟩
def aNy(p q:Pl):R3:=(p.1 - q.1,p.2.1 - q.2.1,p.2.2.1 - q.2.2.1)
def ePP(a:Pl×Pl):List L:=[.p (plD a.1),.p (plD a.2)]
theorem aQg(a b:Pl×Pl)(h:ePP a=ePP b):a=b:=by
 unfold ePP at h
 injection h with h1 h2
 injection h2 with h2 _
 injection h1 with h1
 injection h2 with h2
 exact bBq (plI h1) (plI h2)
noncomputable def aBw(K:aZz)(c:Cls):List L->Res L:=mOf ePP (fun _=>True) fun a=>.ok (.p (r3D (aNy a.1 a.2)))
noncomputable def aQz(K:aZz)(c:Cls):MS:=(dW (aK bQ (aB (aH kZ (aH ixE (aD 0) (mC (.int 0))) (aH ixE (aD 1) (mC (.int 0)))) (aB (aH kZ (aH ixE (aD 0) (mC (.int 1))) (aH ixE (aD 1) (mC (.int 1)))) (aB (aH kZ (aH ixE (aH ixE (aD 0) (mC (.int 2))) (mC (.int 0))) (aH ixE (aH ixE (aD 1) (mC (.int 2))) (mC (.int 0)))) aT)))))
theorem aVf:∀ ls,aBw K c ls=.bad\/eK 2 (aQz K c) ls=aBw K c ls:=cJ fun a _=>by
 obtain ⟨p,q⟩:=a
 refine bH ?_
 rw [show bD 2 (ePP (p,q))=[some (.p (plD p)),some (.p (plD q))] from rfl]
 unfold aQz
 refine dC ?_
 walk_at "1"
 rfl
theorem aMt(p q:Pl):aBw K c [.p (plD p),.p (plD q)]=.ok (.p (r3D (aNy p q))):=cK (a:=(p,q)) aQg trivial
structure Gd(t b:Nat)(x:Int×Int):Prop where
 p:1<=x.2
 t:Sz t x.1
 b:Sz b x.2
theorem aFi{m n:Nat}{t b:Int}(h0:b≠0)(ht:Sz m t)(hb:Sz n b):Gd m n (FR.mk t b):=⟨(FR.sS h0).1.pos,Sz.le ht (bA7 _ _),Sz.le hb (bA7 _ _)⟩
theorem Gd.mono{a b c d:Nat}{x:Int×Int}(h:Gd a b x)(h1:a<=c)(h2:b<=d):Gd c d x:=⟨h.p,h.t.mono h1,h.b.mono h2⟩
theorem aMy{m n:Nat}{rows:List N.R2}{x:Int×Int}(h:∀ r∈rows,Sz m r.1/\Sz n r.2)(e:solve rows=some x):Gd (n+m+3) (2*m+3) x:=by
 have gl:∀ y∈kO rows,Gd n m y:=fun y hy=>by
  obtain ⟨r,hr,h0,rfl⟩:=mem_lows.mp hy
  exact aFi (by omega) (h r hr).2.neg (h r hr).1
 have gh:∀ y∈gZ rows,Gd n m y:=fun y hy=>by
  obtain ⟨r,hr,h0,rfl⟩:=mem_highs.mp hy
  exact aFi (by omega) (h r hr).2.neg (h r hr).1
 unfold solve at e
 split at e
 ·cases e
 ·unfold btw at e
  split at e
  ·cases e
   exact ⟨bCk 1,aAz _ (Nat.two_pow_pos _),aAz _ (Nat.one_lt_two_pow (by omega))⟩
  ·rename_i z
   split at e
   ·rename_i z2
    cases e
    have g:=gl _ (qC (fun q=>z ⟨q,z2⟩) xN).1
    generalize best ((kO rows).headD (0,1)) (kO rows)=y at g
    have gp:=g.p
    refine (aFi (m:=max n m+1) (n:=m) (t:=y.1*1+1*y.2) (b:=y.2*1) (by omega) ?_ ?_).mono (by omega) (by omega)
    ·rw [bEk,bFu];exact Sz.addM g.t g.b
    ·rw [bEk];exact g.b
   ·rename_i z2
    split at e
    ·cases e
     have g:=gh _ (nQ z2 rP).1
     generalize worst ((gZ rows).headD (0,1)) (gZ rows)=y at g
     have gp:=g.p
     refine (aFi (m:=max n m+1) (n:=m) (t:=y.1*1 - 1*y.2) (b:=y.2*1) (by omega) ?_ ?_).mono (by omega) (by omega)
     ·rw [bEk,bFu];exact Sz.subM g.t g.b
     ·rw [bEk];exact g.b
    ·rename_i z3
     split at e
     ·cases e
      have g:=gl _ (qC z3 xN).1
      have g2:=gh _ (nQ z2 rP).1
      generalize best ((kO rows).headD (0,1)) (kO rows)=y at g
      generalize worst ((gZ rows).headD (0,1)) (gZ rows)=w at g2
      have gp:=g.p
      have gp2:=g2.p
      have pp:=dG gp gp2
      have h1:Gd (n+m+1) (m+m) (hP y w):=(aFi (by omega) (Sz.addM (Sz.mul g.t g2.b) (Sz.mul g2.t g.b)) (Sz.mul g.b g2.b)).mono (by omega) (by omega)
      have hp:=h1.p
      generalize hP y w=v at h1 hp
      refine (aFi (m:=n+m+1) (n:=m+m+2) (t:=v.1*1) (b:=v.2*2) (by omega) ?_ ?_).mono (by omega) (by omega)
      ·rw [bEk];exact h1.t
      ·exact Sz.mul h1.b (aAz 2 (by decide))
     ·cases e
structure PW(p:Pl):Prop where
 i:Sz 4 p.1
 j:Sz 4 p.2.1
 h:Sz 213 p.2.2.1
def rowsOf(p:Pl)(ps:List Pl):List R3:=(ps.filter fun q=>decide (q≠p)).map (aNy p)
theorem aUg{p q:Pl}(hp:PW p)(hq:PW q):Sz 5 (aNy p q).1/\Sz 5 (aNy p q).2.1/\Sz 214 (aNy p q).2.2:=⟨Sz.subM hp.i hq.i,Sz.subM hp.j hq.j,Sz.subM hp.h hq.h⟩
theorem aRy{p:Pl}{ps:List Pl}(hp:PW p)(hq:∀ q∈ps,PW q):∀ r∈rowsOf p ps,Sz 5 r.1/\Sz 5 r.2.1/\Sz 214 r.2.2:=fun r hr=>by
 obtain ⟨q,h1,rfl⟩:=bAa.mp hr
 exact aUg hp (hq q (bA8.mp h1).1)
theorem aQv{rows:List R3}(h:∀ r∈rows,Sz 5 r.1/\Sz 5 r.2.1/\Sz 214 r.2.2):∀ r∈elim rows,Sz 11 r.1/\Sz 220 r.2:=fun x hx=>by
 rcases mem_elim.mp hx with ⟨r,hr,_,rfl⟩ | ⟨l,hl,_,g,hg,_,rfl⟩
 ·exact ⟨(h r hr).1.mono (by decide),(h r hr).2.2.mono (by decide)⟩
 ·obtain ⟨a1,a2,a3⟩:=h l hl
  obtain ⟨b1,b2,b3⟩:=h g hg
  exact ⟨Sz.subM (Sz.mul a2 b1) (Sz.mul b2 a1),Sz.subM (Sz.mul a2 b3) (Sz.mul b2 a3)⟩
theorem aRn{rows:List R3}{x:Int×Int}(h:∀ r∈rows,Sz 5 r.1/\Sz 5 r.2.1/\Sz 214 r.2.2)(hx:Gd 234 25 x):∀ r∈rows.map (aOw x),Sz 30 r.1/\Sz 240 r.2:=fun y hy=>by
 obtain ⟨r,hr,rfl⟩:=bAa.mp hy
 obtain ⟨a1,a2,a3⟩:=h r hr
 exact ⟨Sz.mul a2 hx.b,Sz.addM (Sz.mul a1 hx.t) (Sz.mul a3 hx.b)⟩
def pU:Option Pt->D
 | none=>.none
 | some pt=>.tuple [frD pt.1,frD pt.2]
def ePL(a:Pl×List Pl):List L:=[.p (plD a.1),.p (.list (a.2.map plD))]
theorem aO7(a b:Pl×List Pl)(h:ePL a=ePL b):a=b:=by
 unfold ePL at h
 injection h with h1 h2
 injection h2 with h2 _
 injection h1 with h1
 injection h2 with h2
 injection h2 with h2
 exact bBq (plI h1) (aV7 h2)
noncomputable def fT(K:aZz)(c:Cls):List L->Res L:=mOf ePL (fun a=>a.2.length<=90/\PW a.1/\∀ q∈a.2,PW q) fun a=>.ok (.p (pU (aAo (rowsOf a.1 a.2))))
noncomputable def fS(K:aZz)(c:Cls):En->Res Ev:=(aK bQ (aB (aH eV (aH ixE (aD 0) (mC (.int 1))) (aH ixE (aD 1) (mC (.int 1)))) (aB (aH iD (aH eV (aH ixE (aD 0) (mC (.int 0))) (aH ixE (aD 1) (mC (.int 0)))) (aH eV (aH ixE (aD 0) (mC (.int 2))) (aH ixE (aD 1) (mC (.int 1))))) aT)))
noncomputable def fP:En->Res Ev:=(aN 2 (aBw K c) (aB (aD 1) (aB (aD 0) aT)))
noncomputable def mY:MS:=(bU (cO 2 (dJ 1 [0] (eX (aD 1)) (aJ 0) (bV (aH (eqE true) (aD 0) (aD 1))) (fP K c))) (fun en=>(bU (cO 3 (aN 1 (iO K c) (aB (aN 1 (fQ K c) (aB (aD 2) aT)) aT))) (bU (i9 (bV (mUn (yJ false) (aD 3))) (dW (mC (.none))) dX) (bU (cO 4 (aN 1 (iO K c) (aB (dJ 1 [3] (eX (aD 2)) (aJ 0) eR (fS K c)) aT))) (dW (aK bQ (aB (aD 3) (aB (aD 4) aT))))))) (frz 2 en)))
theorem aT7(x y:Pl):PyData.eqv (plD x) (plD y)=decide (x=y):=by
 have:PyData.eqv (plD x) (plD y)=(x.1 == y.1 && (x.2.1 == y.2.1 && (PyData.eqv (frD x.2.2) (frD y.2.2) && true))):=by simp [plD,PyData.eqv,PyData.eqvAll]
 rw [this,aN8]
 by_cases h:x=y
 ·subst h;simp
 ·rw [aZ7 h]
  by_cases h1:x.1=y.1
  ·by_cases h2:x.2.1=y.2.1
   ·have h3:¬ x.2.2=y.2.2:=fun h3=>h (bBq h1 (bBq h2 h3))
    simp [h3]
   ·simp [h2]
  ·simp [h1]
theorem aYc(x:Pl):SeqAt.shaped (plD x)=true:=by simp [SeqAt.shaped,plD,frD,PyData.canLay0,PyData.canLayAll0,PyData.depth,PyData.depthAll]
theorem wJ:∀ ls,fT K c ls=.bad\/eK 5 (mY K c) ls=fT K c ls:=cJ fun a h=>by
 obtain ⟨p,ps⟩:=a
 obtain ⟨hl,hp,hq⟩:=h
 dsimp only at hl hp hq ⊢
 have hr:=aRy hp hq
 have hrl:(rowsOf p ps).length<=90:=by unfold rowsOf;rw [aZ0];exact bA5 (bBk _ _) hl
 refine bH ?_
 rw [show bD 5 (ePL (p,ps))=[some (.p (plD p)),some (.p (.list (ps.map plD))),none,none,none] from rfl]
 unfold mY
 have m1:nV (aV 1 [0] (aJ 0) (bV (aH (eqE true) (aD 0) (aD 1))) (fP K c) [some (.p (plD p)),some (.p (.list (ps.map plD))),none,none,none]) (ps.map plD)=some ((ps.filter fun q=>decide (q≠p)).map fun q=>r3D (aNy p q)):=by
  refine iT _ fun q hq=>?_
  have g:=aMt K c p q
  have e:eqE true (.p (plD q)) (.p (plD p))=.ok (.p (.bool (decide (q≠p)))):=by
   simp only [eqE,dat,aYc,aT7]
   by_cases h:q=p
   ·simp [h]
   ·simp [h]
  unfold aV
  by_cases h:q≠p
  ·rw [aZ8 h] at e ⊢
   ktr_call 3 ⟨aJ,mF,sV,fP,bV,aH,aD,aN,aB,aT,gN,eZ,oT,dO,List.replicate,bAm,bAw,Res.bind,Ev.c,e,g,nX⟩
  ·rw [aZ7 h] at e ⊢
   ktr_call 3 ⟨aJ,mF,sV,fP,bV,aH,aD,dO,List.replicate,bAm,bAw,Res.bind,Ev.c,e⟩
 have c1:=eB (n:=1) (js:=[0]) (fi:=eX (aD 1)) (tg:=aJ 0) (ft:=bV (aH (eqE true) (aD 0) (aD 1))) (fe:=fP K c) (en:=[some (.p (plD p)),some (.p (.list (ps.map plD))),none,none,none]) (ds:=ps.map plD) rfl (by rw [aZ0];omega) m1
 have e1:((ps.filter fun q=>decide (q≠p)).map fun q=>r3D (aNy p q))=(rowsOf p ps).map r3D:=by unfold rowsOf;rw [bA3];rfl
 rw [e1] at c1
 refine (aL (gH c1)).trans ?_
 simp only [bAp,bAt,frz,aZ6,bAk]
 have hel:=aGe K c (rows:=rowsOf p ps) (by omega) (fun r h=>⟨(hr r h).1.mono (by decide),(hr r h).2.1.mono (by decide),(hr r h).2.2.mono (by decide)⟩)
 have hsz:=aQv hr
 have hell:=aNd (rowsOf p ps)
 have hmul:=Nat.mul_le_mul hrl hrl
 have hso:=vK K c (rows:=elim (rowsOf p ps)) (by omega) (fun r h=>⟨(hsz r h).1.mono (by decide),(hsz r h).2.mono (by decide)⟩)
 have e2:(aN 1 (iO K c) (aB (aN 1 (fQ K c) (aB (aD 2) aT)) aT)) [some (.p (plD p)),some (.p (.list (ps.map plD))),some (.p (.list ((rowsOf p ps).map r3D))),none,none]=.ok (.p (aFx (solve (elim (rowsOf p ps))))):=by
  ktr_call 3 ⟨aN,aB,aT,aD,Res.bind,Ev.c,gN,eZ,oT,hel,hso,nX⟩
 refine (aL (b9 e2)).trans ?_
 simp only [bAp,bAt]
 cases ex:solve (elim (rowsOf p ps)) with
 | none =>
  have:aAo (rowsOf p ps)=none:=by unfold aAo;rw [ex]
  rw [this]
  exact jA ((pL rfl).trans rfl)
 | some x =>
  obtain ⟨y,hy,hlp⟩:=aQq ex
  rw [hlp]
  have gx:Gd 234 25 x:=(aMy hsz ex).mono (by decide) (by decide)
  have hys:=aRn hr gx
  have hso2:=vK K c (rows:=(rowsOf p ps).map (aOw x)) (by rw [aZ0];omega) (fun r h=>⟨(hys r h).1.mono (by decide),(hys r h).2.mono (by decide)⟩)
  have m2:nV (aV 1 [3] (aJ 0) eR (fS K c) [some (.p (plD p)),some (.p (.list (ps.map plD))),some (.p (.list ((rowsOf p ps).map r3D))),some (.p (frD x)),none]) ((rowsOf p ps).map r3D)=some ((rowsOf p ps).map fun r=>frD (aOw x r)):=by
   refine dR _ fun r hrm=>?_
   obtain ⟨a1,a2,a3⟩:=hr r hrm
   have x1:=gx.t
   have x2:=gx.b
   unfold aV
   ktr_call 21 ⟨aJ,mF,sV,eR,fS,List.replicate,bAm,bAw,aO4,aCb,aRa⟩
   rfl
  have c2:=eB (n:=1) (js:=[3]) (fi:=eX (aD 2)) (tg:=aJ 0) (ft:=eR) (fe:=fS K c) (en:=[some (.p (plD p)),some (.p (.list (ps.map plD))),some (.p (.list ((rowsOf p ps).map r3D))),some (.p (frD x)),none]) (ds:=(rowsOf p ps).map r3D) rfl (by rw [aZ0];omega) m2
  have e3:((rowsOf p ps).map fun r=>frD (aOw x r))=((rowsOf p ps).map (aOw x)).map frD:=by rw [bA3];rfl
  rw [e3] at c2
  have e4:(aN 1 (iO K c) (aB (dJ 1 [3] (eX (aD 2)) (aJ 0) eR (fS K c)) aT)) [some (.p (plD p)),some (.p (.list (ps.map plD))),some (.p (.list ((rowsOf p ps).map r3D))),some (.p (frD x)),none]=.ok (.p (frD y)):=by
   rw [hy] at hso2
   ktr_call 3 ⟨aN,aB,aT,c2,Res.bind,Ev.c,gN,eZ,oT,hso2,aFx,nX⟩
  have tn:bV (mUn (yJ false) (aD 3)) [some (.p (plD p)),some (.p (.list (ps.map plD))),some (.p (.list ((rowsOf p ps).map r3D))),some (.p (frD x)),none]=.ok false:=rfl
  refine (aL (nJ tn)).trans ((aL (b9 e4)).trans ?_)
  rfl
theorem aHm{p:Pl}{ps:List Pl}(h1:ps.length<=90)(h2:PW p)(h3:∀ q∈ps,PW q):fT K c [.p (plD p),.p (.list (ps.map plD))]=.ok (.p (pU (aAo (rowsOf p ps)))):=cK (a:=(p,ps)) aO7 ⟨h1,h2,h3⟩
structure PG(p:Pl):Prop where
 i:Sz 4 p.1
 j:Sz 4 p.2.1
 h:GB p.2.2
theorem PG.blow{p:Pl}{F:Int}(g:PG p)(hF:Sz 133 F):PW (blow F p):=⟨g.i,g.j,Sz.mul g.h.2.1 (x6 hF)⟩
def nY(F:Int)(ps:List Pl)(p:Pl):Option Pt:=aAo (rowsOf (blow F p) (ps.map (blow F)))
noncomputable def eA(K:aZz)(c:Cls):List L->Res L:=mOf ePI (fun a=>a.1.length<=90/\(∀ p∈a.1,PG p)/\Sz 133 a.2) fun a=>.ok (.o (.list (a.1.map fun p=>pU (nY a.2 a.1 p))))
noncomputable def gK:En->Res Ev:=(aN 2 (fT K c) (aB (aD 0) (aB (aD 1) aT)))
noncomputable def lK:MS:=(bU (cO 2 (aN 2 (e9 K c) (aB (aD 0) (aB (aD 1) aT)))) (fun en=>(dW (dJ 1 [2] (eX (aD 2)) (aJ 0) eR (gK K c))) (frz 2 en)))
theorem vG:∀ ls,eA K c ls=.bad\/eK 3 (lK K c) ls=eA K c ls:=cJ fun a h=>by
 obtain ⟨ps,F⟩:=a
 obtain ⟨hl,hg,hF⟩:=h
 dsimp only at hl hg hF ⊢
 refine bH ?_
 rw [show bD 3 (ePI (ps,F))=[some (.p (.list (ps.map plD))),some (.p (.int F)),none] from rfl]
 unfold lK
 have hb:=yS K c (ps:=ps) (F:=F) ⟨by omega,fun p hp=>(hg p hp).h⟩ (hF.mono (by decide))
 have e1:(aN 2 (e9 K c) (aB (aD 0) (aB (aD 1) aT))) [some (.p (.list (ps.map plD))),some (.p (.int F)),none]=.ok (.f (.list ((ps.map (blow F)).map plD))):=by
  ktr_call 3 ⟨aN,aB,aT,aD,Res.bind,Ev.c,gN,eZ,oT,hb,nX⟩
 refine (aL (gH e1)).trans ?_
 simp only [bAp,bAt,frz,aZ6,bAk]
 have hw:∀ q∈ps.map (blow F),PW q:=fun q hq=>by
  obtain ⟨p,hp,rfl⟩:=bAa.mp hq
  exact (hg p hp).blow hF
 have m1:nV (aV 1 [2] (aJ 0) eR (gK K c) [some (.p (.list (ps.map plD))),some (.p (.int F)),some (.p (.list ((ps.map (blow F)).map plD)))]) ((ps.map (blow F)).map plD)=some ((ps.map (blow F)).map fun p=>pU (aAo (rowsOf p (ps.map (blow F))))):=by
  refine dR _ fun p hp=>?_
  have g:=aHm K c (p:=p) (ps:=ps.map (blow F)) (by rw [aZ0];exact hl) (hw p hp) hw
  unfold aV
  ktr_call 3 ⟨aJ,mF,sV,eR,gK,aD,aN,aB,aT,gN,eZ,oT,List.replicate,bAm,bAw,Res.bind,Ev.c,g,nX⟩
 have c1:=eB (n:=1) (js:=[2]) (fi:=eX (aD 2)) (tg:=aJ 0) (ft:=eR) (fe:=gK K c) (en:=[some (.p (.list (ps.map plD))),some (.p (.int F)),some (.p (.list ((ps.map (blow F)).map plD)))]) (ds:=(ps.map (blow F)).map plD) rfl (by rw [aZ0,aZ0];omega) m1
 refine (xK c1).trans ?_
 rw [bA3]
 rfl
theorem aFj{ps:List Pl}{F:Int}(h1:ps.length<=90)(h2:∀ p∈ps,PG p)(h3:Sz 133 F):eA K c [.p (.list (ps.map plD)),.p (.int F)]=.ok (.o (.list (ps.map fun p=>pU (nY F ps p)))):=cK (a:=(ps,F)) aF2 ⟨h1,h2,h3⟩
def stays(ps:List Pl)(p:Pl):Bool:=(nY (wf ps) ps p).isSome
theorem aXg{ps:List Pl}(h1:ps.length<=22)(h2:∀ p∈ps,PG p):1<=wf ps/\(∀ p∈ps,p.2.2.2∣wf ps)/\Sz 133 (wf ps):=by
 obtain ⟨a,b,d⟩:=aU5 (ps:=ps) ⟨by omega,fun p hp=>(h2 p hp).h⟩
 exact ⟨a,b,d.mono (by omega)⟩
noncomputable def jS(K:aZz)(c:Cls):List L->Res L:=mOf ePs (fun ps=>ps.length<=22/\∀ p∈ps,PG p) fun ps=>.ok (.o (.list ((ps.filter (stays ps)).map plD)))
noncomputable def kI(K:aZz)(c:Cls):En->Res Ev:=(aD 0)
noncomputable def tX:MS:=(bU (cO 1 (aN 2 (eA K c) (aB (aD 0) (aB (aN 1 (cV K c) (aB (aD 0) aT)) aT)))) (fun en=>(dW (dJ 2 [] (yF aSa (aB (aD 0) (aB (aD 1) aT))) (fD 2 (bE (aJ 0) (bE (aJ 1) fB))) (bV (mUn (yJ true) (aD 1))) (kI K c))) (frz 1 en)))
theorem aFl:∀ ls,jS K c ls=.bad\/eK 2 (tX K c) ls=jS K c ls:=cJ fun ps h=>by
 obtain ⟨hl,hg⟩:=h
 obtain ⟨f0,f1,f2⟩:=aXg hl hg
 refine bH ?_
 rw [show bD 2 (ePs ps)=[some (.p (.list (ps.map plD))),none] from rfl]
 unfold tX
 have hw:=aHc K c (ps:=ps) ⟨by omega,fun p hp=>(hg p hp).h⟩
 have hp:=aFj K c (ps:=ps) (by omega) hg f2
 have e2:(aN 2 (eA K c) (aB (aD 0) (aB (aN 1 (cV K c) (aB (aD 0) aT)) aT))) [some (.p (.list (ps.map plD))),none]=.ok (.f (.list (ps.map fun p=>pU (nY (wf ps) ps p)))):=by
  ktr_call 3 ⟨aN,aB,aT,aD,Res.bind,Ev.c,gN,eZ,oT,hw,hp,nX⟩
 refine (aL (gH e2)).trans ?_
 simp only [bAp,bAt,frz,aZ6,bAk]
 have hit:(yF aSa (aB (aD 0) (aB (aD 1) aT))) [some (.p (.list (ps.map plD))),some (.p (.list (ps.map fun p=>pU (nY (wf ps) ps p))))]=.ok (ps.map fun p=>.tuple [plD p,pU (nY (wf ps) ps p)]):=by
  ktr_call 3 ⟨yF,aB,aT,aD,Res.bind,Ev.c,aSa,aC2⟩
 have m1:nV (aV 2 [] (fD 2 (bE (aJ 0) (bE (aJ 1) fB))) (bV (mUn (yJ true) (aD 1))) (kI K c) [some (.p (.list (ps.map plD))),some (.p (.list (ps.map fun p=>pU (nY (wf ps) ps p))))]) (ps.map fun p=>.tuple [plD p,pU (nY (wf ps) ps p)])=some ((ps.filter (stays ps)).map plD):=by
  refine iT _ fun p hp=>?_
  unfold aV stays
  cases e:nY (wf ps) ps p with
  | none=>ktr_call 3 ⟨fD,bE,fB,aJ,mF,List.replicate,bAm,bAw,Option.isSome_none,pU,bV,mUn,aD,Res.bind,Ev.c,yJ,dO,Bool.not_true⟩
  | some pt=>ktr_call 3 ⟨fD,bE,fB,aJ,mF,List.replicate,bAm,bAw,Option.isSome_some,pU,bV,mUn,aD,Res.bind,Ev.c,yJ,dO,kI⟩
 have c1:=eB (n:=2) (js:=[]) (fi:=yF aSa (aB (aD 0) (aB (aD 1) aT))) (tg:=fD 2 (bE (aJ 0) (bE (aJ 1) fB))) (ft:=bV (mUn (yJ true) (aD 1))) (fe:=kI K c) (en:=[some (.p (.list (ps.map plD))),some (.p (.list (ps.map fun p=>pU (nY (wf ps) ps p))))]) hit (by rw [aZ0];omega) m1
 exact xK c1
theorem y6{ps:List Pl}(h1:ps.length<=22)(h2:∀ p∈ps,PG p):jS K c [.p (.list (ps.map plD))]=.ok (.o (.list ((ps.filter (stays ps)).map plD))):=cK (a:=ps) aHp ⟨h1,h2⟩
structure gQ(K:aZz)(c:Cls):Prop where
 ii:PySem.W.kitOne K (.type "int") (.type "int")=some true
 ib:PySem.W.kitOne K (.type "int") (.type "bool")=some false
 tt:PySem.W.kitOne K (.type "tuple") (.type "tuple")=some true
 ll:PySem.W.kitOne K (.type "list") (.type "list")=some true
noncomputable def kX(K:aZz)(c:Cls):MS:=(bU (i9 (bV (aH ltE (aD 1) (aK jM (aB (aD 0) aT)))) (dW (aH ixE (aD 0) (aD 1))) dX) (dW (mC (.int 0))))
noncomputable def cI(ls:List L):Res L:=eK 2 (kX K c) ls
theorem tL:∀ ls,cI K c ls=.bad\/eK 2 (kX K c) ls=cI K c ls:=fun _=>.inr rfl
theorem aUr{ns:List Int}{k:Nat}(h:k < ns.length):atI (ns.map PyData.int) (k:Int)=some (.int (ns.getD k 0)):=by
 have:ns.getD k 0=ns[k]:=by simp [List.getD,h]
 rw [this]
 exact xQ (by rw [bA0,aZ5 h];rfl)
theorem wL(ns:List Int)(k:Nat):cI K c [.p (.list (ns.map .int)),.p (.int (k:Int))]=.ok (.p (.int (ns.getD k 0))):=by
 have hlen:jM [.p (.list (ns.map .int))]=.ok (.p (.int (ns.length:Nat))):=by simp [jM,kY]
 unfold cI
 refine bH ?_
 rw [show bD 2 [.p (.list (ns.map .int)),.p (.int (k:Int))]=[some (.p (.list (ns.map .int))),some (.p (.int (k:Int)))] from rfl]
 have ht:bV (aH ltE (aD 1) (aK jM (aB (aD 0) aT))) [some (.p (.list (ns.map .int))),some (.p (.int (k:Int)))]=.ok (decide (k < ns.length)):=by
  simp [bV,aH,aD,aK,aB,aT,Res.bind,Ev.c,hlen,iG,dO]
 by_cases hk:k < ns.length
 ·rw [aZ8 hk] at ht
  refine (jA ((pL ht).trans ?_))
  simp [dW,aH,aD,Res.bind,Ev.c,ixE,kY,aUr hk,aNi]
 ·rw [aZ7 hk] at ht
  refine (aL (nJ ht)).trans ?_
  have:ns.getD k 0=0:=by simp [List.getD,Nat.le_of_not_lt hk]
  rw [this]
  rfl
noncomputable def bN(K:aZz)(c:Cls):List L->Res L:=mOf eII (fun a=>a.2≠0/\Sz 8000 a.2) fun a=>.ok (.p (frD (FR.mk a.1 a.2)))
noncomputable def l7(K:aZz)(c:Cls):En->Res Bool:=(bV (aH (eqE true) (aD 3) (mC (.int 0))))
noncomputable def mE(K:aZz)(c:Cls):MS:=(bU (cO 4 (aH kL (aD 2) (aD 3))) (bU (cO 2 (aD 3)) (cO 3 (aD 4))))
noncomputable def lR:MS:=(bU (cO 2 (aK aHf (aB (aD 0) aT))) (bU (cO 3 (aK aHf (aB (aD 1) aT))) (bU (pC (l7 K c) (mE K c)) (bU (i9 (bV (aH ltE (aD 1) (mC (.int 0)))) (cO 2 (mUn qF (aD 2))) dX) (dW (aK bQ (aB (aH j6 (aD 0) (aD 2)) (aB (aH j6 (aD 1) (aD 2)) aT))))))))
theorem u5:∀ ls,bN K c ls=.bad\/eK 5 (lR K c) ls=bN K c ls:=cJ fun x h=>by
 obtain ⟨t,b⟩:=x
 obtain ⟨hb,hz⟩:=h
 dsimp only at hb hz ⊢
 obtain ⟨r',h⟩:=aTu K c (some (.p (.int t))) (some (.p (.int b))) _ (if t < 0 then -t else t) (if b < 0 then -b else b) none (by split<;>omega) (by split<;>omega) (bAf _)
 have h:=uG h
 rw [FR.aKd] at h
 have h:pC (l7 K c) (mE K c) _=_:=h
 obtain ⟨q1,q2⟩:=aTz t hb hz
 have q1':mG b ((Int.gcd t b:Nat):Int):=q1
 have q2':mG b (-((Int.gcd t b:Nat):Int)):=q2
 refine bH ?_
 rw [show bD 5 (eII (t,b))=[some (.p (.int t)),some (.p (.int b)),none,none,none] from rfl]
 unfold lR
 refine (aL (b9 (d:=.int (if t < 0 then -t else t)) rfl)).trans ((aL (b9 (d:=.int (if b < 0 then -b else b)) rfl)).trans ((aL h).trans ?_))
 have t1:bV (aH ltE (aD 1) (mC (.int 0))) [some (.p (.int t)),some (.p (.int b)),some (.p (.int (Int.gcd t b:Nat))),some (.p (.int 0)),r']=.ok (decide (b < 0)):=by
  ktr_call 3 ⟨bV,aH,aD,mC,Res.bind,Ev.c,iG,dO⟩
 by_cases hn:b < 0
 ·rw [aZ8 hn] at t1
  have es:FR.mk t b=(t.fdiv (-((Int.gcd t b:Nat):Int)),b.fdiv (-((Int.gcd t b:Nat):Int))):=by unfold FR.mk FR.sgn;rw [bAc hn]
  refine (aL ((pL t1).trans (b9 (d:=.int (-((Int.gcd t b:Nat):Int))) rfl))).trans (dC ?_)
  rw [es]
  ktr_call 11 ⟨frD⟩
 ·rw [aZ7 hn] at t1
  have es:FR.mk t b=(t.fdiv ((Int.gcd t b:Nat):Int),b.fdiv ((Int.gcd t b:Nat):Int)):=by unfold FR.mk FR.sgn;rw [bAg hn]
  refine (aL (nJ t1)).trans (dC ?_)
  rw [es]
  ktr_call 11 ⟨frD⟩
theorem vW{t b:Int}(h0:b≠0)(h1:Sz 8000 b):bN K c [.p (.int t),.p (.int b)]=.ok (.p (frD (FR.mk t b))):=cK (a:=(t,b)) aBo ⟨h0,h1⟩
noncomputable def bS(K:aZz)(c:Cls):List L->Res L:=mOf eFF (fun a=>FSz 2000 a.1/\FSz 2000 a.2) fun a=>.ok (.p (.bool (ltF a.1 a.2)))
noncomputable def l3(K:aZz)(c:Cls):MS:=(dW (aH ltE (aH eV (aH ixE (aD 0) (mC (.int 0))) (aH ixE (aD 1) (mC (.int 1)))) (aH eV (aH ixE (aD 1) (mC (.int 0))) (aH ixE (aD 0) (mC (.int 1))))))
theorem uY:∀ ls,bS K c ls=.bad\/eK 2 (l3 K c) ls=bS K c ls:=cJ fun a h=>by
 obtain ⟨x,y⟩:=a
 obtain ⟨⟨x1,x2⟩,⟨y1,y2⟩⟩:=h
 dsimp only at x1 x2 y1 y2 ⊢
 refine bH ?_
 rw [show bD 2 (eFF (x,y))=[some (.p (frD x)),some (.p (frD y))] from rfl]
 unfold l3
 walk_at "1d"
 rfl
theorem zI{x y:Int×Int}(hx:FSz 2000 x)(hy:FSz 2000 y):bS K c [.p (frD x),.p (frD y)]=.ok (.p (.bool (ltF x y))):=cK (a:=(x,y)) mS ⟨hx,hy⟩
noncomputable def dB(K:aZz)(c:Cls):List L->Res L:=mOf eFF (fun a=>Good 2000 a.1/\Good 2000 a.2) fun a=>.ok (.p (frD (hP a.1 a.2)))
noncomputable def qK:MS:=(dW (aN 2 (bN K c) (aB (aH iD (aH eV (aH ixE (aD 0) (mC (.int 0))) (aH ixE (aD 1) (mC (.int 1)))) (aH eV (aH ixE (aD 1) (mC (.int 0))) (aH ixE (aD 0) (mC (.int 1))))) (aB (aH eV (aH ixE (aD 0) (mC (.int 1))) (aH ixE (aD 1) (mC (.int 1)))) aT))))
theorem aB4:∀ ls,dB K c ls=.bad\/eK 2 (qK K c) ls=dB K c ls:=cJ fun a h=>by
 obtain ⟨x,y⟩:=a
 obtain ⟨g1,g2⟩:=h
 obtain ⟨x0,x1,x2⟩:=id g1
 obtain ⟨y0,y1,y2⟩:=id g2
 dsimp only at g1 g2 x0 x1 x2 y0 y1 y2 ⊢
 have l:=vW K c (t:=x.1*y.2+y.1*x.2) (b:=x.2*y.2) (g1.ne g2) ((Sz.mul x2 y2).mono (by decide))
 refine bH ?_
 rw [show bD 2 (eFF (x,y))=[some (.p (frD x)),some (.p (frD y))] from rfl]
 unfold qK
 refine dC ?_
 ktr_call 21 ⟨l⟩
 rfl
theorem tJ{m n:Nat}{x y:Int×Int}(hx:Good m x)(hy:Good n y)(h1:m<=2000)(h2:n<=2000):dB K c [.p (frD x),.p (frD y)]=.ok (.p (frD (hP x y))):=cK (a:=(x,y)) mS ⟨hx.mono h1,hy.mono h2⟩
noncomputable def bR(K:aZz)(c:Cls):List L->Res L:=mOf eFF (fun a=>Good 2000 a.1/\Good 2000 a.2) fun a=>.ok (.p (frD (FR.mk (a.1.1*a.2.1) (a.1.2*a.2.2))))
noncomputable def kS:MS:=(dW (aN 2 (bN K c) (aB (aH eV (aH ixE (aD 0) (mC (.int 0))) (aH ixE (aD 1) (mC (.int 0)))) (aB (aH eV (aH ixE (aD 0) (mC (.int 1))) (aH ixE (aD 1) (mC (.int 1)))) aT))))
theorem sA:∀ ls,bR K c ls=.bad\/eK 2 (kS K c) ls=bR K c ls:=cJ fun a h=>by
 obtain ⟨x,y⟩:=a
 obtain ⟨g1,g2⟩:=h
 obtain ⟨x0,x1,x2⟩:=id g1
 obtain ⟨y0,y1,y2⟩:=id g2
 dsimp only at g1 g2 x0 x1 x2 y0 y1 y2 ⊢
 have l:=vW K c (t:=x.1*y.1) (b:=x.2*y.2) (g1.ne g2) ((Sz.mul x2 y2).mono (by decide))
 refine bH ?_
 rw [show bD 2 (eFF (x,y))=[some (.p (frD x)),some (.p (frD y))] from rfl]
 unfold kS
 refine dC ?_
 ktr_call 21 ⟨l⟩
theorem rV{n:Nat}{i:Int}{y:Int×Int}(hi:Sz 2000 i)(hy:Good n y)(h2:n<=2000):bR K c [.p (.tuple [.int i,.int 1]),.p (frD y)]=.ok (.p (frD (FR.mk (i*y.1) (1*y.2)))):=cK (a:=((i,1),y)) mS ⟨⟨bCk 1,hi,aC8⟩,hy.mono h2⟩
noncomputable def nF(K:aZz)(c:Cls):MS:=(bU (cO 2 (aH iD (aH iD (aH eV (aH kL (aD 0) (aH aB3 (mC (.int 10)) (mC (.int 18)))) (aH iD (aH eV (mC (.int 2)) (aD 1)) (mC (.int 48271)))) (aH eV (aH eV (mC (.int 7919)) (aD 1)) (aD 1))) (aD 1))) (dW (aH kL (aH eV (aH kL (aD 2) (mC (.int 2147483647))) (mC (.int 69621))) (mC (.int 2147483629)))))
noncomputable def bG(ls:List L):Res L:=eK 3 (nF K c) ls
theorem aA6:∀ ls,bG K c ls=.bad\/eK 3 (nF K c) ls=bG K c ls:=fun _=>.inr rfl
theorem mT(cell:Int){k:Int}(k0:0<=k)(k1:k<=100):∃ v:Int,0<=v/\v < 2147483629/\bG K c [.p (.int cell),.p (.int k)]=.ok (.p (.int v)):=by
 have p18:aJd 10 18:=⟨by decide,by decide,by decide⟩
 have kz:Sz 20 k:=by unfold Sz;omega
 have pn:(10:Int) ^ Int.toNat 18≠0:=by decide
 have cz:Sz 100 (cell.fmod (10 ^ Int.toNat 18)):=wQ (by decide) (by unfold Sz;decide)
 generalize hC:cell.fmod (10 ^ Int.toNat 18)=C at cz
 refine ⟨(((C*(2*k+48271)+7919*k*k+k).fmod 2147483647)*69621).fmod 2147483629,(cT (by decide)).1,(cT (by decide)).2,?_⟩
 have z1:Sz 40 ((C*(2*k+48271)+7919*k*k+k).fmod 2147483647):=wQ (by decide) (by unfold Sz;decide)
 have sl:∀ {x:Int},Sz 50 x->Sz 60000 x:=fun h=>h.mono (by decide)
 have q1:CMulW 2 k:=⟨sl (by unfold Sz;decide),kz.mono (by decide)⟩
 have q2:CMulW C (2*k+48271):=⟨cz.mono (by decide),sl (by unfold Sz;omega)⟩
 have q3:CMulW 7919 k:=⟨sl (by unfold Sz;decide),kz.mono (by decide)⟩
 have q4:CMulW (7919*k) k:=⟨sl (by unfold Sz;omega),kz.mono (by decide)⟩
 have q5:CMulW ((C*(2*k+48271)+7919*k*k+k).fmod 2147483647) 69621:=⟨z1.mono (by decide),sl (by unfold Sz;decide)⟩
 have n1:(2147483647:Int)≠0:=by decide
 have n2:(2147483629:Int)≠0:=by decide
 unfold bG
 refine bH ?_
 rw [show bD 3 [.p (.int cell),.p (.int k)]=[some (.p (.int cell)),some (.p (.int k)),none] from rfl]
 unfold nF
 refine (aL (b9 (d:=.int (C*(2*k+48271)+7919*k*k+k)) ?_)).trans (dC ?_)
 ·ktr_call 11 ⟨hC⟩
 ·walk_at "1a"
noncomputable def iA:MS:=(bU (cO 2 (aH kL (aN 2 (bG K c) (aB (aD 0) (aB (aD 1) aT))) (mC (.int 5)))) (bU (i9 (bV (aH (eqE false) (aD 2) (mC (.int 0)))) (dW (aN 2 (bN K c) (aB (aH kZ (aH kL (aH iD (aH sN (aD 0) (mC (.int 48271))) (aD 1)) (aH iD (aH sN (mC (.int 2)) (aH aB3 (mC (.int 10)) (mC (.int 20)))) (mC (.int 1)))) (aH aB3 (mC (.int 10)) (mC (.int 20)))) (aB (aH iD (mC (.int 1)) (aH kL (aN 2 (bG K c) (aB (aD 0) (aB (aH iD (aD 1) (mC (.int 1))) aT))) (mC (.int 12)))) aT)))) dX) (bU (i9 (bV (aH (eqE false) (aD 2) (mC (.int 1)))) (dW (aN 2 (bN K c) (aB (aH kZ (aH kL (aN 2 (bG K c) (aB (aD 0) (aB (aH iD (aD 1) (mC (.int 2))) aT))) (mC (.int 41))) (mC (.int 20))) (aB (aH iD (mC (.int 1)) (aH kL (aN 2 (bG K c) (aB (aD 0) (aB (aH iD (aD 1) (mC (.int 3))) aT))) (mC (.int 6)))) aT)))) dX) (dW (aK bQ (aB (aH kZ (aH kL (aN 2 (bG K c) (aB (aD 0) (aB (aH iD (aD 1) (mC (.int 4))) aT))) (mC (.int 5))) (mC (.int 2))) (aB (mC (.int 1)) aT)))))))
noncomputable def cM(ls:List L):Res L:=eK 3 (iA K c) ls
theorem uS:∀ ls,cM K c ls=.bad\/eK 3 (iA K c) ls=cM K c ls:=fun _=>.inr rfl
structure GN(h:Int×Int):Prop where
 f:FR.Fr h
 t:Sz 80 h.1
 b:Sz 6 h.2
theorem aN4{t:Int}(ht:Sz 80 t):GN (t,1):=⟨⟨bCk 1,Int.gcd_one⟩,ht,(show Sz 6 (1:Int) by unfold Sz;decide)⟩
theorem aP0{t b:Int}(h0:b≠0)(ht:Sz 80 t)(hb:Sz 6 b):GN (FR.mk t b):=⟨(FR.sS h0).1,Sz.le ht (bA7 _ _),Sz.le hb (bA7 _ _)⟩
theorem GN.good{h:Int×Int}(g:GN h):Good 80 h:=⟨g.f.pos,g.t,g.b.mono (by decide)⟩
theorem sE(cell:Int){k:Int}(k0:0<=k)(k1:k<=90):∃ x,GN x/\cM K c [.p (.int cell),.p (.int k)]=.ok (.p (frD x)):=by
 obtain ⟨v0,a0,b0,e0⟩:=mT K c cell (k:=k) k0 (by omega)
 obtain ⟨v1,a1,b1,e1⟩:=mT K c cell (k:=k+1) (by omega) (by omega)
 obtain ⟨v2,a2,b2,e2⟩:=mT K c cell (k:=k+2) (by omega) (by omega)
 obtain ⟨v3,a3,b3,e3⟩:=mT K c cell (k:=k+3) (by omega) (by omega)
 obtain ⟨v4,a4,b4,e4⟩:=mT K c cell (k:=k+4) (by omega) (by omega)
 have p20:aJd 10 20:=⟨by decide,by decide,by decide⟩
 have m12:=cT (a:=v1) (b:=12) (by decide)
 have m41:=cT (a:=v2) (b:=41) (by decide)
 have m6:=cT (a:=v3) (b:=6) (by decide)
 have m5:=cT (a:=v4) (b:=5) (by decide)
 have x1:sN (.p (.int cell)) (.p (.int 48271))=.ok (.p (.int (cell*48271))):=aN5 (by decide) (by decide)
 have x2:sN (.p (.int 2)) (.p (.int (10 ^ Int.toNat 20)))=.ok (.p (.int (2*10 ^ Int.toNat 20))):=aA9 (.inr (.inl ⟨by decide,by decide⟩))
 have n1:(2*10 ^ Int.toNat 20+1:Int)≠0:=by decide
 have mm:=cT (a:=cell*48271+k) (b:=2*10 ^ Int.toNat 20+1) (by decide)
 have pw:(10:Int) ^ Int.toNat 20=100000000000000000000:=by decide
 have l0:=vW K c (t:=(cell*48271+k).fmod (2*10 ^ Int.toNat 20+1) - 10 ^ Int.toNat 20) (b:=1+v1.fmod 12) (by omega) (by unfold Sz;omega)
 have l1:=vW K c (t:=v2.fmod 41 - 20) (b:=1+v3.fmod 6) (by omega) (by unfold Sz;omega)
 have d5:(5:Int)≠0:=by decide
 have d12:(12:Int)≠0:=by decide
 have d41:(41:Int)≠0:=by decide
 have d6:(6:Int)≠0:=by decide
 unfold cM
 suffices h:∃ x,GN x/\iA K c (bD 3 [.p (.int cell),.p (.int k)])=some (.rt (.p (frD x))) from let ⟨x,g,e⟩:=h;⟨x,g,bH e⟩
 rw [show bD 3 [.p (.int cell),.p (.int k)]=[some (.p (.int cell)),some (.p (.int k)),none] from rfl]
 unfold iA
 have s0:(aH kL (aN 2 (bG K c) (aB (aD 0) (aB (aD 1) aT))) (mC (.int 5))) [some (.p (.int cell)),some (.p (.int k)),none]=.ok (.p (.int (v0.fmod 5))):=by
  ktr_call 11 ⟨e0⟩
 have tt:∀ (w n:Int),bV (aH (eqE false) (aD 2) (mC (.int n))) [some (.p (.int cell)),some (.p (.int k)),some (.p (.int w))]=.ok (w == n):=fun w n=>by
  ktr_call 3 ⟨bV,aH,aD,mC,Res.bind,Ev.c,eqE,dat,iE,gP,dO⟩
  rfl
 generalize v0.fmod 5=w at s0
 by_cases h0:(w == 0)=true
 ·have t0:=tt w 0
  rw [h0] at t0
  refine ⟨_,aP0 (t:=(cell*48271+k).fmod (2*10 ^ Int.toNat 20+1) - 10 ^ Int.toNat 20) (b:=1+v1.fmod 12) (by omega) (by unfold Sz;omega) (by unfold Sz;omega),(aL (b9 s0)).trans (jA ((pL t0).trans (dC ?_)))⟩
  ktr_call 11 ⟨e1,x1,x2,l0⟩
 ·have t0:=tt w 0
  rw [bB6.mpr h0] at t0
  by_cases h1:(w == 1)=true
  ·have t1:=tt w 1
   rw [h1] at t1
   refine ⟨_,aP0 (t:=v2.fmod 41 - 20) (b:=1+v3.fmod 6) (by omega) (by unfold Sz;omega) (by unfold Sz;omega),(aL (b9 s0)).trans ((aL (nJ t0)).trans (jA ((pL t1).trans (dC ?_))))⟩
   ktr_call 11 ⟨e2,e3,l1⟩
  ·have t1:=tt w 1
   rw [bB6.mpr h1] at t1
   refine ⟨(v4.fmod 5 - 2,1),aN4 (by unfold Sz;omega),(aL (b9 s0)).trans ((aL (nJ t0)).trans ((aL (nJ t1)).trans (dC ?_)))⟩
   ktr_call 11 ⟨e4⟩
   rfl
theorem zH{α κ:Type}[DecidableEq κ](k:κ)(v:α):∀ m:List (κ×α),(aKs k v m).map (·.1)=m.map (·.1)
 | []=>rfl
 | p :: r=>by
  unfold aKs
  rw [bAb,bAb,zH k v r]
  split<;>rfl
theorem aAd{α κ:Type}[DecidableEq κ]{k:κ}:∀ {m:List (κ×α)},gF m k=none->k∉m.map (·.1)
 | [],_=>fun h=>nomatch h
 | p :: r,e=>by
  unfold gF at e
  split at e
  ·cases e
  ·rename_i z
   rw [bAb,aZ3]
   rintro (q | q)
   ·exact z q.symm
   ·exact aAd e q
theorem aHn{α κ:Type}[DecidableEq κ]{m:List (κ×α)}(h:(m.map (·.1)).Nodup)(k:κ)(v:α):((vM m k v).map (·.1)).Nodup:=by
 unfold vM
 cases e:gF m k with
 | none =>
  rw [bAg (by simp),bA4]
  refine List.nodup_append.mpr ⟨h,bDu _ _,fun a ha b hb z=>?_⟩
  have:b=k:=by simpa using hb
  rw [z,this] at ha
  exact aAd e ha
 | some x =>
  rw [bAc (by rfl),zH]
  exact h
abbrev Mi:=List (Int×(Int×Int))
def mI(m:Mi):List (D×D):=(.none,.none) :: N.encM PyData.int frD m
theorem aYy(a b:Int)(h:PyData.int a=PyData.int b):a=b:=by injection h
theorem aG5(m:Mi)(k:Int):zD (mI m) (.int k)=some ((gF m k).map frD):=by
 show (if (aKv (.int k)).isSome=true then some (aBx (N.encM PyData.int frD m) (.int k)) else none)=_
 rw [bAc (show (aKv (.int k)).isSome=true from rfl),rO aYy]
theorem aTd(m:Mi)(k:Int)(v:Int×Int)(h:m.length<=100000):aFc (mI m) (.int k) (frD v)=some (mI (vM m k v)):=by
 show (if (aKv (.int k)).isSome=true/\(N.encM PyData.int frD m).length<=100000 then some ((PyData.none,PyData.none) :: aHx (N.encM PyData.int frD m) (.int k) (frD v)) else none)=_
 rw [bAc ⟨rfl,by unfold N.encM;rw [aZ0];exact h⟩,aDp aYy]
 rfl
def tkI(o:Option (Int×Int))(h:Int×Int):Bool:=match o with
 | none=>true
 | some f=>ltF f h
def hbI(m:Mi)(r:Rw):Mi:=if tkI (gF m r.1) r.2=true then vM m r.1 r.2 else m
theorem aIl(m:Mi)(r:Rw):(hbI m r).length<=m.length+1:=by
 unfold hbI
 split
 ·exact wW _ _ _
 ·exact bEo _
theorem aT3(m:Mi)(r:Rw):hbI m r≠[]:=by
 unfold hbI
 split
 ·rename_i h
  unfold vM
  split
  ·rename_i z
   intro e
   have:=bCl List.length e
   rw [rX] at this
   rw [bBh.mp this] at z
   cases z
  ·simp
 ·rename_i h
  intro e
  rw [e] at h
  exact h rfl
def GRl(r:Rw):Prop:=Sz 100 r.1/\FR.Fr r.2/\Sz 300 r.2.1/\Sz 20 r.2.2
theorem GRl.fsz{r:Rw}(h:GRl r):FSz 2000 r.2:=⟨h.2.2.1.mono (by decide),h.2.2.2.mono (by decide)⟩
theorem GRl.pos{r:Rw}(h:GRl r):1<=r.2.2:=h.2.1.pos
structure Gj(m:Mi):Prop where
 nd:(m.map (·.1)).Nodup
 g:∀ k h,gF m k=some h->GRl (k,h)
theorem Gj.step{m:Mi}(g:Gj m){r:Rw}(hr:GRl r):Gj (hbI m r):=by
 unfold hbI
 split
 ·refine ⟨aHn g.nd _ _,fun k h e=>?_⟩
  rw [jQ] at e
  split at e
  ·rename_i z;cases e;rw [z];exact hr
  ·exact g.g k h e
 ·exact g
def hbF(rs:List Rw):Mi:=rs.foldl hbI []
theorem uD:∀ (rs:List Rw) (m:Mi),Gj m->(∀ r∈rs,GRl r)->Gj (rs.foldl hbI m)/\(rs.foldl hbI m).length<=m.length+rs.length/\(rs≠[]\/m≠[]->rs.foldl hbI m≠[])
 | [],m,g,_=>⟨g,bAf _,fun h=>h.elim (fun z=>absurd rfl z) id⟩
 | r :: rs,m,g,h=>by
  obtain ⟨a,b,c⟩:=uD rs (hbI m r) (g.step (h r (.head _))) fun x hx=>h x (.tail _ hx)
  have:=aIl m r
  rw [bB9,aZ2]
  exact ⟨a,by omega,fun _=>c (.inr (aT3 m r))⟩
theorem aC7:Gj []:=⟨List.Pairwise.nil,fun _ _ e=>nomatch e⟩
def kF(m:Mi):List Rw:=(sortI (m.map (·.1))).map fun k=>(k,(gF m k).getD (0,1))
theorem aG9{m:Mi}:∀ k∈sortI (m.map (·.1)),∃ h,gF m k=some h:=fun k hk=>by
 have:=(sortI_perm _).mem_iff.mp hk
 obtain ⟨e,he,rfl⟩:=bAa.mp this
 exact yC he
theorem aDo(m:Mi):(sortI (m.map (·.1))).length=m.length:=by rw [(sortI_perm _).length_eq,aZ0]
theorem vS{m:Mi}{r:Rw}(h:r∈kF m):gF m r.1=some r.2:=by
 unfold kF at h
 obtain ⟨k,hk,rfl⟩:=bAa.mp h
 obtain ⟨v,e⟩:=aG9 k hk
 show gF m k=some ((gF m k).getD (0,1))
 rw [e]
 rfl
theorem aDn{α κ:Type}[DecidableEq κ]{k:κ}{v:α}:∀ {m:List (κ×α)},gF m k=some v->k∈m.map (·.1)
 | [],e=>nomatch e
 | p :: r,e=>by
  unfold gF at e
  split at e
  ·rename_i z;rw [<- z];exact .head _
  ·exact .tail _ (aDn e)
theorem aFg{m:Mi}{k:Int}{h:Int×Int}(e:gF m k=some h):(k,h)∈kF m:=by
 unfold kF
 refine bAa.mpr ⟨k,(sortI_perm _).mem_iff.mpr (aDn e),?_⟩
 rw [e]
 rfl
theorem aIy{m:Mi}(g:Gj m):(kF m).length=m.length/\(∀ r∈kF m,GRl r)/\(kF m).Pairwise (fun a b=>a.1 < b.1):=by
 refine ⟨by unfold kF;rw [aZ0,aDo],fun r hr=>g.g r.1 r.2 (vS hr),?_⟩
 unfold kF
 rw [bD5]
 have s1:=mP (m.map (·.1))
 have s2:(sortI (m.map (·.1))).Nodup:=(sortI_perm _).nodup_iff.mpr g.nd
 exact (s1.and s2).imp fun ⟨a,b⟩=>by
  show _ < _
  omega
theorem aVc{m:Mi}{r:Rw}{k:Int}{h:Int×Int}(e:gF m k=some h):∃ h',gF (hbI m r) k=some h'/\leF h h':=by
 unfold hbI
 split
 ·rename_i z
  rw [jQ]
  split
  ·rename_i y
   rw [<- y,e] at z
   exact ⟨r.2,rfl,aAc z⟩
  ·exact ⟨h,e,fN _⟩
 ·exact ⟨h,e,fN _⟩
theorem aVx(m:Mi)(r:Rw):∃ h',gF (hbI m r) r.1=some h'/\leF r.2 h':=by
 unfold hbI
 split
 ·rw [jQ,bAc rfl]
  exact ⟨r.2,rfl,fN _⟩
 ·rename_i z
  cases e:gF m r.1 with
  | none=>rw [e] at z;exact absurd rfl z
  | some f =>
   rw [e] at z
   exact ⟨f,rfl,tN (bB6.mpr z)⟩
theorem aJe:∀ (rs:List Rw) {m:Mi},Gj m->(∀ r∈rs,GRl r)->∀ {k:Int} {h:Int×Int},gF m k=some h->∃ h',gF (rs.foldl hbI m) k=some h'/\leF h h'
 | [],_,_,_,_,h,e=>⟨h,e,fN _⟩
 | r :: rs,m,g,hr,k,h,e=>by
  obtain ⟨h1,e1,l1⟩:=aVc (r:=r) e
  have g1:=g.step (hr r (.head _))
  obtain ⟨h2,e2,l2⟩:=aJe rs g1 (fun x hx=>hr x (.tail _ hx)) e1
  have g2:=(uD rs _ g1 fun x hx=>hr x (.tail _ hx)).1
  exact ⟨h2,e2,eW (g.g k h e).pos (g1.g k h1 e1).pos (g2.g k h2 e2).pos l1 l2⟩
theorem aH6:∀ (rs:List Rw) {m:Mi},Gj m->(∀ r∈rs,GRl r)->∀ r∈rs,∃ h',gF (rs.foldl hbI m) r.1=some h'/\leF r.2 h'
 | [],_,_,_,_,h=>nomatch h
 | x :: rs,m,g,hr,r,h=>by
  have g1:=g.step (hr x (.head _))
  rcases aZ3.mp h with z | z
  ·subst z
   obtain ⟨h1,e1,l1⟩:=aVx m r
   obtain ⟨h2,e2,l2⟩:=aJe rs g1 (fun x hx=>hr x (.tail _ hx)) e1
   have g2:=(uD rs _ g1 fun x hx=>hr x (.tail _ hx)).1
   exact ⟨h2,e2,eW (hr r (.head _)).pos (g1.g _ h1 e1).pos (g2.g _ h2 e2).pos l1 l2⟩
  ·exact aH6 rs g1 (fun x hx=>hr x (.tail _ hx)) r z
theorem aA0:∀ (rs:List Rw) {m:Mi} {k:Int} {h:Int×Int},gF (rs.foldl hbI m) k=some h->gF m k=some h\/(k,h)∈rs
 | [],_,_,_,e=>.inl e
 | r :: rs,m,k,h,e=>by
  rcases aA0 rs (m:=hbI m r) e with z | z
  ·unfold hbI at z
   split at z
   ·rw [jQ] at z
    split at z
    ·rename_i y
     cases z
     rw [y]
     exact .inr (.head _)
    ·exact .inl z
   ·exact .inl z
  ·exact .inr (.tail _ z)
theorem aVz(m:Mi):(N.encM PyData.int frD m).map (·.1)=(m.map (·.1)).map .int:=by unfold N.encM;rw [bA3,bA3];rfl
theorem aM7(m:Mi)(h:m.length < 64):mH [.p (.dict (mI m))]=.ok (.f (.list ((sortI (m.map (·.1))).map .int))):=by
 show (match intsOf ((N.encM PyData.int frD m).map (·.1)) with | some ns=>if ns.length < 64 then Res.ok (Ev.f (.list ((sortI ns).map .int))) else Res.bad | none=>Res.bad)=_
 rw [aVz,k9]
 dsimp only
 rw [bAc (by rw [aZ0];exact h)]
noncomputable def cF(K:aZz)(c:Cls):List L->Res L:=mOf eLs (fun rs=>rs.length<=1000/\∀ r∈rs,GRl r) fun rs=>.ok (.o (.dict (mI (hbF rs))))
noncomputable def d8:MS:=(i9 (mOr (bV (aH (w9 true) (aD 2) (aD 1))) (bV (aN 2 (jB K c) (aB (aH j9 (aD 1) (aD 2)) (aB (aD 3) aT))))) (qE 1 (aD 2) (aD 3)) dX)
noncomputable def gY:MS:=(bU (cO 1 mDK) (bU (aA2 (eX (aD 0)) (fD 2 (bE (aJ 2) (bE (aJ 3) fB))) (d8 K c)) (dW (aD 1))))
theorem aZo(A:Option L)(m:Mi)(hm:m.length<=2000)(gm:Gj m)(r:Rw)(hr:GRl r):d8 K c [A,some (.o (.dict (mI m))),some (.p (.int r.1)),some (.p (frD r.2))]=some (.nx [A,some (.o (.dict (mI (hbI m r)))),some (.p (.int r.1)),some (.p (frD r.2))]):=by
 have hd:=aG5 m r.1
 have hp:=aTd m r.1 r.2 (by omega)
 have put:qE 1 (aD 2) (aD 3) [A,some (.o (.dict (mI m))),some (.p (.int r.1)),some (.p (frD r.2))]=some (.nx [A,some (.o (.dict (mI (vM m r.1 r.2)))),some (.p (.int r.1)),some (.p (frD r.2))]):=by
  unfold qE
  ktr_call 3 ⟨aD,Ev.c,hp⟩
 have tin:bV (aH (w9 true) (aD 2) (aD 1)) [A,some (.o (.dict (mI m))),some (.p (.int r.1)),some (.p (frD r.2))]=.ok (!(gF m r.1).isSome):=by
  ktr_call 2 ⟨w9,rF,hd⟩
  simp
 unfold d8 hbI
 cases ea:gF m r.1 with
 | none =>
  rw [ea] at tin
  have t:(mOr (bV (aH (w9 true) (aD 2) (aD 1))) (bV (aN 2 (jB K c) (aB (aH j9 (aD 1) (aD 2)) (aB (aD 3) aT))))) [A,some (.o (.dict (mI m))),some (.p (.int r.1)),some (.p (frD r.2))]=.ok true:=by
   unfold mOr
   rw [tin]
   rfl
  exact (pL t).trans put
 | some f =>
  rw [ea] at tin hd
  have ef:(aH j9 (aD 1) (aD 2)) [A,some (.o (.dict (mI m))),some (.p (.int r.1)),some (.p (frD r.2))]=.ok (.p (frD f)):=by
   ktr_call 2 ⟨j9,rF,hd,bGa⟩
  have hl:=pA K c (gm.g _ f ea).fsz hr.fsz
  have tl:bV (aN 2 (jB K c) (aB (aH j9 (aD 1) (aD 2)) (aB (aD 3) aT))) [A,some (.o (.dict (mI m))),some (.p (.int r.1)),some (.p (frD r.2))]=.ok (ltF f r.2):=by
   ktr_call 3 ⟨bV,aN,aB,aT,ef,aD,Res.bind,Ev.c,gN,eZ,oT,hl,nX,dO⟩
  have t:(mOr (bV (aH (w9 true) (aD 2) (aD 1))) (bV (aN 2 (jB K c) (aB (aH j9 (aD 1) (aD 2)) (aB (aD 3) aT))))) [A,some (.o (.dict (mI m))),some (.p (.int r.1)),some (.p (frD r.2))]=.ok (ltF f r.2):=by
   unfold mOr
   rw [tin,aCs]
   exact tl
  show _=some (Out.nx [A,some (.o (.dict (mI (if ltF f r.2=true then vM m r.1 r.2 else m)))),some (.p (.int r.1)),some (.p (frD r.2))])
  cases e:ltF f r.2 with
  | true=>rw [e] at t;rw [bAc rfl];exact (pL t).trans put
  | false=>rw [e] at t;rw [bAg (by decide)];exact nJ t
theorem aHr(K:aZz)(c:Cls)(A:Option L):∀ (rs:List Rw) (m:Mi) (r2 r3:Option L),m.length+rs.length<=2000->Gj m->(∀ r∈rs,GRl r)->∃ (q2 q3:Option L),gS (fD 2 (bE (aJ 2) (bE (aJ 3) fB))) (d8 K c) (rs.map lrD) [A,some (.o (.dict (mI m))),r2,r3]=some (.nx [A,some (.o (.dict (mI (rs.foldl hbI m)))),q2,q3])
 | [],m,r2,r3,_,gm,_=>⟨r2,r3,rfl⟩
 | r :: rs,m,r2,r3,hl,gm,hr=>by
  rw [aZ2] at hl
  have hb:=aZo K c A m (by omega) gm r (hr r (.head _))
  have hn:=aIl m r
  obtain ⟨q2,q3,ih⟩:=aHr K c A rs (hbI m r) (some (.p (.int r.1))) (some (.p (frD r.2))) (by omega) (gm.step (hr r (.head _))) fun x hx=>hr x (.tail _ hx)
  refine ⟨q2,q3,?_⟩
  rw [bAb]
  unfold gS
  have et:fD 2 (bE (aJ 2) (bE (aJ 3) fB)) (lrD r) [A,some (.o (.dict (mI m))),r2,r3]=some [A,some (.o (.dict (mI m))),some (.p (.int r.1)),some (.p (frD r.2))]:=rfl
  rw [et]
  dsimp only
  rw [hb]
  exact ih
theorem oR:∀ ls,cF K c ls=.bad\/eK 4 (gY K c) ls=cF K c ls:=cJ fun rs h=>by
 obtain ⟨hl,hz⟩:=h
 obtain ⟨q2,q3,hlp⟩:=aHr K c (some (.p (.list (rs.map lrD)))) rs [] none none (by rw [bAv];omega) aC7 hz
 refine bH ?_
 rw [show bD 4 (eLs rs)=[some (.p (.list (rs.map lrD))),none,none,none] from rfl]
 unfold gY
 refine (aL (gH (d:=.dict (mI [])) rfl)).trans ((aL ((qY (ds:=rs.map lrD) rfl).trans hlp)).trans ?_)
 rfl
theorem aPf{rs:List Rw}(h1:rs.length<=1000)(h2:∀ r∈rs,GRl r):cF K c [.p (.list (rs.map lrD))]=.ok (.o (.dict (mI (hbF rs)))):=cK (a:=rs) xF ⟨h1,h2⟩
def GLn(rs:List Rw):Prop:=rs≠[]/\rs.length < 64/\∀ r∈rs,GRl r
noncomputable def iV(K:aZz)(c:Cls):List L->Res L:=mOf eLs GLn fun rs=>.ok (.o (.list ((kF (hbF rs)).map lrD)))
noncomputable def iX(K:aZz)(c:Cls):En->Res Ev:=(aK bQ (aB (aD 0) (aB (aH j9 (aD 1) (aD 0)) aT)))
noncomputable def tW:MS:=(bU (i9 (bV (aH (eqE false) (aK jM (aB (aD 0) aT)) (mC (.int 0)))) (mL c.NoRoof (aB (mC (.str "a line roof has one tuple or more")) aT)) dX) (bU (cO 1 (aN 1 (cF K c) (aB (aD 0) aT))) (fun en=>(dW (dJ 1 [1] (eX (aK mH (aB (aD 1) aT))) (aJ 0) eR (iX K c))) (frz 1 en))))
theorem aFf:∀ ls,iV K c ls=.bad\/eK 2 (tW K c) ls=iV K c ls:=cJ fun rs h=>by
 obtain ⟨h0,hl,hz⟩:=h
 have hg:=aPf K c (rs:=rs) (by omega) hz
 obtain ⟨g1,g2,g3⟩:=uD rs [] aC7 hz
 rw [bAv,bB4] at g2
 have hlen:jM [.p (.list (rs.map lrD))]=.ok (.p (.int (rs.length:Nat))):=by simp [jM,kY]
 have t:bV (aH (eqE false) (aK jM (aB (aD 0) aT)) (mC (.int 0))) [some (.p (.list (rs.map lrD))),none]=.ok false:=by
  ktr_call 3 ⟨bV,aH,aK,aB,aT,aD,mC,Res.bind,Ev.c,hlen,eqE,dat,iE,gP,dO⟩
  have:((rs.length:Int) == 0)=false:=by
   rw [bCh]
   have:rs.length≠0:=fun z=>h0 (bBh.mp z)
   omega
  rw [this]
  rfl
 have e1:(aN 1 (cF K c) (aB (aD 0) aT)) [some (.p (.list (rs.map lrD))),none]=.ok (.f (.dict (mI (hbF rs)))):=by
  ktr_call 3 ⟨aN,aB,aT,aD,Res.bind,Ev.c,gN,eZ,oT,hg,nX⟩
 refine bH ?_
 rw [show bD 2 (eLs rs)=[some (.p (.list (rs.map lrD))),none] from rfl]
 unfold tW
 refine (aL (nJ t)).trans ((aL (gH e1)).trans ?_)
 simp only [frz,aZ6,bAk,bAp,bAt]
 have g2:(hbF rs).length<=rs.length:=g2
 generalize hbF rs=m at *
 have so:=aM7 m (by omega)
 have hit:(eX (aK mH (aB (aD 1) aT))) [some (.p (.list (rs.map lrD))),some (.p (.dict (mI m)))]=.ok ((sortI (m.map (·.1))).map .int):=by
  simp only [eX,aK,aB,aT,aD,aZ6,bAk,Res.bind,Ev.c,so,aPg]
 have hm:nV (aV 1 [1] (aJ 0) eR (iX K c) [some (.p (.list (rs.map lrD))),some (.p (.dict (mI m)))]) ((sortI (m.map (·.1))).map .int)=some ((sortI (m.map (·.1))).map fun k=>lrD (k,(gF m k).getD (0,1))):=by
  refine dR _ fun k hk=>?_
  obtain ⟨h,e⟩:=aG9 k hk
  have hd:=aG5 m k
  rw [e] at hd
  have he:iX K c [some (.p (.int k)),some (.p (.dict (mI m)))]=.ok (.p (lrD (k,(gF m k).getD (0,1)))):=by
   rw [e]
   ktr_call 2 ⟨iX,j9,rF,hd,bGa⟩
   rfl
  simp [aV,aJ,mF,sV,eR,he,Ev.c]
 have hc:=eB (n:=1) (js:=[1]) (fi:=eX (aK mH (aB (aD 1) aT))) (tg:=aJ 0) (ft:=eR) (fe:=iX K c) (en:=[some (.p (.list (rs.map lrD))),some (.p (.dict (mI m)))]) hit (by rw [aZ0,aDo];omega) hm
 refine xK ?_
 rw [hc]
 unfold kF
 rw [bA3]
 rfl
theorem aPd{rs:List Rw}(h:GLn rs):iV K c [.p (.list (rs.map lrD))]=.ok (.o (.list ((kF (hbF rs)).map lrD))):=cK (a:=rs) xF h
theorem aI4(r:Rw):ixE (.p (lrD r)) (.p (.int 0))=.ok (.p (.int r.1)):=iY _ _
theorem aIo(r:Rw):ixE (.p (lrD r)) (.p (.int 1))=.ok (.p (frD r.2)):=i8 _ _ _
theorem aOi(p:Rw):PyData.canLay0 (lrD p)=true:=by simp [lrD,frD,PyData.canLay0,PyData.canLayAll0]
theorem aT0(p:Rw):PyData.depth (lrD p)<=9:=by simp [lrD,frD,PyData.depth,PyData.depthAll]
theorem aNx(ps:List Rw):SeqAt.shaped (.list (ps.map lrD))=true:=aJf lrD aOi aT0 ps
theorem aUd(p:Rw):SeqAt.shaped (lrD p)=true:=by simp [lrD,frD,SeqAt.shaped,PyData.canLay0,PyData.canLayAll0,PyData.depth,PyData.depthAll]
def plc(a b:Rw):Int×Int:=FR.mk (a.2.1*b.2.2 - b.2.1*a.2.2) (a.2.2*b.2.2*(b.1 - a.1))
theorem vR{a b:Rw}(h:a.1 < b.1)(h1:1<=a.2.2)(h2:1<=b.2.2):1<=a.2.2*b.2.2*(b.1 - a.1):=dG (dG h1 h2) (by omega)
theorem aLz{a b:Rw}(h:a.1 < b.1)(z1:Sz 100 a.1)(z2:Sz 100 b.1)(g1:Good 300 a.2)(g2:Good 300 b.2):Good 800 (plc a b):=by
 refine oE ?_ ?_ (by have:=vR h g1.1 g2.1;omega)
 ·exact (N.Sz.subM (Sz.mul g1.2.1 g2.2.2) (Sz.mul g2.2.1 g1.2.2)).mono (by decide)
 ·exact (Sz.mul (Sz.mul g1.2.2 g2.2.2) (N.Sz.subM z2 z1)).mono (by decide)
def uQ(rs:List Rw):Prop:=rs.Pairwise fun a b=>a.1 < b.1
theorem aQb{fs rs:List Rw}(h:fs.Sublist rs):uQ rs->rs.filter (fun r=>decide (r.1∈fs.map (·.1)))=fs:=by
 induction h with
 | slnil=>intro _;rfl
 | @cons l1 l2 a h ih =>
  intro hr
  obtain ⟨h1,h2⟩:=bAd.mp hr
  rw [List.filter_cons_of_neg,ih h2]
  intro z
  obtain ⟨x,hx,e⟩:=bAa.mp (bBa z)
  have:=h1 x (h.subset hx)
  omega
 | @cons_cons l1 l2 a h ih =>
  intro hr
  obtain ⟨h1,h2⟩:=bAd.mp hr
  rw [List.filter_cons_of_pos (by simp)]
  congr 1
  refine Eq.trans (List.filter_congr fun x hx=>?_) (ih h2)
  have:=h1 x hx
  rw [bDj,bAb,aZ3]
  constructor
  ·rintro (z | z)
   ·omega
   ·exact z
  ·exact .inr
structure Fac(F:Int)(rs:List Rw):Prop where
 p:1<=F
 b:∀ r∈rs,1<=r.2.2/\r.2.2∣F
theorem aJv{x:Int×Int}{F:Int}(hF:1<=F)(hx:1<=x.2)(hd:x.2∣F):AF x (wI x F,F):=by
 obtain ⟨k,rfl⟩:=hd
 refine ⟨hx,hF,?_⟩
 show x.1*(x.2*k)=x.1*(x.2*k).fdiv x.2*x.2
 rw [bBj _ (by omega)]
 ac_rfl
theorem aKe{rs:List Rw}(h:∀ r∈rs,1<=r.2.2):Fac (zA rs) rs:=by
 have gen:∀ (hs:List (Int×Int)) (c:Int),1<=c->(∀ h∈hs,1<=h.2)->1<=hs.foldl (fun c h=>cbS c h.2) c/\c∣hs.foldl (fun c h=>cbS c h.2) c/\∀ h∈hs,h.2∣hs.foldl (fun c h=>cbS c h.2) c:=by
  intro hs
  induction hs with
  | nil=>intro c h1 _;exact ⟨h1,Int.dvd_refl _,fun _ z=>nomatch z⟩
  | cons x hs ih =>
   intro c h1 hh
   obtain ⟨a1,a2,a3⟩:=aJ6 h1 (hh x (.head _))
   obtain ⟨b1,b2,b3⟩:=ih (cbS c x.2) a1 fun y hy=>hh y (.tail _ hy)
   rw [bB9]
   refine ⟨b1,bFw a2 b2,fun y hy=>?_⟩
   rcases aZ3.mp hy with z | z
   ·rw [z];exact bFw a3 b2
   ·exact b3 y z
 obtain ⟨a,_,d⟩:=gen (rs.map (·.2)) 1 (bCk 1) fun x hx=>by
  obtain ⟨r,hr,rfl⟩:=bAa.mp hx
  exact h r hr
 exact ⟨a,fun r hr=>⟨h r hr,d _ (bAa.mpr ⟨r,hr,rfl⟩)⟩⟩
structure aV5(F:Int)(rs fs:List Rw):Prop where
 sub:fs.Sublist rs
 hd:fs.head? = rs.head?
 ls:fs.getLast? = rs.getLast?
 conv:pQ (fs.map (ptL F))
 left:∀ e∈mU (fs.map (ptL F)),∀ q∈rs,0<=bM e.1 e.2 (ptL F q)
theorem qD{rs:List Rw}(h0:rs≠[])(hr:uQ rs):aV5 (zA rs) rs (eY rs):=by
 have fall:aFy (rs.map (ptL (zA rs))):=by
  unfold aFy
  rw [bD5]
  exact hr
 obtain ⟨p,ps,e⟩:∃ p ps,(rs.map (ptL (zA rs))).reverse=p :: ps:=by
  cases h:(rs.map (ptL (zA rs))).reverse with
  | nil =>
   rw [List.reverse_eq_nil_iff,List.map_eq_nil_iff] at h
   exact absurd h h0
  | cons p ps=>exact ⟨p,ps,rfl⟩
 have er:(p :: ps).reverse=rs.map (ptL (zA rs)):=by rw [<- e,List.reverse_reverse]
 have ch:=aLq (p:=p) (ps:=ps) (by rw [er];exact fall)
 rw [er,<- e] at ch
 obtain ⟨fs,hs,ef⟩:=List.sublist_map_iff.mp ch.sub
 have et:eY rs=fs:=by
  unfold eY aMb
  rw [<- aQb hs hr]
  refine List.filter_congr fun x _=>?_
  rw [bDj,ef,bAa,bAa]
  constructor
  ·rintro ⟨y,hy,e2⟩
   obtain ⟨z,hz,rfl⟩:=bAa.mp (bEe.mp hy)
   exact ⟨z,hz,e2⟩
  ·rintro ⟨z,hz,e2⟩
   exact ⟨ptL (zA rs) z,bEe.mpr (bAa.mpr ⟨z,hz,rfl⟩),e2⟩
 rw [et]
 have hm:=ch.hd
 have lm:=ch.ls
 rw [ef] at hm lm
 rw [List.head?_map,List.head?_map] at hm
 rw [List.getLast?_map,List.getLast?_map] at lm
 have key:∀ {a b:Option Rw},(∀ x∈a,x∈rs)->(∀ x∈b,x∈rs)->a.map (ptL (zA rs))=b.map (ptL (zA rs))->a=b:=by
  intro a b ha hb h
  cases a with
  | none =>
   cases b with
   | none=>rfl
   | some y=>cases h
  | some x =>
   cases b with
   | none=>cases h
   | some y =>
    have h:=bAn h
    have e1:x.1=y.1:=bCl (fun q:Q2=>q.1) h
    have hx:=ha x rfl
    have hy:=hb y rfl
    congr 1
    have uniq:∀ {l:List Rw},uQ l->∀ {x y:Rw},x∈l->y∈l->x.1=y.1->x=y:=by
     intro l
     induction l with
     | nil=>intro _ x y hx;cases hx
     | cons z l ih =>
      intro hl x y hx hy e
      obtain ⟨h1,h2⟩:=bAd.mp hl
      rcases aZ3.mp hx with u | u<;>rcases aZ3.mp hy with v | v
      ·rw [u,v]
      ·have:=h1 y v;rw [u] at e;omega
      ·have:=h1 x u;rw [v] at e;omega
      ·exact ih h2 u v e
    exact uniq hr hx hy e1
 refine ⟨hs,key (fun x hx=>hs.subset (bFi hx)) (fun x hx=>bFi hx) hm,key (fun x hx=>hs.subset (bDe hx)) (fun x hx=>bDe hx) lm,?_,?_⟩
 ·rw [<- ef];exact ch.conv
 ·rw [<- ef]
  exact fun e he q hq=>ch.left e he _ (bAa.mpr ⟨q,hq,rfl⟩)
theorem aCx(rs:List Rw):∀ r∈eY rs,r∈rs:=fun r hr=>(bA8.mp hr).1
theorem pZ{g:Rw->Q2}:∀ {fs:List Rw} {i:Nat} {a b:Rw},fs[i]? = some a->fs[i+1]? = some b->(g b,g a)∈mU (fs.map g)
 | [],_,_,_,h,_=>by cases h
 | [x],i,_,_,_,h=>by
  rw [aZ6] at h
  cases h
 | x :: y :: fs,0,a,b,h1,h2=>by
  cases h1
  cases h2
  exact .head _
 | x :: y :: fs,i+1,a,b,h1,h2=>.tail _ (pZ (fs:=y :: fs) (i:=i) h1 h2)
theorem aCc{g:Rw->Q2}:∀ {fs:List Rw} {i:Nat} {a b d:Rw},pQ (fs.map g)->fs[i]? = some a->fs[i+1]? = some b->fs[i+2]? = some d->0 < bM (g d) (g b) (g a)
 | [],_,_,_,_,_,h,_,_=>by cases h
 | [x],i,_,_,_,_,_,h,_=>by
  rw [aZ6] at h
  cases h
 | [x,y],i,_,_,_,_,_,_,h=>by
  rw [aZ6,aZ6] at h
  cases h
 | x :: y :: z :: fs,0,a,b,d,hc,h1,h2,h3=>by
  cases h1
  cases h2
  cases h3
  exact hc.1
 | x :: y :: z :: fs,i+1,a,b,d,hc,h1,h2,h3=>aCc (fs:=y :: z :: fs) (i:=i) hc.2 h1 h2 h3
def vF(F:Int)(t:Int×Int)(r:Rw):Int:=r.1*t.1*F+wI r.2 F*t.2
theorem aTf{F:Int}{t:Int×Int}{r:Rw}(hF:1<=F)(ht:1<=t.2)(hb:1<=r.2.2)(hd:r.2.2∣F):AF (lh t r) (vF F t r,t.2*F):=aOh (aKx (AF.refl ht)) (aJv hF hb hd)
theorem aJw{t:Int×Int}{r:Rw}(ht:1<=t.2)(hb:1<=r.2.2):FR.Fr (lh t r):=aRd (aKx (i:=r.1) (AF.refl ht)).a hb
theorem aE3{F:Int}{t:Int×Int}{q a:Rw}{rs:List Rw}(hf:Fac F rs)(ht:1<=t.2)(hq:q∈rs)(ha:a∈rs):leF (lh t q) (lh t a)↔vF F t q<=vF F t a:=by
 have a1:=aTf hf.p ht (hf.b q hq).1 (hf.b q hq).2
 have a2:=aTf hf.p ht (hf.b a ha).1 (hf.b a ha).2
 have e:=aFa a2 a1
 have hD:0 < t.2*F:=by have:=dG ht hf.p;omega
 constructor
 ·intro l
  have:ltF (lh t a) (lh t q)=false:=aZ7 (by unfold leF at l;omega)
  rw [this] at e
  have:=bCp e.symm
  dsimp only at this
  exact bEw (bGe.mp this) hD
 ·intro l
  refine tN ?_
  rw [e]
  exact aZ7 (bGe.mpr (bCw l (bCv hD)))
theorem vV{F:Int}{a b:Rw}{rs:List Rw}(hf:Fac F rs)(ha:a∈rs)(hb:b∈rs)(h:a.1 < b.1):AF (plc a b) (wI a.2 F - wI b.2 F,F*(b.1 - a.1)):=by
 have e1:=(aJv hf.p (hf.b a ha).1 (hf.b a ha).2).e
 have e2:=(aJv hf.p (hf.b b hb).1 (hf.b b hb).2).e
 dsimp only at e1 e2
 refine xA (vR h (hf.b a ha).1 (hf.b b hb).1) (dG hf.p (by omega)) ?_
 dsimp only
 grind
theorem sU{a b:Rw}(h:a.1 < b.1)(h1:1<=a.2.2)(h2:1<=b.2.2):1<=(plc a b).2:=(sD (vR h h1 h2)).pos
theorem aMe{F:Int}{a b q:Rw}{rs:List Rw}(hf:Fac F rs)(ha:a∈rs)(hb:b∈rs)(hq:q∈rs)(h:a.1 < b.1)(t:0<=bM (ptL F b) (ptL F a) (ptL F q)):leF (lh (plc a b) q) (lh (plc a b) a):=by
 have pp:=sU h (hf.b a ha).1 (hf.b b hb).1
 rw [aE3 hf pp hq ha]
 have e:=(vV hf ha hb h).e
 dsimp only at e
 unfold bM ptL at t
 dsimp only at t
 unfold vF
 generalize wI a.2 F=A at *
 generalize wI b.2 F=B at *
 generalize wI q.2 F=Q at *
 generalize (plc a b).1=p1 at *
 generalize (plc a b).2=p2 at *
 have k:(b.1 - a.1)*((q.1*p1*F+Q*p2) - (a.1*p1*F+A*p2)) = -(p2*((a.1 - b.1)*(Q - B) - (A - B)*(q.1 - b.1))):=by grind
 have n:=bBm (show 0<=p2 by omega) t
 by_cases z:q.1*p1*F+Q*p2<=a.1*p1*F+A*p2
 ·exact z
 ·have:=bBs (show 0 < b.1 - a.1 by omega) (show 0 < (q.1*p1*F+Q*p2) - (a.1*p1*F+A*p2) by omega)
  omega
theorem place_lt{F:Int}{a b d:Rw}{rs:List Rw}(hf:Fac F rs)(ha:a∈rs)(hb:b∈rs)(hd:d∈rs)(h1:a.1 < b.1)(h2:b.1 < d.1)(t:0 < bM (ptL F d) (ptL F b) (ptL F a)):ltF (plc a b) (plc b d)=true:=by
 rw [aFa (vV hf ha hb h1) (vV hf hb hd h2)]
 refine aZ8 ?_
 dsimp only
 unfold bM ptL at t
 dsimp only at t
 have:=bBs (show 0 < F by have:=hf.p;omega) t
 generalize wI a.2 F=A at *
 generalize wI b.2 F=B at *
 generalize wI d.2 F=D at *
 have k:(B - D)*(F*(b.1 - a.1)) - (A - B)*(F*(d.1 - b.1))=F*((b.1 - d.1)*(A - D) - (B - D)*(a.1 - d.1)):=by grind
 omega
theorem around:∀ {fs:List Rw} {x y:Rw} {q:Int},fs.head? = some x->fs.getLast? = some y->x.1<=q->q<=y.1->(∃ z,fs=[z])\/∃ (i:Nat) (a b:Rw),fs[i]? = some a/\fs[i+1]? = some b/\a.1<=q/\q<=b.1
 | [],_,_,_,h,_,_,_=>by cases h
 | [z],_,_,_,_,_,_,_=>.inl ⟨z,rfl⟩
 | a :: b :: fs,x,y,q,h1,h2,h3,h4=>by
  cases h1
  by_cases hq:q<=b.1
  ·exact .inr ⟨0,a,b,rfl,rfl,h3,hq⟩
  ·rw [bCe] at h2
   rcases around (fs:=b :: fs) (x:=b) rfl h2 (show b.1<=q by omega) h4 with ⟨z,e⟩ | ⟨i,u,v,e1,e2,e3,e4⟩
   ·rw [e] at h2
    have hz:z=y:=bAn h2
    injection e with eb _
    rw [<- hz,<- eb] at h4
    omega
   ·exact .inr ⟨i+1,u,v,e1,e2,e3,e4⟩
theorem x4:∀ {rs:List Rw} {x:Rw},uQ rs->rs.head? = some x->∀ q∈rs,x.1<=q.1
 | [],_,_,h,_,_=>by cases h
 | a :: rs,x,hr,h,q,hq=>by
  cases h
  rcases aZ3.mp hq with z | z
  ·rw [z];exact bCk _
  ·exact bCv ((bAd.mp hr).1 q z)
theorem pY:∀ {rs:List Rw} {y:Rw},uQ rs->rs.getLast? = some y->∀ q∈rs,q.1<=y.1
 | [],_,_,h,_,_=>by cases h
 | [a],_,_,h,q,hq=>by
  cases h
  rw [bAj.mp hq]
  exact bCk _
 | a :: b :: rs,y,hr,h,q,hq=>by
  rw [bCe] at h
  obtain ⟨h1,h2⟩:=bAd.mp hr
  rcases aZ3.mp hq with z | z
  ·rw [z]
   exact bCv (h1 y (bDe h))
  ·exact pY h2 h q z
theorem kB:∀ {fs:List Rw} {i:Nat} {a b:Rw},uQ fs->fs[i]? = some a->fs[i+1]? = some b->a.1 < b.1
 | [],_,_,_,_,h,_=>by cases h
 | x :: fs,0,a,b,hr,h1,h2=>by
  cases h1
  exact (bAd.mp hr).1 b (bAq h2)
 | x :: fs,i+1,a,b,hr,h1,h2=>kB (fs:=fs) (i:=i) (bAd.mp hr).2 h1 h2
theorem vT:∀ {s:List Q2},pQ s->oZ s.reverse=s
 | [],_=>rfl
 | a :: s,h=>by
  have hs:pQ s:=n9 (bF2 a s) h
  have ih:=vT hs
  unfold oZ at ih ⊢
  rw [bBz,bFg,ih]
  show pushS s a=a :: s
  unfold pushS
  congr 1
  match s,h with
  | [],_=>unfold kC;rfl
  | [b],_=>unfold kC;rfl
  | b :: d :: r,h =>
   show (if bM d b a<=0 then kC a (d :: r) else b :: d :: r)=_
   rw [bAg (by have:=h.1;omega)]
theorem aEq{F F':Int}{rs fs:List Rw}(hf:Fac F rs)(hf':Fac F' fs){a b d:Rw}(ha:a∈rs)(hb:b∈rs)(hd:d∈rs)(ha':a∈fs)(hb':b∈fs)(hd':d∈fs)(h:0 < bM (ptL F a) (ptL F b) (ptL F d)):0 < bM (ptL F' a) (ptL F' b) (ptL F' d):=by
 have sc:∀ r:Rw,r∈rs->r∈fs->F'*wI r.2 F=F*wI r.2 F':=fun r h1 h2=>by
  have e1:=(aJv hf.p (hf.b r h1).1 (hf.b r h1).2).e
  have e2:=(aJv hf'.p (hf'.b r h2).1 (hf'.b r h2).2).e
  dsimp only at e1 e2
  have:F'*wI r.2 F*r.2.2=F*wI r.2 F'*r.2.2:=by grind
  exact bCo (by have:=(hf.b r h1).1;omega) this
 have s1:=sc a ha ha'
 have s2:=sc b hb hb'
 have s3:=sc d hd hd'
 have p:=bBs (show 0 < F' by have:=hf'.p;omega) h
 have k:F*bM (ptL F' a) (ptL F' b) (ptL F' d)=F'*bM (ptL F a) (ptL F b) (ptL F d):=by
  unfold bM ptL
  dsimp only
  grind
 rw [<- k] at p
 exact bCu p (by have:=hf.p;omega)
theorem v8{F F':Int}{rs gs:List Rw}(hf:Fac F rs)(hf':Fac F' gs):∀ {fs:List Rw},(∀ r∈fs,r∈rs)->(∀ r∈fs,r∈gs)->pQ (fs.map (ptL F))->pQ (fs.map (ptL F'))
 | [],_,_,_=>trivial
 | [a],_,_,_=>trivial
 | [a,b],_,_,_=>trivial
 | a :: b :: d :: r,h1,h2,h=>⟨aEq hf hf' (h1 d (by simp)) (h1 b (by simp)) (h1 a (by simp)) (h2 d (by simp)) (h2 b (by simp)) (h2 a (by simp)) h.1,v8 hf hf' (fs:=b :: d :: r) (fun x hx=>h1 x (.tail _ hx)) (fun x hx=>h2 x (.tail _ hx)) h.2⟩
theorem aE8{rs:List Rw}(h0:rs≠[])(hr:uQ rs)(hb:∀ r∈rs,1<=r.2.2):eY (eY rs)=eY rs:=by
 have th:=qD h0 hr
 have hf:=aKe hb
 have hf':=aKe (rs:=eY rs) fun r h=>hb r (aCx rs r h)
 have cv:=v8 hf hf' (fs:=eY rs) (aCx rs) (fun _ h=>h) th.conv
 have ch:=vT cv
 generalize eY rs=fs at *
 unfold eY aMb
 rw [ch]
 refine List.filter_eq_self.mpr fun r hr'=>aZ8 ?_
 rw [bAa]
 exact ⟨ptL (zA fs) r,bEe.mpr (bAa.mpr ⟨r,hr',rfl⟩),rfl⟩
abbrev Mp:=List ((Int×Int)×(Int×Int))
structure S8(s:Int×Int):Prop where
 a:0<=s.1
 b:s.1<=8
 c:0<=s.2
 d:s.2<=8
structure Gn(m:Mp):Prop where
 g:∀ k h,gF m k=some h->S8 k/\GN h
 n:(m.map (·.1)).Nodup
structure GPn(p:Pl):Prop where
 s:S8 (p.1,p.2.1)
 h:GN p.2.2
noncomputable def iB:MS:=(dW (aK bQ (aB (aH kL (aN 2 (bG K c) (aB (aD 0) (aB (mC (.int 31)) aT))) (aH iD (aD 1) (mC (.int 1)))) (aB (aH kL (aN 2 (bG K c) (aB (aD 0) (aB (mC (.int 32)) aT))) (aH iD (aD 1) (mC (.int 1)))) aT))))
noncomputable def dM(ls:List L):Res L:=eK 2 (iB K c) ls
theorem qZ:∀ ls,dM K c ls=.bad\/eK 2 (iB K c) ls=dM K c ls:=fun _=>.inr rfl
theorem aL1(cell:Int){most:Int}(m0:0<=most)(m1:most<=8):∃ s:Int×Int,S8 s/\dM K c [.p (.int cell),.p (.int most)]=.ok (.p (slD s)):=by
 obtain ⟨v1,a1,b1,e1⟩:=mT K c cell (k:=31) (by decide) (by decide)
 obtain ⟨v2,a2,b2,e2⟩:=mT K c cell (k:=32) (by decide) (by decide)
 have mn:most+1≠0:=by omega
 have f1:=cT (a:=v1) (b:=most+1) (by omega)
 have f2:=cT (a:=v2) (b:=most+1) (by omega)
 refine ⟨(v1.fmod (most+1),v2.fmod (most+1)),⟨f1.1,by show v1.fmod (most+1)<=8;omega,f2.1,by show v2.fmod (most+1)<=8;omega⟩,?_⟩
 unfold dM
 refine bH ?_
 rw [show bD 2 [.p (.int cell),.p (.int most)]=[some (.p (.int cell)),some (.p (.int most))] from rfl]
 unfold iB
 refine dC ?_
 ktr_call 11 ⟨e1,e2⟩
 rfl
def tkF(o:Option (Int×Int))(h:Int×Int):Bool:=match o with
 | none=>true
 | some f=>ltF f h
def hbS(m:Mp)(s h:Int×Int):Mp:=if tkF (gF m s) h=true then vM m s h else m
theorem aI5(m:Mp)(s h:Int×Int):(hbS m s h).length<=m.length+1:=by
 unfold hbS
 split
 ·exact wW _ _ _
 ·exact bEo _
theorem aN7(m:Mp)(s h:Int×Int):hbS m s h≠[]:=by
 unfold hbS
 split
 ·unfold vM
  split
  ·rename_i z
   intro e
   have:=bCl List.length e
   rw [rX] at this
   rw [bBh.mp this] at z
   cases z
  ·simp
 ·rename_i h
  intro e
  rw [e] at h
  exact h rfl
theorem Gn.step{m:Mp}(g:Gn m){s h:Int×Int}(hs:S8 s)(hh:GN h):Gn (hbS m s h):=by
 refine ⟨fun k h' e=>?_,by unfold hbS;split;exact aHn g.n _ _;exact g.n⟩
 unfold hbS at e
 split at e
 ·rw [jQ] at e
  split at e
  ·rename_i z;cases e;rw [z];exact ⟨hs,hh⟩
  ·exact g.g k h' e
 ·exact g.g k h' e
theorem aOb{h:Int×Int}(g:GN h):FSz 2000 h:=⟨g.t.mono (by decide),g.b.mono (by decide)⟩
theorem eq_is{i j:Int}:eqE false (.p (.int i)) (.p (.int j))=.ok (.p (.bool (i == j))):=by simp [eqE,dat,iE,gP]
theorem aPs{α:Type}{ev:α->D}{ng:Bool}{f g:En->Res Ev}{en:En}{y:Ev}{m:List ((Int×Int)×α)}{s:Int×Int}(h1:f en=.ok (.p (slD s)))(h2:g en=.ok y)(hd:rF y.c=some (N.encM slD ev m)):aH (w9 ng) f g en=.ok (.p (.bool (if ng then !(gF m s).isSome else (gF m s).isSome))):=by
 refine aQ h1 h2 ?_
 generalize y.c=z at *
 show w9 ng (.p (slD s)) z=_
 simp only [w9,hd,aDc,bD2]
theorem aQ3{α:Type}{ev:α->D}{f g:En->Res Ev}{en:En}{y:Ev}{m:List ((Int×Int)×α)}{s:Int×Int}{v:α}(h1:f en=.ok (.p (slD s)))(h2:g en=.ok y)(hd:rF y.c=some (N.encM slD ev m))(e:gF m s=some v):aH j9 g f en=.ok (.p (ev v)):=by
 refine aQ h2 h1 ?_
 generalize y.c=z at *
 show j9 z (.p (slD s))=_
 simp only [j9,hd,aDc,e,bGa]
theorem set_same{α:Type}{x:α}:∀ {l:List α} {i:Nat},l[i]? = some x->l.set i x=l
 | [],_,h=>by cases h
 | a :: l,0,h=>by cases h;rfl
 | a :: l,i+1,h=>by rw [bAp,set_same (l:=l) (i:=i) h]
theorem aV4{en:En}{i:Nat}{d:D}(h:en[i]? = some (some (.p d))):aD i en=.ok (.p d):=by simp only [aD,h]
theorem aZl{en:En}{i:Nat}{d:D}(h:en[i]? = some (some (.o d))):aD i en=.ok (.b d):=by simp only [aD,h]
noncomputable def uV(K:aZz)(c:Cls):En->Res Ev:=(aK bQ (aB (aH ixE (aD 0) (mC (.int 0))) (aB (aH ixE (aD 0) (mC (.int 1))) (aB (aH j9 (aD 1) (aD 0)) aT))))
noncomputable def eJ:MS:=(bU (cO 6 (aH iD (aD 5) (aH eV (mC (.int 7368787)) (aD 4)))) (bU (cO 7 (aN 2 (dM K c) (aB (aD 6) (aB (aD 3) aT)))) (bU (i9 (bV (aH (eqE false) (aH kL (aH j6 (aD 1) (mC (.int 4))) (mC (.int 4))) (mC (.int 3)))) (cO 7 (aK bQ (aB (aH ixE (aD 7) (mC (.int 0))) (aB (aH ixE (aD 7) (mC (.int 0))) aT)))) dX) (bU (cO 8 (aN 2 (cM K c) (aB (aD 6) (aB (mC (.int 20)) aT)))) (bU (i9 (bV (aH (eqE false) (aH kL (aH j6 (aD 1) (mC (.int 16))) (mC (.int 3))) (mC (.int 1)))) (bU (cO 9 (aH iD (aH iD (aH eV (aH ixE (aD 7) (mC (.int 0))) (aH ixE (aD 7) (mC (.int 0)))) (aH eV (aH ixE (aD 7) (mC (.int 0))) (aH ixE (aD 7) (mC (.int 1))))) (aH eV (aH ixE (aD 7) (mC (.int 1))) (aH ixE (aD 7) (mC (.int 1)))))) (cO 8 (aK bQ (aB (aH kZ (aH kL (aN 2 (bG K c) (aB (aD 6) (aB (mC (.int 33)) aT))) (mC (.int 3))) (aH eV (aD 9) (aH iD (mC (.int 1)) (aH kL (aH j6 (aD 1) (mC (.int 48))) (mC (.int 4)))))) (aB (mC (.int 1)) aT))))) dX) (i9 (mOr (bV (aH (w9 true) (aD 7) (aD 2))) (bV (aN 2 (bS K c) (aB (aH j9 (aD 2) (aD 7)) (aB (aD 8) aT))))) (qE 2 (aD 7) (aD 8)) dX))))))
noncomputable def lT:MS:=(bU (cO 2 mDT) (bU (cO 3 (aH ixE (aK bQ (aB (mC (.int 2)) (aB (mC (.int 4)) (aB (mC (.int 8)) (aB (mC (.int 3)) aT))))) (aH kL (aD 1) (mC (.int 4))))) (bU (aA2 (yF aHz (aB (aD 0) aT)) (fD 2 (bE (aJ 4) (bE (aJ 5) fB))) (eJ K c)) (fun en=>(dW (dJ 1 [2] (eX (aK lN (aB (aK pH (aB (aD 2) aT)) aT))) (aJ 0) eR (uV K c))) (frz 2 en)))))
noncomputable def fR(ls:List L):Res L:=eK 10 (lT K c) ls
theorem yU:∀ ls,fR K c ls=.bad\/eK 10 (lT K c) ls=fR K c ls:=fun _=>.inr rfl
theorem aUm{en:En}{i j l:Nat}{m:Mp}{s h:Int×Int}(hi:en[i]? = some (some (.o (.dict (N.encM slD frD m)))))(hs:en[j]? = some (some (.p (slD s))))(hh:en[l]? = some (some (.p (frD h))))(hm:m.length<=1000)(gm:Gn m)(gh:GN h):i9 (mOr (bV (aH (w9 true) (aD j) (aD i))) (bV (aN 2 (bS K c) (aB (aH j9 (aD i) (aD j)) (aB (aD l) aT))))) (qE i (aD j) (aD l)) dX en=some (.nx (en.set i (some (.o (.dict (N.encM slD frD (hbS m s h))))))):=by
 have v1:=aV4 hs
 have v2:=aZl hi
 have tin:=hV (aPs (ev:=frD) (ng:=true) v1 v2 rfl)
 have put:=aG7 hi (aV4 hh) v1 (aKo (ev:=frD) m s h (by omega))
 have no:some (Out.nx en)=some (.nx (en.set i (some (.o (.dict (N.encM slD frD m)))))):=by rw [set_same hi]
 unfold hbS
 cases ea:gF m s with
 | none =>
  rw [ea] at tin
  exact (pL (aYq tin)).trans put
 | some f =>
  rw [ea] at tin
  have t:=aYu (g:=bV (aN 2 (bS K c) (aB (aH j9 (aD i) (aD j)) (aB (aD l) aT)))) tin (hV (dD (a:=frD f) (aQ3 (ev:=frD) v1 v2 rfl ea) (aV4 hh) (zI K c (aOb (gm.g _ f ea).2) (aOb gh))))
  show _=some (Out.nx (en.set i (some (.o (.dict (N.encM slD frD (if ltF f h=true then vM m s h else m)))))))
  cases e:ltF f h with
  | true=>rw [e] at t;rw [bAc rfl];exact (pL t).trans put
  | false=>rw [e] at t;rw [bAg (by decide)];exact (nJ t).trans no
abbrev eRf(Z:Option L)(kind most k n:Int)(m:Mp)(a b c d:Option L):En:=[Z,some (.p (.int kind)),some (.o (.dict (N.encM slD frD m))),some (.p (.int most)),some (.p (.int k)),some (.p (.int n)),a,b,c,d]
def RfG(Z:Option L)(kind most k n:Int)(m:Mp)(r6 r7 r8 r9:Option L):Prop:=∃ m' q6 q7 q8 q9,Gn m'/\m'≠[]/\m'.length<=m.length+1/\eJ K c (eRf Z kind most k n m r6 r7 r8 r9)=some (.nx (eRf Z kind most k n m' q6 q7 q8 q9))
theorem aZg(Z:Option L){kind most:Int}(m0:0<=most)(m1:most<=8)(n:Int){k:Int}(k0:0<=k)(k1:k<=100)(m:Mp)(hm:m.length<=1000)(gm:Gn m)(r6 r7 r8 r9:Option L):RfG K c Z kind most k n m r6 r7 r8 r9:=by
 have q0:eV (.p (.int 7368787)) (.p (.int k))=.ok (.p (.int (7368787*k))):=jV ⟨(show Sz 40 (7368787:Int) by unfold Sz;decide).mono (by decide),(show Sz 40 k by unfold Sz;omega).mono (by decide)⟩
 have ex0:=lF n (7368787*k)
 generalize n+7368787*k=cell at ex0
 obtain ⟨s0,hs0,es⟩:=aL1 K c cell m0 m1
 obtain ⟨x,gx,ex⟩:=sE K c cell (k:=20) (by decide) (by decide)
 obtain ⟨v,va,vb,ev⟩:=mT K c cell (k:=33) (by decide) (by decide)
 have d4:(4:Int)≠0:=by decide
 have d3:(3:Int)≠0:=by decide
 have dv:∀ {b:Int},1<=b->b<=100000->j6 (.p (.int kind)) (.p (.int b))=.ok (.p (.int (kind.fdiv b))):=fun h1 h2=>i6 (aTp _ h1 h2)
 have i0:∀ y:Int×Int,ixE (.p (slD y)) (.p (.int 0))=.ok (.p (.int y.1)):=fun y=>iY _ _
 have i1:∀ y:Int×Int,ixE (.p (slD y)) (.p (.int 1))=.ok (.p (.int y.2)):=fun y=>i8 _ _ _
 have fin:∀ (s h:Int×Int) (q9:Option L),S8 s->GN h->eJ K c (eRf Z kind most k n m r6 r7 r8 r9)=(i9 (mOr (bV (aH (w9 true) (aD 7) (aD 2))) (bV (aN 2 (bS K c) (aB (aH j9 (aD 2) (aD 7)) (aB (aD 8) aT))))) (qE 2 (aD 7) (aD 8)) dX) (eRf Z kind most k n m (some (.p (.int cell))) (some (.p (slD s))) (some (.p (frD h))) q9)->RfG K c Z kind most k n m r6 r7 r8 r9:=fun s h q9 hs gh e=>⟨hbS m s h,_,_,_,_,gm.step hs gh,aN7 m s h,aI5 m s h,e.trans (aUm K c rfl rfl rfl hm gm gh)⟩
 have two:∀ s:Int×Int,S8 s->eJ K c (eRf Z kind most k n m r6 r7 r8 r9)=(bU (cO 8 (aN 2 (cM K c) (aB (aD 6) (aB (mC (.int 20)) aT)))) (bU (i9 (bV (aH (eqE false) (aH kL (aH j6 (aD 1) (mC (.int 16))) (mC (.int 3))) (mC (.int 1)))) (bU (cO 9 (aH iD (aH iD (aH eV (aH ixE (aD 7) (mC (.int 0))) (aH ixE (aD 7) (mC (.int 0)))) (aH eV (aH ixE (aD 7) (mC (.int 0))) (aH ixE (aD 7) (mC (.int 1))))) (aH eV (aH ixE (aD 7) (mC (.int 1))) (aH ixE (aD 7) (mC (.int 1)))))) (cO 8 (aK bQ (aB (aH kZ (aH kL (aN 2 (bG K c) (aB (aD 6) (aB (mC (.int 33)) aT))) (mC (.int 3))) (aH eV (aD 9) (aH iD (mC (.int 1)) (aH kL (aH j6 (aD 1) (mC (.int 48))) (mC (.int 4)))))) (aB (mC (.int 1)) aT))))) dX) (i9 (mOr (bV (aH (w9 true) (aD 7) (aD 2))) (bV (aN 2 (bS K c) (aB (aH j9 (aD 2) (aD 7)) (aB (aD 8) aT))))) (qE 2 (aD 7) (aD 8)) dX))) (eRf Z kind most k n m (some (.p (.int cell))) (some (.p (slD s))) r8 r9)->RfG K c Z kind most k n m r6 r7 r8 r9:=fun s hs e=>by
  have e:=e.trans (aL (b9 (dD rfl rfl ex)))
  by_cases hh:((kind.fdiv 16).fmod 3 == 1)=true
  ·obtain ⟨z1,z2⟩:Sz 4 s.1/\Sz 4 s.2:=by
    have:=hs.a;have:=hs.b;have:=hs.c;have:=hs.d
    constructor<;>(unfold Sz;omega)
   have ml:∀ {x y:Int},Sz 20 x->Sz 20 y->eV (.p (.int x)) (.p (.int y))=.ok (.p (.int (x*y))):=fun h1 h2=>jV ⟨h1.mono (by decide),h2.mono (by decide)⟩
   have w1:=z1.mono (show 4<=20 by decide)
   have w2:=z2.mono (show 4<=20 by decide)
   have zb:Sz 20 (s.1*s.1+s.1*s.2+s.2*s.2):=(N.Sz.addM (N.Sz.addM (Sz.mul z1 z1) (Sz.mul z1 z2)) (Sz.mul z2 z2)).mono (by decide)
   have f4:=cT (a:=kind.fdiv 48) (b:=4) (by decide)
   have zf:Sz 10 (1+(kind.fdiv 48).fmod 4):=by unfold Sz;omega
   have f3:=cT (a:=v) (b:=3) (by decide)
   have zv:Sz 10 (v.fmod 3):=by unfold Sz;omega
   refine fin s (v.fmod 3 - (s.1*s.1+s.1*s.2+s.2*s.2)*(1+(kind.fdiv 48).fmod 4),1) _ hs (aN4 ((N.Sz.subM zv (Sz.mul zb zf)).mono (by decide))) (e.trans (aL ((pL (hV ((aQ (aQ (aQ rfl rfl (dv (by decide) (by decide))) rfl (fK d3)) rfl eq_is).trans (by rw [hh])))).trans ((aL (b9 (aQ (aQ (aQ (aQ rfl rfl (i0 s)) (aQ rfl rfl (i0 s)) (ml w1 w1)) (aQ (aQ rfl rfl (i0 s)) (aQ rfl rfl (i1 s)) (ml w1 w2)) (lF _ _)) (aQ (aQ rfl rfl (i1 s)) (aQ rfl rfl (i1 s)) (ml w2 w2)) (lF _ _)))).trans (b9 (uP (aQ (aQ (dD rfl rfl ev) rfl (fK d3)) (aQ rfl (aQ rfl (aQ (aQ rfl rfl (dv (by decide) (by decide))) rfl (fK d4)) (lF _ _)) (ml zb (zf.mono (by decide)))) (hX _ _)) rfl))))))
  ·exact fin s x _ hs gx (e.trans (aL (nJ (hV ((aQ (aQ (aQ rfl rfl (dv (by decide) (by decide))) rfl (fK d3)) rfl eq_is).trans (by rw [bB6.mpr hh]))))))
 have e:eJ K c (eRf Z kind most k n m r6 r7 r8 r9)=_:=(aL (b9 (aQ rfl (aQ rfl rfl q0) ex0))).trans (aL (b9 (dD rfl rfl es)))
 by_cases h:((kind.fdiv 4).fmod 4 == 3)=true
 ·exact two (s0.1,s0.1) ⟨hs0.a,hs0.b,hs0.a,hs0.b⟩ (e.trans (aL ((pL (hV ((aQ (aQ (aQ rfl rfl (dv (by decide) (by decide))) rfl (fK d4)) rfl eq_is).trans (by rw [h])))).trans (b9 (uP (aQ rfl rfl (i0 s0)) (aQ rfl rfl (i0 s0)))))))
 ·exact two s0 hs0 (e.trans (aL (nJ (hV ((aQ (aQ (aQ rfl rfl (dv (by decide) (by decide))) rfl (fK d4)) rfl eq_is).trans (by rw [bB6.mpr h]))))))
theorem aF6(K:aZz)(c:Cls)(Z:Option L){kind most:Int}(m0:0<=most)(m1:most<=8):∀ (ns:List Int) (k:Nat) (m:Mp) (r4 r5 r6 r7 r8 r9:Option L),k+ns.length<=100->m.length<=k->Gn m->∃ (m':Mp) (q4 q5 q6 q7 q8 q9:Option L),Gn m'/\(ns≠[]\/m≠[]->m'≠[])/\m'.length<=m.length+ns.length/\gS (fD 2 (bE (aJ 4) (bE (aJ 5) fB))) (eJ K c) (rG k (ns.map .int)) [Z,some (.p (.int kind)),some (.o (.dict (N.encM slD frD m))),some (.p (.int most)),r4,r5,r6,r7,r8,r9]=some (.nx [Z,some (.p (.int kind)),some (.o (.dict (N.encM slD frD m'))),some (.p (.int most)),q4,q5,q6,q7,q8,q9])
 | [],k,m,r4,r5,r6,r7,r8,r9,_,_,g=>⟨m,r4,r5,r6,r7,r8,r9,g,fun h=>h.elim (fun z=>absurd rfl z) id,bAf _,rfl⟩
 | n :: ns,k,m,r4,r5,r6,r7,r8,r9,hk,hl,g=>by
  rw [aZ2] at hk
  obtain ⟨m1',q6,q7,q8,q9,g1,n1,l1,hb⟩:=aZg K c Z (kind:=kind) m0 m1 n (k:=(k:Int)) (by omega) (by omega) m (by omega) g r6 r7 r8 r9
  obtain ⟨m2,p4,p5,p6,p7,p8,p9,g2,n2,l2,ih⟩:=aF6 K c Z (kind:=kind) m0 m1 ns (k+1) m1' (some (.p (.int (k:Int)))) (some (.p (.int n))) q6 q7 q8 q9 (by omega) (by omega) g1
  refine ⟨m2,p4,p5,p6,p7,p8,p9,g2,fun _=>n2 (.inr n1),by rw [aZ2];omega,?_⟩
  rw [bAb]
  show gS (fD 2 (bE (aJ 4) (bE (aJ 5) fB))) (eJ K c) (.tuple [.int (k:Int),.int n] :: rG (k+1) (ns.map .int)) _=_
  unfold gS
  have et:fD 2 (bE (aJ 4) (bE (aJ 5) fB)) (.tuple [.int (k:Int),.int n]) [Z,some (.p (.int kind)),some (.o (.dict (N.encM slD frD m))),some (.p (.int most)),r4,r5,r6,r7,r8,r9]=some [Z,some (.p (.int kind)),some (.o (.dict (N.encM slD frD m))),some (.p (.int most)),some (.p (.int (k:Int))),some (.p (.int n)),r6,r7,r8,r9]:=rfl
  rw [et]
  dsimp only
  rw [hb]
  exact ih
def l5(m:Mp):List Pl:=(uR (kys m)).map fun k=>((un2 k).1,(un2 k).2,aUe m (0,1) k)
theorem qG(m:Mp):(l5 m).length=m.length:=by
 unfold l5
 rw [aZ0,(jO (kys m)).length_eq]
 unfold kys
 rw [aZ0]
def UnS(a b:Pl):Prop:=b.1 - a.1≠0\/b.2.1 - a.2.1≠0
theorem aQt{m:Mp}(hn:(m.map (·.1)).Nodup):(l5 m).Pairwise UnS:=by
 have nk:(kys m).Nodup:=by
  have e:kys m=(m.map (·.1)).map fun s=>[s.1,s.2]:=by unfold kys;rw [bA3];rfl
  rw [e]
  refine List.Pairwise.map _ (fun a b h z=>?_) hn
  injection z with z1 z2
  injection z2 with z2 _
  exact h (bBq z1 z2)
 have nd:(uR (kys m)).Nodup:=(jO (kys m)).nodup_iff.mpr nk
 unfold l5
 rw [bD5]
 refine List.Pairwise.imp_of_mem (fun {a b} ha hb hab=>?_) nd
 obtain ⟨_,h1,_⟩:=aEe ha (0,1)
 obtain ⟨_,h2,_⟩:=aEe hb (0,1)
 by_cases e1:(un2 b).1 - (un2 a).1=0
 ·refine .inr fun e2=>hab ?_
  have e2:(un2 b).2 - (un2 a).2=0:=e2
  rw [h1,h2,show (un2 a).1=(un2 b).1 by omega,show (un2 a).2=(un2 b).2 by omega]
 ·exact .inl e1
theorem aNs{fe:En->Res Ev}{en:En}{i:Nat}{m:Mp}(hfe:∀ a b,fe [a,b]=aK bQ (aB (aH ixE (aD 0) (mC (.int 0))) (aB (aH ixE (aD 0) (mC (.int 1))) (aB (aH j9 (aD 1) (aD 0)) aT))) [a,b])(hi:en[i]? = some (some (.p (.dict (N.encM slD frD m)))))(hm:m.length < 64):dJ 1 [i] (eX (aK lN (aB (aK pH (aB (aD i) aT)) aT))) (aJ 0) eR fe en=.ok (.f (.list ((l5 m).map plD))):=by
 have kl:(kys m).length=m.length:=by unfold kys;rw [aZ0]
 have lt:pH [.p (.dict (N.encM slD frD m))]=.ok (.f (.list ((kys m).map rC))):=by
  unfold pH
  simp only [rF,aG1,aM5,uA]
  rw [bAc trivial,bAc (aN2 m)]
 have so:lN [.p (.list ((kys m).map rC))]=.ok (.f (.list ((uR (kys m)).map rC))):=by
  unfold lN
  simp only [g9,uA]
  rw [bAc ⟨aN2 m,by omega⟩]
 refine (eB (ds:=(uR (kys m)).map rC) (itL (gO (bP (gO (bP (aV4 hi) rfl) lt) rfl) so)) (by rw [aZ0,(jO (kys m)).length_eq];omega) (dR (out:=fun k=>plD ((un2 k).1,(un2 k).2,aUe m (0,1) k)) _ fun k hk=>?_)).trans (by unfold l5;rw [bA3];rfl)
 obtain ⟨h1,h2,h3⟩:=aEe hk (0,1)
 have x0:ixE (.p (slD (un2 k))) (.p (.int 0))=.ok (.p (.int (un2 k).1)):=iY _ _
 have x1:ixE (.p (slD (un2 k))) (.p (.int 1))=.ok (.p (.int (un2 k).2)):=i8 _ _ _
 have e:fe [some (.p (slD (un2 k))),some (.p (.dict (N.encM slD frD m)))]=.ok (.p (plD ((un2 k).1,(un2 k).2,aUe m (0,1) k))):=(hfe _ _).trans (aV3 (aQ rfl rfl x0) (aQ rfl rfl x1) (aQ3 (ev:=frD) rfl rfl rfl h3))
 rw [h1]
 unfold aV
 ktr_call 3 ⟨aJ,eR,mF,sV,hi,List.replicate,bAm,bAw,e,Ev.c⟩
theorem aJ0{m:Mp}(g:Gn m)(ne:m≠[]):l5 m≠[]/\(∀ p∈l5 m,GPn p)/\(l5 m).Pairwise UnS:=by
 refine ⟨fun z=>?_,fun p hp=>?_,aQt g.n⟩
 ·have:=qG m
  rw [z] at this
  exact ne (bBh.mp this.symm)
 ·unfold l5 at hp
  obtain ⟨k,hk,rfl⟩:=bAa.mp hp
  obtain ⟨_,_,h3⟩:=aEe hk (0,1)
  obtain ⟨a,b⟩:=g.g _ _ h3
  exact ⟨a,b⟩
theorem aQc(kind:Int)(cs:List Int)(h0:cs≠[])(hl:cs.length<=60):∃ ps:List Pl,ps≠[]/\ps.length<=cs.length/\(∀ p∈ps,GPn p)/\ps.Pairwise UnS/\fR K c [.p (.list (cs.map .int)),.p (.int kind)]=.ok (.o (.list (ps.map plD))):=by
 have d4:(4:Int)≠0:=by decide
 have f4:=cT (a:=kind) (b:=4) (by decide)
 obtain ⟨most,m0,m1,em⟩:∃ most:Int,0<=most/\most<=8/\ixE (.p (.tuple [.int 2,.int 4,.int 8,.int 3])) (.p (.int (kind.fmod 4)))=.ok (.p (.int most)):=by
  have:kind.fmod 4=0\/kind.fmod 4=1\/kind.fmod 4=2\/kind.fmod 4=3:=by omega
  rcases this with z | z | z | z<;>rw [z]
  ·exact ⟨2,by decide,by decide,rfl⟩
  ·exact ⟨4,by decide,by decide,rfl⟩
  ·exact ⟨8,by decide,by decide,rfl⟩
  ·exact ⟨3,by decide,by decide,rfl⟩
 obtain ⟨m,q4,q5,q6,q7,q8,q9,g,ne,ln,hlp⟩:=aF6 K c (some (.p (.list (cs.map .int)))) (kind:=kind) m0 m1 cs 0 [] none none none none none none (by omega) (bAf _) ⟨(fun _ _ e=>nomatch e),bGb⟩
 rw [bAv,bB4] at ln
 obtain ⟨a1,a2,a3⟩:=aJ0 g (ne (.inl h0))
 refine ⟨l5 m,a1,by rw [qG];exact ln,a2,a3,?_⟩
 have hit:(yF aHz (aB (aD 0) aT)) [some (.p (.list (cs.map .int))),some (.p (.int kind)),some (.o (.dict [])),some (.p (.int most)),none,none,none,none,none,none]=.ok (rG 0 (cs.map .int)):=rfl
 unfold fR
 refine bH ?_
 rw [show bD 10 [.p (.list (cs.map .int)),.p (.int kind)]=[some (.p (.list (cs.map .int))),some (.p (.int kind)),none,none,none,none,none,none,none,none] from rfl]
 unfold lT
 refine (aL (gH (d:=.dict []) rfl)).trans ((aL (b9 (aQ (gO (bP rfl (bP rfl (bP rfl (bP rfl rfl)))) rfl) (aQ rfl rfl (fK d4)) em))).trans ((aL ((qY hit).trans hlp)).trans ?_))
 exact mQ (i:=2) (e1:=[some (.p (.list (cs.map .int))),some (.p (.int kind)),some (.p (.dict (N.encM slD frD m))),some (.p (.int most)),q4,q5,q6,q7,q8,q9]) rfl (xK (aNs ra rfl (by omega)))
noncomputable def cX(K:aZz)(c:Cls):List L->Res L:=mOf ePH (fun a=>GoodQ a.1 a.2) fun a=>.ok (.p (frD (hgt a.1 a.2)))
noncomputable def lG:MS:=(bU (cO 2 (aN 2 (dB K c) (aB (aN 2 (bR K c) (aB (aK bQ (aB (aH ixE (aD 0) (mC (.int 0))) (aB (mC (.int 1)) aT))) (aB (aH ixE (aD 1) (mC (.int 0))) aT))) (aB (aN 2 (bR K c) (aB (aK bQ (aB (aH ixE (aD 0) (mC (.int 1))) (aB (mC (.int 1)) aT))) (aB (aH ixE (aD 1) (mC (.int 1))) aT))) aT)))) (dW (aN 2 (dB K c) (aB (aD 2) (aB (aH ixE (aD 0) (mC (.int 2))) aT)))))
theorem u3:∀ ls,cX K c ls=.bad\/eK 3 (lG K c) ls=cX K c ls:=cJ fun a g=>by
 obtain ⟨p,pt⟩:=a
 dsimp only at g ⊢
 have t1:bR K c [.p (.tuple [.int p.1,.int 1]),.p (frD pt.1)]=.ok (.p (frD (hT p.1 pt.1))):=rV K c (g.i.mono (by decide)) g.x (by decide)
 have t2:bR K c [.p (.tuple [.int p.2.1,.int 1]),.p (frD pt.2)]=.ok (.p (frD (hT p.2.1 pt.2))):=rV K c (g.j.mono (by decide)) g.y (by decide)
 have p1:=tJ K c (gR g.i g.x) (gR g.j g.y) (by decide) (by decide)
 have p2:=tJ K c (mK (gR g.i g.x) (gR g.j g.y)) g.h (by decide) (by decide)
 refine bH ?_
 rw [show bD 3 (ePH (p,pt))=[some (.p (plD p)),some (.p (.tuple [frD pt.1,frD pt.2])),none] from rfl]
 unfold lG
 have e1:(aN 2 (dB K c) (aB (aN 2 (bR K c) (aB (aK bQ (aB (aH ixE (aD 0) (mC (.int 0))) (aB (mC (.int 1)) aT))) (aB (aH ixE (aD 1) (mC (.int 0))) aT))) (aB (aN 2 (bR K c) (aB (aK bQ (aB (aH ixE (aD 0) (mC (.int 1))) (aB (mC (.int 1)) aT))) (aB (aH ixE (aD 1) (mC (.int 1))) aT))) aT))) [some (.p (plD p)),some (.p (.tuple [frD pt.1,frD pt.2])),none]=.ok (.p (frD (hP (hT p.1 pt.1) (hT p.2.1 pt.2)))):=by
  ktr_call 2 ⟨t1,t2,p1⟩
 refine (aL (b9 e1)).trans (dC ?_)
 ktr_call 2 ⟨p2⟩
 rfl
theorem oV{p:Pl}{pt:Pt}(g:GoodQ p pt):cX K c [.p (plD p),.p (.tuple [frD pt.1,frD pt.2])]=.ok (.p (frD (hgt p pt))):=cK (a:=(p,pt)) aHg g
noncomputable def j5:MS:=(bU (cO 1 (aK bQ (aB (aH kZ (aH kL (aN 2 (bG K c) (aB (aD 0) (aB (mC (.int 41)) aT))) (mC (.int 7))) (mC (.int 3))) (aB (aH kZ (aH kL (aN 2 (bG K c) (aB (aD 0) (aB (mC (.int 42)) aT))) (mC (.int 7))) (mC (.int 3))) aT)))) (bU (i9 (bV (aH (eqE false) (aH kL (aN 2 (bG K c) (aB (aD 0) (aB (mC (.int 43)) aT))) (mC (.int 5))) (mC (.int 0)))) (dW (aK bQ (aB (aH kZ (aH kL (aH sN (aD 0) (mC (.int 48271))) (aH iD (aH sN (mC (.int 2)) (aH aB3 (mC (.int 10)) (mC (.int 12)))) (mC (.int 1)))) (aH aB3 (mC (.int 10)) (mC (.int 12)))) (aB (aH ixE (aD 1) (mC (.int 1))) aT)))) dX) (dW (aD 1))))
noncomputable def fO(ls:List L):Res L:=eK 2 (j5 K c) ls
theorem yY:∀ ls,fO K c ls=.bad\/eK 2 (j5 K c) ls=fO K c ls:=fun _=>.inr rfl
theorem aRp(cell:Int):∃ s:Int×Int,Sz 50 s.1/\Sz 50 s.2/\fO K c [.p (.int cell)]=.ok (.p (slD s)):=by
 obtain ⟨v1,a1,b1,e1⟩:=mT K c cell (k:=41) (by decide) (by decide)
 obtain ⟨v2,a2,b2,e2⟩:=mT K c cell (k:=42) (by decide) (by decide)
 obtain ⟨v3,a3,b3,e3⟩:=mT K c cell (k:=43) (by decide) (by decide)
 have p12:aJd 10 12:=⟨by decide,by decide,by decide⟩
 have x2:sN (.p (.int cell)) (.p (.int 48271))=.ok (.p (.int (cell*48271))):=aN5 (by decide) (by decide)
 have x3:sN (.p (.int 2)) (.p (.int (10 ^ Int.toNat 12)))=.ok (.p (.int (2*10 ^ Int.toNat 12))):=aA9 (.inr (.inl ⟨by decide,by decide⟩))
 have d7:(7:Int)≠0:=by decide
 have d5:(5:Int)≠0:=by decide
 have dn:(2*10 ^ Int.toNat 12+1:Int)≠0:=by decide
 have f1:=cT (a:=v1) (b:=7) (by decide)
 have f2:=cT (a:=v2) (b:=7) (by decide)
 have mm:=cT (a:=cell*48271) (b:=2*10 ^ Int.toNat 12+1) (by decide)
 have pw:(10:Int) ^ Int.toNat 12=1000000000000:=by decide
 unfold fO
 suffices h:∃ s:Int×Int,Sz 50 s.1/\Sz 50 s.2/\j5 K c (bD 2 [.p (.int cell)])=some (.rt (.p (slD s))) from let ⟨s,g1,g2,e⟩:=h;⟨s,g1,g2,bH e⟩
 rw [show bD 2 [.p (.int cell)]=[some (.p (.int cell)),none] from rfl]
 unfold j5
 have s1:(aK bQ (aB (aH kZ (aH kL (aN 2 (bG K c) (aB (aD 0) (aB (mC (.int 41)) aT))) (mC (.int 7))) (mC (.int 3))) (aB (aH kZ (aH kL (aN 2 (bG K c) (aB (aD 0) (aB (mC (.int 42)) aT))) (mC (.int 7))) (mC (.int 3))) aT))) [some (.p (.int cell)),none]=.ok (.p (slD (v1.fmod 7 - 3,v2.fmod 7 - 3))):=by
  ktr_call 11 ⟨e1,e2⟩
  rfl
 have t:bV (aH (eqE false) (aH kL (aN 2 (bG K c) (aB (aD 0) (aB (mC (.int 43)) aT))) (mC (.int 5))) (mC (.int 0))) [some (.p (.int cell)),some (.p (slD (v1.fmod 7 - 3,v2.fmod 7 - 3)))]=.ok (v3.fmod 5 == 0):=by
  ktr_call 11 ⟨e3⟩
  rfl
 have z2:Sz 50 (v2.fmod 7 - 3):=by unfold Sz;omega
 cases h:(v3.fmod 5 == 0) with
 | true =>
  rw [h] at t
  refine ⟨((cell*48271).fmod (2*10 ^ Int.toNat 12+1) - 10 ^ Int.toNat 12,v2.fmod 7 - 3),by unfold Sz;dsimp only;omega,z2,(aL (b9 s1)).trans (jA ((pL t).trans (dC ?_)))⟩
  have i1:ixE (.p (slD (v1.fmod 7 - 3,v2.fmod 7 - 3))) (.p (.int 1))=.ok (.p (.int (v2.fmod 7 - 3))):=i8 _ _ _
  ktr_call 11 ⟨x2,x3,i1⟩
  rfl
 | false =>
  rw [h] at t
  exact ⟨(v1.fmod 7 - 3,v2.fmod 7 - 3),by unfold Sz;dsimp only;omega,z2,(aL (b9 s1)).trans ((aL (nJ t)).trans (dC rfl))⟩
def mR(pt:Pt)(st:Int×Int)(p:Pl):Rw:=(p.1*st.1+p.2.1*st.2,hgt p pt)
def cL(pt:Pt)(st:Int×Int)(t:Int×Int):Pt:=(hP pt.1 (hT st.1 t),hP pt.2 (hT st.2 t))
theorem aO5{p:Pl}{pt:Pt}{st t:Int×Int}(h1:1<=pt.1.2)(h2:1<=pt.2.2)(h3:1<=p.2.2.2)(ht:1<=t.2):lh t (mR pt st p)=hgt p (cL pt st t):=by
 have a1:=aOh (aKx (i:=p.1*st.1+p.2.1*st.2) (AF.refl ht)) (aN0 (p:=p) (pt:=pt) (AF.refl h1) (AF.refl h2) (AF.refl h3))
 have b1:=aOh (AF.refl h1) (aKx (i:=st.1) (AF.refl ht))
 have b2:=aOh (AF.refl h2) (aKx (i:=st.2) (AF.refl ht))
 have a2:=aN0 (p:=p) (pt:=cL pt st t) b1 b2 (AF.refl h3)
 refine aQ1 (aJw ht (qJ h1 h2 h3).pos) (qJ b1.a b2.a h3) a1 a2 ?_
 dsimp only
 generalize pt.1.1=x1
 generalize pt.1.2=x2
 generalize pt.2.1=y1
 generalize pt.2.2=y2
 generalize p.2.2.1=u1
 generalize p.2.2.2=u2
 generalize t.1=t1
 generalize t.2=t2
 generalize st.1=s1
 generalize st.2=s2
 generalize p.2.1=j
 generalize p.1=i
 have e1:(i*(x1*t2+s1*t1*x2)*(y2*t2)+j*(y1*t2+s2*t1*y2)*(x2*t2))*u2+u1*(x2*t2*(y2*t2))=t2*((i*s1+j*s2)*t1*(x2*y2*u2)+((i*x1*y2+j*y1*x2)*u2+u1*(x2*y2))*t2):=by grind
 have e2:x2*t2*(y2*t2)*u2=t2*(t2*(x2*y2*u2)):=by grind
 rw [e1,e2]
 grind
structure GA(p:Pl)(pt:Pt)(st:Int×Int):Prop where
 q:GoodQ p pt
 r:GRl (mR pt st p)
def eAl(a:List Pl×Pt×(Int×Int)):List L:=[.p (.list (a.1.map plD)),.p (.tuple [frD a.2.1.1,frD a.2.1.2]),.p (slD a.2.2)]
theorem aP1(a b:List Pl×Pt×(Int×Int))(h:eAl a=eAl b):a=b:=by
 unfold eAl at h
 injection h with h1 h2
 injection h2 with h2 h3
 injection h3 with h3 _
 injection h1 with h1
 injection h1 with h1
 injection h2 with h2
 injection h3 with h3
 exact bBq (aV7 h1) (bBq (ptI h2) (oK _ _ h3))
theorem aTt(xs:List Rw):xE (.o (.list (xs.map lrD)))=true:=by unfold xE;exact aIx lrD (fun r=>by simp [lrD,frD,lfD,lfA]) _
def lnA(ps:List Pl)(pt:Pt)(st:Int×Int):List Rw:=kF (hbF (ps.map (mR pt st)))
theorem aKl{ps:List Pl}{pt:Pt}{st:Int×Int}(h0:ps≠[])(hg:∀ p∈ps,GA p pt st):lnA ps pt st≠[]/\(lnA ps pt st).length<=ps.length/\(∀ r∈lnA ps pt st,GRl r)/\uQ (lnA ps pt st):=by
 have hz:∀ r∈ps.map (mR pt st),GRl r:=fun r hr=>by
  obtain ⟨p,hp,rfl⟩:=bAa.mp hr
  exact (hg p hp).r
 obtain ⟨g1,g2,g3⟩:=uD (ps.map (mR pt st)) [] aC7 hz
 obtain ⟨o1,o2,o3⟩:=aIy (m:=hbF (ps.map (mR pt st))) g1
 rw [bAv,bB4,aZ0] at g2
 refine ⟨fun z=>?_,bA5 (bDn o1) g2,o2,o3⟩
 have:(kF (hbF (ps.map (mR pt st)))).length=0:=bCl List.length z
 rw [o1] at this
 exact g3 (.inl (by simpa using h0)) (bBh.mp this)
theorem aJc{rs:List Rw}(hl:rs.length<=200)(h:∀ r∈rs,GRl r):GLs rs:=⟨hl,fun r hr=>⟨(h r hr).1,(h r hr).pos,(h r hr).2.2.1,(h r hr).2.2.2⟩⟩
noncomputable def lV(K:aZz)(c:Cls):List L->Res L:=mOf eAl (fun a=>a.1≠[]/\a.1.length < 64/\(Sz 50 a.2.2.1/\Sz 50 a.2.2.2)/\∀ p∈a.1,GA p a.2.1 a.2.2) fun a=>.ok (.o (.list ((eY (lnA a.1 a.2.1 a.2.2)).map lrD)))
noncomputable def lE:En->Res Ev:=(aK bQ (aB (aH iD (aH eV (aH ixE (aD 0) (mC (.int 0))) (aH ixE (aD 2) (mC (.int 0)))) (aH eV (aH ixE (aD 0) (mC (.int 1))) (aH ixE (aD 2) (mC (.int 1))))) (aB (aN 2 (cH K c) (aB (aD 0) (aB (aD 1) aT))) aT)))
noncomputable def aB1:MS:=(bU (cO 3 (dJ 1 [1,2] (eX (aD 0)) (aJ 0) eR (lE K c))) (dW (aN 1 (dF K c) (aB (aN 1 (iV K c) (aB (aD 3) aT)) aT))))
theorem aK8:∀ ls,lV K c ls=.bad\/eK 4 (aB1 K c) ls=lV K c ls:=cJ fun a h=>by
 obtain ⟨ps,pt,st⟩:=a
 obtain ⟨h0,hl,⟨z1,z2⟩,hg⟩:=h
 dsimp only at h0 hl z1 z2 hg ⊢
 obtain ⟨n0,n1,n2,n3⟩:=aKl h0 hg
 have hm:nV (aV 1 [1,2] (aJ 0) eR (lE K c) [some (.p (.list (ps.map plD))),some (.p (.tuple [frD pt.1,frD pt.2])),some (.p (slD st)),none]) (ps.map plD)=some (ps.map fun p=>lrD (mR pt st p)):=by
  refine dR _ fun p hp=>?_
  have g:=hg p hp
  have hh:=aJ5 K c g.q
  have i0:ixE (.p (slD st)) (.p (.int 0))=.ok (.p (.int st.1)):=iY _ _
  have i1:ixE (.p (slD st)) (.p (.int 1))=.ok (.p (.int st.2)):=i8 _ _ _
  have c1:CMulW p.1 st.1:=⟨g.q.i.mono (by decide),z1.mono (by decide)⟩
  have c2:CMulW p.2.1 st.2:=⟨g.q.j.mono (by decide),z2.mono (by decide)⟩
  have he:lE K c [some (.p (plD p)),some (.p (.tuple [frD pt.1,frD pt.2])),some (.p (slD st))]=.ok (.p (lrD (mR pt st p))):=by
   ktr_call 11 ⟨lE,i0,i1,hh⟩
   rfl
  simp [aV,aJ,mF,sV,eR,he,Ev.c]
 have hc:=eB (n:=1) (js:=[1,2]) (fi:=eX (aD 0)) (tg:=aJ 0) (ft:=eR) (fe:=lE K c) (en:=[some (.p (.list (ps.map plD))),some (.p (.tuple [frD pt.1,frD pt.2])),some (.p (slD st)),none]) (ds:=ps.map plD) rfl (by rw [aZ0];omega) hm
 rw [show (ps.map fun p=>lrD (mR pt st p))=(ps.map (mR pt st)).map lrD by rw [bA3];rfl] at hc
 have gn:GLn (ps.map (mR pt st)):=⟨by simpa using h0,by rw [aZ0];exact hl,fun r hr=>by
  obtain ⟨p,hp,rfl⟩:=bAa.mp hr
  exact (hg p hp).r⟩
 have lo:iV K c [.p (.list ((ps.map (mR pt st)).map lrD))]=.ok (.o (.list ((lnA ps pt st).map lrD))):=aPd K c gn
 have lt:=aKt K c (aJc (rs:=lnA ps pt st) (by omega) n2)
 have hfl:=aTt
 refine bH ?_
 rw [show bD 4 (eAl (ps,pt,st))=[some (.p (.list (ps.map plD))),some (.p (.tuple [frD pt.1,frD pt.2])),some (.p (slD st)),none] from rfl]
 unfold aB1
 refine (aL (gH hc)).trans (xK ?_)
 ktr_call 3 ⟨aN,aB,aT,aD,mC,Res.bind,Ev.c,gN,eZ,oT,aEc,lo,lt,hfl,nX⟩
theorem aGq{ps:List Pl}{pt:Pt}{st:Int×Int}(h0:ps≠[])(hl:ps.length < 64)(z1:Sz 50 st.1)(z2:Sz 50 st.2)(hg:∀ p∈ps,GA p pt st):lV K c [.p (.list (ps.map plD)),.p (.tuple [frD pt.1,frD pt.2]),.p (slD st)]=.ok (.o (.list ((eY (lnA ps pt st)).map lrD))):=cK (a:=(ps,pt,st)) aP1 ⟨h0,hl,⟨z1,z2⟩,hg⟩
theorem aE7{m n:Nat}{x y:Int×Int}(hx:Sz m x.2)(hy:Sz n y.2):Sz (m+n) (hP x y).2:=Sz.le (Sz.mul hx hy) (bA7 _ _)
theorem aAi{n:Nat}{i:Int}{x:Int×Int}(hx:Sz n x.2):Sz n (hT i x).2:=Sz.le (y:=1*x.2) (by rw [bFu];exact hx) (bA7 _ _)
theorem aO0{s:Int×Int}(h:S8 s):Sz 4 s.1/\Sz 4 s.2:=by
 have:=h.a
 have:=h.b
 have:=h.c
 have:=h.d
 constructor<;>(unfold Sz;omega)
theorem aK3{p:Pl}{pt:Pt}{st:Int×Int}(gp:GPn p)(g1:GN pt.1)(g2:GN pt.2)(z1:Sz 50 st.1)(z2:Sz 50 st.2):GA p pt st:=by
 obtain ⟨a,b⟩:=aO0 gp.s
 have gg:Good 300 (hgt p pt):=(mK (mK (gR a g1.good) (gR b g2.good)) gp.h.good).mono (by decide)
 refine ⟨⟨a.mono (by decide),b.mono (by decide),gp.h.good.mono (by decide),g1.good.mono (by decide),g2.good.mono (by decide)⟩,(N.Sz.addM (Sz.mul a z1) (Sz.mul b z2)).mono (by decide),qJ g1.f.pos g2.f.pos gp.h.f.pos,gg.2.1,?_⟩
 exact (aE7 (aE7 (aAi g1.b) (aAi g2.b)) gp.h.b).mono (by decide)
abbrev Bd:=(Int×Int)×Int
def bdD(b:Bd):D:=.tuple [frD b.1,.int b.2]
def bb(a b:Rw):Bd:=(hO (hM a.2 b.2) (b.1 - a.1,1),b.1 - a.1)
def bbs:List Rw->List Bd
 | a :: b :: r=>bb a b :: bbs (b :: r)
 | _=>[]
theorem aZw{x x' y y':Int×Int}(h:AF x x')(g:AF y y'):AF (hM x y) (x'.1*y'.2 - y'.1*x'.2,x'.2*y'.2):=by
 obtain ⟨a,b,e⟩:=h
 obtain ⟨a2,b2,e2⟩:=g
 refine xA (dG a a2) (dG b b2) ?_
 show (x.1*y.2 - y.1*x.2)*(x'.2*y'.2)=(x'.1*y'.2 - y'.1*x'.2)*(x.2*y.2)
 grind
theorem aZp{x x':Int×Int}{w:Int}(hw:1<=w)(h:AF x x'):AF (hO x (w,1)) (x'.1,x'.2*w):=by
 obtain ⟨a,b,e⟩:=h
 refine xA (dG a hw) (dG b hw) ?_
 show x.1*1*(x'.2*w)=x'.1*(x.2*w)
 grind
theorem aXh{x y:Int×Int}(hx:1<=x.2)(hy:1<=y.2):FR.Fr (hM x y):=sD (dG hx hy)
structure Rb(J:List Bd):Prop where
 s:J.Pairwise fun a b=>ltF a.1 b.1=true
 f:∀ b∈J,FR.Fr b.1/\1<=b.2
def eR2(a:Rw×Rw):List L:=[.p (lrD a.1),.p (lrD a.2)]
theorem aR8(a b:Rw×Rw)(h:eR2 a=eR2 b):a=b:=by
 unfold eR2 at h
 injection h with h1 h2
 injection h2 with h2 _
 injection h1 with h1
 injection h2 with h2
 exact bBq (lrI h1) (lrI h2)
def GR2(a b:Rw):Prop:=a.1 < b.1/\Sz 100 a.1/\Sz 100 b.1/\Good 300 a.2/\Good 300 b.2
noncomputable def eG(K:aZz)(c:Cls):List L->Res L:=mOf eR2 (fun a=>GR2 a.1 a.2) fun a=>.ok (.p (bdD (bb a.1 a.2)))
noncomputable def kR:MS:=(bU (cO 2 (aH kZ (aH ixE (aD 1) (mC (.int 0))) (aH ixE (aD 0) (mC (.int 0))))) (dW (aK bQ (aB (aN 2 (nZ K c) (aB (aN 2 (kA K c) (aB (aH ixE (aD 0) (mC (.int 1))) (aB (aH ixE (aD 1) (mC (.int 1))) aT))) (aB (aK bQ (aB (aD 2) (aB (mC (.int 1)) aT))) aT))) (aB (aD 2) aT)))))
theorem tD:∀ ls,eG K c ls=.bad\/eK 3 (kR K c) ls=eG K c ls:=cJ fun x h=>by
 obtain ⟨a,b⟩:=x
 obtain ⟨h,z1,z2,g1,g2⟩:=h
 dsimp only at h z1 z2 g1 g2 ⊢
 have ne:a.2.2*b.2.2≠0:=by have:=dG g1.1 g2.1;omega
 have gm:Good 700 (hM a.2 b.2):=oE ((N.Sz.subM (Sz.mul g1.2.1 g2.2.2) (Sz.mul g2.2.1 g1.2.2)).mono (by decide)) ((Sz.mul g1.2.2 g2.2.2).mono (by decide)) ne
 have ov:=aD7 K c (x:=hM a.2 b.2) (y:=(b.1 - a.1,1)) (gm.mono (by decide)).fsz ⟨(N.Sz.subM z2 z1).mono (by decide),aC8⟩ (by have:=dG gm.1 (show 1<=b.1 - a.1 by omega);show (hM a.2 b.2).2*(b.1 - a.1)≠0;omega)
 refine bH ?_
 rw [show bD 3 (eR2 (a,b))=[some (.p (lrD a)),some (.p (lrD b)),none] from rfl]
 unfold kR
 exact (aL (b9 (aQ rfl rfl (aI4 b) |> fun z=>aQ z (aQ rfl rfl (aI4 a)) (hX _ _)))).trans (dC (uP (dD (b:=frD (b.1 - a.1,1)) (dD (aQ rfl rfl (aIo a)) (aQ rfl rfl (aIo b)) (vI K c g1 g2 (by decide) (by decide))) (uP rfl rfl) ov) rfl))
theorem aVq{a b:Rw}(h:GR2 a b):eG K c [.p (lrD a),.p (lrD b)]=.ok (.p (bdD (bb a b))):=cK (a:=(a,b)) aR8 h
theorem pP:∀ fs:List Rw,bbs fs=(List.range (fs.length - 1)).map fun k=>bb (fs.getD k (0,(0,1))) (fs.getD (k+1) (0,(0,1)))
 | []=>rfl
 | [a]=>rfl
 | a :: b :: r=>by
  unfold bbs
  rw [pP (b :: r),show (a :: b :: r).length - 1=(b :: r).length - 1+1 by simp,List.range_succ_eq_map,bAb,bA3]
  rfl
def bsD(fs:List Rw):D:=.tuple [.int (fs.headD (0,(0,1))).1,frD (fs.headD (0,(0,1))).2,.list ((bbs fs).map bdD)]
noncomputable def jT(K:aZz)(c:Cls):List L->Res L:=mOf eLs (fun rs=>GLs rs/\rs≠[]/\uQ rs) fun rs=>.ok (.p (bsD (eY rs)))
noncomputable def qB:En->Res Ev:=(aN 2 (eG K c) (aB (aH ixE (aD 1) (aH kZ (aD 0) (mC (.int 1)))) (aB (aH ixE (aD 1) (aD 0)) aT)))
noncomputable def aB2:MS:=(bU (cO 1 (aN 1 (dF K c) (aB (aD 0) aT))) (fun en=>(bU (cO 2 (dJ 1 [1] (yF aEz (aB (mC (.int 1)) (aB (aK jM (aB (aD 1) aT)) aT))) (aJ 0) eR (qB K c))) (fun en=>(dW (aK bQ (aB (aH ixE (aH ixE (aD 1) (mC (.int 0))) (mC (.int 0))) (aB (aH ixE (aH ixE (aD 1) (mC (.int 0))) (mC (.int 1))) (aB (aD 2) aT))))) (frz 2 en))) (frz 1 en)))
theorem xH{rs:List Rw}(h0:rs≠[])(hr:uQ rs):∃ x r,eY rs=x :: r:=by
 have:=(qD h0 hr).hd
 cases e:eY rs with
 | nil=>rw [e] at this;cases rs with
  | nil=>exact absurd rfl h0
  | cons _ _=>cases this
 | cons x r=>exact ⟨x,r,rfl⟩
theorem aJa{r:Rw}(h:Sz 100 r.1/\1<=r.2.2/\Sz 300 r.2.1/\Sz 20 r.2.2):Good 300 r.2:=⟨h.2.1,h.2.2.1,h.2.2.2.mono (by decide)⟩
theorem aUx{n:Nat}(h:n<=1000):aEz [.p (.int 1),.p (.int (n:Int))]=.ok (aFz 1 (n - 1)):=by
 unfold aEz
 dsimp only
 rw [bAc ⟨by decide,by decide,by omega,by omega⟩,show ((n:Int) - 1).toNat=n - 1 by omega]
theorem aLl:∀ ls,jT K c ls=.bad\/eK 3 (aB2 K c) ls=jT K c ls:=cJ fun rs h=>by
 obtain ⟨h1,h0,hr⟩:=h
 obtain ⟨x,r,er⟩:=xH h0 hr
 have sub:=(qD h0 hr).sub
 have rise:uQ (eY rs):=bAz sub hr
 have gl:∀ q∈eY rs,Sz 100 q.1/\1<=q.2.2/\Sz 300 q.2.1/\Sz 20 q.2.2:=fun q hq=>h1.2 q (sub.subset hq)
 have ll:(eY rs).length<=200:=bA5 sub.length_le h1.1
 have l1:=aKt K c h1
 refine bH ?_
 rw [show bD 3 (eLs rs)=[some (.p (.list (rs.map lrD))),none,none] from rfl]
 unfold aB2
 refine (aL (gH (pS rfl rfl l1))).trans ?_
 generalize eY rs=fs at *
 refine mQ (i:=1) (e1:=[some (.p (.list (rs.map lrD))),some (.p (.list (fs.map lrD))),none]) rfl ?_
 have cm:dJ 1 [1] (yF aEz (aB (mC (.int 1)) (aB (aK jM (aB (aD 1) aT)) aT))) (aJ 0) eR (qB K c) [some (.p (.list (rs.map lrD))),some (.p (.list (fs.map lrD))),none]=.ok (.f (.list ((bbs fs).map bdD))):=by
  rw [pP,bA3]
  refine eB (ds:=aFz 1 (fs.length - 1)) (itA (bP rfl (bP (aRg (ds:=fs.map lrD) rfl rfl) rfl)) (by rw [aZ0];exact aUx (by omega))) (by unfold aFz;rw [aZ0,bB5];omega) (aFk _ _ fun k hk=>?_)
  have b1:k < fs.length:=by omega
  have b2:k+1 < fs.length:=by omega
  have e1:fs[k]? = some (fs.getD k (0,(0,1))):=by simp [List.getD,b1]
  have e2:fs[k+1]? = some (fs.getD (k+1) (0,(0,1))):=by simp [List.getD,b2]
  have m1:=bAq e1
  have m2:=bAq e2
  have ok:=aVq K c (a:=fs.getD k (0,(0,1))) (b:=fs.getD (k+1) (0,(0,1))) ⟨kB rise e1 e2,(gl _ m1).1,(gl _ m2).1,aJa (gl _ m1),aJa (gl _ m2)⟩
  have he:qB K c [some (.p (.int (1+(k:Int)))),some (.p (.list (fs.map lrD)))]=.ok (.p (bdD (bb (fs.getD k (0,(0,1))) (fs.getD (k+1) (0,(0,1)))))) :=
   dD (aQ rfl (aQ rfl rfl (hX _ _)) (uN (xs:=fs) (enc:=lrD) (d:=(0,(0,1))) rfl b1 (by omega))) (aQ rfl rfl (uN (xs:=fs) (enc:=lrD) (d:=(0,(0,1))) rfl b2 (by omega))) ok
  unfold aV
  ktr_call 3 ⟨aJ,eR,mF,sV,List.replicate,bAm,bAw,he,Ev.c⟩
  rfl
 refine (aL (gH cm)).trans ?_
 refine mQ (i:=2) (e1:=[some (.p (.list (rs.map lrD))),some (.p (.list (fs.map lrD))),some (.p (.list ((bbs fs).map bdD)))]) rfl ?_
 subst er
 have i0:ixE (.p (.list ((x :: r).map lrD))) (.p (.int 0))=.ok (.p (lrD x)):=uN (xs:=x :: r) (enc:=lrD) (d:=x) (k:=0) rfl (by simp) rfl
 exact dC (aV3 (aQ (aQ rfl rfl i0) rfl (aI4 x)) (aQ (aQ rfl rfl i0) rfl (aIo x)) rfl)
theorem aD9{rs:List Rw}(h:GLs rs)(h0:rs≠[])(hr:uQ rs):jT K c [.p (.list (rs.map lrD))]=.ok (.p (bsD (eY rs))):=cK (a:=rs) xF ⟨h,h0,hr⟩
def ePl(p:Pl):List L:=[.p (plD p)]
theorem aPx(a b:Pl)(h:ePl a=ePl b):a=b:=by
 unfold ePl at h
 injection h with h _
 injection h with h
 exact plI h
noncomputable def e8(K:aZz)(c:Cls):List L->Res L:=mOf ePl (fun _=>True) fun p=>.ok (.p (slD (slp p)))
noncomputable def pV(K:aZz)(c:Cls):MS:=(dW (aK bQ (aB (aH ixE (aD 0) (mC (.int 0))) (aB (aH ixE (aD 0) (mC (.int 1))) aT))))
theorem aBr:∀ ls,e8 K c ls=.bad\/eK 1 (pV K c) ls=e8 K c ls:=cJ fun p _=>by
 refine bH ?_
 rw [show bD 1 (ePl p)=[some (.p (plD p))] from rfl]
 unfold pV
 refine dC ?_
 walk_at "2"
 rfl
theorem vJ(p:Pl):e8 K c [.p (plD p)]=.ok (.p (slD (slp p))):=cK (a:=p) aPx trivial
def aNf(a:Pl×Pl):List L:=[.p (plD a.1),.p (plD a.2)]
theorem xI(a b:Pl×Pl)(h:aNf a=aNf b):a=b:=by
 unfold aNf at h
 injection h with h1 h
 injection h with h2 _
 injection h1 with h1
 injection h2 with h2
 exact bBq (plI h1) (plI h2)
def wgt(p q:Pl):Int:=(Int.gcd (q.1 - p.1) (q.2.1 - p.2.1):Nat)
def stp(p q:Pl):Int×Int:=((q.2.1 - p.2.1).fdiv (wgt p q),(p.1 - q.1).fdiv (wgt p q))
def Un(p q:Pl):Prop:=q.1 - p.1≠0\/q.2.1 - p.2.1≠0
theorem uJ{p q:Pl}(h:Un p q):1<=wgt p q:=by
 unfold wgt
 have:0 < Int.gcd (q.1 - p.1) (q.2.1 - p.2.1):=by
  rcases h with h | h
  ·exact Int.gcd_pos_of_ne_zero_left _ h
  ·exact bCd _ h
 omega
theorem u9(p:Pl):ixE (.p (plD p)) (.p (.int 0))=.ok (.p (.int p.1)):=rfl
theorem u7(p:Pl):ixE (.p (plD p)) (.p (.int 1))=.ok (.p (.int p.2.1)):=rfl
theorem aUt(p:Pl):ixE (.p (plD p)) (.p (.int 2))=.ok (.p (frD p.2.2)):=rfl
noncomputable def eI(K:aZz)(c:Cls):List L->Res L:=mOf aNf (fun _=>True) fun a=>.ok (.p (.int (wgt a.1 a.2)))
noncomputable def oO:MS:=(dW (aN 2 (bF K c) (aB (aH kZ (aH ixE (aD 1) (mC (.int 0))) (aH ixE (aD 0) (mC (.int 0)))) (aB (aH kZ (aH ixE (aD 1) (mC (.int 1))) (aH ixE (aD 0) (mC (.int 1)))) aT))))
theorem yQ:∀ ls,eI K c ls=.bad\/eK 2 (oO K c) ls=eI K c ls:=cJ fun a _=>by
 obtain ⟨p,q⟩:=a
 refine bH ?_
 rw [show bD 2 (aNf (p,q))=[some (.p (plD p)),some (.p (plD q))] from rfl]
 unfold oO
 exact dC (dD (aQ (aQ rfl rfl (u9 q)) (aQ rfl rfl (u9 p)) (hX _ _)) (aQ (aQ rfl rfl (u7 q)) (aQ rfl rfl (u7 p)) (hX _ _)) (wO K c _ _))
theorem aOj(p q:Pl):eI K c [.p (plD p),.p (plD q)]=.ok (.p (.int (wgt p q))):=cK (a:=(p,q)) xI trivial
def Nr(p q:Pl):Prop:=(q.1 - p.1).natAbs<=8/\(q.2.1 - p.2.1).natAbs<=8
theorem Nr.sym{p q:Pl}(h:Nr p q):Nr q p:=⟨by have:=h.1;omega,by have:=h.2;omega⟩
theorem Un.sym{p q:Pl}(h:Un p q):Un q p:=by rcases h with h | h;exact .inl (by omega);exact .inr (by omega)
theorem aJp(p q:Pl):wgt p q∣q.1 - p.1/\wgt p q∣q.2.1 - p.2.1:=⟨bFy _ _,bFe _ _⟩
theorem aR5(p q:Pl):wgt q p=wgt p q:=by
 unfold wgt
 rw [<- Int.neg_sub q.1 p.1,<- Int.neg_sub q.2.1 p.2.1,Int.neg_gcd,Int.gcd_neg]
theorem aOf{p q:Pl}(h:Un p q)(n:Nr p q):Sz 5 (wgt p q):=by
 have w:=uJ h
 obtain ⟨d1,d2⟩:=aJp p q
 unfold Sz
 rcases h with h | h
 ·have:=bFv (by omega) (bC7.mpr d1);have:=n.1;omega
 ·have:=bFv (by omega) (bC7.mpr d2);have:=n.2;omega
def Dr(p q:Pl)(o:Int×Int):Prop:=(wgt p q*o.1=q.2.1 - p.2.1/\wgt p q*o.2=p.1 - q.1)\/(wgt p q*o.1=p.2.1 - q.2.1/\wgt p q*o.2=q.1 - p.1)
theorem aEg{w x:Int}(hw:1<=w)(h:w∣x):w*x.fdiv w=x:=by
 obtain ⟨k,rfl⟩:=h
 rw [bBj _ (by omega)]
theorem aN6{p q:Pl}(h:Un p q):wgt p q*(stp p q).1=q.2.1 - p.2.1/\wgt p q*(stp p q).2=p.1 - q.1:=by
 have w:=uJ h
 obtain ⟨d1,d2⟩:=aJp p q
 refine ⟨aEg w d2,aEg w ?_⟩
 have:=Int.dvd_neg.mpr d1
 rw [Int.neg_sub] at this
 exact this
theorem aVg{p q:Pl}{o:Int×Int}(h:Un p q)(n:Nr p q)(d:Dr p q o):Sz 5 o.1/\Sz 5 o.2:=by
 have w:=uJ h
 have le:∀ {x y:Int},wgt p q*x=y->y.natAbs<=8->Sz 5 x:=fun {x y} e hy=>by
  have:x.natAbs<=y.natAbs:=by
   rw [<- e,bE6]
   exact Nat.le_mul_of_pos_left _ (by omega)
  unfold Sz
  omega
 obtain ⟨n1,n2⟩:=n
 rcases d with ⟨a,b⟩ | ⟨a,b⟩
 ·exact ⟨le a n2,le b (by omega)⟩
 ·exact ⟨le a (by omega),le b n1⟩
theorem Dr.neg{p q:Pl}{o:Int×Int}(d:Dr p q o):Dr p q (-o.1,-o.2):=by
 rcases d with ⟨a,b⟩ | ⟨a,b⟩
 ·exact .inr ⟨by show wgt p q*-o.1=_;rw [bFq,a];omega,by show wgt p q*-o.2=_;rw [bFq,b];omega⟩
 ·exact .inl ⟨by show wgt p q*-o.1=_;rw [bFq,a];omega,by show wgt p q*-o.2=_;rw [bFq,b];omega⟩
theorem aKn{p q:Pl}{o:Int×Int}(h:Un p q)(d:Dr p q o)(s:Int×Int):wgt p q*((o.1*s.2 - o.2*s.1).natAbs:Int)=(((q.1 - p.1)*s.1+(q.2.1 - p.2.1)*s.2).natAbs:Int):=by
 have w:=uJ h
 have e:((wgt p q).natAbs:Int)=wgt p q:=by omega
 conv=>lhs;arg 1;rw [<- e]
 rw [<- Int.natCast_mul,<- bE6]
 rcases d with ⟨a,b⟩ | ⟨a,b⟩
 ·have:wgt p q*(o.1*s.2 - o.2*s.1)=(q.1 - p.1)*s.1+(q.2.1 - p.2.1)*s.2:=by grind
  rw [this]
 ·have:wgt p q*(o.1*s.2 - o.2*s.1) = -((q.1 - p.1)*s.1+(q.2.1 - p.2.1)*s.2):=by grind
  rw [this,bGc]
noncomputable def iW(K:aZz)(c:Cls):List L->Res L:=mOf aNf (fun a=>Un a.1 a.2/\Nr a.1 a.2) fun a=>.ok (.p (slD (stp a.1 a.2)))
noncomputable def tR:MS:=(bU (cO 2 (aN 2 (eI K c) (aB (aD 0) (aB (aD 1) aT)))) (dW (aK bQ (aB (aH j6 (aH kZ (aH ixE (aD 1) (mC (.int 1))) (aH ixE (aD 0) (mC (.int 1)))) (aD 2)) (aB (aH j6 (aH kZ (aH ixE (aD 0) (mC (.int 0))) (aH ixE (aD 1) (mC (.int 0)))) (aD 2)) aT)))))
theorem aE0:∀ ls,iW K c ls=.bad\/eK 3 (tR K c) ls=iW K c ls:=cJ fun a h=>by
 obtain ⟨p,q⟩:=a
 obtain ⟨u,n⟩:=h
 dsimp only at u n ⊢
 have w:=uJ u
 have d:∀ x:Int,j6 (.p (.int x)) (.p (.int (wgt p q)))=.ok (.p (.int (x.fdiv (wgt p q)))):=fun x=>i6 ⟨by omega,(aOf u n).mono (by decide)⟩
 refine bH ?_
 rw [show bD 3 (aNf (p,q))=[some (.p (plD p)),some (.p (plD q)),none] from rfl]
 unfold tR
 exact (aL (b9 (dD rfl rfl (aOj K c p q)))).trans (dC (uP (aQ (aQ (aQ rfl rfl (u7 q)) (aQ rfl rfl (u7 p)) (hX _ _)) rfl (d _)) (aQ (aQ (aQ rfl rfl (u9 p)) (aQ rfl rfl (u9 q)) (hX _ _)) rfl (d _))))
theorem aOt{p q:Pl}(u:Un p q)(n:Nr p q):iW K c [.p (plD p),.p (plD q)]=.ok (.p (slD (stp p q))):=cK (a:=(p,q)) xI ⟨u,n⟩
def aSt(s:Int×Int):List L:=[.p (slD s)]
theorem aNl(a b:Int×Int)(h:aSt a=aSt b):a=b:=by
 unfold aSt at h
 injection h with h _
 injection h with h
 exact frI h
noncomputable def dE(K:aZz)(c:Cls):List L->Res L:=mOf aSt (fun _=>True) fun s=>.ok (.p (slD (-s.1,-s.2)))
noncomputable def kQ(K:aZz)(c:Cls):MS:=(dW (aK bQ (aB (mUn qF (aH ixE (aD 0) (mC (.int 0)))) (aB (mUn qF (aH ixE (aD 0) (mC (.int 1)))) aT))))
theorem sC:∀ ls,dE K c ls=.bad\/eK 1 (kQ K c) ls=dE K c ls:=cJ fun s _=>by
 have ng:∀ x:Int,qF (.p (.int x))=.ok (.p (.int (-x))):=fun _=>rfl
 have i0:ixE (.p (slD s)) (.p (.int 0))=.ok (.p (.int s.1)):=iY _ _
 have i1:ixE (.p (slD s)) (.p (.int 1))=.ok (.p (.int s.2)):=i8 _ _ _
 refine bH ?_
 rw [show bD 1 (aSt s)=[some (.p (slD s))] from rfl]
 unfold kQ
 exact dC (uP (aRj (aQ rfl rfl i0) (ng _)) (aRj (aQ rfl rfl i1) (ng _)))
theorem aVo(s:Int×Int):dE K c [.p (slD s)]=.ok (.p (slD (-s.1,-s.2))):=cK (a:=s) aNl trivial
def sqr(p q:Pl):Int:=(q.1 - p.1)*(q.1 - p.1)+(q.2.1 - p.2.1)*(q.2.1 - p.2.1)
def lvl(p q:Pl):Pt:=(FR.mk (-(q.1 - p.1)*(q.2.2.1 - p.2.2.1)) (sqr p q),FR.mk (-(q.2.1 - p.2.1)*(q.2.2.1 - p.2.2.1)) (sqr p q))
theorem aOx{p q:Pl}(u:Un p q)(n:Nr p q):1<=sqr p q/\Sz 8 (sqr p q):=by
 obtain ⟨n1,n2⟩:=n
 unfold sqr Un at *
 generalize q.1 - p.1=a at *
 generalize q.2.1 - p.2.1=b at *
 have key:∀ x:Int,x.natAbs<=8->0<=x*x/\x*x<=64/\(x≠0->1<=x*x):=fun x hx=>by
  rw [<- Int.natAbs_mul_self' x]
  have:x.natAbs=0\/x.natAbs=1\/x.natAbs=2\/x.natAbs=3\/x.natAbs=4\/x.natAbs=5\/x.natAbs=6\/x.natAbs=7\/x.natAbs=8:=by omega
  rcases this with e | e | e | e | e | e | e | e | e<;>rw [e]<;>refine ⟨by decide,by decide,fun h=>?_⟩<;>first | decide | (exfalso;omega)
 obtain ⟨a1,a2,a3⟩:=key a n1
 obtain ⟨b1,b2,b3⟩:=key b n2
 refine ⟨?_,by unfold Sz;omega⟩
 rcases u with h | h
 ·have:=a3 h;omega
 ·have:=b3 h;omega
theorem aTs{p q:Pl}(n:Nr p q):Sz 5 (q.1 - p.1)/\Sz 5 (q.2.1 - p.2.1):=⟨by have:=n.1;unfold Sz;omega,by have:=n.2;unfold Sz;omega⟩
noncomputable def eT(K:aZz)(c:Cls):List L->Res L:=mOf aNf (fun a=>Un a.1 a.2/\Nr a.1 a.2/\Sz 213 a.1.2.2.1/\Sz 213 a.2.2.2.1) fun a=>.ok (.p (.tuple [frD (lvl a.1 a.2).1,frD (lvl a.1 a.2).2]))
noncomputable def lU:MS:=(bU (cO 2 (aH kZ (aH ixE (aD 1) (mC (.int 0))) (aH ixE (aD 0) (mC (.int 0))))) (bU (cO 3 (aH kZ (aH ixE (aD 1) (mC (.int 1))) (aH ixE (aD 0) (mC (.int 1))))) (bU (cO 4 (aH kZ (aH ixE (aH ixE (aD 1) (mC (.int 2))) (mC (.int 0))) (aH ixE (aH ixE (aD 0) (mC (.int 2))) (mC (.int 0))))) (bU (cO 5 (aH iD (aH eV (aD 2) (aD 2)) (aH eV (aD 3) (aD 3)))) (dW (aK bQ (aB (aN 2 (bL K c) (aB (aH eV (mUn qF (aD 2)) (aD 4)) (aB (aD 5) aT))) (aB (aN 2 (bL K c) (aB (aH eV (mUn qF (aD 3)) (aD 4)) (aB (aD 5) aT))) aT))))))))
theorem aMd{p q:Pl}(u:Un p q)(n:Nr p q)(z1:Sz 213 p.2.2.1)(z2:Sz 213 q.2.2.1):(FR.Fr (lvl p q).1/\Sz 230 (lvl p q).1.1/\Sz 8 (lvl p q).1.2)/\(FR.Fr (lvl p q).2/\Sz 230 (lvl p q).2.1/\Sz 8 (lvl p q).2.2):=by
 obtain ⟨s1,s2⟩:=aOx u n
 obtain ⟨a,b⟩:=aTs n
 have r:=N.Sz.subM z2 z1
 have h0:sqr p q≠0:=by omega
 exact ⟨⟨(FR.sS h0).1,(Sz.le (Sz.mul (L2.Sz.neg a) r) (bA7 _ _)).mono (by decide),Sz.le s2 (bA7 _ _)⟩,⟨(FR.sS h0).1,(Sz.le (Sz.mul (L2.Sz.neg b) r) (bA7 _ _)).mono (by decide),Sz.le s2 (bA7 _ _)⟩⟩
theorem uX:∀ ls,eT K c ls=.bad\/eK 6 (lU K c) ls=eT K c ls:=cJ fun a h=>by
 obtain ⟨p,q⟩:=a
 obtain ⟨u,n,z1,z2⟩:=h
 dsimp only at u n z1 z2 ⊢
 obtain ⟨s1,s2⟩:=aOx u n
 obtain ⟨a,b⟩:=aTs n
 have r:=N.Sz.subM z2 z1
 have fk:∀ t:Int,bL K c [.p (.int t),.p (.int (sqr p q))]=.ok (.p (frD (FR.mk t (sqr p q)))):=fun t=>mJ K c (by omega) (s2.mono (by decide))
 have ng:∀ x:Int,qF (.p (.int x))=.ok (.p (.int (-x))):=fun _=>rfl
 have ml:∀ {x y:Int},Sz 300 x->Sz 300 y->eV (.p (.int x)) (.p (.int y))=.ok (.p (.int (x*y))):=fun hx hy=>jV ⟨hx.mono (by decide),hy.mono (by decide)⟩
 have f0:∀ y:Pl,ixE (.p (frD y.2.2)) (.p (.int 0))=.ok (.p (.int y.2.2.1)):=fun y=>iY _ _
 refine bH ?_
 rw [show bD 6 (aNf (p,q))=[some (.p (plD p)),some (.p (plD q)),none,none,none,none] from rfl]
 unfold lU
 refine (aL (b9 (aQ (aQ rfl rfl (u9 q)) (aQ rfl rfl (u9 p)) (hX _ _)))).trans ?_
 refine (aL (b9 (aQ (aQ rfl rfl (u7 q)) (aQ rfl rfl (u7 p)) (hX _ _)))).trans ?_
 refine (aL (b9 (aQ (aQ (aQ rfl rfl (aUt q)) rfl (f0 q)) (aQ (aQ rfl rfl (aUt p)) rfl (f0 p)) (hX _ _)))).trans ?_
 refine (aL (b9 (d:=.int (sqr p q)) (aQ (aQ rfl rfl (ml (a.mono (by decide)) (a.mono (by decide)))) (aQ rfl rfl (ml (b.mono (by decide)) (b.mono (by decide)))) (lF _ _)))).trans ?_
 exact dC (uP (dD (aQ (aRj rfl (ng _)) rfl (ml ((L2.Sz.neg a).mono (by decide)) (r.mono (by decide)))) rfl (fk _)) (dD (aQ (aRj rfl (ng _)) rfl (ml ((L2.Sz.neg b).mono (by decide)) (r.mono (by decide)))) rfl (fk _)))
theorem aSx{p q:Pl}(u:Un p q)(n:Nr p q)(z1:Sz 213 p.2.2.1)(z2:Sz 213 q.2.2.1):eT K c [.p (plD p),.p (plD q)]=.ok (.p (.tuple [frD (lvl p q).1,frD (lvl p q).2])):=cK (a:=(p,q)) xI ⟨u,n,z1,z2⟩
def eGo(a:Pt×(Int×Int)×(Int×Int)):List L:=[.p (.tuple [frD a.1.1,frD a.1.2]),.p (slD a.2.1),.p (frD a.2.2)]
theorem aJ8(a b:Pt×(Int×Int)×(Int×Int))(h:eGo a=eGo b):a=b:=by
 unfold eGo at h
 injection h with h1 h
 injection h with h2 h
 injection h with h3 _
 injection h1 with h1
 injection h2 with h2
 injection h3 with h3
 exact bBq (ptI h1) (bBq (frI h2) (frI h3))
structure GO(a:Pt×(Int×Int)×(Int×Int)):Prop where
 x:Good 300 a.1.1
 y:Good 300 a.1.2
 s:Sz 5 a.2.1.1/\Sz 5 a.2.1.2
 t:Good 900 a.2.2
noncomputable def uC(K:aZz)(c:Cls):List L->Res L:=mOf eGo GO fun a=>.ok (.p (.tuple [frD (cL a.1 a.2.1 a.2.2).1,frD (cL a.1 a.2.1 a.2.2).2]))
noncomputable def aKi:MS:=(dW (aK bQ (aB (aN 2 (jD K c) (aB (aH ixE (aD 0) (mC (.int 0))) (aB (aN 2 (gX K c) (aB (aK bQ (aB (aH ixE (aD 1) (mC (.int 0))) (aB (mC (.int 1)) aT))) (aB (aD 2) aT))) aT))) (aB (aN 2 (jD K c) (aB (aH ixE (aD 0) (mC (.int 1))) (aB (aN 2 (gX K c) (aB (aK bQ (aB (aH ixE (aD 1) (mC (.int 1))) (aB (mC (.int 1)) aT))) (aB (aD 2) aT))) aT))) aT))))
theorem aQi:∀ ls,uC K c ls=.bad\/eK 3 (aKi K c) ls=uC K c ls:=cJ fun a h=>by
 obtain ⟨pt,st,t⟩:=a
 obtain ⟨x,y,⟨s1,s2⟩,ht⟩:=h
 dsimp only at x y s1 s2 ht ⊢
 have g1:=gR s1 ht
 have g2:=gR s2 ht
 have i0:ixE (.p (.tuple [frD pt.1,frD pt.2])) (.p (.int 0))=.ok (.p (frD pt.1)):=iY _ _
 have i1:ixE (.p (.tuple [frD pt.1,frD pt.2])) (.p (.int 1))=.ok (.p (frD pt.2)):=i8 _ _ _
 have j0:ixE (.p (slD st)) (.p (.int 0))=.ok (.p (.int st.1)):=iY _ _
 have j1:ixE (.p (slD st)) (.p (.int 1))=.ok (.p (.int st.2)):=i8 _ _ _
 have t1:=nK K c (s1.mono (show 5<=2000 by decide)) ht (by decide)
 have t2:=nK K c (s2.mono (show 5<=2000 by decide)) ht (by decide)
 have p1:=lC K c x g1 (by decide) (by decide)
 have p2:=lC K c y g2 (by decide) (by decide)
 refine bH ?_
 rw [show bD 3 (eGo (pt,st,t))=[some (.p (.tuple [frD pt.1,frD pt.2])),some (.p (slD st)),some (.p (frD t))] from rfl]
 unfold aKi
 exact dC (uP (dD (aQ rfl rfl i0) (dD (b:=frD t) (uP (aQ rfl rfl j0) rfl) rfl t1) p1) (dD (aQ rfl rfl i1) (dD (b:=frD t) (uP (aQ rfl rfl j1) rfl) rfl t2) p2))
theorem aRq{pt:Pt}{st t:Int×Int}(h:GO (pt,st,t)):uC K c [.p (.tuple [frD pt.1,frD pt.2]),.p (slD st),.p (frD t)]=.ok (.p (.tuple [frD (cL pt st t).1,frD (cL pt st t).2])):=cK (a:=(pt,st,t)) aJ8 h
theorem yR{a b:Rw}(h:a.1 < b.1)(h1:1<=a.2.2)(h2:1<=b.2.2):bb a b=(plc a b,b.1 - a.1):=by
 have w:1<=b.1 - a.1:=by omega
 have e:=aZp w (aZw (AF.refl h1) (AF.refl h2))
 have p:=dG (dG h1 h2) w
 refine bBq (aQ1 (sD (dG (aXh h1 h2).pos w)) (sD p) e (xA (y:=(a.2.1*b.2.2 - b.2.1*a.2.2,a.2.2*b.2.2*(b.1 - a.1))) p p rfl) rfl) rfl
theorem aGj:∀ {fs:List Rw} {x:Bd},x∈bbs fs->∃ a b,a∈fs/\b∈fs/\(uQ fs->a.1 < b.1)/\x=bb a b
 | [],_,h=>nomatch h
 | [_],_,h=>nomatch h
 | a :: b :: r,x,h=>by
  rcases aZ3.mp h with rfl | h
  ·exact ⟨a,b,.head _,.tail _ (.head _),fun hr=>(bAd.mp hr).1 b (.head _),rfl⟩
  ·obtain ⟨u,v,h1,h2,h3,e⟩:=aGj h
   exact ⟨u,v,.tail _ h1,.tail _ h2,fun hr=>h3 (bAd.mp hr).2,e⟩
structure GW(p:Pl):Prop where
 s:S8 (p.1,p.2.1)
 o:p.2.2.2=1
 z:Sz 213 p.2.2.1
theorem aXi{p q:Pl}(a:GW p)(b:GW q):Nr p q:=by
 have:=a.s.a;have:=a.s.b;have:=a.s.c;have:=a.s.d
 have:=b.s.a;have:=b.s.b;have:=b.s.c;have:=b.s.d
 dsimp only at *
 constructor<;>omega
theorem aUq{tx bx ty bt:Nat}{x y:Int×Int}(h1:Sz tx x.1)(h2:Sz bx x.2)(h3:Sz ty y.1)(h4:Sz bt y.2):Sz (max (tx+bt) (ty+bx)+1) (hP x y).1:=Sz.le (N.Sz.addM (Sz.mul h1 h4) (Sz.mul h3 h2)) (bA7 _ _)
theorem aTm{a n:Nat}{i:Int}{x:Int×Int}(hi:Sz a i)(hx:Sz n x.1):Sz (a+n) (hT i x).1:=Sz.le (Sz.mul hi hx) (bA7 _ _)
theorem aZq{p:Pl}{pt:Pt}{st:Int×Int}(g:GW p)(h:(FR.Fr pt.1/\Sz 230 pt.1.1/\Sz 8 pt.1.2)/\(FR.Fr pt.2/\Sz 230 pt.2.1/\Sz 8 pt.2.2))(z:Sz 5 st.1/\Sz 5 st.2):GA p pt st:=by
 obtain ⟨a,b⟩:=aO0 g.s
 obtain ⟨⟨f1,t1,b1⟩,⟨f2,t2,b2⟩⟩:=h
 have ho:Sz 1 p.2.2.2:=by rw [g.o];unfold Sz;decide
 refine ⟨⟨a.mono (by decide),b.mono (by decide),⟨by rw [g.o];decide,g.z.mono (by decide),ho.mono (by decide)⟩,⟨f1.pos,t1.mono (by decide),b1.mono (by decide)⟩,⟨f2.pos,t2.mono (by decide),b2.mono (by decide)⟩⟩,(N.Sz.addM (Sz.mul a z.1) (Sz.mul b z.2)).mono (by decide),qJ f1.pos f2.pos (by rw [g.o];decide),?_,?_⟩
 ·exact (aUq (aUq (aTm a t1) (aAi b1) (aTm b t2) (aAi b2)) (aE7 (aAi b1) (aAi b2)) g.z ho).mono (by decide)
 ·exact (aE7 (aE7 (aAi b1) (aAi b2)) ho).mono (by decide)
theorem aYh{p q:Pl}(u:Un p q):∃ o,Dr p q o/\aRv [.p (slD (stp p q)),.p (slD (stp q p))]=.ok (.p (slD o)):=by
 have d1:Dr p q (stp p q):=.inl (aN6 u)
 have d2:Dr p q (stp q p):=.inr (by have:=aN6 u.sym;rw [aR5] at this;exact this)
 have kd:vC [slD (stp p q),slD (stp q p)]=some [[(stp p q).1,(stp p q).2],[(stp q p).1,(stp q p).2]]:=rfl
 unfold aRv
 dsimp only
 rw [kd]
 dsimp only
 rw [bAc ⟨bB3 _ _,bB3 _ _⟩]
 by_cases h:HT.lexLt [(stp p q).1,(stp p q).2] [(stp q p).1,(stp q p).2]=true
 ·exact ⟨_,d2,by rw [bAc h]⟩
 ·exact ⟨_,d1,by rw [bAg h]⟩
theorem aSs(p:Rw)(ps:List Rw):aDt true (.p (lrD p)) (.p (.list (ps.map lrD)))=.ok (.p (.bool (!decide (p∈ps)))):=by
 unfold aDt
 simp only [dat]
 rw [bAc ⟨aUd p,aNx ps,fun z hz=>by obtain ⟨q,_,rfl⟩:=bAa.mp hz;simp [lrD,frD,SeqAt.noMix,SeqAt.noMixAll]⟩]
 rw [bAc trivial]
 congr 4
 rw [bDj,countIn_ne_zero,bAa]
 constructor
 ·rintro ⟨q,hq,e⟩
  rw [<- lrI e]
  exact hq
 ·intro h
  exact ⟨p,h,rfl⟩
theorem aU8{r:Rw}{fs:List Rw}(h:r∈fs)(hl:fs.length<=1000):∃ k:Nat,mM (.p (.list (fs.map lrD))) (.p (lrD r))=.ok (.p (.int (k:Int))):=by
 have hx:∃ x∈fs.map lrD,(fun z:PyData=>z.eqv (lrD r)) x=true:=⟨lrD r,bAa.mpr ⟨r,h,rfl⟩,SeqAt.eqv_refl _ (aOi r)⟩
 have lt:=List.findIdx_lt_length_of_exists hx
 refine ⟨(fs.map lrD).findIdx (fun z=>z.eqv (lrD r)),?_⟩
 unfold mM
 simp only [dat]
 rw [bAc ⟨aUd r,aNx fs,lt,by rw [aZ0];omega⟩]
theorem aZk{op:Ev->Ev->Res Ev}{fo fe:En->Res Ev}{en:En}{x y:Ev}{o:Res Ev}(h1:fo en=.ok x)(h2:(g9 x.c).isSome=true)(h3:fe en=.ok y)(h:op x.c y.c=o):mMt op fo fe en=o:=by
 unfold mMt
 rw [h1]
 show (if (g9 x.c).isSome=true then (fe en).bind fun y=>op x.c y.c else .bad)=o
 rw [bAc h2,h3]
 exact h
theorem aYs{fe:En->Res Ev}{en:En}{i:Int}(h:fe en=.ok (.p (.int i))):mPt fe en=.ok (some i):=by
 unfold mPt
 rw [h]
 rfl
theorem aW0{c:En->Res Bool}{f g:En->Res Ev}{en:En}{o:Res Ev}(h:c en=.ok true)(k:f en=o):mIf c f g en=o:=by
 unfold mIf
 rw [h]
 exact k
theorem aXo{c:En->Res Bool}{f g:En->Res Ev}{en:En}{o:Res Ev}(h:c en=.ok false)(k:g en=o):mIf c f g en=o:=by
 unfold mIf
 rw [h]
 exact k
abbrev pcE(ps:List Pl)(p q:Pl)(F:Int)(s:Pt)(o:Int×Int)(fs:List Rw)(a7 a8 a9 a10 a11 a12:Option L):En:=[some (.p (.list (ps.map plD))),some (.p (plD p)),some (.p (plD q)),some (.p (.int F)),some (.p (slD o)),some (.p (.tuple [frD s.1,frD s.2])),some (.p (.list (fs.map lrD))),a7,a8,a9,a10,a11,a12]
def PcD(p q:Pl)(d:D):Prop:=d=.none\/∃ (es:List D) (o:Int×Int),Dr p q o/\d=.tuple [slD (p.1,p.2.1),slD (q.1,q.2.1),.list es,slD o,.int (wgt p q)]
theorem aR9{α:Type}(f:α->D)(xs:List α)(l u:Option Int):∃ ys:List α,cutD (xs.map f) l u=ys.map f/\(∀ y∈ys,y∈xs)/\ys.length<=xs.length:=by
 refine ⟨(xs.drop (HT.sIx xs.length 0 l)).take (HT.sIx xs.length xs.length u - HT.sIx xs.length 0 l),?_,fun y hy=>List.mem_of_mem_drop (List.mem_of_mem_take hy),?_⟩
 ·unfold M.cutD
  rw [aZ0,List.map_take,List.map_drop]
 ·rw [bEb,bFx]
  omega
noncomputable def jI:En->Res Ev:=(aN 2 (lM K c) (aB (aN 3 (uC K c) (aB (aD 3) (aB (aD 2) (aB (aD 0) aT)))) (aB (aD 1) aT)))
noncomputable def lS(K:aZz)(c:Cls):En->Res Ev:=(aD 0)
noncomputable def nH:MS:=(bU (cO 4 (aK aRv (aB (aN 2 (iW K c) (aB (aD 1) (aB (aD 2) aT))) (aB (aN 2 (iW K c) (aB (aD 2) (aB (aD 1) aT))) aT)))) (bU (cO 5 (aN 2 (eT K c) (aB (aD 1) (aB (aD 2) aT)))) (bU (cO 6 (aN 3 (lV K c) (aB (aD 0) (aB (aD 5) (aB (aD 4) aT))))) (fun en=>(bU (cO 7 (aK bQ (aB (aH iD (aH eV (aH ixE (aD 1) (mC (.int 0))) (aH ixE (aD 4) (mC (.int 0)))) (aH eV (aH ixE (aD 1) (mC (.int 1))) (aH ixE (aD 4) (mC (.int 1))))) (aB (aN 2 (cH K c) (aB (aD 1) (aB (aD 5) aT))) aT)))) (bU (i9 (bV (aH (aDt true) (aD 7) (aD 6))) (dW (mC (.none))) dX) (bU (cO 8 (mMt mM (aD 6) (aD 7))) (bU (cO 9 (dJ 2 [] (eX (aH ixE (aN 1 (jT K c) (aB (aD 6) aT)) (mC (.int 2)))) (fD 2 (bE (aJ 0) (bE (aJ 1) fB))) eR (lS K c))) (bU (cO 10 (dJ 1 [3,4,5] (eX (mSl (aD 9) (mPt (aK (aP8 fun i j=>if j > i then j else i) (aB (aH kZ (aD 8) (mC (.int 1))) (aB (mC (.int 0)) aT)))) (mPt (aH iD (aD 8) (mC (.int 1)))))) (aJ 0) eR (jI K c))) (fun en=>(bU (cO 11 (o7 (aH (eqE false) (aD 8) (mC (.int 0))) (aH (eqE false) (aK jM (aB (aD 10) aT)) (mC (.int 1))))) (bU (cO 12 (mIf (bV (aD 11)) (aN 1 (dE K c) (aB (aD 4) aT)) (aD 4))) (dW (aK bQ (aB (aN 1 (e8 K c) (aB (aD 1) aT)) (aB (aN 1 (e8 K c) (aB (aD 2) aT)) (aB (aD 10) (aB (aD 12) (aB (aN 2 (eI K c) (aB (aD 1) (aB (aD 2) aT))) aT))))))))) (frz 10 en))))))) (frz 6 en)))))
noncomputable def fZ(ls:List L):Res L:=eK 13 (nH K c) ls
theorem aBp:∀ ls,fZ K c ls=.bad\/eK 13 (nH K c) ls=fZ K c ls:=fun _=>.inr rfl
theorem aL3{ps:List Pl}{p q:Pl}{F:Int}(hl:ps.length < 64)(hg:∀ x∈ps,GW x)(hp:p∈ps)(hq:q∈ps)(u:Un p q)(f0:1<=F)(f1:Sz 1000 F):∃ d:D,PcD p q d/\fZ K c [.p (.list (ps.map plD)),.p (plD p),.p (plD q),.p (.int F)]=.ok (.p d):=by
 have gp:=hg p hp
 have gq:=hg q hq
 have n:=aXi gp gq
 obtain ⟨o,dr,mx⟩:=aYh u
 have so:=aVg u n dr
 have lg:=aMd u n gp.z gq.z
 have lk:=aSx K c u n gp.z gq.z
 have ga:∀ x∈ps,GA x (lvl p q) o:=fun x hx=>aZq (hg x hx) lg so
 have h0:ps≠[]:=fun z=>by rw [z] at hp;exact nomatch hp
 have al:=aGq K c h0 hl (so.1.mono (show 5<=50 by decide)) (so.2.mono (show 5<=50 by decide)) ga
 obtain ⟨n0,n1,n2,n3⟩:=aKl h0 ga
 have th:=qD n0 n3
 have ph:=aJ5 K c (ga p hp).q
 have fr:uQ (eY (lnA ps (lvl p q) o)):=bAz th.sub n3
 have fl:=th.sub.length_le
 have fg:∀ r∈eY (lnA ps (lvl p q) o),GRl r:=fun r hr=>n2 r (th.sub.subset hr)
 obtain ⟨x1,x2,ex⟩:=xH n0 n3
 have f00:eY (lnA ps (lvl p q) o)≠[]:=by rw [ex];exact bB3 _ _
 generalize eY (lnA ps (lvl p q) o)=fs at *
 have bo:=aD9 K c (aJc (by omega) fg) f00 fr
 have tsub:=(qD f00 fr).sub
 have gr:uQ (eY fs):=bAz tsub fr
 have gg:∀ r∈eY fs,GRl r:=fun r hr=>fg r (tsub.subset hr)
 have gl2:=tsub.length_le
 generalize eY fs=gs at *
 have bl:(bbs gs).length<=1000:=by rw [pP,aZ0,bB5];omega
 have pg:∀ b∈bbs gs,Good 900 b.1:=fun b hb=>by
  obtain ⟨a,d,ha,hd,lt,rfl⟩:=aGj hb
  have lt:=lt gr
  have g3:∀ {r:Rw},GRl r->Good 300 r.2:=fun h=>⟨h.pos,h.2.2.1,h.2.2.2.mono (by decide)⟩
  rw [yR lt (gg a ha).pos (gg d hd).pos]
  exact (aLz lt (gg a ha).1 (gg d hd).1 (g3 (gg a ha)) (g3 (gg d hd))).mono (by decide)
 have sg1:Good 300 (lvl p q).1:=⟨lg.1.1.pos,lg.1.2.1.mono (by decide),lg.1.2.2.mono (by decide)⟩
 have sg2:Good 300 (lvl p q).2:=⟨lg.2.1.pos,lg.2.2.1.mono (by decide),lg.2.2.2.mono (by decide)⟩
 generalize lvl p q=s at *
 have j0:ixE (.p (slD o)) (.p (.int 0))=.ok (.p (.int o.1)):=iY _ _
 have j1:ixE (.p (slD o)) (.p (.int 1))=.ok (.p (.int o.2)):=i8 _ _ _
 obtain ⟨a8,b8⟩:=aO0 gp.s
 have m1:eV (.p (.int p.1)) (.p (.int o.1))=.ok (.p (.int (p.1*o.1))):=jV ⟨a8.mono (by decide),so.1.mono (by decide)⟩
 have m2:eV (.p (.int p.2.1)) (.p (.int o.2))=.ok (.p (.int (p.2.1*o.2))):=jV ⟨b8.mono (by decide),so.2.mono (by decide)⟩
 have rw':aK bQ (aB (aH iD (aH eV (aH ixE (aD 1) (mC (.int 0))) (aH ixE (aD 4) (mC (.int 0)))) (aH eV (aH ixE (aD 1) (mC (.int 1))) (aH ixE (aD 4) (mC (.int 1))))) (aB (aN 2 (cH K c) (aB (aD 1) (aB (aD 5) aT))) aT)) (pcE ps p q F s o fs none none none none none none)=.ok (.p (lrD (mR s o p))) :=
  uP (aQ (aQ (aQ rfl rfl (u9 p)) (aQ rfl rfl j0) m1) (aQ (aQ rfl rfl (u7 p)) (aQ rfl rfl j1) m2) (lF _ _)) (dD rfl rfl ph)
 have start:∀ {d:D},(bU (cO 7 (aK bQ (aB (aH iD (aH eV (aH ixE (aD 1) (mC (.int 0))) (aH ixE (aD 4) (mC (.int 0)))) (aH eV (aH ixE (aD 1) (mC (.int 1))) (aH ixE (aD 4) (mC (.int 1))))) (aB (aN 2 (cH K c) (aB (aD 1) (aB (aD 5) aT))) aT)))) (bU (i9 (bV (aH (aDt true) (aD 7) (aD 6))) (dW (mC (.none))) dX) (bU (cO 8 (mMt mM (aD 6) (aD 7))) (bU (cO 9 (dJ 2 [] (eX (aH ixE (aN 1 (jT K c) (aB (aD 6) aT)) (mC (.int 2)))) (fD 2 (bE (aJ 0) (bE (aJ 1) fB))) eR (lS K c))) (bU (cO 10 (dJ 1 [3,4,5] (eX (mSl (aD 9) (mPt (aK (aP8 fun i j=>if j > i then j else i) (aB (aH kZ (aD 8) (mC (.int 1))) (aB (mC (.int 0)) aT)))) (mPt (aH iD (aD 8) (mC (.int 1)))))) (aJ 0) eR (jI K c))) (fun en=>(bU (cO 11 (o7 (aH (eqE false) (aD 8) (mC (.int 0))) (aH (eqE false) (aK jM (aB (aD 10) aT)) (mC (.int 1))))) (bU (cO 12 (mIf (bV (aD 11)) (aN 1 (dE K c) (aB (aD 4) aT)) (aD 4))) (dW (aK bQ (aB (aN 1 (e8 K c) (aB (aD 1) aT)) (aB (aN 1 (e8 K c) (aB (aD 2) aT)) (aB (aD 10) (aB (aD 12) (aB (aN 2 (eI K c) (aB (aD 1) (aB (aD 2) aT))) aT))))))))) (frz 10 en))))))) (pcE ps p q F s o fs none none none none none none)=some (.rt (.p d))->fZ K c [.p (.list (ps.map plD)),.p (plD p),.p (plD q),.p (.int F)]=.ok (.p d):=fun {d} h=>by
  unfold fZ
  refine bH ?_
  rw [show bD 13 [.p (.list (ps.map plD)),.p (plD p),.p (plD q),.p (.int F)]=[some (.p (.list (ps.map plD))),some (.p (plD p)),some (.p (plD q)),some (.p (.int F)),none,none,none,none,none,none,none,none,none] from rfl]
  unfold nH
  refine (aL (b9 (d:=slD o) (gO (bP (dD rfl rfl (aOt K c u n)) (bP (dD rfl rfl (aOt K c u.sym n.sym)) rfl)) mx))).trans ?_
  refine (aL (b9 (d:=.tuple [frD s.1,frD s.2]) (dD rfl rfl lk))).trans ?_
  refine (aL (gH (d:=.list (fs.map lrD)) (aFb rfl rfl rfl al))).trans ?_
  exact mQ (i:=6) (e1:=(pcE ps p q F s o fs none none none none none none)) rfl h
 have t7:∀ v:Bool,v=!decide (mR s o p∈fs)->bV (aH (aDt true) (aD 7) (aD 6)) (pcE ps p q F s o fs (some (.p (lrD (mR s o p)))) none none none none none)=.ok v:=fun v e=>hV (aQ rfl rfl (by rw [e];exact aSs _ _))
 by_cases hr:mR s o p∈fs
 case neg=>exact ⟨.none,.inl rfl,start ((aL (b9 rw')).trans ((jA ((pL (t7 true (by rw [aZ7 hr];rfl))).trans (dC rfl)))))⟩
 obtain ⟨k,ek⟩:=aU8 hr (by omega)
 have y2:ixE (.p (bsD gs)) (.p (.int 2))=.ok (.p (.list ((bbs gs).map bdD))):=u4 _ _ _ _
 have pl:dJ 2 [] (eX (aH ixE (aN 1 (jT K c) (aB (aD 6) aT)) (mC (.int 2)))) (fD 2 (bE (aJ 0) (bE (aJ 1) fB))) eR (lS K c) (pcE ps p q F s o fs (some (.p (lrD (mR s o p)))) (some (.p (.int (k:Int)))) none none none none)=.ok (.f (.list ((bbs gs).map fun b=>frD b.1))) :=
  eB (ds:=(bbs gs).map bdD) (itL (aQ (pS rfl rfl bo) rfl y2)) (by rw [aZ0];omega) (dR (bbs gs) fun b _=>rfl)
 obtain ⟨ys,ey,my,ly⟩:=aR9 (fun b:Bd=>frD b.1) (bbs gs) (some (if (0:Int) > (k:Int) - 1 then 0 else (k:Int) - 1)) (some ((k:Int)+1))
 have ed:dJ 1 [3,4,5] (eX (mSl (aD 9) (mPt (aK (aP8 fun i j=>if j > i then j else i) (aB (aH kZ (aD 8) (mC (.int 1))) (aB (mC (.int 0)) aT)))) (mPt (aH iD (aD 8) (mC (.int 1)))))) (aJ 0) eR (jI K c) (pcE ps p q F s o fs (some (.p (lrD (mR s o p)))) (some (.p (.int (k:Int)))) (some (.o (.list ((bbs gs).map fun b=>frD b.1)))) none none none)=.ok (.f (.list (ys.map fun b=>.tuple [frD (shr F (cL s o b.1)).1,frD (shr F (cL s o b.1)).2]))):=by
  refine eB (ds:=ys.map fun b=>frD b.1) (itL (aXe (ds:=(bbs gs).map fun b=>frD b.1) (l:=some (if (0:Int) > (k:Int) - 1 then 0 else (k:Int) - 1)) (u:=some ((k:Int)+1)) rfl (aYs (gO (bP (aQ rfl rfl (hX _ _)) (bP rfl rfl)) rfl)) (aYs (aQ rfl rfl (lF _ _)))) (by rw [ey];rfl)) (by rw [aZ0];omega) (dR ys fun b hb=>?_)
  have gt:=pg b (my b hb)
  have go:=aRq K c (pt:=s) (st:=o) (t:=b.1) ⟨sg1,sg2,so,gt⟩
  have g1:=mK sg1 (gR so.1 gt)
  have g2:=mK sg2 (gR so.2 gt)
  have sh:=aLm K c (pt:=cL s o b.1) g1.1 g2.1 (g1.2.2.mono (by decide)) (g2.2.2.mono (by decide)) f0 f1
  have he:jI K c [some (.p (frD b.1)),some (.p (.int F)),some (.p (slD o)),some (.p (.tuple [frD s.1,frD s.2]))]=.ok (.p (.tuple [frD (shr F (cL s o b.1)).1,frD (shr F (cL s o b.1)).2])):=dD (aFb rfl rfl rfl go) rfl sh
  unfold aV
  ktr_call 3 ⟨aJ,eR,mF,sV,List.replicate,bAm,bAw,he,Ev.c⟩
 obtain ⟨bb1,eb⟩:∃ b:Bool,o7 (aH (eqE false) (aD 8) (mC (.int 0))) (aH (eqE false) (aK jM (aB (aD 10) aT)) (mC (.int 1))) (pcE ps p q F s o fs (some (.p (lrD (mR s o p)))) (some (.p (.int (k:Int)))) (some (.o (.list ((bbs gs).map fun b=>frD b.1)))) (some (.p (.list (ys.map fun b=>.tuple [frD (shr F (cL s o b.1)).1,frD (shr F (cL s o b.1)).2])))) none none)=.ok (.p (.bool b)):=by
  have e1:aH (eqE false) (aD 8) (mC (.int 0)) (pcE ps p q F s o fs (some (.p (lrD (mR s o p)))) (some (.p (.int (k:Int)))) (some (.o (.list ((bbs gs).map fun b=>frD b.1)))) (some (.p (.list (ys.map fun b=>.tuple [frD (shr F (cL s o b.1)).1,frD (shr F (cL s o b.1)).2])))) none none)=.ok (.p (.bool ((k:Int) == 0))):=aQ rfl rfl (by simp only [eqE,dat,iE,gP];rfl)
  have e2:aH (eqE false) (aK jM (aB (aD 10) aT)) (mC (.int 1)) (pcE ps p q F s o fs (some (.p (lrD (mR s o p)))) (some (.p (.int (k:Int)))) (some (.o (.list ((bbs gs).map fun b=>frD b.1)))) (some (.p (.list (ys.map fun b=>.tuple [frD (shr F (cL s o b.1)).1,frD (shr F (cL s o b.1)).2])))) none none)=.ok (.p (.bool ((((ys.map fun b=>PyData.tuple [frD (shr F (cL s o b.1)).1,frD (shr F (cL s o b.1)).2]).length:Nat):Int) == 1))):=aQ (aRg (ds:=ys.map fun b=>.tuple [frD (shr F (cL s o b.1)).1,frD (shr F (cL s o b.1)).2]) rfl rfl) rfl (by simp only [eqE,dat,iE,gP];rfl)
  unfold o7
  rw [e1]
  cases (k:Int) == 0 with
  | true=>exact ⟨_,e2⟩
  | false=>exact ⟨false,rfl⟩
 obtain ⟨o',dr',es⟩:∃ o',Dr p q o'/\mIf (bV (aD 11)) (aN 1 (dE K c) (aB (aD 4) aT)) (aD 4) (pcE ps p q F s o fs (some (.p (lrD (mR s o p)))) (some (.p (.int (k:Int)))) (some (.o (.list ((bbs gs).map fun b=>frD b.1)))) (some (.p (.list (ys.map fun b=>.tuple [frD (shr F (cL s o b.1)).1,frD (shr F (cL s o b.1)).2])))) (some (.p (.bool bb1))) none)=.ok (.p (slD o')):=by
  cases bb1 with
  | true=>exact ⟨_,dr.neg,aW0 (hV rfl) (pS (x:=.p (slD o)) (a:=slD o) rfl rfl (aVo K c o))⟩
  | false=>exact ⟨o,dr,aXo (hV rfl) rfl⟩
 refine ⟨_,.inr ⟨ys.map fun b=>.tuple [frD (shr F (cL s o b.1)).1,frD (shr F (cL s o b.1)).2],o',dr',rfl⟩,start ?_⟩
 refine (aL (b9 rw')).trans ?_
 refine (aL (nJ (t7 false (by rw [aZ8 hr];rfl)))).trans ?_
 refine (aL (b9 (aZk rfl rfl rfl ek))).trans ?_
 refine (aL (gH pl)).trans ?_
 refine (aL (gH ed)).trans ?_
 refine mQ (i:=10) (e1:=(pcE ps p q F s o fs (some (.p (lrD (mR s o p)))) (some (.p (.int (k:Int)))) (some (.o (.list ((bbs gs).map fun b=>frD b.1)))) (some (.p (.list (ys.map fun b=>.tuple [frD (shr F (cL s o b.1)).1,frD (shr F (cL s o b.1)).2])))) none none)) rfl ?_
 refine (aL (b9 eb)).trans ((aL (b9 es)).trans (dC ?_))
 exact gO (bP (pS rfl rfl (vJ K c p)) (bP (pS rfl rfl (vJ K c q)) (bP rfl (bP rfl (bP (dD rfl rfl (aOj K c p q)) rfl))))) rfl
theorem aDg{α:Type}{enc:α->D}{P:α->Prop}{g:D->Option (Option D)}:∀ ds:List D,(∀ d∈ds,∃ x,P x/\g d=some (some (enc x)))->∃ xs:List α,xs.length=ds.length/\(∀ x∈xs,P x)/\nV g ds=some (xs.map enc)
 | [],_=>⟨[],rfl,(fun _ h=>nomatch h),rfl⟩
 | d :: ds,h=>by
  obtain ⟨v,hv,e⟩:=h d (.head _)
  obtain ⟨es,h1,h2,h3⟩:=aDg ds fun x hx=>h x (.tail _ hx)
  refine ⟨v :: es,by rw [aZ2,aZ2,h1],fun x hx=>?_,?_⟩
  ·rcases aZ3.mp hx with z | z
   ·rw [z];exact hv
   ·exact h2 x z
  ·show (match g d with | none=>none | some o=>match nV g ds with | none=>none | some r=>some (match o with | some y=>y :: r | none=>r))=_
   rw [e,h3]
   rfl
def PcO(ws:List Pl)(d:D):Prop:=∃ p q,p∈ws/\q∈ws/\Un p q/\PcD p q d
theorem aNa(pre rest:List D)(x:D):cutD (pre++x :: rest) (some ((pre.length:Int)+1)) none=rest:=by
 have e:((pre.length:Int)+1)=((pre.length+1:Nat):Int):=by omega
 have e2:(pre++x :: rest).drop (pre.length+1)=rest:=by
  rw [<- List.drop_drop,List.drop_left]
  rfl
 unfold M.cutD
 rw [e,HT.aCm,bAi,aZ2,Nat.min_eq_left (by omega),e2]
 exact List.take_of_length_le (by show rest.length<=pre.length+(rest.length+1) - (pre.length+1);omega)
noncomputable def n8(K:aZz)(c:Cls):En->Res Ev:=(aD 0)
noncomputable def j8:En->Res Ev:=(aN 4 (fZ K c) (aB (aD 3) (aB (aD 2) (aB (aD 0) (aB (aD 1) aT)))))
noncomputable def lP:MS:=(qH 4 (dJ 1 [2,6,3] (eX (mSl (aD 3) (mPt (aH iD (aD 5) (mC (.int 1)))) aV1)) (aJ 0) eR (j8 K c)))
noncomputable def rM:MS:=(bU (cO 1 (aN 1 (jS K c) (aB (aD 0) aT))) (fun en=>(bU (cO 2 (aN 1 (cV K c) (aB (aD 1) aT))) (bU (cO 3 (aN 2 (e9 K c) (aB (aD 1) (aB (aD 2) aT)))) (bU (cO 4 (aK oN aT)) (fun en=>(bU (aA2 (yF aHz (aB (aD 3) aT)) (fD 2 (bE (aJ 5) (bE (aJ 6) fB))) (lP K c)) (fun en=>(dW (dJ 1 [] (eX (aD 4)) (aJ 0) (bV (mUn (yJ true) (aD 0))) (n8 K c))) (frz 4 en))) (frz 3 en))))) (frz 1 en)))
noncomputable def kK(ls:List L):Res L:=eK 7 (rM K c) ls
theorem aKj:∀ ls,kK K c ls=.bad\/eK 7 (rM K c) ls=kK K c ls:=fun _=>.inr rfl
theorem aEn(K:aZz)(c:Cls)(Z0 Z1:Option L){ws:List Pl}{F:Int}(hl:ws.length < 64)(hg:∀ x∈ws,GW x)(hd:ws.Pairwise Un)(f0:1<=F)(f1:Sz 1000 F):∀ (rest pre:List Pl) (ds:List D) (r5 r6:Option L),pre++rest=ws->(∀ d∈ds,PcO ws d)->ds.length+rest.length*64<=10000 ->
  ∃ (ds':List D) (q5 q6:Option L),(∀ d∈ds',PcO ws d)/\ds'.length<=10000/\gS (fD 2 (bE (aJ 5) (bE (aJ 6) fB))) (lP K c) (rG pre.length (rest.map plD)) [Z0,Z1,some (.p (.int F)),some (.p (.list (ws.map plD))),some (.o (.list ds)),r5,r6]=some (.nx [Z0,Z1,some (.p (.int F)),some (.p (.list (ws.map plD))),some (.o (.list ds')),q5,q6])
 | [],pre,ds,r5,r6,_,h,hn=>⟨ds,r5,r6,h,by simpa using hn,rfl⟩
 | p :: rest,pre,ds,r5,r6,e,h,hn=>by
  have pw:(p :: rest).Pairwise Un:=bAz (by rw [<- e];exact List.sublist_append_right _ _) hd
  have hp:p∈ws:=by rw [<- e];exact bAo _ (.head _)
  have hr:∀ q∈rest,q∈ws/\Un p q:=fun q hq=>⟨by rw [<- e];exact bAo _ (.tail _ hq),(bAd.mp pw).1 q hq⟩
  have rl:rest.length < 64:=by have:=bCl List.length e;rw [bAi,aZ2] at this;omega
  have ec:cutD (ws.map plD) (some ((pre.length:Int)+1)) none=rest.map plD:=by
   rw [<- e,bA4,bAb]
   have:=aNa (pre.map plD) (rest.map plD) (plD p)
   rw [aZ0] at this
   exact this
  obtain ⟨xs,xl,xp,xm⟩:=aDg (enc:=fun d:D=>d) (P:=PcO ws) (g:=aV 1 [2,6,3] (aJ 0) eR (j8 K c) [Z0,Z1,some (.p (.int F)),some (.p (.list (ws.map plD))),some (.o (.list ds)),some (.p (.int (pre.length:Int))),some (.p (plD p))]) (rest.map plD) (fun d hd'=>by
   obtain ⟨q,hq,rfl⟩:=bAa.mp hd'
   obtain ⟨hq1,hq2⟩:=hr q hq
   obtain ⟨d,dp,de⟩:=aL3 K c hl hg hp hq1 hq2 f0 f1
   refine ⟨d,⟨p,q,hp,hq1,hq2,dp⟩,?_⟩
   have he:j8 K c [some (.p (plD q)),some (.p (.int F)),some (.p (plD p)),some (.p (.list (ws.map plD)))]=.ok (.p d):=aH0 (bP rfl (bP rfl (bP rfl (bP rfl rfl)))) rfl rfl de
   unfold aV
   ktr_call 3 ⟨aJ,eR,mF,sV,List.replicate,bAm,bAw,he,Ev.c⟩)
  rw [List.map_id' xs] at xm
  have cm:dJ 1 [2,6,3] (eX (mSl (aD 3) (mPt (aH iD (aD 5) (mC (.int 1)))) aV1)) (aJ 0) eR (j8 K c) [Z0,Z1,some (.p (.int F)),some (.p (.list (ws.map plD))),some (.o (.list ds)),some (.p (.int (pre.length:Int))),some (.p (plD p))]=.ok (.f (.list xs)) :=
   eB (ds:=rest.map plD) (itL (aXe (ds:=ws.map plD) (l:=some ((pre.length:Int)+1)) (u:=none) rfl rfl rfl) (by rw [ec];rfl)) (by rw [aZ0];omega) xm
  rw [aZ0] at xl
  have hb:lP K c [Z0,Z1,some (.p (.int F)),some (.p (.list (ws.map plD))),some (.o (.list ds)),some (.p (.int (pre.length:Int))),some (.p (plD p))]=some (.nx [Z0,Z1,some (.p (.int F)),some (.p (.list (ws.map plD))),some (.o (.list (ds++xs))),some (.p (.int (pre.length:Int))),some (.p (plD p))]):=by
   unfold lP qH
   show (match (dJ 1 [2,6,3] (eX (mSl (aD 3) (mPt (aH iD (aD 5) (mC (.int 1)))) aV1)) (aJ 0) eR (j8 K c) [Z0,Z1,some (.p (.int F)),some (.p (.list (ws.map plD))),some (.o (.list ds)),some (.p (.int (pre.length:Int))),some (.p (plD p))]) with
    | .ok (.f (.list es))=>if ds.length+es.length<=100000 then some (Out.nx (List.set [Z0,Z1,some (.p (.int F)),some (.p (.list (ws.map plD))),some (.o (.list ds)),some (.p (.int (pre.length:Int))),some (.p (plD p))] 4 (some (.o (.list (ds++es)))))) else none
    | .exc C=>some (.ex C [Z0,Z1,some (.p (.int F)),some (.p (.list (ws.map plD))),some (.o (.list ds)),some (.p (.int (pre.length:Int))),some (.p (plD p))])
    | _=>none)=_
   rw [cm]
   dsimp only
   rw [bAc (by rw [aZ2] at hn;omega)]
   rfl
  rw [aZ2] at hn
  obtain ⟨ds',q5,q6,a1,a2,a3⟩:=aEn K c Z0 Z1 hl hg hd f0 f1 rest (pre++[p]) (ds++xs) (some (.p (.int (pre.length:Int)))) (some (.p (plD p))) (by rw [bCg];exact e) (fun d hd'=>by
   rcases bB1.mp hd' with z | z
   ·exact h d z
   ·exact xp d z) (by rw [bAi];omega)
  rw [bAi,bBy] at a3
  exact ⟨ds',q5,q6,a1,a2,(aGy rfl hb).trans a3⟩
def PcT(ps:List Pl)(d:D):Prop:=∃ p q,p∈ps/\q∈ps/\Un p q/\∃ (es:List D) (o:Int×Int),Dr p q o/\d=.tuple [slD (p.1,p.2.1),slD (q.1,q.2.1),.list es,slD o,.int (wgt p q)]
def aW7:D->Bool
 | .none=>false
 | _=>true
theorem aJr{ps:List Pl}(hl:ps.length<=22)(hg:∀ p∈ps,GPn p)(hd:ps.Pairwise Un):∃ ds:List D,ds.length<=10000/\(∀ d∈ds,PcT ps d)/\kK K c [.p (.list (ps.map plD))]=.ok (.o (.list ds)):=by
 have pg:∀ p∈ps,PG p:=fun p hp=>by
  obtain ⟨a,b⟩:=aO0 (hg p hp).s
  exact ⟨a,b,(hg p hp).h.f.pos,(hg p hp).h.t,(hg p hp).h.b⟩
 have th:=y6 K c hl pg
 have sub:(ps.filter (stays ps)).Sublist ps:=List.filter_sublist
 have ql:=sub.length_le
 generalize ps.filter (stays ps)=qs at *
 have gb:GBs qs:=⟨by omega,fun p hp=>(pg p (sub.subset hp)).h⟩
 obtain ⟨f0,_,f2⟩:=aU5 gb
 have f2:Sz 133 (wf qs):=f2.mono (by omega)
 have wk:=aHc K c gb
 have bk:=yS K c gb (f2.mono (show 133<=1000 by decide))
 generalize wf qs=F at *
 have hgw:∀ x∈qs.map (blow F),GW x:=fun x hx=>by
  obtain ⟨p,hp,rfl⟩:=bAa.mp hx
  have g:=pg p (sub.subset hp)
  exact ⟨(hg p (sub.subset hp)).s,rfl,Sz.mul g.h.2.1 (x6 f2)⟩
 have hdw:(qs.map (blow F)).Pairwise Un:=by
  rw [bD5]
  exact bAz sub hd
 have wl:(qs.map (blow F)).length=qs.length:=aZ0 _
 obtain ⟨ds,q5,q6,a1,a2,lp⟩:=aEn K c (some (.p (.list (ps.map plD)))) (some (.p (.list (qs.map plD)))) (show (qs.map (blow F)).length < 64 by omega) hgw hdw f0 (f2.mono (by decide)) (qs.map (blow F)) [] [] none none rfl (fun _ h=>nomatch h) (by rw [bAv];omega)
 have cm:dJ 1 [] (eX (aD 4)) (aJ 0) (bV (mUn (yJ true) (aD 0))) (n8 K c) [some (.p (.list (ps.map plD))),some (.p (.list (qs.map plD))),some (.p (.int F)),some (.p (.list ((qs.map (blow F)).map plD))),some (.p (.list ds)),q5,q6]=.ok (.f (.list (ds.filter aW7))):=by
  refine eB (ds:=ds) rfl (by omega) ?_
  have:=iT (g:=aV 1 [] (aJ 0) (bV (mUn (yJ true) (aD 0))) (n8 K c) [some (.p (.list (ps.map plD))),some (.p (.list (qs.map plD))),some (.p (.int F)),some (.p (.list ((qs.map (blow F)).map plD))),some (.p (.list ds)),q5,q6]) (enc:=fun d:D=>d) (out:=fun d:D=>d) (p:=aW7) ds (fun d hd'=>by
   obtain ⟨p,q,_,_,_,rfl | ⟨es,o,_,rfl⟩⟩:=a1 d hd'
   ·rfl
   ·rfl)
  rw [List.map_id',List.map_id'] at this
  exact this
 refine ⟨ds.filter aW7,bA5 (bBk _ _) a2,fun d hd'=>?_,?_⟩
 ·obtain ⟨m1,m2⟩:=bA8.mp hd'
  obtain ⟨p',q',hp',hq',u,hc⟩:=a1 d m1
  obtain ⟨p,hp,rfl⟩:=bAa.mp hp'
  obtain ⟨q,hq,rfl⟩:=bAa.mp hq'
  rcases hc with rfl | ⟨es,o,dr,rfl⟩
  ·cases m2
  ·exact ⟨p,q,sub.subset hp,sub.subset hq,u,es,o,dr,rfl⟩
 ·unfold kK
  refine bH ?_
  rw [show bD 7 [.p (.list (ps.map plD))]=[some (.p (.list (ps.map plD))),none,none,none,none,none,none] from rfl]
  unfold rM
  refine (aL (gH (pS rfl rfl th))).trans ?_
  refine mQ (i:=1) (e1:=[some (.p (.list (ps.map plD))),some (.p (.list (qs.map plD))),none,none,none,none,none]) rfl ?_
  refine (aL (b9 (pS rfl rfl wk))).trans ((aL (gH (dD rfl rfl bk))).trans ((aL (gH (d:=.list []) rfl)).trans ?_))
  refine mQ (i:=3) (e1:=[some (.p (.list (ps.map plD))),some (.p (.list (qs.map plD))),some (.p (.int F)),some (.p (.list ((qs.map (blow F)).map plD))),some (.o (.list [])),none,none]) rfl ?_
  refine (aL ((qY (itA (bP rfl rfl) rfl)).trans lp)).trans ?_
  exact mQ (i:=4) (e1:=[some (.p (.list (ps.map plD))),some (.p (.list (qs.map plD))),some (.p (.int F)),some (.p (.list ((qs.map (blow F)).map plD))),some (.p (.list ds)),q5,q6]) rfl (xK cm)
theorem past{a b d q:Q2}(h1:a.1 < b.1)(h2:b.1 < q.1)(t0:bM b a q=0)(c:0 < bM d b a)(l:0<=bM d b q):False:=by
 have k:(b.1 - a.1)*bM d b q = -((q.1 - b.1)*bM d b a):=by
  unfold bM at *
  grind
 have n1:=bBm (show 0<=b.1 - a.1 by omega) l
 have n2:=bBs (show 0 < q.1 - b.1 by omega) c
 omega
theorem ahead{a b d q:Q2}(h1:a.1 < b.1)(h2:q.1 < a.1)(t0:bM b a q=0)(c:0 < bM b a d)(l:0<=bM a d q):False:=by
 have k:(b.1 - a.1)*bM a d q = -((a.1 - q.1)*bM b a d):=by
  unfold bM at *
  grind
 have n1:=bBm (show 0<=b.1 - a.1 by omega) l
 have n2:=bBs (show 0 < a.1 - q.1 by omega) c
 omega
theorem aEt{F:Int}{rs fs:List Rw}(hR:uQ rs)(th:aV5 F rs fs){i:Nat}{a b q:Rw}(e1:fs[i]? = some a)(e2:fs[i+1]? = some b)(hq:q∈rs)(t0:bM (ptL F b) (ptL F a) (ptL F q)=0):a.1<=q.1/\q.1<=b.1:=by
 have rf:uQ fs:=bAz th.sub hR
 have lt:=kB rf e1 e2
 constructor
 ·by_cases h:q.1 < a.1
  ·exfalso
   match i,e1,e2 with
   | 0,e1,e2 =>
    have:fs.head? = some a:=by rw [List.head?_eq_getElem?];exact e1
    rw [th.hd] at this
    have:=x4 hR this q hq
    omega
   | i+1,e1,e2 =>
    have il:i+1 < fs.length:=(bBe.mp e1).1
    obtain ⟨d,ed⟩:∃ d,fs[i]? = some d:=⟨_,aZ5 (by omega)⟩
    have c:=aCc (g:=ptL F) th.conv ed e1 e2
    have l:=th.left _ (pZ (g:=ptL F) ed e1) q hq
    exact ahead (a:=ptL F a) (b:=ptL F b) (d:=ptL F d) (q:=ptL F q) lt h t0 c l
  ·omega
 ·by_cases h:b.1 < q.1
  ·exfalso
   have il:i+1 < fs.length:=(bBe.mp e2).1
   by_cases w:i+2 < fs.length
   ·obtain ⟨d,ed⟩:∃ d,fs[i+2]? = some d:=⟨_,aZ5 w⟩
    have c:=aCc (g:=ptL F) th.conv e1 e2 ed
    have l:=th.left _ (pZ (g:=ptL F) e2 ed) q hq
    exact past (a:=ptL F a) (b:=ptL F b) (d:=ptL F d) (q:=ptL F q) lt h t0 c l
   ·have:fs.getLast? = some b:=by
     rw [bFc,show fs.length - 1=i+1 by omega]
     exact e2
    rw [th.ls] at this
    have:=pY hR this q hq
    omega
  ·omega
theorem aQ2{F:Int}{a b q:Rw}{rs:List Rw}(hf:Fac F rs)(ha:a∈rs)(hb:b∈rs)(hq:q∈rs)(h:a.1 < b.1)(e:lh (plc a b) q=lh (plc a b) a):bM (ptL F b) (ptL F a) (ptL F q)=0:=by
 have pp:=sU h (hf.b a ha).1 (hf.b b hb).1
 have l1:=(aE3 hf pp hq ha).mp (by rw [e];exact fN _)
 have l2:=(aE3 hf pp ha hq).mp (by rw [e];exact fN _)
 have ep:=(vV hf ha hb h).e
 dsimp only at ep
 unfold bM ptL
 dsimp only
 unfold vF at l1 l2
 generalize wI a.2 F=A at *
 generalize wI b.2 F=B at *
 generalize wI q.2 F=Q at *
 generalize (plc a b).1=p1 at *
 generalize (plc a b).2=p2 at *
 have k:(b.1 - a.1)*((q.1*p1*F+Q*p2) - (a.1*p1*F+A*p2)) = -(p2*((a.1 - b.1)*(Q - B) - (A - B)*(q.1 - b.1))):=by grind
 have z:(q.1*p1*F+Q*p2) - (a.1*p1*F+A*p2)=0:=by omega
 rw [z,Int.mul_zero] at k
 have k:p2*((a.1 - b.1)*(Q - B) - (A - B)*(q.1 - b.1))=0:=by omega
 rcases bC6.mp k with w | w
 ·omega
 ·exact w
theorem aVb{F:Int}{t:Int×Int}{a b q:Rw}:(b.1 - q.1)*(vF F t q - vF F t a)+(q.1 - a.1)*(vF F t q - vF F t b) = -(t.2*bM (ptL F b) (ptL F a) (ptL F q)):=by
 unfold bM ptL vF
 dsimp only
 grind
theorem aK6{F:Int}{t:Int×Int}{a b:Rw}{rs:List Rw}(hf:Fac F rs)(ha:a∈rs)(hb:b∈rs)(h:a.1 < b.1)(ft:FR.Fr t)(e:vF F t a=vF F t b):plc a b=t:=by
 have ap:=vV hf ha hb h
 refine aQ1 (sD (vR h (hf.b a ha).1 (hf.b b hb).1)) ft ap (AF.refl ft.pos) ?_
 unfold vF at e
 dsimp only
 grind
theorem aI6{F:Int}{rs fs:List Rw}{t:Int×Int}(hf:Fac F rs)(hR:uQ rs)(th:aV5 F rs fs)(ft:FR.Fr t){q1 q2:Rw}(m1:q1∈rs)(m2:q2∈rs)(lt:q1.1 < q2.1)(tp1:∀ r∈rs,vF F t r<=vF F t q1)(tp2:∀ r∈rs,vF F t r<=vF F t q2):∃ (i:Nat) (a b:Rw),fs[i]? = some a/\fs[i+1]? = some b/\plc a b=t:=by
 have rf:uQ fs:=bAz th.sub hR
 have eM:vF F t q1=vF F t q2:=by have:=tp1 q2 m2;have:=tp2 q1 m1;omega
 have step:∀ (i:Nat) (a b:Rw),fs[i]? = some a->fs[i+1]? = some b->a.1 < q2.1->vF F t a=vF F t q2->plc a b=t:=fun i a b e1 e2 la ea=>by
  have ha:=th.sub.subset (bAq e1)
  have hb:=th.sub.subset (bAq e2)
  have tn:0<=bM (ptL F b) (ptL F a) (ptL F q2):=th.left _ (pZ (g:=ptL F) e1 e2) q2 m2
  have c:=aVb (F:=F) (t:=t) (a:=a) (b:=b) (q:=q2)
  have n:=bBm (show 0<=t.2 by have:=ft.pos;omega) tn
  rw [ea,Int.sub_self,Int.mul_zero,Int.zero_add] at c
  have vb:=tp2 b hb
  refine aK6 hf ha hb (kB rf e1 e2) ft ?_
  by_cases z:vF F t q2 - vF F t b=0
  ·omega
  ·have:=bBs (show 0 < q2.1 - a.1 by omega) (show 0 < vF F t q2 - vF F t b by omega)
   omega
 obtain ⟨x,ex⟩:∃ x,rs.head? = some x:=by
  cases rs with
  | nil=>exact nomatch m1
  | cons x l=>exact ⟨x,rfl⟩
 obtain ⟨y,ey⟩:∃ y,rs.getLast? = some y:=by
  cases e:rs.getLast? with
  | none=>rw [bDg.mp e] at m1;exact nomatch m1
  | some y=>exact ⟨y,rfl⟩
 rcases around (fs:=fs) (q:=q1.1) (th.hd.trans ex) (th.ls.trans ey) (x4 hR ex q1 m1) (pY hR ey q1 m1) with ⟨z,e⟩ | ⟨i,a,b,e1,e2,e3,e4⟩
 ·exfalso
  have hx:=th.hd
  have hy:=th.ls
  rw [e,ex] at hx
  rw [e,ey] at hy
  have hx:z=x:=bAn hx
  have hy:z=y:=bAn hy
  have l1:=x4 hR ex q1 m1
  have l2:=pY hR ey q2 m2
  rw [<- hx] at l1
  rw [<- hy] at l2
  omega
 ·have ha:=th.sub.subset (bAq e1)
  have hb:=th.sub.subset (bAq e2)
  by_cases za:vF F t a=vF F t q2
  ·exact ⟨i,a,b,e1,e2,step i a b e1 e2 (by omega) za⟩
  ·have tn:0<=bM (ptL F b) (ptL F a) (ptL F q1):=th.left _ (pZ (g:=ptL F) e1 e2) q1 m1
   have c:=aVb (F:=F) (t:=t) (a:=a) (b:=b) (q:=q1)
   have n:=bBm (show 0<=t.2 by have:=ft.pos;omega) tn
   have va:=tp1 a ha
   have vb:=tp1 b hb
   have ab:=kB rf e1 e2
   have n1:=bBm (show 0<=b.1 - q1.1 by omega) (show 0<=vF F t q1 - vF F t a by omega)
   have n2:=bBm (show 0<=q1.1 - a.1 by omega) (show 0<=vF F t q1 - vF F t b by omega)
   have s1:(b.1 - q1.1)*(vF F t q1 - vF F t a)=0:=by omega
   have s2:(q1.1 - a.1)*(vF F t q1 - vF F t b)=0:=by omega
   have eb:b.1=q1.1:=by
    rcases bC6.mp s1 with w | w
    ·omega
    ·omega
   have vb2:vF F t b=vF F t q2:=by
    rcases bC6.mp s2 with w | w
    ·omega
    ·omega
   have il:i+1 < fs.length:=(bBe.mp e2).1
   by_cases w:i+2 < fs.length
   ·obtain ⟨d,ed⟩:∃ d,fs[i+2]? = some d:=⟨_,aZ5 w⟩
    exact ⟨i+1,b,d,e2,ed,step (i+1) b d e2 ed (by omega) vb2⟩
   ·exfalso
    have:fs.getLast? = some b:=by
     rw [bFc,show fs.length - 1=i+1 by omega]
     exact e2
    rw [th.ls] at this
    have:=pY hR this q2 m2
    omega
def eS2(a:(Int×Int)×(Int×Int)):List L:=[.p (slD a.1),.p (slD a.2)]
theorem aP2(a b:(Int×Int)×(Int×Int))(h:eS2 a=eS2 b):a=b:=by
 unfold eS2 at h
 injection h with h1 h
 injection h with h2 _
 injection h1 with h1
 injection h2 with h2
 exact bBq (frI h1) (frI h2)
def kE(s t:Int×Int):Int:=s.1*t.1+s.2*t.2
noncomputable def cR(K:aZz)(c:Cls):List L->Res L:=mOf eS2 (fun a=>Sz 100 a.1.1/\Sz 100 a.1.2/\Sz 100 a.2.1/\Sz 100 a.2.2) fun a=>.ok (.p (.int (kE a.1 a.2)))
noncomputable def nA(K:aZz)(c:Cls):MS:=(dW (aH iD (aH eV (aH ixE (aD 0) (mC (.int 0))) (aH ixE (aD 1) (mC (.int 0)))) (aH eV (aH ixE (aD 0) (mC (.int 1))) (aH ixE (aD 1) (mC (.int 1))))))
theorem xT:∀ ls,cR K c ls=.bad\/eK 2 (nA K c) ls=cR K c ls:=cJ fun a h=>by
 obtain ⟨s,t⟩:=a
 obtain ⟨z1,z2,z3,z4⟩:=h
 dsimp only at z1 z2 z3 z4 ⊢
 have i0:∀ x:Int×Int,ixE (.p (slD x)) (.p (.int 0))=.ok (.p (.int x.1)):=fun x=>iY _ _
 have i1:∀ x:Int×Int,ixE (.p (slD x)) (.p (.int 1))=.ok (.p (.int x.2)):=fun x=>i8 _ _ _
 have ml:∀ {x y:Int},Sz 100 x->Sz 100 y->eV (.p (.int x)) (.p (.int y))=.ok (.p (.int (x*y))):=fun hx hy=>jV ⟨hx.mono (by decide),hy.mono (by decide)⟩
 refine bH ?_
 rw [show bD 2 (eS2 (s,t))=[some (.p (slD s)),some (.p (slD t))] from rfl]
 unfold nA
 exact dC (aQ (aQ (aQ rfl rfl (i0 s)) (aQ rfl rfl (i0 t)) (ml z1 z3)) (aQ (aQ rfl rfl (i1 s)) (aQ rfl rfl (i1 t)) (ml z2 z4)) (lF _ _))
theorem xZ{s t:Int×Int}(z1:Sz 100 s.1)(z2:Sz 100 s.2)(z3:Sz 100 t.1)(z4:Sz 100 t.2):cR K c [.p (slD s),.p (slD t)]=.ok (.p (.int (kE s t))):=cK (a:=(s,t)) aP2 ⟨z1,z2,z3,z4⟩
structure GS(a:Pt×(Int×Int)×(Int×Int)):Prop where
 x:Good 300 a.1.1
 y:Good 300 a.1.2
 s:Sz 50 a.2.1.1/\Sz 50 a.2.1.2
 t:Good 900 a.2.2
noncomputable def eD(K:aZz)(c:Cls):List L->Res L:=mOf eGo GS fun a=>.ok (.p (.tuple [frD (cL a.1 a.2.1 a.2.2).1,frD (cL a.1 a.2.1 a.2.2).2]))
noncomputable def fA:En->Res Ev:=(aN 2 (dB K c) (aB (aH ixE (aD 1) (aD 0)) (aB (aN 2 (bR K c) (aB (aK bQ (aB (aH ixE (aD 2) (aD 0)) (aB (mC (.int 1)) aT))) (aB (aD 3) aT))) aT)))
noncomputable def oJ:MS:=(bU (cO 3 (dJ 1 [0,1,2] (yF aAf (aB (mC (.int 2)) aT)) (aJ 0) eR (fA K c))) (dW (aK bQ (aB (aH ixE (aD 3) (mC (.int 0))) (aB (aH ixE (aD 3) (mC (.int 1))) aT)))))
theorem aA1:∀ ls,eD K c ls=.bad\/eK 4 (oJ K c) ls=eD K c ls:=cJ fun a h=>by
 obtain ⟨pt,st,t⟩:=a
 obtain ⟨x,y,⟨s1,s2⟩,ht⟩:=h
 dsimp only at x y s1 s2 ht ⊢
 have g1:=gR s1 ht
 have g2:=gR s2 ht
 have i0:ixE (.p (.tuple [frD pt.1,frD pt.2])) (.p (.int 0))=.ok (.p (frD pt.1)):=iY _ _
 have i1:ixE (.p (.tuple [frD pt.1,frD pt.2])) (.p (.int 1))=.ok (.p (frD pt.2)):=i8 _ _ _
 have j0:ixE (.p (slD st)) (.p (.int 0))=.ok (.p (.int st.1)):=iY _ _
 have j1:ixE (.p (slD st)) (.p (.int 1))=.ok (.p (.int st.2)):=i8 _ _ _
 have t1:=rV K c (i:=st.1) (s1.mono (by decide)) ht (by decide)
 have t2:=rV K c (i:=st.2) (s2.mono (by decide)) ht (by decide)
 have p1:dB K c [.p (frD pt.1),.p (frD (hT st.1 t))]=.ok (.p (frD (hP pt.1 (hT st.1 t)))):=tJ K c x g1 (by decide) (by decide)
 have p2:dB K c [.p (frD pt.2),.p (frD (hT st.2 t))]=.ok (.p (frD (hP pt.2 (hT st.2 t)))):=tJ K c y g2 (by decide) (by decide)
 have e0:fA K c [some (.p (.int 0)),some (.p (.tuple [frD pt.1,frD pt.2])),some (.p (slD st)),some (.p (frD t))]=.ok (.p (frD (hP pt.1 (hT st.1 t)))):=dD (aQ rfl rfl i0) (dD (b:=frD t) (uP (aQ rfl rfl j0) rfl) rfl t1) p1
 have e1:fA K c [some (.p (.int 1)),some (.p (.tuple [frD pt.1,frD pt.2])),some (.p (slD st)),some (.p (frD t))]=.ok (.p (frD (hP pt.2 (hT st.2 t)))):=dD (aQ rfl rfl i1) (dD (b:=frD t) (uP (aQ rfl rfl j1) rfl) rfl t2) p2
 have cm:dJ 1 [0,1,2] (yF aAf (aB (mC (.int 2)) aT)) (aJ 0) eR (fA K c) [some (.p (.tuple [frD pt.1,frD pt.2])),some (.p (slD st)),some (.p (frD t)),none]=.ok (.f (.list [frD (hP pt.1 (hT st.1 t)),frD (hP pt.2 (hT st.2 t))])):=by
  refine eB (ds:=[.int 0,.int 1]) rfl (by decide) ?_
  have c0:aV 1 [0,1,2] (aJ 0) eR (fA K c) [some (.p (.tuple [frD pt.1,frD pt.2])),some (.p (slD st)),some (.p (frD t)),none] (.int 0)=some (some (frD (hP pt.1 (hT st.1 t)))):=by
   unfold aV
   ktr_call 3 ⟨aJ,eR,mF,sV,List.replicate,bAm,bAw,e0,Ev.c⟩
  have c1:aV 1 [0,1,2] (aJ 0) eR (fA K c) [some (.p (.tuple [frD pt.1,frD pt.2])),some (.p (slD st)),some (.p (frD t)),none] (.int 1)=some (some (frD (hP pt.2 (hT st.2 t)))):=by
   unfold aV
   ktr_call 3 ⟨aJ,eR,mF,sV,List.replicate,bAm,bAw,e1,Ev.c⟩
  simp only [nV,c0,c1]
 refine bH ?_
 rw [show bD 4 (eGo (pt,st,t))=[some (.p (.tuple [frD pt.1,frD pt.2])),some (.p (slD st)),some (.p (frD t)),none] from rfl]
 unfold oJ
 exact (aL (gH cm)).trans (dC (uP (aQ rfl rfl rfl) (aQ rfl rfl rfl)))
theorem aKu{pt:Pt}{st t:Int×Int}(h:GS (pt,st,t)):eD K c [.p (.tuple [frD pt.1,frD pt.2]),.p (slD st),.p (frD t)]=.ok (.p (.tuple [frD (cL pt st t).1,frD (cL pt st t).2])):=cK (a:=(pt,st,t)) aJ8 h
noncomputable def lB(K:aZz)(c:Cls):MS:=(bU (i9 (bV (aH ltE (aD 1) (aK jM (aB (aD 0) aT)))) (dW (aH kL (aH ixE (aD 0) (aD 1)) (aH aB3 (mC (.int 10)) (mC (.int 60))))) dX) (dW (mC (.int 0))))
noncomputable def dY(ls:List L):Res L:=eK 2 (lB K c) ls
theorem aBu:∀ ls,dY K c ls=.bad\/eK 2 (lB K c) ls=dY K c ls:=fun _=>.inr rfl
theorem aDh(ns:List Int)(k:Nat):∃ v:Int,0<=v/\v < 10 ^ 60/\dY K c [.p (.list (ns.map .int)),.p (.int (k:Int))]=.ok (.p (.int v)):=by
 have hlen:jM [.p (.list (ns.map .int))]=.ok (.p (.int (ns.length:Nat))):=by simp [jM,kY]
 have p60:aJd 10 60:=⟨by decide,by decide,by decide⟩
 have pn:(10:Int) ^ Int.toNat 60≠0:=by decide
 have ht:bV (aH ltE (aD 1) (aK jM (aB (aD 0) aT))) [some (.p (.list (ns.map .int))),some (.p (.int (k:Int)))]=.ok (decide (k < ns.length)):=by
  simp [bV,aH,aD,aK,aB,aT,Res.bind,Ev.c,hlen,iG,dO]
 unfold dY
 by_cases hk:k < ns.length
 ·rw [aZ8 hk] at ht
  have ix:ixE (.p (.list (ns.map .int))) (.p (.int (k:Int)))=.ok (.p (.int (ns.getD k 0))):=uN (xs:=ns) (enc:=PyData.int) rfl hk rfl
  have fp:=cT (a:=ns.getD k 0) (b:=10 ^ Int.toNat 60) (by decide)
  refine ⟨(ns.getD k 0).fmod (10 ^ Int.toNat 60),fp.1,fp.2,bH ?_⟩
  rw [show bD 2 [.p (.list (ns.map .int)),.p (.int (k:Int))]=[some (.p (.list (ns.map .int))),some (.p (.int (k:Int)))] from rfl]
  unfold lB
  exact jA ((pL ht).trans (dC (aQ (aQ rfl rfl ix) (aQ rfl rfl (l6 p60)) (fK pn))))
 ·rw [aZ7 hk] at ht
  refine ⟨0,by decide,by decide,bH ?_⟩
  rw [show bD 2 [.p (.list (ns.map .int)),.p (.int (k:Int))]=[some (.p (.list (ns.map .int))),some (.p (.int (k:Int)))] from rfl]
  unfold lB
  exact (aL (nJ ht)).trans (dC rfl)
noncomputable def fH:MS:=(dW (aN 2 (bN K c) (aB (aH kZ (aH kL (aH j6 (aD 0) (mC (.int 12))) (aH iD (aH eV (mC (.int 2)) (aH aB3 (mC (.int 10)) (mC (.int 20)))) (mC (.int 1)))) (aH aB3 (mC (.int 10)) (mC (.int 20)))) (aB (aH iD (mC (.int 1)) (aH kL (aD 0) (mC (.int 12)))) aT))))
noncomputable def bI(ls:List L):Res L:=eK 1 (fH K c) ls
theorem oP:∀ ls,bI K c ls=.bad\/eK 1 (fH K c) ls=bI K c ls:=fun _=>.inr rfl
theorem aHv(x:Int):∃ h,GN h/\bI K c [.p (.int x)]=.ok (.p (frD h)):=by
 have p20:aJd 10 20:=⟨by decide,by decide,by decide⟩
 have d12:(12:Int)≠0:=by decide
 have m12:=cT (a:=x) (b:=12) (by decide)
 have pw:(10:Int) ^ Int.toNat 20=100000000000000000000:=by decide
 have dn:(2*10 ^ Int.toNat 20+1:Int)≠0:=by decide
 have mm:=cT (a:=x.fdiv 12) (b:=2*10 ^ Int.toNat 20+1) (by decide)
 have c12:mG x 12:=⟨d12,by unfold Sz;decide⟩
 have ml:eV (.p (.int 2)) (.p (.int (10 ^ Int.toNat 20)))=.ok (.p (.int (2*10 ^ Int.toNat 20))):=jV ⟨by refine (show Sz 10 (2:Int) by unfold Sz;decide).mono (by decide),by refine (show Sz 100 ((10:Int) ^ Int.toNat 20) by unfold Sz;decide).mono (by decide)⟩
 have b6:Sz 6 (1+x.fmod 12):=by unfold Sz;omega
 refine ⟨FR.mk ((x.fdiv 12).fmod (2*10 ^ Int.toNat 20+1) - 10 ^ Int.toNat 20) (1+x.fmod 12),aP0 (by omega) (by unfold Sz;omega) b6,?_⟩
 unfold bI
 refine bH ?_
 rw [show bD 1 [.p (.int x)]=[some (.p (.int x))] from rfl]
 unfold fH
 exact dC (dD (aQ (aQ (aQ rfl rfl (i6 c12)) (aQ (aQ rfl (aQ rfl rfl (l6 p20)) ml) rfl (lF _ _)) (fK dn)) (aQ rfl rfl (l6 p20)) (hX _ _)) (aQ rfl (aQ rfl rfl (fK d12)) (lF _ _)) (vW K c (by omega) (b6.mono (by decide))))
def slP(p:Pl):Int×Int:=(p.1,p.2.1)
def cP(pt:Pt)(M:Int×Int)(ps:List Pl):List (Int×Int):=(ps.filter fun p=>decide (hgt p pt=M)).map slP
theorem aDq(ng:Bool)(x y:Int×Int):eqE ng (.p (frD x)) (.p (frD y))=.ok (.p (.bool (if ng then !decide (x=y) else decide (x=y)))):=by simp [eqE,dat,aS7,aN8]
theorem aCn(pt:Pt)(M:Int×Int)(ps:List Pl)(p:Pl):cP pt M (ps++[p])=if hgt p pt=M then cP pt M ps++[slP p] else cP pt M ps:=by
 unfold cP
 rw [List.filter_append,bA4]
 by_cases h:hgt p pt=M
 ·rw [bAc h]
  simp [h]
 ·rw [bAg h]
  simp [h]
noncomputable def iS:MS:=(bU (cO 5 (aN 2 (cX K c) (aB (aD 4) (aB (aD 1) aT)))) (bU (i9 (bV (aN 2 (bS K c) (aB (aD 3) (aB (aD 5) aT)))) (bU (cO 3 (aD 5)) (cO 2 (aK oN aT))) dX) (i9 (bV (aH (eqE false) (aD 5) (aD 3))) (mO 2 (aK bQ (aB (aH ixE (aD 4) (mC (.int 0))) (aB (aH ixE (aD 4) (mC (.int 1))) aT)))) dX)))
noncomputable def lH:MS:=(bU (cO 2 (aK oN aT)) (bU (cO 3 (aN 2 (cX K c) (aB (aH ixE (aD 0) (mC (.int 0))) (aB (aD 1) aT)))) (bU (aA2 (eX (aD 0)) (aJ 4) (iS K c)) (dW (aD 2)))))
noncomputable def dU(ls:List L):Res L:=eK 6 (lH K c) ls
theorem y3:∀ ls,dU K c ls=.bad\/eK 6 (lH K c) ls=dU K c ls:=fun _=>.inr rfl
theorem aY3(A:Option L){pt:Pt}{p:Pl}(g:GoodQ p pt){M:Int×Int}(fM:FSz 2000 M){S:List (Int×Int)}(hS:S.length<=1000)(r5:Option L):iS K c [A,some (.p (.tuple [frD pt.1,frD pt.2])),some (.o (.list (S.map slD))),some (.p (frD M)),some (.p (plD p)),r5]=some (.nx [A,some (.p (.tuple [frD pt.1,frD pt.2])),some (.o (.list ((if ltF M (hgt p pt)=true then [slP p] else if hgt p pt=M then S++[slP p] else S).map slD))),some (.p (frD (if ltF M (hgt p pt)=true then hgt p pt else M))),some (.p (plD p)),some (.p (frD (hgt p pt)))]):=by
 have hh:=oV K c g
 have gh:=g.hgt
 have bf:=zI K c (x:=M) (y:=hgt p pt) fM ⟨gh.2.1.mono (by decide),gh.2.2.mono (by decide)⟩
 generalize hgt p pt=h at *
 have ap:∀ (T:List (Int×Int)) (X:Int×Int),T.length<=1000->mO 2 (aK bQ (aB (aH ixE (aD 4) (mC (.int 0))) (aB (aH ixE (aD 4) (mC (.int 1))) aT))) [A,some (.p (.tuple [frD pt.1,frD pt.2])),some (.o (.list (T.map slD))),some (.p (frD X)),some (.p (plD p)),some (.p (frD h))]=some (.nx [A,some (.p (.tuple [frD pt.1,frD pt.2])),some (.o (.list ((T++[slP p]).map slD))),some (.p (frD X)),some (.p (plD p)),some (.p (frD h))]):=fun T X hT=>by
  rw [aTo (i:=2) (ds:=T.map slD) (d:=slD (slP p)) rfl (uP (aQ rfl rfl (u9 p)) (aQ rfl rfl (u7 p))) (by rw [aZ0];omega),bA4]
  rfl
 unfold iS
 refine (aL (b9 (dD rfl rfl hh))).trans ?_
 by_cases z:ltF M h=true
 ·rw [z] at bf
  rw [bAc z,bAc z]
  refine (aL ((pL (hV (dD rfl rfl bf))).trans ((aL (b9 rfl)).trans (gH (d:=.list []) rfl)))).trans ?_
  refine (pL (hV (aQ rfl rfl ((aDq false h h).trans (by rw [aZ8 rfl];rfl))))).trans ?_
  exact ap [] h (bBo _)
 ·have z:=bB6.mpr z
  rw [z] at bf
  rw [z,bAg bAs,bAg bAs]
  refine (aL ((nJ (hV (dD rfl rfl bf))))).trans ?_
  by_cases e:h=M
  ·rw [bAc e]
   exact (pL (hV (aQ rfl rfl ((aDq false h M).trans (by rw [aZ8 e];rfl))))).trans (ap S M hS)
  ·rw [bAg e]
   exact (nJ (hV (aQ rfl rfl ((aDq false h M).trans (by rw [aZ7 e];rfl)))))
theorem aA4(K:aZz)(c:Cls)(A:Option L){pt:Pt}:∀ (qs ps:List Pl) (M:Int×Int) (r4 r5:Option L),FSz 2000 M->FR.Fr M->(∀ p∈qs,GoodQ p pt/\FR.Fr (hgt p pt))->(∀ p∈ps,FR.Fr (hgt p pt)/\leF (hgt p pt) M)->ps.length+qs.length<=1000->∃ (M':Int×Int) (q4 q5:Option L),(M'=M\/∃ p∈qs,M'=hgt p pt)/\leF M M'/\FR.Fr M'/\(∀ p∈ps++qs,leF (hgt p pt) M')/\gS (aJ 4) (iS K c) (qs.map plD) [A,some (.p (.tuple [frD pt.1,frD pt.2])),some (.o (.list ((cP pt M ps).map slD))),some (.p (frD M)),r4,r5]=some (.nx [A,some (.p (.tuple [frD pt.1,frD pt.2])),some (.o (.list ((cP pt M' (ps++qs)).map slD))),some (.p (frD M')),q4,q5])
 | [],ps,M,r4,r5,_,fr,_,h2,_=>⟨M,r4,r5,.inl rfl,fN _,fr,by rw [bCr];exact fun p hp=>(h2 p hp).2,by rw [bCr];rfl⟩
 | p :: qs,ps,M,r4,r5,fM,fr,h1,h2,hl=>by
  rw [aZ2] at hl
  obtain ⟨g,fp⟩:=h1 p (.head _)
  have tl:(cP pt M ps).length<=1000:=by
   unfold cP
   rw [aZ0]
   exact bA5 (bBk _ _) (by omega)
  have b:=aY3 K c A g fM tl r5
  have gh:=g.hgt
  have fh:FSz 2000 (hgt p pt):=⟨gh.2.1.mono (by decide),gh.2.2.mono (by decide)⟩
  have sn:∀ M1:Int×Int,cP pt M1 (ps++[p])=(if hgt p pt=M1 then cP pt M1 ps++[slP p] else cP pt M1 ps):=fun M1=>aCn pt M1 ps p
  rw [bAb,aGy rfl b]
  by_cases z:ltF M (hgt p pt)=true
  ·have emp:cP pt (hgt p pt) ps=[]:=by
    unfold cP
    rw [List.map_eq_nil_iff,List.filter_eq_nil_iff]
    intro q hq e
    have e:=bBa e
    obtain ⟨f2,l2⟩:=h2 q hq
    rw [e] at l2
    have z:=bBa z
    unfold leF at l2
    omega
   obtain ⟨M',q4,q5,a1,a2,a3,a4,a5⟩:=aA4 K c A qs (ps++[p]) (hgt p pt) (some (.p (plD p))) (some (.p (frD (hgt p pt)))) fh fp (fun q hq=>h1 q (.tail _ hq)) (fun q hq=>by
    rcases bB1.mp hq with hq | hq
    ·exact ⟨(h2 q hq).1,eW (h2 q hq).1.pos fr.pos fp.pos (h2 q hq).2 (aAc z)⟩
    ·rw [bAj.mp hq];exact ⟨fp,fN _⟩) (by rw [bAi,bBy];omega)
   rw [bCg] at a4 a5
   refine ⟨M',q4,q5,?_,eW fr.pos fp.pos a3.pos (aAc z) a2,a3,a4,?_⟩
   ·rcases a1 with a1 | ⟨q,hq,e⟩
    ·exact .inr ⟨p,.head _,a1⟩
    ·exact .inr ⟨q,.tail _ hq,e⟩
   ·rw [bAc z,bAc z]
    rw [sn,bAc rfl,emp] at a5
    exact a5
  ·have z:=bB6.mpr z
   obtain ⟨M',q4,q5,a1,a2,a3,a4,a5⟩:=aA4 K c A qs (ps++[p]) M (some (.p (plD p))) (some (.p (frD (hgt p pt)))) fM fr (fun q hq=>h1 q (.tail _ hq)) (fun q hq=>by
    rcases bB1.mp hq with hq | hq
    ·exact h2 q hq
    ·rw [bAj.mp hq];exact ⟨fp,tN z⟩) (by rw [bAi,bBy];omega)
   rw [bCg] at a4 a5
   refine ⟨M',q4,q5,?_,a2,a3,a4,?_⟩
   ·rcases a1 with a1 | ⟨q,hq,e⟩
    ·exact .inl a1
    ·exact .inr ⟨q,.tail _ hq,e⟩
   ·rw [z,bAg bAs,bAg bAs]
    rw [sn] at a5
    exact a5
structure IsM(ps:List Pl)(pt:Pt)(M:Int×Int):Prop where
 f:FR.Fr M
 m:∃ p∈ps,hgt p pt=M
 l:∀ p∈ps,leF (hgt p pt) M
theorem aGb{ps:List Pl}{pt:Pt}(h0:ps≠[])(hl:ps.length<=1000)(hg:∀ p∈ps,GoodQ p pt/\FR.Fr (hgt p pt)):∃ M,IsM ps pt M/\dU K c [.p (.list (ps.map plD)),.p (.tuple [frD pt.1,frD pt.2])]=.ok (.o (.list ((cP pt M ps).map slD))):=by
 obtain ⟨p0,r,rfl⟩:∃ p r,ps=p :: r:=by
  cases ps with
  | nil=>exact absurd rfl h0
  | cons p r=>exact ⟨p,r,rfl⟩
 obtain ⟨g,fp⟩:=hg p0 (.head _)
 have gh:=g.hgt
 obtain ⟨M,q4,q5,a1,a2,a3,a4,a5⟩:=aA4 K c (some (.p (.list ((p0 :: r).map plD)))) (p0 :: r) [] (hgt p0 pt) none none ⟨gh.2.1.mono (by decide),gh.2.2.mono (by decide)⟩ fp hg (fun _ h=>nomatch h) (by rw [bAv];omega)
 refine ⟨M,⟨a3,?_,a4⟩,?_⟩
 ·rcases a1 with a1 | ⟨q,hq,e⟩
  ·exact ⟨p0,.head _,a1.symm⟩
  ·exact ⟨q,hq,e.symm⟩
 ·have i0:ixE (.p (.list ((p0 :: r).map plD))) (.p (.int 0))=.ok (.p (plD p0)):=uN (k:=0) (d:=p0) (xs:=p0 :: r) (enc:=plD) rfl (Nat.zero_lt_succ _) rfl
  unfold dU
  refine bH ?_
  rw [show bD 6 [.p (.list ((p0 :: r).map plD)),.p (.tuple [frD pt.1,frD pt.2])]=[some (.p (.list ((p0 :: r).map plD))),some (.p (.tuple [frD pt.1,frD pt.2])),none,none,none,none] from rfl]
  unfold lH
  refine (aL (gH (d:=.list []) rfl)).trans ((aL (b9 (dD (aQ rfl rfl i0) rfl (oV K c g)))).trans ?_)
  refine (aL ((qY (itL rfl)).trans a5)).trans ?_
  rfl
noncomputable def nT(K:aZz)(c:Cls):En->Res Ev:=(aK bQ (aB (aH ixE (aD 0) (mC (.int 0))) (aB (aH ixE (aD 0) (mC (.int 1))) (aB (aH j9 (aD 1) (aD 0)) aT))))
noncomputable def eN:MS:=(bU (cO 5 (aN 2 (dY K c) (aB (aD 0) (aB (aH iD (aD 1) (aD 4)) aT)))) (bU (cO 6 (aK bQ (aB (aH kL (aD 5) (mC (.int 9))) (aB (aH kL (aH j6 (aD 5) (mC (.int 9))) (mC (.int 9))) aT)))) (bU (cO 7 (aN 1 (bI K c) (aB (aH j6 (aD 5) (mC (.int 81))) aT))) (i9 (mOr (bV (aH (w9 true) (aD 6) (aD 3))) (bV (aN 2 (bS K c) (aB (aH j9 (aD 3) (aD 6)) (aB (aD 7) aT))))) (qE 3 (aD 6) (aD 7)) dX))))
noncomputable def gA:MS:=(bU (cO 3 mDT) (bU (aA2 (yF aAf (aB (aD 2) aT)) (aJ 4) (eN K c)) (fun en=>(dW (dJ 1 [3] (eX (aK lN (aB (aK pH (aB (aD 3) aT)) aT))) (aJ 0) eR (nT K c))) (frz 3 en))))
noncomputable def cS(ls:List L):Res L:=eK 8 (gA K c) ls
theorem pM:∀ ls,cS K c ls=.bad\/eK 8 (gA K c) ls=cS K c ls:=fun _=>.inr rfl
theorem aY9(ns:List Int)(B:Option L)(k:Nat)(m:Mp)(hm:m.length<=1000)(gm:Gn m)(r5 r6 r7:Option L):∃ m' q5 q6 q7,Gn m'/\m'≠[]/\m'.length<=m.length+1/\eN K c [some (.p (.list (ns.map .int))),some (.p (.int 4)),B,some (.o (.dict (N.encM slD frD m))),some (.p (.int (0+(k:Int)))),r5,r6,r7]=some (.nx [some (.p (.list (ns.map .int))),some (.p (.int 4)),B,some (.o (.dict (N.encM slD frD m'))),some (.p (.int (0+(k:Int)))),q5,q6,q7]):=by
 obtain ⟨v,v0,v1,eo⟩:=aDh K c ns (4+k)
 rw [show ((4+k:Nat):Int)=4+(0+(k:Int)) by omega] at eo
 obtain ⟨h,gh,eh⟩:=aHv K c (v.fdiv 81)
 have d9:(9:Int)≠0:=by decide
 have f1:=cT (a:=v) (b:=9) (by decide)
 have f2:=cT (a:=v.fdiv 9) (b:=9) (by decide)
 have c9:mG v 9:=⟨d9,by unfold Sz;decide⟩
 have c81:mG v 81:=⟨by decide,by unfold Sz;decide⟩
 have hs:S8 (v.fmod 9,(v.fdiv 9).fmod 9):=⟨f1.1,by show v.fmod 9<=8;omega,f2.1,by show (v.fdiv 9).fmod 9<=8;omega⟩
 refine ⟨hbS m (v.fmod 9,(v.fdiv 9).fmod 9) h,some (.p (.int v)),some (.p (slD (v.fmod 9,(v.fdiv 9).fmod 9))),some (.p (frD h)),gm.step hs gh,aN7 m _ h,aI5 m _ h,?_⟩
 unfold eN
 refine (aL (b9 (dD rfl (aQ rfl rfl (lF _ _)) eo))).trans ?_
 refine (aL (b9 (d:=slD (v.fmod 9,(v.fdiv 9).fmod 9)) (uP (aQ rfl rfl (fK d9)) (aQ (aQ rfl rfl (i6 c9)) rfl (fK d9))))).trans ?_
 refine (aL (b9 (pS (aQ rfl rfl (i6 c81)) rfl eh))).trans ?_
 exact aUm K c rfl rfl rfl hm gm gh
theorem aF4(K:aZz)(c:Cls)(ns:List Int)(B:Option L):∀ (ks:List Nat) (m:Mp) (r4 r5 r6 r7:Option L),m.length+ks.length<=100->Gn m->∃ (m':Mp) (q4 q5 q6 q7:Option L),Gn m'/\(ks≠[]\/m≠[]->m'≠[])/\m'.length<=m.length+ks.length/\gS (aJ 4) (eN K c) (ks.map fun k:Nat=>.int (0+(k:Int))) [some (.p (.list (ns.map .int))),some (.p (.int 4)),B,some (.o (.dict (N.encM slD frD m))),r4,r5,r6,r7]=some (.nx [some (.p (.list (ns.map .int))),some (.p (.int 4)),B,some (.o (.dict (N.encM slD frD m'))),q4,q5,q6,q7])
 | [],m,r4,r5,r6,r7,_,g=>⟨m,r4,r5,r6,r7,g,fun h=>h.elim (fun z=>absurd rfl z) id,bAf _,rfl⟩
 | k :: ks,m,r4,r5,r6,r7,hk,g=>by
  rw [aZ2] at hk
  obtain ⟨m1,q5,q6,q7,g1,n1,l1,hb⟩:=aY9 K c ns B k m (by omega) g r5 r6 r7
  obtain ⟨m2,p4,p5,p6,p7,g2,n2,l2,ih⟩:=aF4 K c ns B ks m1 (some (.p (.int (0+(k:Int))))) q5 q6 q7 (by omega) g1
  refine ⟨m2,p4,p5,p6,p7,g2,fun _=>n2 (.inr n1),by rw [aZ2];omega,?_⟩
  rw [bAb,aGy rfl hb]
  exact ih
theorem aX8(ns:List Int){n:Nat}(h0:1<=n)(hl:n<=10):∃ ps:List Pl,ps≠[]/\ps.length<=10/\(∀ p∈ps,GPn p)/\ps.Pairwise UnS/\cS K c [.p (.list (ns.map .int)),.p (.int 4),.p (.int (n:Int))]=.ok (.o (.list (ps.map plD))):=by
 have rl:(List.range n).length=n:=bB5
 obtain ⟨m,q4,q5,q6,q7,g,ne,ln,hlp⟩:=aF4 K c ns (some (.p (.int (n:Int)))) (List.range n) [] none none none none (by rw [rl,bAv];omega) ⟨(fun _ _ e=>nomatch e),bGb⟩
 rw [bAv,bB4,rl] at ln
 obtain ⟨a1,a2,a3⟩:=aJ0 g (ne (.inl fun z=>by rw [z,bAv] at rl;omega))
 refine ⟨l5 m,a1,by rw [qG];omega,a2,a3,?_⟩
 ·have rg:aAf [.p (.int (n:Int))]=.ok (aFz 0 n):=by
   unfold aAf
   dsimp only
   rw [bAc ⟨by omega,by omega⟩,bD1]
  unfold cS
  refine bH ?_
  rw [show bD 8 [.p (.list (ns.map .int)),.p (.int 4),.p (.int (n:Int))]=[some (.p (.list (ns.map .int))),some (.p (.int 4)),some (.p (.int (n:Int))),none,none,none,none,none] from rfl]
  unfold gA
  have hit:yF aAf (aB (aD 2) aT) [some (.p (.list (ns.map .int))),some (.p (.int 4)),some (.p (.int (n:Int))),some (.o (.dict [])),none,none,none,none]=.ok (aFz 0 n):=itA (bP rfl rfl) rg
  refine (aL (gH (d:=.dict []) rfl)).trans ((aL ((qY hit).trans hlp)).trans ?_)
  refine mQ (i:=3) (e1:=[some (.p (.list (ns.map .int))),some (.p (.int 4)),some (.p (.int (n:Int))),some (.p (.dict (N.encM slD frD m))),q4,q5,q6,q7]) rfl (xK (aNs ra rfl (by omega)))
structure Dn(ps:List Pl)(pt:Pt)(st:Int×Int):Prop where
 n:ps≠[]
 l:ps.length<=10
 g:∀ p∈ps,GPn p
 u:ps.Pairwise UnS
 x:GN pt.1
 y:GN pt.2
 a:Sz 50 st.1
 b:Sz 50 st.2
noncomputable def iZ:MS:=(bU (i9 (wA (bV (aH gtE (aK jM (aB (aD 0) aT)) (mC (.int 0)))) (bV (aH (eqE false) (aH kL (aH ixE (aD 0) (mC (.int 0))) (mC (.int 2))) (mC (.int 1))))) (bU (cO 1 (aN 3 (cS K c) (aB (aD 0) (aB (mC (.int 4)) (aB (aH iD (mC (.int 1)) (aH kL (aH j6 (aH kL (aH ixE (aD 0) (mC (.int 0))) (aH aB3 (mC (.int 10)) (mC (.int 60)))) (mC (.int 2))) (mC (.int 10)))) aT))))) (bU (cO 2 (aK bQ (aB (aN 1 (bI K c) (aB (aN 2 (dY K c) (aB (aD 0) (aB (mC (.int 1)) aT))) aT)) (aB (aN 1 (bI K c) (aB (aN 2 (dY K c) (aB (aD 0) (aB (mC (.int 2)) aT))) aT)) aT)))) (bU (cO 3 (aN 2 (dY K c) (aB (aD 0) (aB (mC (.int 3)) aT)))) (bU (cO 4 (aH iD (aH eV (mC (.int 2)) (aH aB3 (mC (.int 10)) (mC (.int 12)))) (mC (.int 1)))) (fun en=>(dW (aK bQ (aB (aD 1) (aB (aD 2) (aB (aK bQ (aB (aH kZ (aH kL (aD 3) (aD 4)) (aH aB3 (mC (.int 10)) (mC (.int 12)))) (aB (aH kZ (aH kL (aH j6 (aD 3) (aD 4)) (aD 4)) (aH aB3 (mC (.int 10)) (mC (.int 12)))) aT))) aT))))) (frz 1 en)))))) dX) (bU (cO 1 (aN 2 (fR K c) (aB (aH iD (mSl (aD 0) (mPt (mC (.int 4))) (mPt (mC (.int 13)))) (aK oN (aB (aN 2 (cI K c) (aB (aD 0) (aB (mC (.int 0)) aT))) aT))) (aB (aH kL (aN 2 (cI K c) (aB (aD 0) (aB (mC (.int 1)) aT))) (mC (.int 1000003))) aT)))) (bU (cO 5 (aN 2 (cI K c) (aB (aD 0) (aB (mC (.int 2)) aT)))) (fun en=>(dW (aK bQ (aB (aD 1) (aB (aK bQ (aB (aN 2 (cM K c) (aB (aD 5) (aB (mC (.int 51)) aT))) (aB (aN 2 (cM K c) (aB (aD 5) (aB (mC (.int 57)) aT))) aT))) (aB (aN 1 (fO K c) (aB (aN 2 (cI K c) (aB (aD 0) (aB (mC (.int 3)) aT))) aT)) aT))))) (frz 1 en)))))
noncomputable def eC(ls:List L):Res L:=eK 6 (iZ K c) ls
theorem wK:∀ ls,eC K c ls=.bad\/eK 6 (iZ K c) ls=eC K c ls:=fun _=>.inr rfl
theorem aMk(ns:List Int):∃ ps pt st,Dn ps pt st/\eC K c [.p (.list (ns.map .int))]=.ok (.p (.tuple [.list (ps.map plD),.tuple [frD pt.1,frD pt.2],slD st])):=by
 have ln:jM [.p (.list (ns.map .int))]=.ok (.p (.int (ns.length:Nat))):=by simp [jM,kY]
 have p60:aJd 10 60:=⟨by decide,by decide,by decide⟩
 have p12:aJd 10 12:=⟨by decide,by decide,by decide⟩
 have pn:(10:Int) ^ Int.toNat 60≠0:=by decide
 have d2:(2:Int)≠0:=by decide
 have i0:ns≠[]->ixE (.p (.list (ns.map .int))) (.p (.int 0))=.ok (.p (.int (ns.getD 0 0))):=fun h=>uN (k:=0) (xs:=ns) (enc:=PyData.int) rfl (bEp.mpr h) rfl
 have tt:∃ b:Bool,(b=true->ns≠[])/\wA (bV (aH gtE (aK jM (aB (aD 0) aT)) (mC (.int 0)))) (bV (aH (eqE false) (aH kL (aH ixE (aD 0) (mC (.int 0))) (mC (.int 2))) (mC (.int 1)))) [some (.p (.list (ns.map .int))),none,none,none,none,none]=.ok b:=by
  by_cases h:ns=[]
  ·refine ⟨false,(fun z=>nomatch z),aWb (hV (aQ (gO (bP rfl rfl) ln) rfl ?_))⟩
   rw [h]
   rfl
  ·have h1:gtE (.p (.int (ns.length:Nat))) (.p (.int 0))=.ok (.p (.bool true)):=by
    have:0 < ns.length:=bEp.mpr h
    show Res.ok (Ev.p (.bool (decide (((ns.length:Nat):Int) > 0))))=_
    rw [aZ8 (by omega)]
   exact ⟨_,fun _=>h,aWy (hV (aQ (gO (bP rfl rfl) ln) rfl h1)) (hV (aQ (aQ (aQ rfl rfl (i0 h)) rfl (fK d2)) rfl eq_is))⟩
 obtain ⟨b,hb,tt⟩:=tt
 cases b with
 | true =>
  have h:=hb rfl
  have f10:=cT (a:=((ns.getD 0 0).fmod (10 ^ Int.toNat 60)).fdiv 2) (b:=10) (by decide)
  obtain ⟨n,en⟩:∃ n:Nat,(n:Int)=1+(((ns.getD 0 0).fmod (10 ^ Int.toNat 60)).fdiv 2).fmod 10:=⟨(1+(((ns.getD 0 0).fmod (10 ^ Int.toNat 60)).fdiv 2).fmod 10).toNat,by omega⟩
  obtain ⟨ps,a1,a2,a3,a4,ep⟩:=aX8 K c ns (n:=n) (by omega) (by omega)
  rw [en] at ep
  obtain ⟨v1,_,_,e1⟩:=aDh K c ns 1
  obtain ⟨v2,_,_,e2⟩:=aDh K c ns 2
  obtain ⟨v,_,_,e3⟩:=aDh K c ns 3
  obtain ⟨x,gx,ex⟩:=aHv K c v1
  obtain ⟨y,gy,ey⟩:=aHv K c v2
  have ml:eV (.p (.int 2)) (.p (.int (10 ^ Int.toNat 12)))=.ok (.p (.int (2*10 ^ Int.toNat 12))):=jV ⟨by refine (show Sz 10 (2:Int) by unfold Sz;decide).mono (by decide),by refine (show Sz 100 ((10:Int) ^ Int.toNat 12) by unfold Sz;decide).mono (by decide)⟩
  have dn:(2*10 ^ Int.toNat 12+1:Int)≠0:=by decide
  have cw:mG v (2*10 ^ Int.toNat 12+1):=⟨dn,by refine (show Sz 100 ((2*10 ^ Int.toNat 12+1:Int)) by unfold Sz;decide).mono (by decide)⟩
  have m1:=cT (a:=v) (b:=2*10 ^ Int.toNat 12+1) (by decide)
  have m2:=cT (a:=v.fdiv (2*10 ^ Int.toNat 12+1)) (b:=2*10 ^ Int.toNat 12+1) (by decide)
  have c2:mG ((ns.getD 0 0).fmod (10 ^ Int.toNat 60)) 2:=⟨d2,by unfold Sz;decide⟩
  have pw:(10:Int) ^ Int.toNat 12=1000000000000:=by decide
  refine ⟨ps,(x,y),(v.fmod (2*10 ^ Int.toNat 12+1) - 10 ^ Int.toNat 12,(v.fdiv (2*10 ^ Int.toNat 12+1)).fmod (2*10 ^ Int.toNat 12+1) - 10 ^ Int.toNat 12),⟨a1,a2,a3,a4,gx,gy,by unfold Sz;dsimp only;omega,by unfold Sz;dsimp only;omega⟩,?_⟩
  unfold eC
  refine bH ?_
  rw [show bD 6 [.p (.list (ns.map .int))]=[some (.p (.list (ns.map .int))),none,none,none,none,none] from rfl]
  unfold iZ
  refine jA ((pL tt).trans ?_)
  refine (aL (gH (aFb rfl rfl (aQ rfl (aQ (aQ (aQ (aQ rfl rfl (i0 h)) (aQ rfl rfl (l6 p60)) (fK pn)) rfl (i6 c2)) rfl (fK (by decide))) (lF _ _)) ep))).trans ?_
  refine (aL (b9 (d:=.tuple [frD x,frD y]) (uP (pS (dD rfl rfl e1) rfl ex) (pS (dD rfl rfl e2) rfl ey)))).trans ?_
  refine (aL (b9 (dD rfl rfl e3))).trans ((aL (b9 (aQ (aQ rfl (aQ rfl rfl (l6 p12)) ml) rfl (lF _ _)))).trans ?_)
  refine mQ (i:=1) (e1:=[some (.p (.list (ns.map .int))),some (.p (.list (ps.map plD))),some (.p (.tuple [frD x,frD y])),some (.p (.int v)),some (.p (.int (2*10 ^ Int.toNat 12+1))),none]) rfl (dC ?_)
  exact aV3 rfl rfl (uP (aQ (aQ rfl rfl (fK dn)) (aQ rfl rfl (l6 p12)) (hX _ _)) (aQ (aQ (aQ rfl rfl (i6 cw)) rfl (fK dn)) (aQ rfl rfl (l6 p12)) (hX _ _)))
 | false =>
  obtain ⟨cs,ec,lc⟩:=aSm ns 4 13
  have c0:=wL K c ns 0
  have c1:=wL K c ns 1
  have c2:=wL K c ns 2
  have c3:=wL K c ns 3
  have d3:(1000003:Int)≠0:=by decide
  obtain ⟨ps,a1,a2,a3,a4,ep⟩:=aQc K c ((ns.getD 1 0).fmod 1000003) (cs++[ns.getD 0 0]) (by simp) (by rw [bAi,bBy];omega)
  obtain ⟨x,gx,ex⟩:=sE K c (ns.getD 2 0) (k:=51) (by decide) (by decide)
  obtain ⟨y,gy,ey⟩:=sE K c (ns.getD 2 0) (k:=57) (by decide) (by decide)
  obtain ⟨s,z1,z2,es⟩:=aRp K c (ns.getD 3 0)
  have ad:iD (.p (.list (M.cutD (ns.map .int) (some 4) (some 13)))) (.p (.list [.int (ns.getD 0 0)]))=.ok (.f (.list ((cs++[ns.getD 0 0]).map .int))):=by
   show iD (.p (.list (M.cutD (ns.map .int) (some ((4:Nat):Int)) (some ((13:Nat):Int))))) (.p (.list [.int (ns.getD 0 0)]))=_
   rw [ec,bA4]
   show (if (cs.map PyData.int).length+1<=100000 then Res.ok (Ev.f (.list (cs.map PyData.int++[.int (ns.getD 0 0)]))) else Res.bad)=_
   rw [bAc (by rw [aZ0];omega)]
   rfl
  refine ⟨ps,(x,y),s,⟨a1,by rw [bAi,bBy] at a2;omega,a3,a4,gx,gy,z1,z2⟩,?_⟩
  unfold eC
  refine bH ?_
  rw [show bD 6 [.p (.list (ns.map .int))]=[some (.p (.list (ns.map .int))),none,none,none,none,none] from rfl]
  unfold iZ
  refine (aL (nJ tt)).trans ?_
  refine (aL (gH (dD (aQ (aXe rfl rfl rfl) (aZf (dD rfl rfl c0)) ad) (aQ (dD rfl rfl c1) rfl (fK d3)) ep))).trans ?_
  refine (aL (b9 (dD rfl rfl c2))).trans ?_
  refine mQ (i:=1) (e1:=[some (.p (.list (ns.map .int))),some (.p (.list (ps.map plD))),none,none,none,some (.p (.int (ns.getD 2 0)))]) rfl (dC ?_)
  exact aV3 rfl (uP (dD rfl rfl ex) (dD rfl rfl ey)) (pS (dD rfl rfl c3) rfl es)
theorem aV9{x y z:Int×Int}(hx:1<=x.2)(hy:1<=y.2)(hz:1<=z.2)(h1:ltF x y=true)(h2:ltF y z=true):ltF x z=true:=by
 have a:=bBa h1
 have b:=bBa h2
 refine aZ8 ?_
 have e1:=bEr a (show 0 < z.2 by omega)
 have e2:=bEr b (show 0 < x.2 by omega)
 have e3:x.1*z.2*y.2 < z.1*x.2*y.2:=by grind
 exact Int.lt_of_mul_lt_mul_right e3 (by omega)
theorem aNz{F:Int}{rs:List Rw}(hf:Fac F rs):∀ {fs:List Rw},(∀ r∈fs,r∈rs)->uQ fs->pQ (fs.map (ptL F))->Rb (bbs fs)
 | [],_,_,_=>⟨.nil,fun b hb=>nomatch hb⟩
 | [_],_,_,_=>⟨.nil,fun b hb=>nomatch hb⟩
 | a :: b :: r,hm,hr,hc=>by
  obtain ⟨r1,r2⟩:=bAd.mp hr
  have ha:=hm a (.head _)
  have hb:=hm b (.tail _ (.head _))
  have lt:=r1 b (.head _)
  have ih:=aNz hf (fs:=b :: r) (fun x hx=>hm x (.tail _ hx)) r2 (n9 (bF2 _ _) hc)
  have eb:=yR lt (hf.b a ha).1 (hf.b b hb).1
  have fb:FR.Fr (bb a b).1:=by rw [eb];exact sD (vR lt (hf.b a ha).1 (hf.b b hb).1)
  have wb:1<=(bb a b).2:=show 1<=b.1 - a.1 by omega
  refine ⟨bAd.mpr ⟨?_,ih.s⟩,fun x hx=>?_⟩
  ·match r,hm,r2,hc,ih with
   | [],_,_,_,_=>exact fun x hx=>nomatch hx
   | d :: r,hm,r2,hc,ih =>
    have hd:=hm d (.tail _ (.tail _ (.head _)))
    have l2:=(bAd.mp r2).1 d (.head _)
    have ed:=yR l2 (hf.b b hb).1 (hf.b d hd).1
    have t:=place_lt hf ha hb hd lt l2 hc.1
    have t:ltF (bb a b).1 (bb b d).1=true:=by rw [eb,ed];exact t
    intro x hx
    rcases aZ3.mp hx with rfl | hx
    ·exact t
    ·have q:=(bAd.mp ih.s).1 x hx
     exact aV9 fb.pos (ih.f _ (.head _)).1.pos (ih.f x (.tail _ hx)).1.pos t q
  ·rcases aZ3.mp hx with rfl | hx
   ·exact ⟨fb,wb⟩
   ·exact ih.f x hx
theorem aWq{F:Int}{a b:Rw}{rs:List Rw}(hf:Fac F rs)(ha:a∈rs)(hb:b∈rs)(h:a.1 < b.1):lh (plc a b) b=lh (plc a b) a:=by
 have pp:=sU h (hf.b a ha).1 (hf.b b hb).1
 have e:=(vV hf ha hb h).e
 dsimp only at e
 have k:vF F (plc a b) b=vF F (plc a b) a:=by
  unfold vF
  generalize wI a.2 F=A at *
  generalize wI b.2 F=B at *
  generalize (plc a b).1=p1 at *
  generalize (plc a b).2=p2 at *
  grind
 exact aD3 (aJw pp (hf.b b hb).1) (aJw pp (hf.b a ha).1) ((aE3 hf pp hb ha).mpr (by omega)) ((aE3 hf pp ha hb).mpr (by omega))
structure Cx8(ps:List Pl)(pt:Pt)(st:Int×Int)(F:Int)(rs fs:List Rw):Prop where
 n:rs≠[]
 l:rs.length<=ps.length
 z:∀ r∈rs,GRl r
 r:uQ rs
 f:Fac F rs
 t:aV5 F rs fs
 up:∀ p∈ps,∃ r∈rs,r.1=(mR pt st p).1/\leF (mR pt st p).2 r.2
 fm:∀ r∈rs,∃ p∈ps,mR pt st p=r
 x:1<=pt.1.2
 y:1<=pt.2.2
 b:∀ p∈ps,1<=p.2.2.2
theorem aXx{ps:List Pl}{pt:Pt}{st:Int×Int}(h:Dn ps pt st):Cx8 ps pt st (zA (lnA ps pt st)) (lnA ps pt st) (eY (lnA ps pt st)):=by
 have ga:∀ p∈ps,GA p pt st:=fun p hp=>aK3 (h.g p hp) h.x h.y h.a h.b
 obtain ⟨a1,a2,a3,a4⟩:=aKl h.n ga
 have hz:∀ r∈ps.map (mR pt st),GRl r:=fun r hr=>by
  obtain ⟨p,hp,rfl⟩:=bAa.mp hr
  exact (ga p hp).r
 refine ⟨a1,a2,a3,a4,aKe fun r hr=>(a3 r hr).pos,qD a1 a4,fun p hp=>?_,fun r hr=>?_,h.x.f.pos,h.y.f.pos,fun p hp=>(h.g p hp).h.f.pos⟩
 ·obtain ⟨h',e,l⟩:=aH6 (ps.map (mR pt st)) aC7 hz _ (bAa.mpr ⟨p,hp,rfl⟩)
  exact ⟨_,aFg e,rfl,l⟩
 ·rcases aA0 (ps.map (mR pt st)) (m:=[]) (vS hr) with e | e
  ·cases e
  ·obtain ⟨p,hp,e⟩:=bAa.mp e
   exact ⟨p,hp,e⟩
section
variable {ps:List Pl}{pt:Pt}{st:Int×Int}{F:Int}{rs fs:List Rw}{t M:Int×Int}
theorem aI7(C:Cx8 ps pt st F rs fs)(ht:1<=t.2)(m:IsM ps (cL pt st t) M){r:Rw}(hr:r∈rs):leF (lh t r) M:=by
 obtain ⟨p,hp,rfl⟩:=C.fm r hr
 rw [aO5 C.x C.y (C.b p hp) ht]
 exact m.l p hp
theorem yH(C:Cx8 ps pt st F rs fs)(ht:1<=t.2)(m:IsM ps (cL pt st t) M){p:Pl}(hp:p∈ps)(e:hgt p (cL pt st t)=M):∃ r∈rs,r.1=(mR pt st p).1/\lh t r=M:=by
 obtain ⟨r,hr,e1,l⟩:=C.up p hp
 refine ⟨r,hr,e1,aD3 (aJw ht (C.f.b r hr).1) m.f (aI7 C ht m hr) ?_⟩
 rw [<- e,<- aO5 C.x C.y (C.b p hp) ht]
 unfold lh
 rw [e1]
 exact aWr (aKx (i:=(mR pt st p).1) (AF.refl ht)).a (qJ C.x C.y (C.b p hp)).pos (C.f.b r hr).1 l
theorem aKz(C:Cx8 ps pt st F rs fs){i:Nat}{a b:Rw}(e1:fs[i]? = some a)(e2:fs[i+1]? = some b)(m:IsM ps (cL pt st (plc a b)) M):lh (plc a b) a=M/\lh (plc a b) b=M:=by
 have ha:=C.t.sub.subset (bAq e1)
 have hb:=C.t.sub.subset (bAq e2)
 have lt:=kB (bAz C.t.sub C.r) e1 e2
 have pp:=sU lt (C.f.b a ha).1 (C.f.b b hb).1
 obtain ⟨p,hp,e⟩:=m.m
 obtain ⟨r,hr,_,er⟩:=yH C pp m hp e
 have l:=aMe C.f ha hb hr lt (C.t.left _ (pZ (g:=ptL F) e1 e2) r hr)
 rw [er] at l
 have k:=aD3 (aJw pp (C.f.b a ha).1) m.f (aI7 C pp m ha) l
 exact ⟨k,by rw [aWq C.f ha hb lt];exact k⟩
theorem aBa(p:Pl):(mR pt st p).1=kE (slP p) st:=rfl
theorem aKr(C:Cx8 ps pt st F rs fs)(ht:1<=t.2){r:Rw}(hr:r∈rs)(e:lh t r=M):∃ s∈cP (cL pt st t) M ps,kE s st=r.1:=by
 obtain ⟨p,hp,rfl⟩:=C.fm r hr
 rw [aO5 C.x C.y (C.b p hp) ht] at e
 exact ⟨slP p,bAa.mpr ⟨p,bA8.mpr ⟨hp,aZ8 e⟩,rfl⟩,rfl⟩
theorem aN1(C:Cx8 ps pt st F rs fs){i:Nat}{a b:Rw}(e1:fs[i]? = some a)(e2:fs[i+1]? = some b)(m:IsM ps (cL pt st (plc a b)) M):(∃ s∈cP (cL pt st (plc a b)) M ps,kE s st=a.1)/\(∃ s∈cP (cL pt st (plc a b)) M ps,kE s st=b.1)/\∀ s∈cP (cL pt st (plc a b)) M ps,a.1<=kE s st/\kE s st<=b.1:=by
 have ha:=C.t.sub.subset (bAq e1)
 have hb:=C.t.sub.subset (bAq e2)
 have lt:=kB (bAz C.t.sub C.r) e1 e2
 have pp:=sU lt (C.f.b a ha).1 (C.f.b b hb).1
 obtain ⟨k1,k2⟩:=aKz C e1 e2 m
 refine ⟨aKr C pp ha k1,aKr C pp hb k2,fun s hs=>?_⟩
 obtain ⟨p,hp,rfl⟩:=bAa.mp hs
 obtain ⟨hp,e⟩:=bA8.mp hp
 obtain ⟨r,hr,er,el⟩:=yH C pp m hp (bBa e)
 have:=aEt C.r C.t e1 e2 hr (aQ2 C.f ha hb hr lt (el.trans k1.symm))
 rw [er,aBa] at this
 exact this
theorem aLe(C:Cx8 ps pt st F rs fs)(ft:FR.Fr t)(m:IsM ps (cL pt st t) M){p q:Pl}(hp:p∈ps)(hq:q∈ps)(ep:hgt p (cL pt st t)=M)(eq:hgt q (cL pt st t)=M)(ne:kE (slP p) st≠kE (slP q) st):∃ (i:Nat) (a b:Rw),fs[i]? = some a/\fs[i+1]? = some b/\plc a b=t:=by
 obtain ⟨r1,h1,d1,e1⟩:=yH C ft.pos m hp ep
 obtain ⟨r2,h2,d2,e2⟩:=yH C ft.pos m hq eq
 rw [aBa] at d1 d2
 have tp:∀ {x:Rw},x∈rs->lh t x=M->∀ r∈rs,vF F t r<=vF F t x:=fun {x} hx ex r hr=>(aE3 C.f ft.pos hr hx).mp (by rw [ex];exact aI7 C ft.pos m hr)
 by_cases lt:r1.1 < r2.1
 ·exact aI6 C.f C.r C.t ft h1 h2 lt (tp h1 e1) (tp h2 e2)
 ·exact aI6 C.f C.r C.t ft h2 h1 (by omega) (tp h2 e2) (tp h1 e1)
end
theorem aNe{α:Type}{l:List α}{x y:α}(hl:l.length<=2)(hx:x∈l)(hy:y∈l)(ne:x≠y):∀ z∈l,z=x\/z=y:=by
 match l,hl with
 | [],_=>exact nomatch hx
 | [a],_=>exact absurd ((bAj.mp hx).trans (bAj.mp hy).symm) ne
 | [a,b],_ =>
  intro z hz
  simp only [aZ3,bBt,bD6] at hx hy hz
  rcases hx with rfl | rfl<;>rcases hy with rfl | rfl<;>rcases hz with rfl | rfl<;>first | exact absurd rfl ne | exact .inl rfl | exact .inr rfl
theorem aG6:∀ {fs:List Rw} {x y:Rw},fs.head? = some x->fs.getLast? = some y->((bbs fs).map (·.2)).sum=y.1 - x.1
 | [],_,_,h,_=>by cases h
 | [a],x,y,h1,h2=>by
  have e1:a=x:=bAn h1
  have e2:a=y:=bAn h2
  rw [<- e1,<- e2]
  show (0:Int)=_
  omega
 | a :: b :: r,x,y,h1,h2=>by
  cases h1
  rw [bCe] at h2
  have ih:=aG6 (fs:=b :: r) (x:=b) rfl h2
  show (b.1 - a.1)+((bbs (b :: r)).map (·.2)).sum=_
  rw [ih]
  omega
theorem aG2{h:Int}:∀ (is:List Int) (i:Int),h∈i :: is->(∀ w∈i :: is,w<=h)->aO9 i is=h
 | [],i,hm,_=>(bAj.mp hm).symm
 | j :: is,i,hm,hl=>by
  unfold aO9
  rw [bB9]
  have l1:=hl i (.head _)
  have l2:=hl j (.tail _ (.head _))
  refine aG2 is (if i < j then j else i) ?_ fun w hw=>?_
  ·rcases aZ3.mp hm with e | hm
   ·rw [bAg (by omega),e];exact .head _
   ·rcases aZ3.mp hm with e | hm
    ·by_cases z:i < j
     ·rw [bAc z,e];exact .head _
     ·rw [bAg z,show h=i by omega];exact .head _
    ·exact .tail _ hm
  ·rcases aZ3.mp hw with e | hw
   ·rw [e];split<;>assumption
   ·exact hl w (.tail _ (.tail _ hw))
theorem aGi{h:Int}:∀ (is:List Int) (i:Int),h∈i :: is->(∀ w∈i :: is,h<=w)->aQf i is=h
 | [],i,hm,_=>(bAj.mp hm).symm
 | j :: is,i,hm,hl=>by
  unfold aQf
  rw [bB9]
  have l1:=hl i (.head _)
  have l2:=hl j (.tail _ (.head _))
  refine aGi is (if j < i then j else i) ?_ fun w hw=>?_
  ·rcases aZ3.mp hm with e | hm
   ·rw [bAg (by omega),e];exact .head _
   ·rcases aZ3.mp hm with e | hm
    ·by_cases z:j < i
     ·rw [bAc z,e];exact .head _
     ·rw [bAg z,show h=i by omega];exact .head _
    ·exact .tail _ hm
  ·rcases aZ3.mp hw with e | hw
   ·rw [e];split<;>assumption
   ·exact hl w (.tail _ (.tail _ hw))
theorem aSh{x:Ev}{is:List Int}{h:Int}(hx:g9 x=some (is.map .int))(hm:h∈is)(hl:∀ w∈is,w<=h):aOv [x]=.ok (.p (.int h)):=by
 cases is with
 | nil=>exact nomatch hm
 | cons i is =>
  unfold aOv
  dsimp only
  rw [hx]
  dsimp only
  rw [k9]
  dsimp only
  rw [aG2 is i hm hl]
theorem aVk{x:Ev}{is:List Int}{h:Int}(hx:g9 x=some (is.map .int))(hm:h∈is)(hl:∀ w∈is,h<=w):aOr [x]=.ok (.p (.int h)):=by
 cases is with
 | nil=>exact nomatch hm
 | cons i is =>
  unfold aOr
  dsimp only
  rw [hx]
  dsimp only
  rw [k9]
  dsimp only
  rw [aGi is i hm hl]
theorem aX4{x:Ev}{is:List Int}(hx:g9 x=some (is.map .int)):aPo [x]=.ok (.p (.int is.sum)):=by
 unfold aPo
 dsimp only
 rw [hx]
 dsimp only
 rw [k9]
theorem aXw{a b:Rw}(h:a.1 < b.1)(g1:GRl a)(g2:GRl b):Good 330 (plc a b):=by
 refine oE ?_ ?_ (by have:=vR h g1.pos g2.pos;omega)
 ·exact (N.Sz.subM (Sz.mul g1.2.2.1 g2.2.2.2) (Sz.mul g2.2.2.1 g1.2.2.2)).mono (by decide)
 ·exact (Sz.mul (Sz.mul g1.2.2.2 g2.2.2.2) (N.Sz.subM g2.1 g1.1)).mono (by decide)
theorem aS4{ps:List Pl}{pt:Pt}{st t:Int×Int}(h:Dn ps pt st)(gt:Good 330 t):GS (pt,st,t)/\∀ p∈ps,GoodQ p (cL pt st t)/\FR.Fr (hgt p (cL pt st t)):=by
 refine ⟨⟨h.x.good.mono (by decide),h.y.good.mono (by decide),⟨h.a,h.b⟩,gt.mono (by decide)⟩,fun p hp=>?_⟩
 have gp:=h.g p hp
 obtain ⟨a,b⟩:=aO0 gp.s
 have s1:=(mK h.x.good (gR h.a gt)).mono (show 80+(50+330)+1<=610 by decide)
 have s2:=(mK h.y.good (gR h.b gt)).mono (show 80+(50+330)+1<=610 by decide)
 exact ⟨⟨a.mono (by decide),b.mono (by decide),gp.h.good.mono (by decide),s1,s2⟩,qJ s1.1 s2.1 gp.h.f.pos⟩
theorem aUu(x y:Int×Int):eqE false (.p (frD x)) (.p (frD y))=.ok (.p (.bool (decide (x=y)))):=aDq false x y
theorem aT4{fe:En->Res Ev}{j:Int}{row:D}{s:Int×Int}{ps:List Pl}{p:Pl}{r:En}(hp:p∈ps)(es:slP p=s)(hl:ps.length<=1000)(hj:ixE (.p row) (.p (.int j))=.ok (.p (slD s)))(hfe:∀ x,fe [some (.p x),some (.p row)]=.ok (.p x)):∃ p'∈ps,aH ixE (dJ 1 [1] (eX (aD 0)) (aJ 0) (bV (aH (eqE false) (aK bQ (aB (aH ixE (aD 0) (mC (.int 0))) (aB (aH ixE (aD 0) (mC (.int 1))) aT))) (aH ixE (aD 1) (mC (.int j))))) fe) (mC (.int 0)) (some (.p (.list (ps.map plD))) :: some (.p row) :: r)=.ok (.p (plD p')):=by
 have ci:∀ x:Pl,aV 1 [1] (aJ 0) (bV (aH (eqE false) (aK bQ (aB (aH ixE (aD 0) (mC (.int 0))) (aB (aH ixE (aD 0) (mC (.int 1))) aT))) (aH ixE (aD 1) (mC (.int j))))) fe (some (.p (.list (ps.map plD))) :: some (.p row) :: r) (plD x)=some (if decide (slP x=s)=true then some (plD x) else none):=fun x=>by
  have tst:bV (aH (eqE false) (aK bQ (aB (aH ixE (aD 0) (mC (.int 0))) (aB (aH ixE (aD 0) (mC (.int 1))) aT))) (aH ixE (aD 1) (mC (.int j)))) [some (.p (plD x)),some (.p row)]=.ok (decide (slP x=s)):=hV (aQ (uP (aQ rfl rfl (u9 x)) (aQ rfl rfl (u7 x))) (aQ rfl rfl hj) (aUu (slP x) s))
  unfold aV
  ktr_call 3 ⟨aJ,mF,sV,List.replicate,bAm,bAw,tst,hfe⟩
  cases decide (slP x=s)<;>rfl
 have cm:=eB (n:=1) (js:=[1]) (fi:=eX (aD 0)) (tg:=aJ 0) (ft:=bV (aH (eqE false) (aK bQ (aB (aH ixE (aD 0) (mC (.int 0))) (aB (aH ixE (aD 0) (mC (.int 1))) aT))) (aH ixE (aD 1) (mC (.int j))))) (fe:=fe) (en:=some (.p (.list (ps.map plD))) :: some (.p row) :: r) (ds:=ps.map plD) rfl (by rw [aZ0];omega) (iT (p:=fun x=>decide (slP x=s)) ps fun x _=>ci x)
 have hm:p∈ps.filter fun x=>decide (slP x=s):=bA8.mpr ⟨hp,aZ8 es⟩
 cases ef:ps.filter fun x=>decide (slP x=s) with
 | nil=>rw [ef] at hm;exact nomatch hm
 | cons p' l =>
  refine ⟨p',?_,?_⟩
  ·have:p'∈ps.filter fun x=>decide (slP x=s):=by rw [ef];exact .head _
   exact (bA8.mp this).1
  ·rw [ef] at cm
   exact aQ cm rfl (uN (k:=0) (d:=p') (xs:=p' :: l) (enc:=plD) rfl (Nat.zero_lt_succ _) rfl)
def rwD(p q:Pl)(es:List D)(o:Int×Int):D:=.tuple [slD (slP p),slD (slP q),.list es,slD o,.int (wgt p q)]
noncomputable def kM(K:aZz)(c:Cls):En->Res Ev:=(aD 0)
noncomputable def kJ(K:aZz)(c:Cls):En->Res Ev:=(aD 0)
noncomputable def eO:MS:=(bU (cO 4 (aH ixE (dJ 1 [1] (eX (aD 0)) (aJ 0) (bV (aH (eqE false) (aK bQ (aB (aH ixE (aD 0) (mC (.int 0))) (aB (aH ixE (aD 0) (mC (.int 1))) aT))) (aH ixE (aD 1) (mC (.int 0))))) (kJ K c)) (mC (.int 0)))) (bU (cO 5 (aH ixE (dJ 1 [1] (eX (aD 0)) (aJ 0) (bV (aH (eqE false) (aK bQ (aB (aH ixE (aD 0) (mC (.int 0))) (aB (aH ixE (aD 0) (mC (.int 1))) aT))) (aH ixE (aD 1) (mC (.int 1))))) (kM K c)) (mC (.int 0)))) (bU (cO 6 (aH kZ (aN 2 (cR K c) (aB (aH ixE (aD 1) (mC (.int 1))) (aB (aD 3) aT))) (aN 2 (cR K c) (aB (aH ixE (aD 1) (mC (.int 0))) (aB (aD 3) aT))))) (bU (i9 (bV (aH (eqE false) (aD 6) (mC (.int 0)))) (dW (mC (.none))) dX) (bU (cO 7 (aN 2 (cX K c) (aB (aD 5) (aB (aD 2) aT)))) (bU (cO 8 (aN 2 (dB K c) (aB (aN 2 (cX K c) (aB (aD 4) (aB (aD 2) aT))) (aB (aK bQ (aB (mUn qF (aH ixE (aD 7) (mC (.int 0)))) (aB (aH ixE (aD 7) (mC (.int 1))) aT))) aT)))) (dW (aN 2 (bN K c) (aB (aH ixE (aD 8) (mC (.int 0))) (aB (aH eV (aH ixE (aD 8) (mC (.int 1))) (aD 6)) aT))))))))))
noncomputable def cG(ls:List L):Res L:=eK 9 (eO K c) ls
theorem rH:∀ ls,cG K c ls=.bad\/eK 9 (eO K c) ls=cG K c ls:=fun _=>.inr rfl
theorem aLk{ps:List Pl}{pt:Pt}{st:Int×Int}(h:Dn ps pt st){p q:Pl}(hp:p∈ps)(hq:q∈ps)(es:List D)(o:Int×Int):∃ d,cG K c [.p (.list (ps.map plD)),.p (rwD p q es o),.p (.tuple [frD pt.1,frD pt.2]),.p (slD st)]=.ok (.p d)/\((kE (slP p) st=kE (slP q) st/\d=.none)\/(kE (slP p) st≠kE (slP q) st/\∃ t,FR.Fr t/\Good 330 t/\d=frD t)):=by
 have hl:=h.l
 have j0:ixE (.p (rwD p q es o)) (.p (.int 0))=.ok (.p (slD (slP p))):=rfl
 have j1:ixE (.p (rwD p q es o)) (.p (.int 1))=.ok (.p (slD (slP q))):=rfl
 obtain ⟨p',hp',e4⟩:=aT4 (fe:=kJ K c) (r:=[some (.p (.tuple [frD pt.1,frD pt.2])),some (.p (slD st)),none,none,none,none,none]) hp rfl (by omega) j0 (fun _=>rfl)
 obtain ⟨q',hq',e5⟩:=aT4 (fe:=kM K c) (r:=[some (.p (.tuple [frD pt.1,frD pt.2])),some (.p (slD st)),some (.p (plD p')),none,none,none,none]) hq rfl (by omega) j1 (fun _=>rfl)
 have ga:∀ p∈ps,GA p pt st:=fun p hp=>aK3 (h.g p hp) h.x h.y h.a h.b
 have tm:∀ x∈ps,cR K c [.p (slD (slP x)),.p (slD st)]=.ok (.p (.int (kE (slP x) st))):=fun x hx=>by
  obtain ⟨a,b⟩:=aO0 (h.g x hx).s
  exact xZ K c (a.mono (by decide)) (b.mono (by decide)) (h.a.mono (by decide)) (h.b.mono (by decide))
 have zp:Sz 100 (kE (slP p) st):=(ga p hp).r.1
 have zq:Sz 100 (kE (slP q) st):=(ga q hq).r.1
 have za:=N.Sz.subM zq zp
 have tq:=tm q hq
 have tp:=tm p hp
 have go:∀ {d:D} {x:Option Out},eO K c [some (.p (.list (ps.map plD))),some (.p (rwD p q es o)),some (.p (.tuple [frD pt.1,frD pt.2])),some (.p (slD st)),none,none,none,none,none]=some (.rt (.p d))->cG K c [.p (.list (ps.map plD)),.p (rwD p q es o),.p (.tuple [frD pt.1,frD pt.2]),.p (slD st)]=.ok (.p d):=fun hh=>by
  unfold cG
  exact bH hh
 generalize kE (slP q) st=dq at *
 generalize kE (slP p) st=dp at *
 by_cases z:dp=dq
 ·refine ⟨.none,go (x:=none) ?_,.inl ⟨z,rfl⟩⟩
  unfold eO
  refine (aL (b9 e4)).trans ((aL (b9 e5)).trans ((aL (b9 (aQ (dD (aQ rfl rfl j1) rfl tq) (dD (aQ rfl rfl j0) rfl tp) (hX _ _)))).trans ?_))
  exact jA ((pL (hV ((aQ rfl rfl eq_is).trans (by rw [show (dq - dp == 0)=true from bD3.mpr (by omega)])))).trans (dC rfl))
 ·have gp:=(ga p' hp').r
  have gq:=(ga q' hq').r
  have hhp:=oV K c (ga p' hp').q
  have hhq:=oV K c (ga q' hq').q
  have np:=gp.2.1
  have nq:=gq.2.1
  have sp1:=gp.2.2.1
  have sp2:=gp.2.2.2
  have sq1:=gq.2.2.1
  have sq2:=gq.2.2.2
  have exx:(mR pt st p').2=hgt p' pt:=rfl
  have exy:(mR pt st q').2=hgt q' pt:=rfl
  rw [exx] at np sp1 sp2
  rw [exy] at nq sq1 sq2
  generalize hgt p' pt=x at *
  generalize hgt q' pt=y at *
  have gx:Good 300 x:=⟨np.pos,sp1,sp2.mono (by decide)⟩
  have gy:Good 300 (-y.1,y.2):=⟨nq.pos,L2.Sz.neg sq1,sq2.mono (by decide)⟩
  have sm:=tJ K c gx gy (by decide) (by decide)
  have fm:FR.Fr (hP x (-y.1,y.2)):=aRd np.pos nq.pos
  have st1:Sz 321 (hP x (-y.1,y.2)).1:=Sz.le (N.Sz.addM (Sz.mul sp1 sq2) (Sz.mul (L2.Sz.neg sq1) sp2)) (bA7 _ _)
  have st2:Sz 40 (hP x (-y.1,y.2)).2:=aE7 (x:=x) (y:=(-y.1,y.2)) sp2 sq2
  generalize hP x (-y.1,y.2)=w at *
  have wp:=fm.pos
  have n0:w.2*(dq - dp)≠0:=Int.mul_ne_zero (by omega) (by omega)
  have zb:=Sz.mul st2 za
  refine ⟨frD (FR.mk w.1 (w.2*(dq - dp))),go (x:=none) ?_,.inr ⟨z,_,(FR.sS n0).1,oE (st1.mono (by decide)) (zb.mono (by decide)) n0,rfl⟩⟩
  have ng:qF (.p (.int y.1))=.ok (.p (.int (-y.1))):=rfl
  have f0:∀ v:Int×Int,ixE (.p (frD v)) (.p (.int 0))=.ok (.p (.int v.1)):=fun v=>iY _ _
  have f1:∀ v:Int×Int,ixE (.p (frD v)) (.p (.int 1))=.ok (.p (.int v.2)):=fun v=>i8 _ _ _
  unfold eO
  refine (aL (b9 e4)).trans ((aL (b9 e5)).trans ((aL (b9 (aQ (dD (aQ rfl rfl j1) rfl tq) (dD (aQ rfl rfl j0) rfl tp) (hX _ _)))).trans ?_))
  refine (aL (nJ (hV ((aQ rfl rfl eq_is).trans (by rw [show (dq - dp == 0)=false from bCh.mpr (by omega)]))))).trans ?_
  refine (aL (b9 (dD rfl rfl hhq))).trans ((aL (b9 (dD (dD rfl rfl hhp) (uP (aRj (aQ rfl rfl (f0 y)) ng) (aQ rfl rfl (f1 y))) sm))).trans ?_)
  exact dC (dD (aQ rfl rfl (f0 w)) (aQ (aQ rfl rfl (f1 w)) rfl (jV ⟨st2.mono (by decide),za.mono (by decide)⟩)) (vW K c n0 (zb.mono (by decide))))
theorem aUi(x:Int×Int):PyData.canLay0 (frD x)=true:=by simp [frD,PyData.canLay0,PyData.canLayAll0]
theorem aSn(x:Int×Int):PyData.depth (frD x)<=9:=by simp [frD,PyData.depth,PyData.depthAll]
theorem aVe(p:Int×Int)(ps:List (Int×Int)):decide (countIn (frD p) (ps.map frD)≠0)=decide (p∈ps):=by
 rw [bDj,countIn_ne_zero,bAa]
 constructor
 ·rintro ⟨q,hq,e⟩
  rw [<- frI e]
  exact hq
 ·intro h
  exact ⟨p,h,rfl⟩
theorem aIi{f g:En->Res Ev}{en:En}{y:Ev}{s:Int×Int}{S:List (Int×Int)}(h1:f en=.ok (.p (slD s)))(h2:g en=.ok y)(hy:y.c=.b (.list (S.map slD))):bV (aH (aDt true) f g) en=.ok (!decide (s∈S)):=by
 refine hV (aQ h1 h2 ?_)
 rw [hy]
 show aDt true (.p (frD s)) (.b (.list (S.map frD)))=_
 unfold aDt
 simp only [dat]
 rw [bAc ⟨aS7 s,aJf frD aUi aSn S,fun z hz=>by obtain ⟨q,_,rfl⟩:=bAa.mp hz;simp [frD,SeqAt.noMix,SeqAt.noMixAll]⟩]
 rw [bAc trivial,aVe]
theorem aWs{f g:En->Res Ev}{en:En}(h:f en=.ok (.p (.bool true))):aFq f g en=.ok (.p (.bool true)):=by simp only [aFq,h,Res.bind]
theorem aYd{f g:En->Res Ev}{en:En}{o:Res Ev}(h:f en=.ok (.p (.bool false)))(h2:g en=o):aFq f g en=o:=by simp only [aFq,h,Res.bind,h2]
theorem aTk(x:Int):(if x < 0 then -x else x)=(x.natAbs:Int):=by split<;>omega
abbrev Wm:=List ((Int×Int)×Int)
abbrev ePr(ps:List Pl)(p q:Pl)(es:List D)(o:Int×Int)(pt:Pt)(st:Int×Int)(m:Wm)(a b c:Option L):En:=[some (.p (.list (ps.map plD))),some (.p (rwD p q es o)),some (.p (.tuple [frD pt.1,frD pt.2])),some (.p (slD st)),some (.p (.dict (N.encM slD PyData.int m))),a,b,c]
structure WOk(fs:List Rw)(m:Wm):Prop where
 w:∀ (i:Nat) (a b:Rw),fs[i]? = some a->fs[i+1]? = some b->gF m (plc a b)=some (b.1 - a.1)
theorem aBk{ps:List Pl}{pt:Pt}{M s:Int×Int}(h:s∈cP pt M ps):∃ p∈ps,slP p=s/\hgt p pt=M:=by
 obtain ⟨p,hp,e⟩:=bAa.mp h
 obtain ⟨h1,h2⟩:=bA8.mp hp
 exact ⟨p,h1,e,bBa h2⟩
theorem aWc{ps:List Pl}{pt:Pt}{st:Int×Int}{F:Int}{rs fs:List Rw}{M:Int×Int}(C:Cx8 ps pt st F rs fs){i:Nat}{a b:Rw}(e1:fs[i]? = some a)(e2:fs[i+1]? = some b)(m:IsM ps (cL pt st (plc a b)) M){s u:Int×Int}(hs:s∈cP (cL pt st (plc a b)) M ps)(hu:u∈cP (cL pt st (plc a b)) M ps)(ne:kE s st≠kE u st)(hl:(cP (cL pt st (plc a b)) M ps).length<=2):b.1 - a.1=((kE u st - kE s st).natAbs:Int):=by
 have lt:=kB (bAz C.t.sub C.r) e1 e2
 obtain ⟨⟨x,hx,ex⟩,⟨y,hy,ey⟩,_⟩:=aN1 C e1 e2 m
 have on:=aNe hl hs hu fun e=>ne (by rw [e])
 rcases on x hx with rfl | rfl<;>rcases on y hy with rfl | rfl<;>omega
theorem aPz(p q:Pl)(st:Int×Int):kE (slP q) st - kE (slP p) st=(q.1 - p.1)*st.1+(q.2.1 - p.2.1)*st.2:=by
 unfold kE slP
 dsimp only
 grind
noncomputable def dZ:MS:=(bU (cO 5 (aN 4 (cG K c) (aB (aD 0) (aB (aD 1) (aB (aD 2) (aB (aD 3) aT)))))) (bU (i9 (bV (mUn (yJ false) (aD 5))) (dW (mC (.bool true))) dX) (bU (cO 6 (aN 2 (dU K c) (aB (aD 0) (aB (aN 3 (eD K c) (aB (aD 2) (aB (aD 3) (aB (aD 5) aT)))) aT)))) (bU (i9 (mOr (bV (aH (aDt true) (aH ixE (aD 1) (mC (.int 0))) (aD 6))) (bV (aH (aDt true) (aH ixE (aD 1) (mC (.int 1))) (aD 6)))) (dW (mC (.bool true))) dX) (bU (i9 (bV (aH (w9 true) (aD 5) (aD 4))) (dW (mC (.bool false))) dX) (bU (cO 7 (aK aHf (aB (aH kZ (aH eV (aH ixE (aH ixE (aD 1) (mC (.int 3))) (mC (.int 0))) (aH ixE (aD 3) (mC (.int 1)))) (aH eV (aH ixE (aH ixE (aD 1) (mC (.int 3))) (mC (.int 1))) (aH ixE (aD 3) (mC (.int 0))))) aT))) (dW (aFq (aH gtE (aK jM (aB (aD 6) aT)) (mC (.int 2))) (aH (eqE false) (aH j9 (aD 4) (aD 5)) (aH eV (aH ixE (aD 1) (mC (.int 4))) (aD 7)))))))))))
noncomputable def bY(ls:List L):Res L:=eK 8 (dZ K c) ls
theorem oC:∀ ls,bY K c ls=.bad\/eK 8 (dZ K c) ls=bY K c ls:=fun _=>.inr rfl
theorem aF5{ps:List Pl}{pt:Pt}{st:Int×Int}(h:Dn ps pt st){F:Int}{rs fs:List Rw}(C:Cx8 ps pt st F rs fs){m:Wm}(hw:WOk fs m){p q:Pl}(hp:p∈ps)(hq:q∈ps)(u:Un p q)(es:List D){o:Int×Int}(dr:Dr p q o):bY K c [.p (.list (ps.map plD)),.p (rwD p q es o),.p (.tuple [frD pt.1,frD pt.2]),.p (slD st),.p (.dict (N.encM slD PyData.int m))]=.ok (.p (.bool true)):=by
 have hl:=h.l
 obtain ⟨d,ed,hd⟩:=aLk K c h hp hq es o
 have c5:aN 4 (cG K c) (aB (aD 0) (aB (aD 1) (aB (aD 2) (aB (aD 3) aT)))) (ePr ps p q es o pt st m none none none)=.ok (.p d):=aH0 (bP rfl (bP rfl (bP rfl (bP rfl rfl)))) rfl rfl ed
 have go:dZ K c (ePr ps p q es o pt st m none none none)=some (.rt (.p (.bool true)))->bY K c [.p (.list (ps.map plD)),.p (rwD p q es o),.p (.tuple [frD pt.1,frD pt.2]),.p (slD st),.p (.dict (N.encM slD PyData.int m))]=.ok (.p (.bool true)):=fun hh=>by
  unfold bY
  exact bH hh
 refine go ?_
 have j0:ixE (.p (rwD p q es o)) (.p (.int 0))=.ok (.p (slD (slP p))):=rfl
 have j1:ixE (.p (rwD p q es o)) (.p (.int 1))=.ok (.p (slD (slP q))):=rfl
 have j3:ixE (.p (rwD p q es o)) (.p (.int 3))=.ok (.p (slD o)):=rfl
 have j4:ixE (.p (rwD p q es o)) (.p (.int 4))=.ok (.p (.int (wgt p q))):=rfl
 have s0:∀ v:Int×Int,ixE (.p (slD v)) (.p (.int 0))=.ok (.p (.int v.1)):=fun v=>iY _ _
 have s1:∀ v:Int×Int,ixE (.p (slD v)) (.p (.int 1))=.ok (.p (.int v.2)):=fun v=>i8 _ _ _
 unfold dZ
 refine (aL (b9 c5)).trans ?_
 rcases hd with ⟨_,rfl⟩ | ⟨ne,t,ft,gt,rfl⟩
 ·exact jA ((pL (hV (aRj rfl rfl))).trans (dC rfl))
 ·obtain ⟨gs,gq⟩:=aS4 h gt
  obtain ⟨M,im,et⟩:=aGb K c h.n (by omega) gq
  have sl:(cP (cL pt st t) M ps).length<=10:=by
   unfold cP
   rw [aZ0]
   exact bA5 (bBk _ _) hl
  refine (aL (nJ (hV (aRj rfl rfl)))).trans ?_
  refine (aL (gH (dD rfl (aFb rfl rfl rfl (aKu K c gs)) et))).trans ?_
  by_cases hs:slP p∈cP (cL pt st t) M ps
  ·by_cases hu:slP q∈cP (cL pt st t) M ps
   ·obtain ⟨p1,hp1,ep1,et1⟩:=aBk hs
    obtain ⟨q1,hq1,eq1,et2⟩:=aBk hu
    obtain ⟨i,a,b,e1,e2,rfl⟩:=aLe C ft im hp1 hq1 et1 et2 (by rw [ep1,eq1];exact ne)
    have ew:=hw.w i a b e1 e2
    have gr:=(aK3 (h.g p hp) h.x h.y h.a h.b).r.1
    have nr:Nr p q:=by
     obtain ⟨a1,a2,a3,a4⟩:=(h.g p hp).s
     obtain ⟨b1,b2,b3,b4⟩:=(h.g q hq).s
     dsimp only at a1 a2 a3 a4 b1 b2 b3 b4
     exact ⟨by omega,by omega⟩
    obtain ⟨zo1,zo2⟩:=aVg u nr dr
    have zw:=aOf u nr
    have ac:=aKn u dr st
    rw [<- aPz] at ac
    have zd:Sz 60 (o.1*st.2 - o.2*st.1):=(N.Sz.subM (Sz.mul zo1 h.b) (Sz.mul zo2 h.a)).mono (by decide)
    have n1:=aIi (f:=aH ixE (aD 1) (mC (.int 0))) (g:=aD 6) (en:=(ePr ps p q es o pt st m (some (.p (frD (plc a b)))) (some (.o (.list ((cP (cL pt st (plc a b)) M ps).map slD)))) none)) (aQ rfl rfl j0) rfl rfl
    have n2:=aIi (f:=aH ixE (aD 1) (mC (.int 1))) (g:=aD 6) (en:=(ePr ps p q es o pt st m (some (.p (frD (plc a b)))) (some (.o (.list ((cP (cL pt st (plc a b)) M ps).map slD)))) none)) (aQ rfl rfl j1) rfl rfl
    rw [aZ8 hs] at n1
    rw [aZ8 hu] at n2
    have di:=hV (aPs (ev:=PyData.int) (ng:=true) (f:=aD 5) (g:=aD 4) (en:=(ePr ps p q es o pt st m (some (.p (frD (plc a b)))) (some (.o (.list ((cP (cL pt st (plc a b)) M ps).map slD)))) none)) (m:=m) (s:=plc a b) rfl rfl rfl)
    rw [ew] at di
    refine (aL (nJ (aXl n1 n2))).trans ((aL (nJ di)).trans ?_)
    have ml:∀ {x y:Int},Sz 300 x->Sz 300 y->eV (.p (.int x)) (.p (.int y))=.ok (.p (.int (x*y))):=fun hx hy=>jV ⟨hx.mono (by decide),hy.mono (by decide)⟩
    have ab:aHf [.p (.int (o.1*st.2 - o.2*st.1))]=.ok (.p (.int ((o.1*st.2 - o.2*st.1).natAbs:Int))):=by
     unfold aHf
     dsimp only
     rw [aTk]
    refine (aL (b9 (gO (bP (aQ (aQ (aQ (aQ rfl rfl j3) rfl (s0 o)) (aQ rfl rfl (s1 st)) (ml (zo1.mono (by decide)) (h.b.mono (by decide)))) (aQ (aQ (aQ rfl rfl j3) rfl (s1 o)) (aQ rfl rfl (s0 st)) (ml (zo2.mono (by decide)) (h.a.mono (by decide)))) (hX _ _)) rfl) ab))).trans ?_
    have ln:=aRg (f:=aD 6) (en:=(ePr ps p q es o pt st m (some (.p (frD (plc a b)))) (some (.o (.list ((cP (cL pt st (plc a b)) M ps).map slD)))) (some (.p (.int ((o.1*st.2 - o.2*st.1).natAbs:Int)))))) (x:=.b (.list ((cP (cL pt st (plc a b)) M ps).map slD))) rfl rfl
    rw [aZ0] at ln
    have gtb:gtE (.p (.int ((cP (cL pt st (plc a b)) M ps).length:Nat))) (.p (.int 2))=.ok (.p (.bool (decide (((cP (cL pt st (plc a b)) M ps).length:Int) > 2)))):=rfl
    by_cases hl2:(cP (cL pt st (plc a b)) M ps).length<=2
    ·rw [aZ7 (by omega)] at gtb
     have wt:=aWc C e1 e2 im hs hu ne hl2
     refine dC (aYd (aQ ln rfl gtb) (aQ (aQ3 (ev:=PyData.int) (m:=m) (s:=plc a b) rfl rfl rfl ew) (aQ (aQ rfl rfl j4) rfl (ml (zw.mono (by decide)) ((show Sz 60 ((o.1*st.2 - o.2*st.1).natAbs:Int) by unfold Sz at *;omega).mono (by decide)))) (eq_is.trans ?_)))
     rw [show (b.1 - a.1 == wgt p q*((o.1*st.2 - o.2*st.1).natAbs:Int))=true from bD3.mpr (by rw [ac];exact wt)]
    ·rw [aZ8 (by omega)] at gtb
     exact dC (aWs (aQ ln rfl gtb))
   ·have n1:=aIi (f:=aH ixE (aD 1) (mC (.int 0))) (g:=aD 6) (en:=(ePr ps p q es o pt st m (some (.p (frD t))) (some (.o (.list ((cP (cL pt st t) M ps).map slD)))) none)) (aQ rfl rfl j0) rfl rfl
    have n2:=aIi (f:=aH ixE (aD 1) (mC (.int 1))) (g:=aD 6) (en:=(ePr ps p q es o pt st m (some (.p (frD t))) (some (.o (.list ((cP (cL pt st t) M ps).map slD)))) none)) (aQ rfl rfl j1) rfl rfl
    rw [aZ8 hs] at n1
    rw [aZ7 hu] at n2
    exact jA ((pL (aYu n1 n2)).trans (dC rfl))
  ·have n1:=aIi (f:=aH ixE (aD 1) (mC (.int 0))) (g:=aD 6) (en:=(ePr ps p q es o pt st m (some (.p (frD t))) (some (.o (.list ((cP (cL pt st t) M ps).map slD)))) none)) (aQ rfl rfl j0) rfl rfl
   rw [aZ7 hs] at n1
   exact jA ((pL (aYq n1)).trans (dC rfl))
theorem ne_is{i j:Int}:eqE true (.p (.int i)) (.p (.int j))=.ok (.p (.bool (!(i == j)))):=by simp [eqE,dat,iE,gP]
theorem aU1{g:D->En->Option En}{f:En->Res Ev}{en e:En}{x:Ev}{d:D}(h1:f en=.ok x)(hx:x.c=.p d)(h2:g d en=some e):aVs g f en=some (.nx e):=by
 unfold aVs
 rw [h1]
 dsimp only
 rw [hx]
 dsimp only
 rw [h2]
theorem aOd:∀ {fs:List Rw} {x:Bd},x∈bbs fs->∃ (i:Nat) (a b:Rw),fs[i]? = some a/\fs[i+1]? = some b/\x=bb a b
 | [],_,h=>nomatch h
 | [_],_,h=>nomatch h
 | a :: b :: r,x,h=>by
  rcases aZ3.mp h with rfl | h
  ·exact ⟨0,a,b,rfl,rfl,rfl⟩
  ·obtain ⟨i,u,v,h1,h2,e⟩:=aOd h
   exact ⟨i+1,u,v,h1,h2,e⟩
theorem aOc:∀ {fs:List Rw} {i:Nat} {a b:Rw},fs[i]? = some a->fs[i+1]? = some b->bb a b∈bbs fs
 | [],_,_,_,h,_=>by cases h
 | [x],i,_,_,_,h=>by
  rw [aZ6] at h
  cases h
 | x :: y :: fs,0,a,b,h1,h2=>by
  cases h1
  cases h2
  exact .head _
 | x :: y :: fs,i+1,a,b,h1,h2=>.tail _ (aOc (fs:=y :: fs) (i:=i) h1 h2)
structure WI(pre:List Bd)(m:Wm):Prop where
 a:∀ x∈pre,gF m x.1=some x.2
 b:∀ k v,gF m k=some v->(k,v)∈pre
 l:m.length<=pre.length
theorem WI.snoc{pre:List Bd}{m:Wm}(h:WI pre m){x:Bd}(hx:∀ y∈pre,y.1≠x.1):WI (pre++[x]) (vM m x.1 x.2):=by
 refine ⟨fun y hy=>?_,fun k v e=>?_,?_⟩
 ·rw [jQ]
  rcases bB1.mp hy with hy | hy
  ·rw [bAg (hx y hy)]
   exact h.a y hy
  ·rw [bAj.mp hy,bAc rfl]
 ·rw [jQ] at e
  by_cases z:k=x.1
  ·rw [bAc z] at e
   have e:=bAn e
   rw [z,<- e]
   exact bB1.mpr (.inr (.head _))
  ·rw [bAg z] at e
   exact bB1.mpr (.inl (h.b k v e))
 ·rw [bAi,bBy]
  have:=wW m x.1 x.2
  have:=h.l
  omega
abbrev eLw(S:Option L)(ps:List Pl)(pt:Pt)(st:Int×Int)(T:Option L)(m:Wm)(a b c d e:Option L):En:=[S,some (.p (.list (ps.map plD))),some (.p (.tuple [frD pt.1,frD pt.2])),some (.p (slD st)),T,some (.o (.dict (N.encM slD PyData.int m))),a,b,c,d,e]
theorem aU9(x:Int×Int):ltF x x=false:=aZ7 (Int.lt_irrefl _)
noncomputable def yE:MS:=(i9 (aJn (bV (aN 5 (bY K c) (aB (aD 1) (aB (aD 10) (aB (aD 2) (aB (aD 3) (aB (aD 5) aT)))))))) (dW (mC (.bool false))) dX)
noncomputable def aC6(K:aZz)(c:Cls):En->Res Ev:=(aD 1)
noncomputable def xC:En->Res Ev:=(aN 2 (cR K c) (aB (aK bQ (aB (aH ixE (aD 0) (mC (.int 0))) (aB (aH ixE (aD 0) (mC (.int 1))) aT))) (aB (aD 1) aT)))
noncomputable def x8:En->Res Ev:=(aN 2 (cR K c) (aB (aD 0) (aB (aD 1) aT)))
noncomputable def rR:MS:=(bU (cO 8 (dJ 1 [3] (eX (aN 2 (dU K c) (aB (aD 1) (aB (aN 3 (eD K c) (aB (aD 2) (aB (aD 3) (aB (aD 6) aT)))) aT)))) (aJ 0) eR (x8 K c))) (bU (i9 (mOr (bV (aH (w9 false) (aD 6) (aD 5))) (mOr (bV (aH ltE (aD 7) (mC (.int 1)))) (bV (aH (eqE true) (aD 7) (aH kZ (aK aOv (aB (aD 8) aT)) (aK aOr (aB (aD 8) aT))))))) (dW (mC (.bool false))) dX) (qE 5 (aD 6) (aD 7))))
noncomputable def aLn:MS:=(bU (aVs (fD 3 (bE (aJ 1) (bE (aJ 2) (bE (aJ 3) fB)))) (aN 1 (eC K c) (aB (aD 0) aT))) (bU (cO 4 (aH ixE (aN 1 (jT K c) (aB (aN 3 (lV K c) (aB (aK listE (aB (aD 1) aT)) (aB (aD 2) (aB (aD 3) aT)))) aT)) (mC (.int 2)))) (bU (cO 5 mDT) (bU (aA2 (eX (aD 4)) (fD 2 (bE (aJ 6) (bE (aJ 7) fB))) (rR K c)) (bU (cO 9 (dJ 1 [3] (eX (aD 1)) (aJ 0) eR (xC K c))) (bU (i9 (bV (aH (eqE true) (aK aPo (aB (dJ 2 [] (eX (aD 4)) (fD 2 (bE (aJ 0) (bE (aJ 1) fB))) eR (aC6 K c)) aT)) (aH kZ (aK aOv (aB (aD 9) aT)) (aK aOr (aB (aD 9) aT))))) (dW (mC (.bool false))) dX) (bU (aA2 (eX (aN 1 (kK K c) (aB (aK listE (aB (aD 1) aT)) aT))) (aJ 10) (yE K c)) (dW (mC (.bool true))))))))))
noncomputable def aFv(ls:List L):Res L:=eK 11 (aLn K c) ls
theorem aSr:∀ ls,aFv K c ls=.bad\/eK 11 (aLn K c) ls=aFv K c ls:=fun _=>.inr rfl
theorem aZr{ps:List Pl}{pt:Pt}{st:Int×Int}(h:Dn ps pt st){F:Int}{rs fs:List Rw}(C:Cx8 ps pt st F rs fs){i:Nat}{a b:Rw}(e1:fs[i]? = some a)(e2:fs[i+1]? = some b){m:Wm}(hm:m.length<=1000)(hn:gF m (plc a b)=none)(S T:Option L)(r8 r9 r10:Option L):∃ q8,rR K c (eLw S ps pt st T m (some (.p (frD (plc a b)))) (some (.p (.int (b.1 - a.1)))) r8 r9 r10)=some (.nx [S,some (.p (.list (ps.map plD))),some (.p (.tuple [frD pt.1,frD pt.2])),some (.p (slD st)),T,some (.o (.dict (N.encM slD PyData.int (vM m (plc a b) (b.1 - a.1))))),some (.p (frD (plc a b))),some (.p (.int (b.1 - a.1))),q8,r9,r10]):=by
 have hl:=h.l
 have ha:=C.t.sub.subset (bAq e1)
 have hb:=C.t.sub.subset (bAq e2)
 have lt:=kB (bAz C.t.sub C.r) e1 e2
 obtain ⟨gs,gq⟩:=aS4 h (aXw lt (C.z a ha) (C.z b hb))
 obtain ⟨M,im,et⟩:=aGb K c h.n (by omega) gq
 obtain ⟨⟨x,hx,ex⟩,⟨y,hy,ey⟩,hw⟩:=aN1 C e1 e2 im
 have sk:=aKu K c gs
 generalize cL pt st (plc a b)=sp at *
 generalize plc a b=t at *
 have sl:(cP sp M ps).length<=10:=by
  unfold cP
  rw [aZ0]
  exact bA5 (bBk _ _) hl
 have ts:∀ s∈cP sp M ps,cR K c [.p (slD s),.p (slD st)]=.ok (.p (.int (kE s st))):=fun s hs=>by
  obtain ⟨p,hp,rfl,_⟩:=aBk hs
  obtain ⟨z1,z2⟩:=aO0 (h.g p hp).s
  exact xZ K c (z1.mono (by decide)) (z2.mono (by decide)) (h.a.mono (by decide)) (h.b.mono (by decide))
 generalize cP sp M ps=W at *
 have cm:dJ 1 [3] (eX (aN 2 (dU K c) (aB (aD 1) (aB (aN 3 (eD K c) (aB (aD 2) (aB (aD 3) (aB (aD 6) aT)))) aT)))) (aJ 0) eR (x8 K c) (eLw S ps pt st T m (some (.p (frD t))) (some (.p (.int (b.1 - a.1)))) r8 r9 r10)=.ok (.f (.list (W.map fun s=>PyData.int (kE s st)))):=by
  refine eB (ds:=W.map slD) (itL (dD rfl (aFb rfl rfl rfl sk) et)) (by rw [aZ0];omega) ?_
  refine dR _ fun s hs=>?_
  have e:x8 K c [some (.p (slD s)),some (.p (slD st))]=.ok (.p (.int (kE s st))):=dD rfl rfl (ts s hs)
  unfold aV
  ktr_call 3 ⟨aJ,eR,mF,sV,List.replicate,bAm,bAw,e,Ev.c⟩
 have em:W.map (fun s=>PyData.int (kE s st))=(W.map fun s=>kE s st).map .int:=by rw [bA3];rfl
 rw [em] at cm
 have hi:b.1∈W.map fun s=>kE s st:=bAa.mpr ⟨y,hy,ey⟩
 have lo:a.1∈W.map fun s=>kE s st:=bAa.mpr ⟨x,hx,ex⟩
 have hle:∀ w∈W.map (fun s=>kE s st),a.1<=w/\w<=b.1:=fun w hw'=>by
  obtain ⟨s,hs,rfl⟩:=bAa.mp hw'
  exact hw s hs
 generalize W.map (fun s=>kE s st)=is at *
 have mx:=aSh (x:=.b (.list (is.map .int))) rfl hi fun w hw=>(hle w hw).2
 have mn:=aVk (x:=.b (.list (is.map .int))) rfl lo fun w hw=>(hle w hw).1
 refine ⟨some (.o (.list (is.map .int))),?_⟩
 unfold rR
 refine (aL (gH cm)).trans ?_
 have t1:=hV (aPs (ev:=PyData.int) (ng:=false) (f:=aD 6) (g:=aD 5) (en:=(eLw S ps pt st T m (some (.p (frD t))) (some (.p (.int (b.1 - a.1)))) (some (.o (.list (is.map .int)))) r9 r10)) (m:=m) (s:=t) rfl rfl rfl)
 rw [hn] at t1
 have l1:ltE (.p (.int (b.1 - a.1))) (.p (.int 1))=.ok (.p (.bool false)):=by
  show Res.ok (Ev.p (.bool (decide (b.1 - a.1 < 1))))=_
  rw [aZ7 (by omega)]
 refine (aL (nJ (aXl t1 (aXl (hV (aQ rfl rfl l1)) (hV (aQ rfl (aQ (gO (bP rfl rfl) mx) (gO (bP rfl rfl) mn) (hX _ _)) (ne_is.trans (by rw [bF3];rfl)))))))).trans ?_
 exact aG7 (i:=5) rfl rfl rfl (aKo (ev:=PyData.int) m t (b.1 - a.1) (by omega))
theorem aJo(K:aZz)(c:Cls){ps:List Pl}{pt:Pt}{st:Int×Int}(h:Dn ps pt st){F:Int}{rs fs:List Rw}(C:Cx8 ps pt st F rs fs)(rb:Rb (bbs fs))(hl:(bbs fs).length<=1000)(S T r9 r10:Option L):∀ (xs pre:List Bd) (m:Wm) (r6 r7 r8:Option L),bbs fs=pre++xs->WI pre m->∃ (m':Wm) (q6 q7 q8:Option L),WI (bbs fs) m'/\gS (fD 2 (bE (aJ 6) (bE (aJ 7) fB))) (rR K c) (xs.map bdD) (eLw S ps pt st T m r6 r7 r8 r9 r10)=some (.nx (eLw S ps pt st T m' q6 q7 q8 r9 r10))
 | [],pre,m,r6,r7,r8,e,w=>⟨m,r6,r7,r8,by rw [e,bCr];exact w,rfl⟩
 | x :: xs,pre,m,r6,r7,r8,e,w=>by
  have hx:x∈bbs fs:=by rw [e];exact bB1.mpr (.inr (.head _))
  have un:∀ y∈pre,y.1≠x.1:=fun y hy z=>by
   have:=rb.s
   rw [e] at this
   have:=(List.pairwise_append.mp this).2.2 y hy x (.head _)
   rw [z,aU9] at this
   cases this
  have hn:gF m x.1=none:=by
   cases ea:gF m x.1 with
   | none=>rfl
   | some v=>exact absurd rfl (un (x.1,v) (w.b _ _ ea))
  have pl:pre.length<=1000:=by
   have:=bCl List.length e
   rw [bAi] at this
   omega
  have ml:=w.l
  obtain ⟨i,a,b,e1,e2,ex⟩:=aOd hx
  have ha:=C.t.sub.subset (bAq e1)
  have hb:=C.t.sub.subset (bAq e2)
  rw [yR (kB (bAz C.t.sub C.r) e1 e2) (C.f.b a ha).1 (C.f.b b hb).1] at ex
  have x1:x.1=plc a b:=by rw [ex]
  rw [x1] at hn
  obtain ⟨q8,hb5⟩:=aZr K c h C e1 e2 (by omega) hn S T r8 r9 r10
  have ws:=w.snoc un
  rw [ex] at ws
  obtain ⟨m',p6,p7,p8,w',ih⟩:=aJo K c h C rb hl S T r9 r10 xs (pre++[x]) (vM m (plc a b) (b.1 - a.1)) (some (.p (frD (plc a b)))) (some (.p (.int (b.1 - a.1)))) q8 (by rw [e,bCg];rfl) (by rw [ex];exact ws)
  refine ⟨m',p6,p7,p8,w',?_⟩
  rw [bAb,ex,aGy rfl hb5]
  exact ih
theorem aI2(K:aZz)(c:Cls){ps:List Pl}{pt:Pt}{st:Int×Int}(h:Dn ps pt st){F:Int}{rs fs:List Rw}(C:Cx8 ps pt st F rs fs){m:Wm}(hw:WOk fs m)(r0 r4 r6 r7 r8 r9:Option L):∀ (ds:List D) (r10:Option L),(∀ d∈ds,PcT ps d)->∃ q10,gS (aJ 10) (yE K c) ds (eLw r0 ps pt st r4 m r6 r7 r8 r9 r10)=some (.nx (eLw r0 ps pt st r4 m r6 r7 r8 r9 q10))
 | [],r10,_=>⟨r10,rfl⟩
 | d :: ds,r10,hd=>by
  obtain ⟨p,q,hp,hq,u,es,o,dr,ed⟩:=hd d (.head _)
  have ed:d=rwD p q es o:=ed
  obtain ⟨q10,ih⟩:=aI2 K c h C hw r0 r4 r6 r7 r8 r9 ds (some (.p d)) fun x hx=>hd x (.tail _ hx)
  refine ⟨q10,?_⟩
  have hb:yE K c (eLw r0 ps pt st r4 m r6 r7 r8 r9 (some (.p d)))=some (.nx (eLw r0 ps pt st r4 m r6 r7 r8 r9 (some (.p d)))):=by
   rw [ed]
   exact nJ (aWp (hV (aXd (bP rfl (bP rfl (bP rfl (bP rfl (bP rfl rfl))))) rfl rfl rfl (aF5 K c h C hw hp hq u es dr) rfl)))
  rw [aGy rfl hb]
  exact ih
theorem aSi(hk:gQ K c)(ns:List Int)(hn:ns.length<=63):aFv K c [.p (.list (ns.map .int))]=.ok (.p (.bool true)):=by
 obtain ⟨ps,pt,st,h,ed⟩:=aMk K c ns
 have hl:=h.l
 have C:=aXx h
 have ga:∀ p∈ps,GA p pt st:=fun p hp=>aK3 (h.g p hp) h.x h.y h.a h.b
 have al:=aGq K c h.n (by omega) h.a h.b ga
 have rl:=C.l
 have tg:=aE8 C.n C.r fun r hr=>(C.z r hr).pos
 have tsub:=C.t.sub
 have tl:=tsub.length_le
 have rf:uQ (eY (lnA ps pt st)):=bAz tsub C.r
 have tn:eY (lnA ps pt st)≠[]:=fun z=>by
  obtain ⟨x,r,e⟩:=xH C.n C.r
  rw [z] at e
  cases e
 have bk:=aD9 K c (aJc (rs:=eY (lnA ps pt st)) (by omega) fun r hr=>C.z r (tsub.subset hr)) tn rf
 rw [tg] at bk
 have rb:Rb (bbs (eY (lnA ps pt st))):=aNz C.f (fun r hr=>tsub.subset hr) rf C.t.conv
 obtain ⟨x,ex⟩:∃ x,(lnA ps pt st).head? = some x:=by
  cases e:(lnA ps pt st).head? with
  | none=>exact absurd (List.head?_eq_none_iff.mp e) C.n
  | some y=>exact ⟨y,rfl⟩
 obtain ⟨y,ey⟩:∃ y,(lnA ps pt st).getLast? = some y:=by
  cases e:(lnA ps pt st).getLast? with
  | none=>exact absurd (bDg.mp e) C.n
  | some y=>exact ⟨y,rfl⟩
 have sm:=aG6 (C.t.hd.trans ex) (C.t.ls.trans ey)
 have bl:(bbs (eY (lnA ps pt st))).length<=1000:=by
  rw [pP,aZ0,bB5]
  omega
 have xs:x.1∈ps.map fun p=>kE (slP p) st:=by
  obtain ⟨p,hp,e⟩:=C.fm x (bFi ex)
  exact bAa.mpr ⟨p,hp,by rw [<- e];rfl⟩
 have ys:y.1∈ps.map fun p=>kE (slP p) st:=by
  obtain ⟨p,hp,e⟩:=C.fm y (bDe ey)
  exact bAa.mpr ⟨p,hp,by rw [<- e];rfl⟩
 have xy:∀ w∈ps.map (fun p=>kE (slP p) st),x.1<=w/\w<=y.1:=fun w hw=>by
  obtain ⟨p,hp,rfl⟩:=bAa.mp hw
  obtain ⟨r,hr,e,_⟩:=C.up p hp
  rw [aBa] at e
  show x.1<=kE (slP p) st/\kE (slP p) st<=y.1
  rw [<- e]
  exact ⟨x4 C.r ex r hr,pY C.r ey r hr⟩
 obtain ⟨pcs,pl,hpc,pk⟩:=aJr K c (by omega) h.g (List.Pairwise.imp (fun h=>h) h.u)
 generalize lnA ps pt st=rs at *
 generalize eY rs=fs at *
 obtain ⟨m,q6,q7,q8,wi,lp⟩:=aJo K c h C rb bl (some (.p (.list (ns.map .int)))) (some (.p (.list ((bbs fs).map bdD)))) none none (bbs fs) [] [] none none none rfl ⟨(fun _ h=>nomatch h),(fun _ _ e=>nomatch e),bAf _⟩
 have hw:WOk fs m:=⟨fun i a b e1 e2=>by
  have ha:=C.t.sub.subset (bAq e1)
  have hb:=C.t.sub.subset (bAq e2)
  have:=wi.a _ (aOc e1 e2)
  rw [yR (kB rf e1 e2) (C.f.b a ha).1 (C.f.b b hb).1] at this
  exact this⟩
 have c9:dJ 1 [3] (eX (aD 1)) (aJ 0) eR (xC K c) (eLw (some (.p (.list (ns.map .int)))) ps pt st (some (.p (.list ((bbs fs).map bdD)))) m q6 q7 q8 none none)=.ok (.f (.list (ps.map fun p=>PyData.int (kE (slP p) st)))):=by
  refine eB (ds:=ps.map plD) rfl (by rw [aZ0];omega) ?_
  refine dR _ fun p hp=>?_
  obtain ⟨z1,z2⟩:=aO0 (h.g p hp).s
  have tk:=xZ K c (s:=slP p) (t:=st) (z1.mono (by decide)) (z2.mono (by decide)) (h.a.mono (by decide)) (h.b.mono (by decide))
  have e:xC K c [some (.p (plD p)),some (.p (slD st))]=.ok (.p (.int (kE (slP p) st))):=dD (uP (aQ rfl rfl (u9 p)) (aQ rfl rfl (u7 p))) rfl tk
  unfold aV
  ktr_call 3 ⟨aJ,eR,mF,sV,List.replicate,bAm,bAw,e,Ev.c⟩
 rw [show (ps.map fun p=>PyData.int (kE (slP p) st))=(ps.map fun p=>kE (slP p) st).map .int by rw [bA3];rfl] at c9
 generalize (ps.map fun p=>kE (slP p) st)=is at *
 have cs:dJ 2 [] (eX (aD 4)) (fD 2 (bE (aJ 0) (bE (aJ 1) fB))) eR (aC6 K c) (eLw (some (.p (.list (ns.map .int)))) ps pt st (some (.p (.list ((bbs fs).map bdD)))) m q6 q7 q8 (some (.o (.list (is.map .int)))) none)=.ok (.f (.list ((bbs fs).map fun b=>PyData.int b.2))):=by
  refine eB (ds:=(bbs fs).map bdD) rfl (by rw [aZ0];omega) ?_
  exact dR _ fun b hb=>rfl
 rw [show ((bbs fs).map fun b=>PyData.int b.2)=((bbs fs).map (·.2)).map .int by rw [bA3];rfl] at cs
 have mx:=aSh (x:=.b (.list (is.map .int))) rfl ys fun w hw=>(xy w hw).2
 have mn:=aVk (x:=.b (.list (is.map .int))) rfl xs fun w hw=>(xy w hw).1
 have su:=aX4 (x:=.p (.list (((bbs fs).map (·.2)).map .int))) rfl
 rw [sm] at su
 obtain ⟨q10,lp2⟩:=aI2 K c h C hw (some (.p (.list (ns.map .int)))) (some (.p (.list ((bbs fs).map bdD)))) q6 q7 q8 (some (.o (.list (is.map .int)))) pcs none hpc
 have le:listE [.p (.list (ps.map plD))]=.ok (.f (.list (ps.map plD))):=rfl
 have i2:ixE (.p (bsD fs)) (.p (.int 2))=.ok (.p (.list ((bbs fs).map bdD))):=rfl
 unfold aFv
 refine bH ?_
 rw [show bD 11 [.p (.list (ns.map .int))]=[some (.p (.list (ns.map .int))),none,none,none,none,none,none,none,none,none,none] from rfl]
 unfold aLn
 refine (aL (aU1 (e:=[some (.p (.list (ns.map .int))),some (.p (.list (ps.map plD))),some (.p (.tuple [frD pt.1,frD pt.2])),some (.p (slD st)),none,none,none,none,none,none,none]) (pS rfl rfl ed) rfl rfl)).trans ?_
 refine (aL (b9 (aQ (pS (aFb (gO (bP rfl rfl) le) rfl rfl al) rfl bk) rfl i2))).trans ?_
 refine (aL (gH (d:=.dict []) rfl)).trans ((aL ((qY (itL rfl)).trans lp)).trans ?_)
 refine (aL (gH c9)).trans ?_
 refine (aL (nJ (hV (aQ (gO (bP cs rfl) su) (aQ (gO (bP rfl rfl) mx) (gO (bP rfl rfl) mn) (hX _ _)) (ne_is.trans (by rw [bF3];rfl)))))).trans ?_
 exact (aL ((qY (itL (pS (gO (bP rfl rfl) le) rfl pk))).trans lp2)).trans (dC rfl)
local macro_rules | `(tactic| walk_at "s") => `(tactic| exact ⟨rfl,rfl,rfl,by decide +kernel,rfl,by decide +kernel,by decide +kernel⟩)
section
variable {P:Program}{w:World}{K:aZz}{mg:Str->Option Value}{base:Heap}
theorem aO6:aY ["a","b"] ["a","b"] (aR aC1):=by walk_at "s"
theorem aR3{c:Cls}(Df:Def K mg "over" ["a","b"] aC1)(B:Blt mg)(C:gT mg c)(O:gU mg base c)(hk:gQ K c)(c_fraction:Cal P w K mg base 2 "fraction" 2 (bL K c)):Cal P w K mg base 3 "over" 2 (nZ K c):=by
 refine iC (k:=2) Df aO6 rfl (fun f b A o s H E hr=>⟨aGv K c,?_,aQ0 K c⟩)
 exact (aM (bA (aF c_fraction hr a6 (aA (aS bB bJ aI (aO (dv 0) aC ra) (aO (dv 1) aC ra)) (aA (aS bB bJ aI (aO (dv 0) aC ra) (aO (dv 1) aC ra)) aE)))))
theorem sc_plane_height:aY ["plane","point","along_x","along_y"] ["plane","point"] (aR iN):=by walk_at "s"
theorem s9{c:Cls}(Df:Def K mg "plane_height" ["plane","point"] iN)(B:Blt mg)(C:gT mg c)(O:gU mg base c)(hk:gQ K c)(c_plus:Cal P w K mg base 3 "plus" 2 (jD K c))(c_times:Cal P w K mg base 3 "times" 2 (gX K c)):Cal P w K mg base 4 "plane_height" 2 (cH K c):=by
 refine iC (k:=3) Df sc_plane_height rfl (fun f b A o s H E hr=>⟨kU K c,?_,sP K c⟩)
 exact (aG (aW (i:=2) sc_plane_height.nd rfl (Or.inl rfl) (aF c_times hr a6 (aA (bO (aA (aO (dv 0) aC ra) (aA aC aE))) (aA (aO (dv 1) aC ra) aE)))) (aG (aW (i:=3) sc_plane_height.nd rfl (Or.inl rfl) (aF c_times hr a6 (aA (bO (aA (aO (dv 0) aC ra) (aA aC aE))) (aA (aO (dv 1) aC ra) aE)))) (aM (bA (aF c_plus hr a6 (aA (aF c_plus hr a6 (aA (dv 2) (aA (dv 3) aE))) (aA (aO (dv 0) aC ra) aE)))))))
theorem sc_bend_between:aY ["row","following","weight"] ["row","following"] (aR iP):=by walk_at "s"
theorem tV{c:Cls}(Df:Def K mg "bend_between" ["row","following"] iP)(B:Blt mg)(C:gT mg c)(O:gU mg base c)(hk:gQ K c)(c_over:Cal P w K mg base 3 "over" 2 (nZ K c))(c_minus:Cal P w K mg base 3 "minus" 2 (kA K c)):Cal P w K mg base 4 "bend_between" 2 (eG K c):=by
 refine iC (k:=3) Df sc_bend_between rfl (fun f b A o s H E hr=>⟨kR K c,?_,tD K c⟩)
 exact (aG (aW (i:=2) sc_bend_between.nd rfl (Or.inl rfl) (aS dH dN aU (aO (dv 1) aC ra) (aO (dv 0) aC ra))) (aM (bA (bO (aA (aF c_over hr a6 (aA (aF c_minus hr a6 (aA (aO (dv 0) aC ra) (aA (aO (dv 1) aC ra) aE))) (aA (bO (aA (dv 2) (aA aC aE))) aE))) (aA (dv 2) aE))))))
theorem aVl:aY ["plane","other"] ["plane","other"] (aR aLt):=by walk_at "s"
theorem aSo{c:Cls}(Df:Def K mg "gap" ["plane","other"] aLt)(B:Blt mg)(C:gT mg c)(O:gU mg base c)(hk:gQ K c):Cal P w K mg base 1 "gap" 2 (aBw K c):=by
 refine iC (k:=0) Df aVl rfl (fun f b A o s H E hr=>⟨aQz K c,?_,aVf K c⟩)
 exact (aM (bA (bO (aA (aS dH dN aU (aO (dv 0) aC ra) (aO (dv 1) aC ra)) (aA (aS dH dN aU (aO (dv 0) aC ra) (aO (dv 1) aC ra)) (aA (aS dH dN aU (aO (aO (dv 0) aC ra) aC ra) (aO (aO (dv 1) aC ra) aC ra)) aE))))))
theorem sc__law_number:aY ["_law_cell","_law_k","_law_way"] ["_law_cell","_law_k"] (aR jN):=by walk_at "s"
theorem uW{c:Cls}(Df:Def K mg "_law_number" ["_law_cell","_law_k"] jN)(B:Blt mg)(C:gT mg c)(O:gU mg base c)(hk:gQ K c)(c__law_mix:Cal P w K mg base 1 "_law_mix" 2 (bG K c))(c__law_lowest:Cal P w K mg base 1 "_law_lowest" 2 (bN K c)):Cal P w K mg base 2 "_law_number" 2 (cM K c):=by
 refine iC (k:=1) Df sc__law_number rfl (fun f b A o s H E hr=>⟨iA K c,?_,uS K c⟩)
 exact (aG (aW (i:=2) sc__law_number.nd rfl (Or.inl rfl) (aS cD dQ aI (aF c__law_mix hr a6 (aA (dv 0) (aA (dv 1) aE))) aC)) (aG (gB (cZ (gG (u64 hr)) i4 eS (dv 2) aC (cN _)) (aM (bA (aF c__law_lowest hr a6 (aA (aS dH dN aU (aS cD dQ aI (aS cA dP cB (aS yA w6 aI (dv 0) aC) (dv 1)) (aS cA dP cB (aS yA w6 aI aC (aS l9 mD aI aC aC)) aC)) (aS l9 mD aI aC aC)) (aA (aS cA dP cB aC (aS cD dQ aI (aF c__law_mix hr a6 (aA (dv 0) (aA (aS cA dP cB (dv 1) aC) aE))) aC)) aE))))) cC) (aG (gB (cZ (gG (u64 hr)) i4 eS (dv 2) aC (cN _)) (aM (bA (aF c__law_lowest hr a6 (aA (aS dH dN aU (aS cD dQ aI (aF c__law_mix hr a6 (aA (dv 0) (aA (aS cA dP cB (dv 1) aC) aE))) aC) aC) (aA (aS cA dP cB aC (aS cD dQ aI (aF c__law_mix hr a6 (aA (dv 0) (aA (aS cA dP cB (dv 1) aC) aE))) aC)) aE))))) cC) (aM (bA (bO (aA (aS dH dN aU (aS cD dQ aI (aF c__law_mix hr a6 (aA (dv 0) (aA (aS cA dP cB (dv 1) aC) aE))) aC) aC) (aA aC aE))))))))
theorem rD:aY ["_law_cell","_law_most"] ["_law_cell","_law_most"] (aR hZ):=by walk_at "s"
theorem rA{c:Cls}(Df:Def K mg "_law_slope_by" ["_law_cell","_law_most"] hZ)(B:Blt mg)(C:gT mg c)(O:gU mg base c)(hk:gQ K c)(c__law_mix:Cal P w K mg base 1 "_law_mix" 2 (bG K c)):Cal P w K mg base 2 "_law_slope_by" 2 (dM K c):=by
 refine iC (k:=1) Df rD rfl (fun f b A o s H E hr=>⟨iB K c,?_,qZ K c⟩)
 exact (aM (bA (bO (aA (aS cD dQ aI (aF c__law_mix hr a6 (aA (dv 0) (aA aC aE))) (aS cA dP cB (dv 1) aC)) (aA (aS cD dQ aI (aF c__law_mix hr a6 (aA (dv 0) (aA aC aE))) (aS cA dP cB (dv 1) aC)) aE)))))
theorem sc__law_step:aY ["_law_cell","_law_step_here"] ["_law_cell"] (aR lX):=by walk_at "s"
theorem yO{c:Cls}(Df:Def K mg "_law_step" ["_law_cell"] lX)(B:Blt mg)(C:gT mg c)(O:gU mg base c)(hk:gQ K c)(c__law_mix:Cal P w K mg base 1 "_law_mix" 2 (bG K c)):Cal P w K mg base 2 "_law_step" 1 (fO K c):=by
 refine iC (k:=1) Df sc__law_step rfl (fun f b A o s H E hr=>⟨j5 K c,?_,yY K c⟩)
 exact (aG (aW (i:=1) sc__law_step.nd rfl (Or.inl rfl) (bO (aA (aS dH dN aU (aS cD dQ aI (aF c__law_mix hr a6 (aA (dv 0) (aA aC aE))) aC) aC) (aA (aS dH dN aU (aS cD dQ aI (aF c__law_mix hr a6 (aA (dv 0) (aA aC aE))) aC) aC) aE)))) (aG (gB (cZ (gG (u64 hr)) i4 eS (aS cD dQ aI (aF c__law_mix hr a6 (aA (dv 0) (aA aC aE))) aC) aC (cN _)) (aM (bA (bO (aA (aS dH dN aU (aS cD dQ aI (aS yA w6 aI (dv 0) aC) (aS cA dP cB (aS yA w6 aI aC (aS l9 mD aI aC aC)) aC)) (aS l9 mD aI aC aC)) (aA (aO (dv 1) aC ra) aE))))) cC) (aM (bA (dv 1)))))
theorem sc_law:aY ["_law_script","_law_roof_here","_law_point","_law_step_here","_law_told","_law_weights","_law_t","_law_weight","_law_widths","_law_every","_law_row"] ["_law_script"] (aR aAk):=by walk_at "s"
theorem aVa{c:Cls}{f:Addr}{fd:FuncData}(F:Fun K "law" "law" aAk f fd)(B:Blt mg)(C:gT mg c)(O:gU mg base c)(hk:gQ K c)(c_pieces:Cal P w K mg base 9 "pieces" 1 (kK K c))(c__law_piece_right:Cal P w K mg base 5 "_law_piece_right" 5 (bY K c))(c__law_times:Cal P w K mg base 1 "_law_times" 2 (cR K c))(c__law_tops:Cal P w K mg base 4 "_law_tops" 2 (dU K c))(c__law_spot:Cal P w K mg base 3 "_law_spot" 3 (eD K c))(c_bends:Cal P w K mg base 5 "bends" 1 (jT K c))(c_along:Cal P w K mg base 5 "along" 3 (lV K c))(c__law_drawn:Cal P w K mg base 4 "_law_drawn" 1 (eC K c)):FnOk P w K mg base (CXr P w) 10 f fd ["_law_script"] (spM K 1 (aFv K c)):=by
 refine fnM (k:=9) F sc_law rfl (fun cdv A outer s H E hr=>⟨aLn K c,?_,aSr K c⟩)
 exact (aG (aT5 (aF c__law_drawn hr a6 (aA (dv 0) aE)) (mV (n:=3) rfl (cW (bC (i:=1) sc_law.nd rfl (Or.inl rfl)) (cW (bC (i:=2) sc_law.nd rfl (Or.inl rfl)) (cW (bC (i:=3) sc_law.nd rfl (Or.inr rfl)) j7))))) (aG (aW (i:=4) sc_law.nd rfl (Or.inl rfl) (aO (aF c_bends hr a6 (aA (aF c_along hr a6 (aA (pI qT aIg aDs rfl B.list_ wN (aA (dv 1) aE)) (aA (dv 2) (aA (dv 3) aE)))) aE)) aC ra)) (aG (aW (i:=5) sc_law.nd rfl (Or.inl rfl) wU) (aG (mB bBb rfl (bX (dv 4)) (mV (n:=2) rfl (cW (bC (i:=6) sc_law.nd rfl (Or.inl rfl)) (cW (bC (i:=7) sc_law.nd rfl (Or.inl rfl)) j7))) (aG (iF (i:=8) sc_law.nd rfl (Or.inl rfl) (xs:=["_law_slope"]) (ys:=["_law_step_here"]) (js:=[3]) (cl:=[("_law_step_here",s.heap.objs.size+1)]) rfl (bX (aF c__law_tops hr a6 (aA (dv 1) (aA (aF c__law_spot hr a6 (aA (dv 2) (aA (dv 3) (aA (dv 6) aE)))) aE)))) (gM (ys:=["_law_step_here"]) (js:=[3]) rfl (bAh.mpr ⟨rfl,(fun _ h=>nomatch h)⟩) (aX ⟨rfl,.inl rfl,.inl rfl,rfl,rfl⟩ aZ) (by decide +kernel) (by decide +kernel)) (aX ⟨rfl,.inl rfl,.inl rfl,rfl,rfl⟩ aZ) (by decide +kernel) rfl (by decide +kernel) rfl (by decide) (fun C s₀ H₀ ex pn=>(bC (i:=0) (show (["_law_slope","_law_step_here"]:List Str).Nodup by decide +kernel) rfl (Or.inl rfl))) (fun C s₀ H₀ ex pn=>eF) (fun C s₀ H₀ ex pn=>(aF c__law_times hr oS (aA (dv 0) (aA (dv 1) aE))))) (aG (gB (DW.t (aEr (aT1 (u1 hr) (dv 6) (dv 5)) (aEr (cZ xU jC aU (dv 7) aC (cN _)) (aAg (cZ (y7 (u64 hr)) i4 eS (dv 7) (aS dH dN aU (bZ (yW rfl rfl) aIv aH7 rfl B.max_ aDf (aA (dv 8) aE)) (bZ (yZ rfl rfl) aJ9 aD5 rfl B.min_ aOq (aA (dv 8) aE))) (cN _)))))) (aM (bA aCg)) cC) (aM (wY (i:=5) (u1 hr) (pv 5) (dv 6) (dv 7) rfl))))) (aG (iF (i:=9) sc_law.nd rfl (Or.inl rfl) (xs:=["_law_plane"]) (ys:=["_law_step_here"]) (js:=[3]) (cl:=[("_law_step_here",s.heap.objs.size+1)]) rfl (bX (dv 1)) (gM (ys:=["_law_step_here"]) (js:=[3]) rfl (bAh.mpr ⟨rfl,(fun _ h=>nomatch h)⟩) (aX ⟨rfl,.inl rfl,.inl rfl,rfl,rfl⟩ aZ) (by decide +kernel) (by decide +kernel)) (aX ⟨rfl,.inl rfl,.inl rfl,rfl,rfl⟩ aZ) (by decide +kernel) rfl (by decide +kernel) rfl (by decide) (fun C s₀ H₀ ex pn=>(bC (i:=0) (show (["_law_plane","_law_step_here"]:List Str).Nodup by decide +kernel) rfl (Or.inl rfl))) (fun C s₀ H₀ ex pn=>eF) (fun C s₀ H₀ ex pn=>(aF c__law_times hr oS (aA (bO (aA (aO (dv 0) aC ra) (aA (aO (dv 0) aC ra) aE))) (aA (dv 1) aE))))) (aG (gB (cZ (y7 (u64 hr)) i4 eS (bZ (aH9 rfl rfl) aS0 aPi rfl B.sum_ aSf (aA (fE (xs:=["_law_t","_law_weight"]) (ys:=[]) (js:=[]) (cl:=[]) rfl (bX (dv 4)) (gM (ys:=[]) (js:=[]) rfl (fun _ h=>nomatch h) aZ (by decide +kernel) (by decide +kernel)) aZ (by decide +kernel) rfl (by decide +kernel) rfl (by decide) (fun C s₀ H₀ ex pn=>(mV (n:=2) rfl (cW (bC (i:=0) (show (["_law_t","_law_weight"]:List Str).Nodup by decide +kernel) rfl (Or.inl rfl)) (cW (bC (i:=1) (show (["_law_t","_law_weight"]:List Str).Nodup by decide +kernel) rfl (Or.inl rfl)) j7)))) (fun C s₀ H₀ ex pn=>eF) (fun C s₀ H₀ ex pn=>(dv 1))) aE)) (aS dH dN aU (bZ (yW rfl rfl) aIv aH7 rfl B.max_ aDf (aA (dv 9) aE)) (bZ (yZ rfl rfl) aJ9 aD5 rfl B.min_ aOq (aA (dv 9) aE))) (cN _)) (aM (bA aCg)) cC) (aG (mB bBb rfl (bX (aF c_pieces hr a6 (aA (pI qT aIg aDs rfl B.list_ wN (aA (dv 1) aE)) aE))) (bC (i:=10) sc_law.nd rfl (Or.inl rfl)) (aM (gB (aTq (n4 (aF c__law_piece_right hr a6 (aA (dv 1) (aA (dv 10) (aA (dv 2) (aA (dv 3) (aA (dv 5) aE)))))))) (aM (bA aCg)) cC))) (aM (bA aCg)))))))))
end
section
variable {P:Program}{w:World}{K:aZz}{mg:Str->Option Value}{base:Heap}
theorem aQh:aY ["a","b"] ["a","b"] (aR aEm):=by walk_at "s"
theorem aPq{c:Cls}(Df:Def K mg "less" ["a","b"] aEm)(B:Blt mg)(C:gT mg c)(O:gU mg base c)(hk:gQ K c):Cal P w K mg base 1 "less" 2 (jB K c):=by
 refine iC (k:=0) Df aQh rfl (fun f b A o s H E hr=>⟨aKg K c,?_,aQr K c⟩)
 exact (aM (bA (qP xU jC aU (aS bB bJ aI (aO (dv 0) aC ra) (aO (dv 1) aC ra)) (aS bB bJ aI (aO (dv 1) aC ra) (aO (dv 0) aC ra)) (cN _))))
theorem sX:aY ["roof"] ["roof"] (aR iK):=by walk_at "s"
theorem sR{c:Cls}(Df:Def K mg "whole_factor" ["roof"] iK)(B:Blt mg)(C:gT mg c)(O:gU mg base c)(hk:gQ K c)(c_common_bottom:Cal P w K mg base 2 "common_bottom" 1 (bW K c)):Cal P w K mg base 3 "whole_factor" 1 (cV K c):=by
 refine iC (k:=2) Df sX rfl (fun f b A o s H E hr=>⟨k7 K c,?_,uL K c⟩)
 exact (aM (bA (aF c_common_bottom hr a6 (aA (fE (xs:=["plane"]) (ys:=[]) (js:=[]) (cl:=[]) rfl (bX (dv 0)) (gM (ys:=[]) (js:=[]) rfl (fun _ h=>nomatch h) aZ (by decide +kernel) (by decide +kernel)) aZ (by decide +kernel) rfl (by decide +kernel) rfl (by decide) (fun C s₀ H₀ ex pn=>(bC (i:=0) (show (["plane"]:List Str).Nodup by decide +kernel) rfl (Or.inl rfl))) (fun C s₀ H₀ ex pn=>eF) (fun C s₀ H₀ ex pn=>(aO (dv 0) aC ra))) aE))))
theorem sc_between:aY ["lows","highs","low","high"] ["lows","highs"] (aR o6):=by walk_at "s"
theorem aFm{c:Cls}(Df:Def K mg "between" ["lows","highs"] o6)(B:Blt mg)(C:gT mg c)(O:gU mg base c)(hk:gQ K c)(c_less:Cal P w K mg base 1 "less" 2 (jB K c))(c_over:Cal P w K mg base 3 "over" 2 (nZ K c))(c_plus:Cal P w K mg base 3 "plus" 2 (jD K c))(c_least:Cal P w K mg base 2 "least" 1 (lO K c))(c_greatest:Cal P w K mg base 2 "greatest" 1 (fW K c))(c_minus:Cal P w K mg base 3 "minus" 2 (kA K c)):Cal P w K mg base 4 "between" 2 (jX K c):=by
 refine iC (k:=3) Df sc_between rfl (fun f b A o s H E hr=>⟨tH K c,?_,aFt K c⟩)
 exact (aG (gB (DW.t (aJi (cZ (gG (u64 hr)) i4 eS (bZ cY l8 i7 rfl B.len_ bBw (aA (dv 0) aE)) aC (cN _)) (aBl (cZ (gG (u64 hr)) i4 eS (bZ cY l8 i7 rfl B.len_ bBw (aA (dv 1) aE)) aC (cN _))))) (aM (bA (bO (aA aC (aA aC aE))))) cC) (aG (gB (cZ (gG (u64 hr)) i4 eS (bZ cY l8 i7 rfl B.len_ bBw (aA (dv 1) aE)) aC (cN _)) (aM (bA (aF c_plus hr a6 (aA (aF c_greatest hr a6 (aA (dv 0) aE)) (aA (bO (aA aC (aA aC aE))) aE))))) cC) (aG (gB (cZ (gG (u64 hr)) i4 eS (bZ cY l8 i7 rfl B.len_ bBw (aA (dv 0) aE)) aC (cN _)) (aM (bA (aF c_minus hr a6 (aA (aF c_least hr a6 (aA (dv 1) aE)) (aA (bO (aA aC (aA aC aE))) aE))))) cC) (aG (aW (i:=2) sc_between.nd rfl (Or.inl rfl) (aF c_greatest hr a6 (aA (dv 0) aE))) (aG (aW (i:=3) sc_between.nd rfl (Or.inl rfl) (aF c_least hr a6 (aA (dv 1) aE))) (aM (bA (aTc (n4 (aF c_less hr a6 (aA (dv 2) (aA (dv 3) aE)))) (aF c_over hr a6 (aA (aF c_plus hr a6 (aA (dv 2) (aA (dv 3) aE))) (aA (bO (aA aC (aA aC aE))) aE))) aAe))))))))
theorem y4:aY ["one","other"] ["one","other"] (aR lY):=by walk_at "s"
theorem aAv{c:Cls}(Df:Def K mg "weight_of" ["one","other"] lY)(B:Blt mg)(C:gT mg c)(O:gU mg base c)(hk:gQ K c)(c_greatest_divisor:Cal P w K mg base 1 "greatest_divisor" 2 (bF K c)):Cal P w K mg base 2 "weight_of" 2 (eI K c):=by
 refine iC (k:=1) Df y4 rfl (fun f b A o s H E hr=>⟨oO K c,?_,yQ K c⟩)
 exact (aM (bA (aF c_greatest_divisor hr a6 (aA (aS dH dN aU (aO (dv 1) aC ra) (aO (dv 0) aC ra)) (aA (aS dH dN aU (aO (dv 1) aC ra) (aO (dv 0) aC ra)) aE)))))
theorem sc_level_point:aY ["one","other","a","b","rise","square"] ["one","other"] (aR jG):=by walk_at "s"
theorem u6{c:Cls}(Df:Def K mg "level_point" ["one","other"] jG)(B:Blt mg)(C:gT mg c)(O:gU mg base c)(hk:gQ K c)(c_fraction:Cal P w K mg base 2 "fraction" 2 (bL K c)):Cal P w K mg base 3 "level_point" 2 (eT K c):=by
 refine iC (k:=2) Df sc_level_point rfl (fun f b A o s H E hr=>⟨lU K c,?_,uX K c⟩)
 exact (aG (aW (i:=2) sc_level_point.nd rfl (Or.inl rfl) (aS dH dN aU (aO (dv 1) aC ra) (aO (dv 0) aC ra))) (aG (aW (i:=3) sc_level_point.nd rfl (Or.inl rfl) (aS dH dN aU (aO (dv 1) aC ra) (aO (dv 0) aC ra))) (aG (aW (i:=4) sc_level_point.nd rfl (Or.inl rfl) (aS dH dN aU (aO (aO (dv 1) aC ra) aC ra) (aO (aO (dv 0) aC ra) aC ra))) (aG (aW (i:=5) sc_level_point.nd rfl (Or.inl rfl) (aS cA dP cB (aS bB bJ aI (dv 2) (dv 2)) (aS bB bJ aI (dv 3) (dv 3)))) (aM (bA (bO (aA (aF c_fraction hr a6 (aA (aS bB bJ aI (mZ (dv 2)) (dv 4)) (aA (dv 5) aE))) (aA (aF c_fraction hr a6 (aA (aS bB bJ aI (mZ (dv 3)) (dv 4)) (aA (dv 5) aE))) aE)))))))))
theorem sc_piece_of:aY ["planes","one","other","factor","onward","start","line","row","k","places","ends","comes_from_afar","step"] ["planes","one","other","factor"] (aR nM):=by walk_at "s"
theorem aBz{c:Cls}(Df:Def K mg "piece_of" ["planes","one","other","factor"] nM)(B:Blt mg)(C:gT mg c)(O:gU mg base c)(hk:gQ K c)(c_slope_of:Cal P w K mg base 1 "slope_of" 1 (e8 K c))(c_weight_of:Cal P w K mg base 2 "weight_of" 2 (eI K c))(c_turned_round:Cal P w K mg base 1 "turned_round" 1 (dE K c))(c_shrunk:Cal P w K mg base 3 "shrunk" 2 (lM K c))(c_gone:Cal P w K mg base 4 "gone" 3 (uC K c))(c_bends:Cal P w K mg base 5 "bends" 1 (jT K c))(c_plane_height:Cal P w K mg base 4 "plane_height" 2 (cH K c))(c_along:Cal P w K mg base 5 "along" 3 (lV K c))(c_level_point:Cal P w K mg base 3 "level_point" 2 (eT K c))(c_step_of:Cal P w K mg base 3 "step_of" 2 (iW K c)):Cal P w K mg base 6 "piece_of" 4 (fZ K c):=by
 refine iC (k:=5) Df sc_piece_of rfl (fun f b A o s H E hr=>⟨nH K c,?_,aBp K c⟩)
 exact (aG (aW (i:=4) sc_piece_of.nd rfl (Or.inr rfl) (bZ (aEx rfl (u64 hr)) aP3 aM3 rfl B.max_ aDf (aA (aF c_step_of hr a6 (aA (dv 1) (aA (dv 2) aE))) (aA (aF c_step_of hr a6 (aA (dv 2) (aA (dv 1) aE))) aE)))) (aG (aW (i:=5) sc_piece_of.nd rfl (Or.inr rfl) (aF c_level_point hr a6 (aA (dv 1) (aA (dv 2) aE)))) (aG (aW (i:=6) sc_piece_of.nd rfl (Or.inl rfl) (aF c_along hr a6 (aA (dv 0) (aA (dv 5) (aA (dv 4) aE))))) (fC 6 (aG (aW (i:=7) sc_piece_of.nd rfl (Or.inl rfl) (bO (aA (aS cA dP cB (aS bB bJ aI (aO (dv 1) aC ra) (aO (dv 4) aC ra)) (aS bB bJ aI (aO (dv 1) aC ra) (aO (dv 4) aC ra))) (aA (aF c_plane_height hr a6 (aA (dv 1) (aA (dv 5) aE))) aE)))) (aG (gB (cZ (aBn (u65 hr)) aGt aBm (dv 7) (dv 6) (by with_unfolding_all rfl)) (aM (bA aAe)) cC) (aG (aW (i:=8) sc_piece_of.nd rfl (Or.inl rfl) (aW1 bFt PySem.F.type_list_index (aGk (u65 hr)) aGx aEv (dv 6) (dv 7))) (aG (iF (i:=9) sc_piece_of.nd rfl (Or.inl rfl) (xs:=["place","weight"]) (ys:=[]) (js:=[]) (cl:=[]) rfl (bX (aO (aF c_bends hr a6 (aA (dv 6) aE)) aC ra)) (gM (ys:=[]) (js:=[]) rfl (fun _ h=>nomatch h) aZ (by decide +kernel) (by decide +kernel)) aZ (by decide +kernel) rfl (by decide +kernel) rfl (by decide) (fun C s₀ H₀ ex pn=>(mV (n:=2) rfl (cW (bC (i:=0) (show (["place","weight"]:List Str).Nodup by decide +kernel) rfl (Or.inl rfl)) (cW (bC (i:=1) (show (["place","weight"]:List Str).Nodup by decide +kernel) rfl (Or.inl rfl)) j7)))) (fun C s₀ H₀ ex pn=>eF) (fun C s₀ H₀ ex pn=>(dv 0))) (aG (iF (i:=10) sc_piece_of.nd rfl (Or.inl rfl) (xs:=["place"]) (ys:=["factor","onward","start"]) (js:=[3,4,5]) (cl:=[("start",s.heap.objs.size+1+1+1),("onward",s.heap.objs.size+1+1),("factor",s.heap.objs.size+1)]) rfl (bX (aPu (dv 9) (tU (bZ (tQ rfl) aVm aRu rfl B.max_ aDf (aA (aS dH dN aU (dv 8) aC) (aA aC aE)))) (tU (aS cA dP cB (dv 8) aC)))) (gM (ys:=["factor","onward","start"]) (js:=[3,4,5]) rfl (bAh.mpr ⟨rfl,(bAh.mpr ⟨rfl,(bAh.mpr ⟨rfl,(fun _ h=>nomatch h)⟩)⟩)⟩) (aX ⟨rfl,.inl rfl,.inl rfl,rfl,rfl⟩ (aX ⟨rfl,.inl rfl,.inl rfl,rfl,rfl⟩ (aX ⟨rfl,.inl rfl,.inl rfl,rfl,rfl⟩ aZ))) (by decide +kernel) (by decide +kernel)) (aX ⟨rfl,.inl rfl,.inl rfl,rfl,rfl⟩ (aX ⟨rfl,.inl rfl,.inl rfl,rfl,rfl⟩ (aX ⟨rfl,.inl rfl,.inl rfl,rfl,rfl⟩ aZ))) (by decide +kernel) rfl (by decide +kernel) rfl (by decide) (fun C s₀ H₀ ex pn=>(bC (i:=0) (show (["place","factor","onward","start"]:List Str).Nodup by decide +kernel) rfl (Or.inl rfl))) (fun C s₀ H₀ ex pn=>eF) (fun C s₀ H₀ ex pn=>(aF c_shrunk hr oS (aA (aF c_gone hr oS (aA (dv 3) (aA (dv 2) (aA (dv 0) aE)))) (aA (dv 1) aE))))) (fC 10 (aG (aW (i:=11) sc_piece_of.nd rfl (Or.inl rfl) (aOk (qP (gG (u64 hr)) i4 eS (dv 8) aC (cN _)) (aGf (qP (gG (u64 hr)) i4 eS (bZ cY l8 i7 rfl B.len_ bBw (aA (dv 10) aE)) aC (cN _))))) (aG (aW (i:=12) sc_piece_of.nd rfl (Or.inl rfl) (aTc (n4 (dv 11)) (aF c_turned_round hr a6 (aA (dv 4) aE)) (dv 4))) (aM (bA (bO (aA (aF c_slope_of hr a6 (aA (dv 1) aE)) (aA (aF c_slope_of hr a6 (aA (dv 2) aE)) (aA (dv 10) (aA (dv 12) (aA (aF c_weight_of hr a6 (aA (dv 1) (aA (dv 2) aE))) aE))))))))))))))))))))
theorem aCi:aY ["_law_a","_law_b"] ["_law_a","_law_b"] (aR nL):=by walk_at "s"
theorem aBe{c:Cls}(Df:Def K mg "_law_sum" ["_law_a","_law_b"] nL)(B:Blt mg)(C:gT mg c)(O:gU mg base c)(hk:gQ K c)(c__law_lowest:Cal P w K mg base 1 "_law_lowest" 2 (bN K c)):Cal P w K mg base 2 "_law_sum" 2 (dB K c):=by
 refine iC (k:=1) Df aCi rfl (fun f b A o s H E hr=>⟨qK K c,?_,aB4 K c⟩)
 exact (aM (bA (aF c__law_lowest hr a6 (aA (aS cA dP cB (aS bB bJ aI (aO (dv 0) aC ra) (aO (dv 1) aC ra)) (aS bB bJ aI (aO (dv 1) aC ra) (aO (dv 0) aC ra))) (aA (aS bB bJ aI (aO (dv 0) aC ra) (aO (dv 1) aC ra)) aE)))))
theorem sc__law_height:aY ["_law_plane","_law_point","_law_sides"] ["_law_plane","_law_point"] (aR jE):=by walk_at "s"
theorem vE{c:Cls}(Df:Def K mg "_law_height" ["_law_plane","_law_point"] jE)(B:Blt mg)(C:gT mg c)(O:gU mg base c)(hk:gQ K c)(c__law_sum:Cal P w K mg base 2 "_law_sum" 2 (dB K c))(c__law_product:Cal P w K mg base 2 "_law_product" 2 (bR K c)):Cal P w K mg base 3 "_law_height" 2 (cX K c):=by
 refine iC (k:=2) Df sc__law_height rfl (fun f b A o s H E hr=>⟨lG K c,?_,u3 K c⟩)
 exact (aG (aW (i:=2) sc__law_height.nd rfl (Or.inl rfl) (aF c__law_sum hr a6 (aA (aF c__law_product hr a6 (aA (bO (aA (aO (dv 0) aC ra) (aA aC aE))) (aA (aO (dv 1) aC ra) aE))) (aA (aF c__law_product hr a6 (aA (bO (aA (aO (dv 0) aC ra) (aA aC aE))) (aA (aO (dv 1) aC ra) aE))) aE)))) (aM (bA (aF c__law_sum hr a6 (aA (dv 2) (aA (aO (dv 0) aC ra) aE))))))
end
section
variable {P:Program}{w:World}{K:aZz}{mg:Str->Option Value}{base:Heap}
theorem aNb:aY ["a","b"] ["a","b"] (aR w4):=by walk_at "s"
theorem aLr{c:Cls}(Df:Def K mg "times" ["a","b"] w4)(B:Blt mg)(C:gT mg c)(O:gU mg base c)(hk:gQ K c)(c_fraction:Cal P w K mg base 2 "fraction" 2 (bL K c)):Cal P w K mg base 3 "times" 2 (gX K c):=by
 refine iC (k:=2) Df aNb rfl (fun f b A o s H E hr=>⟨aBq K c,?_,aNo K c⟩)
 exact (aM (bA (aF c_fraction hr a6 (aA (aS bB bJ aI (aO (dv 0) aC ra) (aO (dv 1) aC ra)) (aA (aS bB bJ aI (aO (dv 0) aC ra) (aO (dv 1) aC ra)) aE)))))
theorem sc_least:aY ["numbers","best","number"] ["numbers"] (aR xD):=by walk_at "s"
theorem aLx{c:Cls}(Df:Def K mg "least" ["numbers"] xD)(B:Blt mg)(C:gT mg c)(O:gU mg base c)(hk:gQ K c)(c_less:Cal P w K mg base 1 "less" 2 (jB K c)):Cal P w K mg base 2 "least" 1 (lO K c):=by
 refine iC (k:=1) Df sc_least rfl (fun f b A o s H E hr=>⟨aJy K c,?_,aLa K c⟩)
 exact (aG (aW (i:=1) sc_least.nd rfl (Or.inl rfl) (aO (dv 0) aC ra)) (aG (mB bBb rfl (bX (dv 0)) (bC (i:=2) sc_least.nd rfl (Or.inl rfl)) (aM (gB (n4 (aF c_less hr a6 (aA (dv 2) (aA (dv 1) aE)))) (aM (aW (i:=1) sc_least.nd rfl (Or.inl rfl) (dv 2))) cC))) (aM (bA (dv 1)))))
theorem sc_common_bottom:aY ["numbers","common","number"] ["numbers"] (aR gW):=by walk_at "s"
theorem rB{c:Cls}(Df:Def K mg "common_bottom" ["numbers"] gW)(B:Blt mg)(C:gT mg c)(O:gU mg base c)(hk:gQ K c)(c_greatest_divisor:Cal P w K mg base 1 "greatest_divisor" 2 (bF K c)):Cal P w K mg base 2 "common_bottom" 1 (bW K c):=by
 refine iC (k:=1) Df sc_common_bottom rfl (fun f b A o s H E hr=>⟨mX K c,?_,rJ K c⟩)
 exact (aG (aW (i:=1) sc_common_bottom.nd rfl (Or.inl rfl) aC) (aG (mB bBb rfl (bX (dv 0)) (bC (i:=2) sc_common_bottom.nd rfl (Or.inl rfl)) (aM (aW (i:=1) sc_common_bottom.nd rfl (Or.inl rfl) (aS eL gC aI (aS bB bJ aI (dv 1) (aO (dv 2) aC ra)) (aF c_greatest_divisor hr a6 (aA (dv 1) (aA (aO (dv 2) aC ra) aE))))))) (aM (bA (dv 1)))))
theorem aNm:aY ["number","factor"] ["number","factor"] (aR xG):=by walk_at "s"
theorem aNp{c:Cls}(Df:Def K mg "whole" ["number","factor"] xG)(B:Blt mg)(C:gT mg c)(O:gU mg base c)(hk:gQ K c):Cal P w K mg base 1 "whole" 2 (k8 K c):=by
 refine iC (k:=0) Df aNm rfl (fun f b A o s H E hr=>⟨aBi K c,?_,aMi K c⟩)
 exact (aM (bA (aS bB bJ aI (aO (dv 0) aC ra) (aS eL gC aI (dv 1) (aO (dv 0) aC ra)))))
theorem sc_chain:aY ["points","kept","point"] ["points"] (aR xR):=by walk_at "s"
theorem aK7{c:Cls}(Df:Def K mg "chain" ["points"] xR)(B:Blt mg)(C:gT mg c)(O:gU mg base c)(hk:gQ K c)(c_turn:Cal P w K mg base 1 "turn" 3 (qU K c)):Cal P w K mg base 2 "chain" 1 (l4 K c):=by
 refine iC (k:=1) Df sc_chain rfl (fun f b A o s H E hr=>⟨aBb K c,?_,aNq K c⟩)
 exact (aG (aW (i:=1) sc_chain.nd rfl (Or.inl rfl) (aAp aE)) (aG (mB bBb rfl (bX (dv 0)) (bC (i:=2) sc_chain.nd rfl (Or.inl rfl)) (aG (yG bBb (DW.t (aJi (cZ aIe jC aU (bZ cY l8 i7 rfl B.len_ bBw (aA (dv 1) aE)) aC (cN _)) (aBl (cZ aVv jC aU (aF c_turn hr a6 (aA (aO (dv 1) (mZ aC) ra) (aA (aO (dv 1) (mZ aC) ra) (aA (dv 2) aE)))) aC (cN _))))) (aM (aUc (i:=1) (sW (aT9 bB2 PySem.F.slot_list_pop PySem.F.type_list_pop aUh (pv 1)))))) (aM (aAn (i:=1) (dv 2) (fun t q=>sW (aGr bB2 bFj bFk aAb (pv 1) (qI q vP))))))) (aM (bA (dv 1)))))
theorem sc_line_of:aY ["rows","highest"] ["rows"] (aR pN):=by walk_at "s"
theorem aE6{c:Cls}(Df:Def K mg "line_of" ["rows"] pN)(B:Blt mg)(C:gT mg c)(O:gU mg base c)(hk:gQ K c)(c_highest_by_slope:Cal P w K mg base 2 "highest_by_slope" 1 (cF K c)):Cal P w K mg base 3 "line_of" 1 (iV K c):=by
 refine iC (k:=2) Df sc_line_of rfl (fun f b A o s H E hr=>⟨tW K c,?_,aFf K c⟩)
 exact (aG (gB (cZ (gG (u64 hr)) i4 eS (bZ cY l8 i7 rfl B.len_ bBw (aA (dv 0) aE)) aC (cN _)) (aM (aDr aHl rfl rfl O.NoRoof bEx (aA aOy aE))) cC) (aG (aW (i:=1) sc_line_of.nd rfl (Or.inr rfl) (aF c_highest_by_slope hr a6 (aA (dv 0) aE))) (fC 1 (aM (bA (fE (xs:=["slope"]) (ys:=["highest"]) (js:=[1]) (cl:=[("highest",s.heap.objs.size+1)]) rfl (bX (bZ (zP rfl) aKh aE5 rfl B.sorted_ tO (aA (dv 1) aE))) (gM (ys:=["highest"]) (js:=[1]) rfl (bAh.mpr ⟨rfl,(fun _ h=>nomatch h)⟩) (aX ⟨rfl,.inl rfl,.inl rfl,rfl,rfl⟩ aZ) (by decide +kernel) (by decide +kernel)) (aX ⟨rfl,.inl rfl,.inl rfl,rfl,rfl⟩ aZ) (by decide +kernel) rfl (by decide +kernel) rfl (by decide) (fun C s₀ H₀ ex pn=>(bC (i:=0) (show (["slope","highest"]:List Str).Nodup by decide +kernel) rfl (Or.inl rfl))) (fun C s₀ H₀ ex pn=>eF) (fun C s₀ H₀ ex pn=>(bO (aA (dv 0) (aA (oF (u1 hr) (dv 1) (dv 0) ra) aE))))))))))
theorem sc_step_of:aY ["one","other","weight"] ["one","other"] (aR pO):=by walk_at "s"
theorem aFu{c:Cls}(Df:Def K mg "step_of" ["one","other"] pO)(B:Blt mg)(C:gT mg c)(O:gU mg base c)(hk:gQ K c)(c_weight_of:Cal P w K mg base 2 "weight_of" 2 (eI K c)):Cal P w K mg base 3 "step_of" 2 (iW K c):=by
 refine iC (k:=2) Df sc_step_of rfl (fun f b A o s H E hr=>⟨tR K c,?_,aE0 K c⟩)
 exact (aG (aW (i:=2) sc_step_of.nd rfl (Or.inl rfl) (aF c_weight_of hr a6 (aA (dv 0) (aA (dv 1) aE)))) (aM (bA (bO (aA (aS eL gC aI (aS dH dN aU (aO (dv 1) aC ra) (aO (dv 0) aC ra)) (dv 2)) (aA (aS eL gC aI (aS dH dN aU (aO (dv 0) aC ra) (aO (dv 1) aC ra)) (dv 2)) aE))))))
theorem sc__law_roof:aY ["_law_cells","_law_kind","_law_highest","_law_most","_law_k","_law_number_here","_law_cell","_law_slope","_law_height_here","_law_bowl"] ["_law_cells","_law_kind"] (aR lQ):=by walk_at "s"
theorem zN{c:Cls}(Df:Def K mg "_law_roof" ["_law_cells","_law_kind"] lQ)(B:Blt mg)(C:gT mg c)(O:gU mg base c)(hk:gQ K c)(c__law_before:Cal P w K mg base 1 "_law_before" 2 (bS K c))(c__law_mix:Cal P w K mg base 1 "_law_mix" 2 (bG K c))(c__law_number:Cal P w K mg base 2 "_law_number" 2 (cM K c))(c__law_slope_by:Cal P w K mg base 2 "_law_slope_by" 2 (dM K c)):Cal P w K mg base 3 "_law_roof" 2 (fR K c):=by
 refine iC (k:=2) Df sc__law_roof rfl (fun f b A o s H E hr=>⟨lT K c,?_,yU K c⟩)
 exact (aG (aW (i:=2) sc__law_roof.nd rfl (Or.inr rfl) wU) (aG (aW (i:=3) sc__law_roof.nd rfl (Or.inl rfl) (aO (bO (aA aC (aA aC (aA aC (aA aC aE))))) (aS cD dQ aI (dv 1) aC) ra)) (aG (mB bBb rfl (aHo rfl B.enumerate_ (aA (dv 0) aE)) (mV (n:=2) rfl (cW (bC (i:=4) sc__law_roof.nd rfl (Or.inl rfl)) (cW (bC (i:=5) sc__law_roof.nd rfl (Or.inl rfl)) j7))) (aG (aW (i:=6) sc__law_roof.nd rfl (Or.inl rfl) (aS cA dP cB (dv 5) (aS bB bJ aI aC (dv 4)))) (aG (aW (i:=7) sc__law_roof.nd rfl (Or.inl rfl) (aF c__law_slope_by hr a6 (aA (dv 6) (aA (dv 3) aE)))) (aG (gB (cZ (gG (u64 hr)) i4 eS (aS cD dQ aI (aS eL gC aI (dv 1) aC) aC) aC (cN _)) (aM (aW (i:=7) sc__law_roof.nd rfl (Or.inl rfl) (bO (aA (aO (dv 7) aC ra) (aA (aO (dv 7) aC ra) aE))))) cC) (aG (aW (i:=8) sc__law_roof.nd rfl (Or.inl rfl) (aF c__law_number hr a6 (aA (dv 6) (aA aC aE)))) (aG (gB (cZ (gG (u64 hr)) i4 eS (aS cD dQ aI (aS eL gC aI (dv 1) aC) aC) aC (cN _)) (aG (aW (i:=9) sc__law_roof.nd rfl (Or.inl rfl) (aS cA dP cB (aS cA dP cB (aS bB bJ aI (aO (dv 7) aC ra) (aO (dv 7) aC ra)) (aS bB bJ aI (aO (dv 7) aC ra) (aO (dv 7) aC ra))) (aS bB bJ aI (aO (dv 7) aC ra) (aO (dv 7) aC ra)))) (aM (aW (i:=8) sc__law_roof.nd rfl (Or.inl rfl) (bO (aA (aS dH dN aU (aS cD dQ aI (aF c__law_mix hr a6 (aA (dv 6) (aA aC aE))) aC) (aS bB bJ aI (dv 9) (aS cA dP cB aC (aS cD dQ aI (aS eL gC aI (dv 1) aC) aC)))) (aA aC aE)))))) cC) (aM (gB (DW.t (aEr (oU (u1 hr) (dv 7) (dv 2)) (aAg (n4 (aF c__law_before hr a6 (aA (oF (u1 hr) (dv 2) (dv 7) ra) (aA (dv 8) aE))))))) (aM (wY (i:=2) (u1 hr) (pv 2) (dv 7) (dv 8) rfl)) cC)))))))) (fC 2 (aM (bA (fE (xs:=["_law_slope"]) (ys:=["_law_highest"]) (js:=[2]) (cl:=[("_law_highest",s.heap.objs.size+1)]) rfl (bX (bZ (SRT.vZ rfl) zC v7 rfl B.sorted_ tO (aA (pI (qX rfl) aDa yK rfl B.list_ wN (aA (dv 2) aE)) aE))) (gM (ys:=["_law_highest"]) (js:=[2]) rfl (bAh.mpr ⟨rfl,(fun _ h=>nomatch h)⟩) (aX ⟨rfl,.inl rfl,.inl rfl,rfl,rfl⟩ aZ) (by decide +kernel) (by decide +kernel)) (aX ⟨rfl,.inl rfl,.inl rfl,rfl,rfl⟩ aZ) (by decide +kernel) rfl (by decide +kernel) rfl (by decide) (fun C s₀ H₀ ex pn=>(bC (i:=0) (show (["_law_slope","_law_highest"]:List Str).Nodup by decide +kernel) rfl (Or.inl rfl))) (fun C s₀ H₀ ex pn=>eF) (fun C s₀ H₀ ex pn=>(bO (aA (aO (dv 0) aC ra) (aA (aO (dv 0) aC ra) (aA (oF (u1 hr) (dv 1) (dv 0) ra) aE))))))))))))
theorem sc__law_piece_right:aY ["_law_roof_here","_law_row","_law_point","_law_step_here","_law_weights","_law_t","_law_found","_law_across"] ["_law_roof_here","_law_row","_law_point","_law_step_here","_law_weights"] (aR fL):=by walk_at "s"
theorem oA{c:Cls}(Df:Def K mg "_law_piece_right" ["_law_roof_here","_law_row","_law_point","_law_step_here","_law_weights"] fL)(B:Blt mg)(C:gT mg c)(O:gU mg base c)(hk:gQ K c)(c__law_tops:Cal P w K mg base 4 "_law_tops" 2 (dU K c))(c__law_spot:Cal P w K mg base 3 "_law_spot" 3 (eD K c))(c__law_place_of:Cal P w K mg base 4 "_law_place_of" 4 (cG K c)):Cal P w K mg base 5 "_law_piece_right" 5 (bY K c):=by
 refine iC (k:=4) Df sc__law_piece_right rfl (fun f b A o s H E hr=>⟨dZ K c,?_,oC K c⟩)
 exact (aG (aW (i:=5) sc__law_piece_right.nd rfl (Or.inl rfl) (aF c__law_place_of hr a6 (aA (dv 0) (aA (dv 1) (aA (dv 2) (aA (dv 3) aE)))))) (aG (gB (aOz (dv 5)) (aM (bA aCg)) cC) (aG (aW (i:=6) sc__law_piece_right.nd rfl (Or.inl rfl) (aF c__law_tops hr a6 (aA (dv 0) (aA (aF c__law_spot hr a6 (aA (dv 2) (aA (dv 3) (aA (dv 5) aE)))) aE)))) (aG (gB (DW.t (aEr (cZ (aBn (u65 hr)) aGt aBm (aO (dv 1) aC ra) (dv 6) (by with_unfolding_all rfl)) (aAg (cZ (aBn (u65 hr)) aGt aBm (aO (dv 1) aC ra) (dv 6) (by with_unfolding_all rfl))))) (aM (bA aCg)) cC) (aG (gB (oU (u1 hr) (dv 5) (dv 4)) (aM (bA aCg)) cC) (aG (aW (i:=7) sc__law_piece_right.nd rfl (Or.inl rfl) (bZ pT aAt sH rfl B.abs_ zM (aA (aS dH dN aU (aS bB bJ aI (aO (aO (dv 1) aC ra) aC ra) (aO (dv 3) aC ra)) (aS bB bJ aI (aO (aO (dv 1) aC ra) aC ra) (aO (dv 3) aC ra))) aE))) (aM (bA (aWl (qP aIe jC aU (bZ cY l8 i7 rfl B.len_ bBw (aA (dv 6) aE)) aC (cN _)) (aGf (qP (gG (u64 hr)) i4 eS (oF (u1 hr) (dv 4) (dv 5) ra) (aS bB bJ aI (aO (dv 1) aC ra) (dv 7)) (cN _))))))))))))
end
section
variable {P:Program}{w:World}{K:aZz}{mg:Str->Option Value}{base:Heap}
theorem sc_greatest_divisor:aY ["a","b","larger","smaller","rest"] ["a","b"] (aR fF):=by walk_at "s"
theorem n6{c:Cls}(Df:Def K mg "greatest_divisor" ["a","b"] fF)(B:Blt mg)(C:gT mg c)(O:gU mg base c)(hk:gQ K c):Cal P w K mg base 1 "greatest_divisor" 2 (bF K c):=by
 refine iC (k:=0) Df sc_greatest_divisor rfl (fun f b A o s H E hr=>⟨kG K c,?_,oM K c⟩)
 exact (aG (aW (i:=2) sc_greatest_divisor.nd rfl (Or.inl rfl) (bZ pT aAt sH rfl B.abs_ zM (aA (dv 0) aE))) (aG (aW (i:=3) sc_greatest_divisor.nd rfl (Or.inl rfl) (bZ pT aAt sH rfl B.abs_ zM (aA (dv 1) aE))) (aG (yG bBb (cZ (y7 (u64 hr)) i4 eS (dv 3) aC (cN _)) (aG (aW (i:=4) sc_greatest_divisor.nd rfl (Or.inl rfl) (aS cD dQ aI (dv 2) (dv 3))) (aG (aW (i:=2) sc_greatest_divisor.nd rfl (Or.inl rfl) (dv 3)) (aM (aW (i:=3) sc_greatest_divisor.nd rfl (Or.inl rfl) (dv 4)))))) (aM (bA (dv 2))))))
theorem sc_greatest:aY ["numbers","best","number"] ["numbers"] (aR nN):=by walk_at "s"
theorem aCa{c:Cls}(Df:Def K mg "greatest" ["numbers"] nN)(B:Blt mg)(C:gT mg c)(O:gU mg base c)(hk:gQ K c)(c_less:Cal P w K mg base 1 "less" 2 (jB K c)):Cal P w K mg base 2 "greatest" 1 (fW K c):=by
 refine iC (k:=1) Df sc_greatest rfl (fun f b A o s H E hr=>⟨wC K c,?_,aA7 K c⟩)
 exact (aG (aW (i:=1) sc_greatest.nd rfl (Or.inl rfl) (aO (dv 0) aC ra)) (aG (mB bBb rfl (bX (dv 0)) (bC (i:=2) sc_greatest.nd rfl (Or.inl rfl)) (aM (gB (n4 (aF c_less hr a6 (aA (dv 1) (aA (dv 2) aE)))) (aM (aW (i:=1) sc_greatest.nd rfl (Or.inl rfl) (dv 2))) cC))) (aM (bA (dv 1)))))
theorem aB7:aY ["plane"] ["plane"] (aR nR):=by walk_at "s"
theorem aB0{c:Cls}(Df:Def K mg "slope_of" ["plane"] nR)(B:Blt mg)(C:gT mg c)(O:gU mg base c)(hk:gQ K c):Cal P w K mg base 1 "slope_of" 1 (e8 K c):=by
 refine iC (k:=0) Df aB7 rfl (fun f b A o s H E hr=>⟨pV K c,?_,aBr K c⟩)
 exact (aM (bA (bO (aA (aO (dv 0) aC ra) (aA (aO (dv 0) aC ra) aE)))))
theorem sc_bends:aY ["line","thin","rows"] ["line"] (aR wX):=by walk_at "s"
theorem aLo{c:Cls}(Df:Def K mg "bends" ["line"] wX)(B:Blt mg)(C:gT mg c)(O:gU mg base c)(hk:gQ K c)(c_bend_between:Cal P w K mg base 4 "bend_between" 2 (eG K c))(c_line_thinned:Cal P w K mg base 3 "line_thinned" 1 (dF K c)):Cal P w K mg base 5 "bends" 1 (jT K c):=by
 refine iC (k:=4) Df sc_bends rfl (fun f b A o s H E hr=>⟨aB2 K c,?_,aLl K c⟩)
 exact (aG (aW (i:=1) sc_bends.nd rfl (Or.inr rfl) (aF c_line_thinned hr a6 (aA (dv 0) aE))) (fC 1 (aG (iF (i:=2) sc_bends.nd rfl (Or.inl rfl) (xs:=["k"]) (ys:=["thin"]) (js:=[1]) (cl:=[("thin",s.heap.objs.size+1)]) rfl (aJ4 rfl B.range_ (aA aC (aA (bZ cY l8 i7 rfl B.len_ bBw (aA (dv 1) aE)) aE))) (gM (ys:=["thin"]) (js:=[1]) rfl (bAh.mpr ⟨rfl,(fun _ h=>nomatch h)⟩) (aX ⟨rfl,.inl rfl,.inl rfl,rfl,rfl⟩ aZ) (by decide +kernel) (by decide +kernel)) (aX ⟨rfl,.inl rfl,.inl rfl,rfl,rfl⟩ aZ) (by decide +kernel) rfl (by decide +kernel) rfl (by decide) (fun C s₀ H₀ ex pn=>(bC (i:=0) (show (["k","thin"]:List Str).Nodup by decide +kernel) rfl (Or.inl rfl))) (fun C s₀ H₀ ex pn=>eF) (fun C s₀ H₀ ex pn=>(aF c_bend_between hr oS (aA (aO (dv 1) (aS dH dN aU (dv 0) aC) ra) (aA (aO (dv 1) (dv 0) ra) aE))))) (fC 2 (aM (bA (bO (aA (aO (aO (dv 1) aC ra) aC ra) (aA (aO (aO (dv 1) aC ra) aC ra) (aA (dv 2) aE))))))))))
theorem sc_solved:aY ["rows","lows","highs"] ["rows"] (aR rQ):=by walk_at "s"
theorem aHd{c:Cls}(Df:Def K mg "solved" ["rows"] rQ)(B:Blt mg)(C:gT mg c)(O:gU mg base c)(hk:gQ K c)(c_between:Cal P w K mg base 4 "between" 2 (jX K c))(c_fraction:Cal P w K mg base 2 "fraction" 2 (bL K c)):Cal P w K mg base 5 "solved" 1 (iO K c):=by
 refine iC (k:=4) Df sc_solved rfl (fun f b A o s H E hr=>⟨wH K c,?_,aKf K c⟩)
 exact (aG (gB (n4 (bZ (aK2 rfl rfl) aUk aQw rfl B.any_ aSz (aA (fE (xs:=["row"]) (ys:=[]) (js:=[]) (cl:=[]) rfl (bX (dv 0)) (gM (ys:=[]) (js:=[]) rfl (fun _ h=>nomatch h) aZ (by decide +kernel) (by decide +kernel)) aZ (by decide +kernel) rfl (by decide +kernel) rfl (by decide) (fun C s₀ H₀ ex pn=>(bC (i:=0) (show (["row"]:List Str).Nodup by decide +kernel) rfl (Or.inl rfl))) (fun C s₀ H₀ ex pn=>eF) (fun C s₀ H₀ ex pn=>(aOk (qP (gG (u64 hr)) i4 eS (aO (dv 0) aC ra) aC (cN _)) (aGf (qP aVv jC aU (aO (dv 0) aC ra) aC (cN _)))))) aE))) (aM (bA aAe)) cC) (aG (iF (i:=1) sc_solved.nd rfl (Or.inl rfl) (xs:=["row"]) (ys:=[]) (js:=[]) (cl:=[]) rfl (bX (dv 0)) (gM (ys:=[]) (js:=[]) rfl (fun _ h=>nomatch h) aZ (by decide +kernel) (by decide +kernel)) aZ (by decide +kernel) rfl (by decide +kernel) rfl (by decide) (fun C s₀ H₀ ex pn=>(bC (i:=0) (show (["row"]:List Str).Nodup by decide +kernel) rfl (Or.inl rfl))) (fun C s₀ H₀ ex pn=>(kW (cZ aIe jC aU (aO (dv 0) aC ra) aC (cN _)))) (fun C s₀ H₀ ex pn=>(aF c_fraction hr oS (aA (mZ (aO (dv 0) aC ra)) (aA (aO (dv 0) aC ra) aE))))) (aG (iF (i:=2) sc_solved.nd rfl (Or.inl rfl) (xs:=["row"]) (ys:=[]) (js:=[]) (cl:=[]) rfl (bX (dv 0)) (gM (ys:=[]) (js:=[]) rfl (fun _ h=>nomatch h) aZ (by decide +kernel) (by decide +kernel)) aZ (by decide +kernel) rfl (by decide +kernel) rfl (by decide) (fun C s₀ H₀ ex pn=>(bC (i:=0) (show (["row"]:List Str).Nodup by decide +kernel) rfl (Or.inl rfl))) (fun C s₀ H₀ ex pn=>(kW (cZ xU jC aU (aO (dv 0) aC ra) aC (cN _)))) (fun C s₀ H₀ ex pn=>(aF c_fraction hr oS (aA (mZ (aO (dv 0) aC ra)) (aA (aO (dv 0) aC ra) aE))))) (aM (bA (aF c_between hr a6 (aA (dv 1) (aA (dv 2) aE))))))))
theorem sc__law_lowest:aY ["_law_top","_law_bottom","_law_one","_law_other","_law_rest"] ["_law_top","_law_bottom"] (aR jH):=by walk_at "s"
theorem uT{c:Cls}(Df:Def K mg "_law_lowest" ["_law_top","_law_bottom"] jH)(B:Blt mg)(C:gT mg c)(O:gU mg base c)(hk:gQ K c):Cal P w K mg base 1 "_law_lowest" 2 (bN K c):=by
 refine iC (k:=0) Df sc__law_lowest rfl (fun f b A o s H E hr=>⟨lR K c,?_,u5 K c⟩)
 exact (aG (aW (i:=2) sc__law_lowest.nd rfl (Or.inl rfl) (bZ pT aAt sH rfl B.abs_ zM (aA (dv 0) aE))) (aG (aW (i:=3) sc__law_lowest.nd rfl (Or.inl rfl) (bZ pT aAt sH rfl B.abs_ zM (aA (dv 1) aE))) (aG (yG bBb (cZ (y7 (u64 hr)) i4 eS (dv 3) aC (cN _)) (aG (aW (i:=4) sc__law_lowest.nd rfl (Or.inl rfl) (aS cD dQ aI (dv 2) (dv 3))) (aG (aW (i:=2) sc__law_lowest.nd rfl (Or.inl rfl) (dv 3)) (aM (aW (i:=3) sc__law_lowest.nd rfl (Or.inl rfl) (dv 4)))))) (aG (gB (cZ xU jC aU (dv 1) aC (cN _)) (aM (aW (i:=2) sc__law_lowest.nd rfl (Or.inl rfl) (mZ (dv 2)))) cC) (aM (bA (bO (aA (aS eL gC aI (dv 0) (dv 2)) (aA (aS eL gC aI (dv 1) (dv 2)) aE)))))))))
theorem uZ:aY ["_law_a","_law_b"] ["_law_a","_law_b"] (aR jJ):=by walk_at "s"
theorem uU{c:Cls}(Df:Def K mg "_law_before" ["_law_a","_law_b"] jJ)(B:Blt mg)(C:gT mg c)(O:gU mg base c)(hk:gQ K c):Cal P w K mg base 1 "_law_before" 2 (bS K c):=by
 refine iC (k:=0) Df uZ rfl (fun f b A o s H E hr=>⟨l3 K c,?_,uY K c⟩)
 exact (aM (bA (qP xU jC aU (aS bB bJ aI (aO (dv 0) aC ra) (aO (dv 1) aC ra)) (aS bB bJ aI (aO (dv 1) aC ra) (aO (dv 0) aC ra)) (cN _))))
theorem sc__law_place_of:aY ["_law_roof_here","_law_row","_law_point","_law_step_here","_law_one","_law_other","_law_apart","_law_high","_law_more"] ["_law_roof_here","_law_row","_law_point","_law_step_here"] (aR hU):=by walk_at "s"
theorem rL{c:Cls}(Df:Def K mg "_law_place_of" ["_law_roof_here","_law_row","_law_point","_law_step_here"] hU)(B:Blt mg)(C:gT mg c)(O:gU mg base c)(hk:gQ K c)(c__law_lowest:Cal P w K mg base 1 "_law_lowest" 2 (bN K c))(c__law_sum:Cal P w K mg base 2 "_law_sum" 2 (dB K c))(c__law_height:Cal P w K mg base 3 "_law_height" 2 (cX K c))(c__law_times:Cal P w K mg base 1 "_law_times" 2 (cR K c)):Cal P w K mg base 4 "_law_place_of" 4 (cG K c):=by
 refine iC (k:=3) Df sc__law_place_of rfl (fun f b A o s H E hr=>⟨eO K c,?_,rH K c⟩)
 exact (aG (aW (i:=4) sc__law_place_of.nd rfl (Or.inl rfl) (aO (fE (xs:=["_law_plane"]) (ys:=["_law_row"]) (js:=[1]) (cl:=[("_law_row",s.heap.objs.size+1)]) rfl (bX (dv 0)) (gM (ys:=["_law_row"]) (js:=[1]) rfl (bAh.mpr ⟨rfl,(fun _ h=>nomatch h)⟩) (aX ⟨rfl,.inl rfl,.inl rfl,rfl,rfl⟩ aZ) (by decide +kernel) (by decide +kernel)) (aX ⟨rfl,.inl rfl,.inl rfl,rfl,rfl⟩ aZ) (by decide +kernel) rfl (by decide +kernel) rfl (by decide) (fun C s₀ H₀ ex pn=>(bC (i:=0) (show (["_law_plane","_law_row"]:List Str).Nodup by decide +kernel) rfl (Or.inl rfl))) (fun C s₀ H₀ ex pn=>(kW (cZ (gG (u64 hr)) i4 eS (bO (aA (aO (dv 0) aC ra) (aA (aO (dv 0) aC ra) aE))) (aO (dv 1) aC ra) (cN _)))) (fun C s₀ H₀ ex pn=>(dv 0))) aC ra)) (aG (aW (i:=5) sc__law_place_of.nd rfl (Or.inl rfl) (aO (fE (xs:=["_law_plane"]) (ys:=["_law_row"]) (js:=[1]) (cl:=[("_law_row",s.heap.objs.size+1)]) rfl (bX (dv 0)) (gM (ys:=["_law_row"]) (js:=[1]) rfl (bAh.mpr ⟨rfl,(fun _ h=>nomatch h)⟩) (aX ⟨rfl,.inl rfl,.inl rfl,rfl,rfl⟩ aZ) (by decide +kernel) (by decide +kernel)) (aX ⟨rfl,.inl rfl,.inl rfl,rfl,rfl⟩ aZ) (by decide +kernel) rfl (by decide +kernel) rfl (by decide) (fun C s₀ H₀ ex pn=>(bC (i:=0) (show (["_law_plane","_law_row"]:List Str).Nodup by decide +kernel) rfl (Or.inl rfl))) (fun C s₀ H₀ ex pn=>(kW (cZ (gG (u64 hr)) i4 eS (bO (aA (aO (dv 0) aC ra) (aA (aO (dv 0) aC ra) aE))) (aO (dv 1) aC ra) (cN _)))) (fun C s₀ H₀ ex pn=>(dv 0))) aC ra)) (aG (aW (i:=6) sc__law_place_of.nd rfl (Or.inl rfl) (aS dH dN aU (aF c__law_times hr a6 (aA (aO (dv 1) aC ra) (aA (dv 3) aE))) (aF c__law_times hr a6 (aA (aO (dv 1) aC ra) (aA (dv 3) aE))))) (aG (gB (cZ (gG (u64 hr)) i4 eS (dv 6) aC (cN _)) (aM (bA aAe)) cC) (aG (aW (i:=7) sc__law_place_of.nd rfl (Or.inl rfl) (aF c__law_height hr a6 (aA (dv 5) (aA (dv 2) aE)))) (aG (aW (i:=8) sc__law_place_of.nd rfl (Or.inl rfl) (aF c__law_sum hr a6 (aA (aF c__law_height hr a6 (aA (dv 4) (aA (dv 2) aE))) (aA (bO (aA (mZ (aO (dv 7) aC ra)) (aA (aO (dv 7) aC ra) aE))) aE)))) (aM (bA (aF c__law_lowest hr a6 (aA (aO (dv 8) aC ra) (aA (aS bB bJ aI (aO (dv 8) aC ra) (dv 6)) aE)))))))))))
theorem oD:aY ["_law_c"] ["_law_c"] (aR fJ):=by walk_at "s"
theorem oQ{c:Cls}(Df:Def K mg "_law_fraction_by" ["_law_c"] fJ)(B:Blt mg)(C:gT mg c)(O:gU mg base c)(hk:gQ K c)(c__law_lowest:Cal P w K mg base 1 "_law_lowest" 2 (bN K c)):Cal P w K mg base 2 "_law_fraction_by" 1 (bI K c):=by
 refine iC (k:=1) Df oD rfl (fun f b A o s H E hr=>⟨fH K c,?_,oP K c⟩)
 exact (aM (bA (aF c__law_lowest hr a6 (aA (aS dH dN aU (aS cD dQ aI (aS eL gC aI (dv 0) aC) (aS cA dP cB (aS bB bJ aI aC (aS l9 mD aI aC aC)) aC)) (aS l9 mD aI aC aC)) (aA (aS cA dP cB aC (aS cD dQ aI (dv 0) aC)) aE)))))
end
section
variable {P:Program}{w:World}{K:aZz}{mg:Str->Option Value}{base:Heap}
theorem sc_turn:aY ["start","middle","end","along","across"] ["start","middle","end"] (aR aDm):=by walk_at "s"
theorem aQs{c:Cls}(Df:Def K mg "turn" ["start","middle","end"] aDm)(B:Blt mg)(C:gT mg c)(O:gU mg base c)(hk:gQ K c):Cal P w K mg base 1 "turn" 3 (qU K c):=by
 refine iC (k:=0) Df sc_turn rfl (fun f b A o s H E hr=>⟨aGc K c,?_,aQy K c⟩)
 exact (aG (aW (i:=3) sc_turn.nd rfl (Or.inl rfl) (aS bB bJ aI (aS dH dN aU (aO (dv 1) aC ra) (aO (dv 0) aC ra)) (aS dH dN aU (aO (dv 2) aC ra) (aO (dv 0) aC ra)))) (aG (aW (i:=4) sc_turn.nd rfl (Or.inl rfl) (aS bB bJ aI (aS dH dN aU (aO (dv 1) aC ra) (aO (dv 0) aC ra)) (aS dH dN aU (aO (dv 2) aC ra) (aO (dv 0) aC ra)))) (aM (bA (aS dH dN aU (dv 3) (dv 4))))))
theorem sc_line_thinned:aY ["line","factor","points","kept"] ["line"] (aR iM):=by walk_at "s"
theorem uM{c:Cls}(Df:Def K mg "line_thinned" ["line"] iM)(B:Blt mg)(C:gT mg c)(O:gU mg base c)(hk:gQ K c)(c_chain:Cal P w K mg base 2 "chain" 1 (l4 K c))(c_whole:Cal P w K mg base 1 "whole" 2 (k8 K c))(c_common_bottom:Cal P w K mg base 2 "common_bottom" 1 (bW K c)):Cal P w K mg base 3 "line_thinned" 1 (dF K c):=by
 refine iC (k:=2) Df sc_line_thinned rfl (fun f b A o s H E hr=>⟨nW K c,?_,t9 K c⟩)
 exact (aG (aW (i:=1) sc_line_thinned.nd rfl (Or.inr rfl) (aF c_common_bottom hr a6 (aA (fE (xs:=["slope","height"]) (ys:=[]) (js:=[]) (cl:=[]) rfl (bX (dv 0)) (gM (ys:=[]) (js:=[]) rfl (fun _ h=>nomatch h) aZ (by decide +kernel) (by decide +kernel)) aZ (by decide +kernel) rfl (by decide +kernel) rfl (by decide) (fun C s₀ H₀ ex pn=>(mV (n:=2) rfl (cW (bC (i:=0) (show (["slope","height"]:List Str).Nodup by decide +kernel) rfl (Or.inl rfl)) (cW (bC (i:=1) (show (["slope","height"]:List Str).Nodup by decide +kernel) rfl (Or.inl rfl)) j7)))) (fun C s₀ H₀ ex pn=>eF) (fun C s₀ H₀ ex pn=>(dv 1))) aE))) (aG (iF (i:=2) sc_line_thinned.nd rfl (Or.inl rfl) (xs:=["slope","height"]) (ys:=["factor"]) (js:=[1]) (cl:=[("factor",s.heap.objs.size+1)]) rfl (bX (dv 0)) (gM (ys:=["factor"]) (js:=[1]) rfl (bAh.mpr ⟨rfl,(fun _ h=>nomatch h)⟩) (aX ⟨rfl,.inl rfl,.inl rfl,rfl,rfl⟩ aZ) (by decide +kernel) (by decide +kernel)) (aX ⟨rfl,.inl rfl,.inl rfl,rfl,rfl⟩ aZ) (by decide +kernel) rfl (by decide +kernel) rfl (by decide) (fun C s₀ H₀ ex pn=>(mV (n:=2) rfl (cW (bC (i:=0) (show (["slope","height","factor"]:List Str).Nodup by decide +kernel) rfl (Or.inl rfl)) (cW (bC (i:=1) (show (["slope","height","factor"]:List Str).Nodup by decide +kernel) rfl (Or.inl rfl)) j7)))) (fun C s₀ H₀ ex pn=>eF) (fun C s₀ H₀ ex pn=>(bO (aA (dv 0) (aA (aF c_whole hr oS (aA (dv 1) (aA (dv 2) aE))) aE))))) (fC 2 (aG (aW (i:=3) sc_line_thinned.nd rfl (Or.inr rfl) (fE (xs:=["slope","height"]) (ys:=[]) (js:=[]) (cl:=[]) rfl (bX (aF c_chain hr a6 (aA (aFp rfl rfl B.list_ rfl B.reversed_ (dv 2)) aE))) (gM (ys:=[]) (js:=[]) rfl (fun _ h=>nomatch h) aZ (by decide +kernel) (by decide +kernel)) aZ (by decide +kernel) rfl (by decide +kernel) rfl (by decide) (fun C s₀ H₀ ex pn=>(mV (n:=2) rfl (cW (bC (i:=0) (show (["slope","height"]:List Str).Nodup by decide +kernel) rfl (Or.inl rfl)) (cW (bC (i:=1) (show (["slope","height"]:List Str).Nodup by decide +kernel) rfl (Or.inl rfl)) j7)))) (fun C s₀ H₀ ex pn=>eF) (fun C s₀ H₀ ex pn=>(dv 0)))) (fC 3 (aM (bA (fE (xs:=["row"]) (ys:=["kept"]) (js:=[3]) (cl:=[("kept",s.heap.objs.size+1+1)]) rfl (bX (dv 0)) (gM (ys:=["kept"]) (js:=[3]) rfl (bAh.mpr ⟨rfl,(fun _ h=>nomatch h)⟩) (aX ⟨rfl,.inl rfl,.inl rfl,rfl,rfl⟩ aZ) (by decide +kernel) (by decide +kernel)) (aX ⟨rfl,.inl rfl,.inl rfl,rfl,rfl⟩ aZ) (by decide +kernel) rfl (by decide +kernel) rfl (by decide) (fun C s₀ H₀ ex pn=>(bC (i:=0) (show (["row","kept"]:List Str).Nodup by decide +kernel) rfl (Or.inl rfl))) (fun C s₀ H₀ ex pn=>(kW (cZ (aSw rfl) aWd aTr (aO (dv 0) aC ra) (dv 1) (by with_unfolding_all rfl)))) (fun C s₀ H₀ ex pn=>(dv 0))))))))))
theorem sc_along:aY ["roof","point","step","rows"] ["roof","point","step"] (aR wF):=by walk_at "s"
theorem aLh{c:Cls}(Df:Def K mg "along" ["roof","point","step"] wF)(B:Blt mg)(C:gT mg c)(O:gU mg base c)(hk:gQ K c)(c_line_thinned:Cal P w K mg base 3 "line_thinned" 1 (dF K c))(c_line_of:Cal P w K mg base 3 "line_of" 1 (iV K c))(c_plane_height:Cal P w K mg base 4 "plane_height" 2 (cH K c)):Cal P w K mg base 5 "along" 3 (lV K c):=by
 refine iC (k:=4) Df sc_along rfl (fun f b A o s H E hr=>⟨aB1 K c,?_,aK8 K c⟩)
 exact (aG (iF (i:=3) sc_along.nd rfl (Or.inl rfl) (xs:=["plane"]) (ys:=["point","step"]) (js:=[1,2]) (cl:=[("step",s.heap.objs.size+1+1),("point",s.heap.objs.size+1)]) rfl (bX (dv 0)) (gM (ys:=["point","step"]) (js:=[1,2]) rfl (bAh.mpr ⟨rfl,(bAh.mpr ⟨rfl,(fun _ h=>nomatch h)⟩)⟩) (aX ⟨rfl,.inl rfl,.inl rfl,rfl,rfl⟩ (aX ⟨rfl,.inl rfl,.inl rfl,rfl,rfl⟩ aZ)) (by decide +kernel) (by decide +kernel)) (aX ⟨rfl,.inl rfl,.inl rfl,rfl,rfl⟩ (aX ⟨rfl,.inl rfl,.inl rfl,rfl,rfl⟩ aZ)) (by decide +kernel) rfl (by decide +kernel) rfl (by decide) (fun C s₀ H₀ ex pn=>(bC (i:=0) (show (["plane","point","step"]:List Str).Nodup by decide +kernel) rfl (Or.inl rfl))) (fun C s₀ H₀ ex pn=>eF) (fun C s₀ H₀ ex pn=>(bO (aA (aS cA dP cB (aS bB bJ aI (aO (dv 0) aC ra) (aO (dv 2) aC ra)) (aS bB bJ aI (aO (dv 0) aC ra) (aO (dv 2) aC ra))) (aA (aF c_plane_height hr oS (aA (dv 0) (aA (dv 1) aE))) aE))))) (aM (bA (aF c_line_thinned hr a6 (aA (aF c_line_of hr a6 (aA (dv 3) aE)) aE)))))
theorem sc_lone_point:aY ["plane","planes","rows","x","y"] ["plane","planes"] (aR kP):=by walk_at "s"
theorem wM{c:Cls}(Df:Def K mg "lone_point" ["plane","planes"] kP)(B:Blt mg)(C:gT mg c)(O:gU mg base c)(hk:gQ K c)(c_solved:Cal P w K mg base 5 "solved" 1 (iO K c))(c_without_y:Cal P w K mg base 1 "without_y" 1 (fQ K c))(c_gap:Cal P w K mg base 1 "gap" 2 (aBw K c)):Cal P w K mg base 6 "lone_point" 2 (fT K c):=by
 refine iC (k:=5) Df sc_lone_point rfl (fun f b A o s H E hr=>⟨mY K c,?_,wJ K c⟩)
 exact (aG (iF (i:=2) sc_lone_point.nd rfl (Or.inl rfl) (xs:=["other"]) (ys:=["plane"]) (js:=[0]) (cl:=[("plane",s.heap.objs.size+1)]) rfl (bX (dv 1)) (gM (ys:=["plane"]) (js:=[0]) rfl (bAh.mpr ⟨rfl,(fun _ h=>nomatch h)⟩) (aX ⟨rfl,.inl rfl,.inl rfl,rfl,rfl⟩ aZ) (by decide +kernel) (by decide +kernel)) (aX ⟨rfl,.inl rfl,.inl rfl,rfl,rfl⟩ aZ) (by decide +kernel) rfl (by decide +kernel) rfl (by decide) (fun C s₀ H₀ ex pn=>(bC (i:=0) (show (["other","plane"]:List Str).Nodup by decide +kernel) rfl (Or.inl rfl))) (fun C s₀ H₀ ex pn=>(kW (cZ (y7 (u64 hr)) i4 eS (dv 0) (dv 1) (cN _)))) (fun C s₀ H₀ ex pn=>(aF c_gap hr oS (aA (dv 1) (aA (dv 0) aE))))) (fC 2 (aG (aW (i:=3) sc_lone_point.nd rfl (Or.inr rfl) (aF c_solved hr a6 (aA (aF c_without_y hr a6 (aA (dv 2) aE)) aE))) (aG (gB (aOz (dv 3)) (aM (bA aAe)) cC) (aG (aW (i:=4) sc_lone_point.nd rfl (Or.inl rfl) (aF c_solved hr a6 (aA (fE (xs:=["row"]) (ys:=["x"]) (js:=[3]) (cl:=[("x",s.heap.objs.size+1+1)]) rfl (bX (dv 2)) (gM (ys:=["x"]) (js:=[3]) rfl (bAh.mpr ⟨rfl,(fun _ h=>nomatch h)⟩) (aX ⟨rfl,.inl rfl,.inl rfl,rfl,rfl⟩ aZ) (by decide +kernel) (by decide +kernel)) (aX ⟨rfl,.inl rfl,.inl rfl,rfl,rfl⟩ aZ) (by decide +kernel) rfl (by decide +kernel) rfl (by decide) (fun C s₀ H₀ ex pn=>(bC (i:=0) (show (["row","x"]:List Str).Nodup by decide +kernel) rfl (Or.inl rfl))) (fun C s₀ H₀ ex pn=>eF) (fun C s₀ H₀ ex pn=>(bO (aA (aS bB bJ aI (aO (dv 0) aC ra) (aO (dv 1) aC ra)) (aA (aS cA dP cB (aS bB bJ aI (aO (dv 0) aC ra) (aO (dv 1) aC ra)) (aS bB bJ aI (aO (dv 0) aC ra) (aO (dv 1) aC ra))) aE))))) aE))) (aM (bA (bO (aA (dv 3) (aA (dv 4) aE))))))))))
theorem sc_thinned:aY ["roof","points"] ["roof"] (aR pD):=by walk_at "s"
theorem aFn{c:Cls}(Df:Def K mg "thinned" ["roof"] pD)(B:Blt mg)(C:gT mg c)(O:gU mg base c)(hk:gQ K c)(c_lone_points:Cal P w K mg base 7 "lone_points" 2 (eA K c))(c_whole_factor:Cal P w K mg base 3 "whole_factor" 1 (cV K c)):Cal P w K mg base 8 "thinned" 1 (jS K c):=by
 refine iC (k:=7) Df sc_thinned rfl (fun f b A o s H E hr=>⟨tX K c,?_,aFl K c⟩)
 exact (aG (aW (i:=1) sc_thinned.nd rfl (Or.inl rfl) (aF c_lone_points hr a6 (aA (dv 0) (aA (aF c_whole_factor hr a6 (aA (dv 0) aE)) aE)))) (fC 1 (aM (bA (fE (xs:=["plane","point"]) (ys:=[]) (js:=[]) (cl:=[]) rfl (aVj rfl B.zip_ (aA (dv 0) (aA (dv 1) aE))) (gM (ys:=[]) (js:=[]) rfl (fun _ h=>nomatch h) aZ (by decide +kernel) (by decide +kernel)) aZ (by decide +kernel) rfl (by decide +kernel) rfl (by decide) (fun C s₀ H₀ ex pn=>(mV (n:=2) rfl (cW (bC (i:=0) (show (["plane","point"]:List Str).Nodup by decide +kernel) rfl (Or.inl rfl)) (cW (bC (i:=1) (show (["plane","point"]:List Str).Nodup by decide +kernel) rfl (Or.inl rfl)) j7)))) (fun C s₀ H₀ ex pn=>(kW (aHy (dv 1)))) (fun C s₀ H₀ ex pn=>(dv 0)))))))
theorem aPn:aY ["point","step","t"] ["point","step","t"] (aR aD6):=by walk_at "s"
theorem aQx{c:Cls}(Df:Def K mg "gone" ["point","step","t"] aD6)(B:Blt mg)(C:gT mg c)(O:gU mg base c)(hk:gQ K c)(c_plus:Cal P w K mg base 3 "plus" 2 (jD K c))(c_times:Cal P w K mg base 3 "times" 2 (gX K c)):Cal P w K mg base 4 "gone" 3 (uC K c):=by
 refine iC (k:=3) Df aPn rfl (fun f b A o s H E hr=>⟨aKi K c,?_,aQi K c⟩)
 exact (aM (bA (bO (aA (aF c_plus hr a6 (aA (aO (dv 0) aC ra) (aA (aF c_times hr a6 (aA (bO (aA (aO (dv 1) aC ra) (aA aC aE))) (aA (dv 2) aE))) aE))) (aA (aF c_plus hr a6 (aA (aO (dv 0) aC ra) (aA (aF c_times hr a6 (aA (bO (aA (aO (dv 1) aC ra) (aA aC aE))) (aA (dv 2) aE))) aE))) aE)))))
theorem sF:aY ["_law_a","_law_b"] ["_law_a","_law_b"] (aR iJ):=by walk_at "s"
theorem sG{c:Cls}(Df:Def K mg "_law_product" ["_law_a","_law_b"] iJ)(B:Blt mg)(C:gT mg c)(O:gU mg base c)(hk:gQ K c)(c__law_lowest:Cal P w K mg base 1 "_law_lowest" 2 (bN K c)):Cal P w K mg base 2 "_law_product" 2 (bR K c):=by
 refine iC (k:=1) Df sF rfl (fun f b A o s H E hr=>⟨kS K c,?_,sA K c⟩)
 exact (aM (bA (aF c__law_lowest hr a6 (aA (aS bB bJ aI (aO (dv 0) aC ra) (aO (dv 1) aC ra)) (aA (aS bB bJ aI (aO (dv 0) aC ra) (aO (dv 1) aC ra)) aE)))))
theorem xB:aY ["_law_slope","_law_step_here"] ["_law_slope","_law_step_here"] (aR kN):=by walk_at "s"
theorem xP{c:Cls}(Df:Def K mg "_law_times" ["_law_slope","_law_step_here"] kN)(B:Blt mg)(C:gT mg c)(O:gU mg base c)(hk:gQ K c):Cal P w K mg base 1 "_law_times" 2 (cR K c):=by
 refine iC (k:=0) Df xB rfl (fun f b A o s H E hr=>⟨nA K c,?_,xT K c⟩)
 exact (aM (bA (aS cA dP cB (aS bB bJ aI (aO (dv 0) aC ra) (aO (dv 1) aC ra)) (aS bB bJ aI (aO (dv 0) aC ra) (aO (dv 1) aC ra)))))
end
section
variable {P:Program}{w:World}{K:aZz}{mg:Str->Option Value}{base:Heap}
theorem sc_fraction:aY ["top","bottom","divisor"] ["top","bottom"] (aR nI):=by walk_at "s"
theorem aBg{c:Cls}(Df:Def K mg "fraction" ["top","bottom"] nI)(B:Blt mg)(C:gT mg c)(O:gU mg base c)(hk:gQ K c)(c_greatest_divisor:Cal P w K mg base 1 "greatest_divisor" 2 (bF K c)):Cal P w K mg base 2 "fraction" 2 (bL K c):=by
 refine iC (k:=1) Df sc_fraction rfl (fun f b A o s H E hr=>⟨jP K c,?_,aCj K c⟩)
 exact (aG (gB (cZ (gG (u64 hr)) i4 eS (dv 1) aC (cN _)) (aM (aDr aHl rfl rfl O.NoFraction bEx (aA aOy aE))) cC) (aG (aW (i:=2) sc_fraction.nd rfl (Or.inl rfl) (aF c_greatest_divisor hr a6 (aA (dv 0) (aA (dv 1) aE)))) (aG (gB (cZ xU jC aU (dv 1) aC (cN _)) (aM (aW (i:=2) sc_fraction.nd rfl (Or.inl rfl) (mZ (dv 2)))) cC) (aM (bA (bO (aA (aS eL gC aI (dv 0) (dv 2)) (aA (aS eL gC aI (dv 1) (dv 2)) aE))))))))
theorem aLc:aY ["a","b"] ["a","b"] (aR x5):=by walk_at "s"
theorem aL5{c:Cls}(Df:Def K mg "minus" ["a","b"] x5)(B:Blt mg)(C:gT mg c)(O:gU mg base c)(hk:gQ K c)(c_fraction:Cal P w K mg base 2 "fraction" 2 (bL K c)):Cal P w K mg base 3 "minus" 2 (kA K c):=by
 refine iC (k:=2) Df aLc rfl (fun f b A o s H E hr=>⟨aBh K c,?_,aLw K c⟩)
 exact (aM (bA (aF c_fraction hr a6 (aA (aS dH dN aU (aS bB bJ aI (aO (dv 0) aC ra) (aO (dv 1) aC ra)) (aS bB bJ aI (aO (dv 1) aC ra) (aO (dv 0) aC ra))) (aA (aS bB bJ aI (aO (dv 0) aC ra) (aO (dv 1) aC ra)) aE)))))
theorem aJt:aY ["point","factor"] ["point","factor"] (aR rS):=by walk_at "s"
theorem aI1{c:Cls}(Df:Def K mg "shrunk" ["point","factor"] rS)(B:Blt mg)(C:gT mg c)(O:gU mg base c)(hk:gQ K c)(c_fraction:Cal P w K mg base 2 "fraction" 2 (bL K c)):Cal P w K mg base 3 "shrunk" 2 (lM K c):=by
 refine iC (k:=2) Df aJt rfl (fun f b A o s H E hr=>⟨wR K c,?_,aH3 K c⟩)
 exact (aM (bA (bO (aA (aF c_fraction hr a6 (aA (aO (aO (dv 0) aC ra) aC ra) (aA (aS bB bJ aI (aO (aO (dv 0) aC ra) aC ra) (dv 1)) aE))) (aA (aF c_fraction hr a6 (aA (aO (aO (dv 0) aC ra) aC ra) (aA (aS bB bJ aI (aO (aO (dv 0) aC ra) aC ra) (dv 1)) aE))) aE)))))
theorem sc_lone_points:aY ["roof","factor","planes"] ["roof","factor"] (aR jK):=by walk_at "s"
theorem vD{c:Cls}(Df:Def K mg "lone_points" ["roof","factor"] jK)(B:Blt mg)(C:gT mg c)(O:gU mg base c)(hk:gQ K c)(c_lone_point:Cal P w K mg base 6 "lone_point" 2 (fT K c))(c_blown_up:Cal P w K mg base 2 "blown_up" 2 (e9 K c)):Cal P w K mg base 7 "lone_points" 2 (eA K c):=by
 refine iC (k:=6) Df sc_lone_points rfl (fun f b A o s H E hr=>⟨lK K c,?_,vG K c⟩)
 exact (aG (aW (i:=2) sc_lone_points.nd rfl (Or.inr rfl) (aF c_blown_up hr a6 (aA (dv 0) (aA (dv 1) aE)))) (fC 2 (aM (bA (fE (xs:=["plane"]) (ys:=["planes"]) (js:=[2]) (cl:=[("planes",s.heap.objs.size+1)]) rfl (bX (dv 2)) (gM (ys:=["planes"]) (js:=[2]) rfl (bAh.mpr ⟨rfl,(fun _ h=>nomatch h)⟩) (aX ⟨rfl,.inl rfl,.inl rfl,rfl,rfl⟩ aZ) (by decide +kernel) (by decide +kernel)) (aX ⟨rfl,.inl rfl,.inl rfl,rfl,rfl⟩ aZ) (by decide +kernel) rfl (by decide +kernel) rfl (by decide) (fun C s₀ H₀ ex pn=>(bC (i:=0) (show (["plane","planes"]:List Str).Nodup by decide +kernel) rfl (Or.inl rfl))) (fun C s₀ H₀ ex pn=>eF) (fun C s₀ H₀ ex pn=>(aF c_lone_point hr oS (aA (dv 0) (aA (dv 1) aE)))))))))
theorem uB:aY ["step"] ["step"] (aR iR):=by walk_at "s"
theorem uK{c:Cls}(Df:Def K mg "turned_round" ["step"] iR)(B:Blt mg)(C:gT mg c)(O:gU mg base c)(hk:gQ K c):Cal P w K mg base 1 "turned_round" 1 (dE K c):=by
 refine iC (k:=0) Df uB rfl (fun f b A o s H E hr=>⟨kQ K c,?_,sC K c⟩)
 exact (aM (bA (bO (aA (mZ (aO (dv 0) aC ra)) (aA (mZ (aO (dv 0) aC ra)) aE)))))
theorem sQ:aY ["_law_script","_law_k"] ["_law_script","_law_k"] (aR iQ):=by walk_at "s"
theorem sY{c:Cls}(Df:Def K mg "_law_cell_at" ["_law_script","_law_k"] iQ)(B:Blt mg)(C:gT mg c)(O:gU mg base c)(hk:gQ K c):Cal P w K mg base 1 "_law_cell_at" 2 (cI K c):=by
 refine iC (k:=0) Df sQ rfl (fun f b A o s H E hr=>⟨kX K c,?_,tL K c⟩)
 exact (aG (gB (cZ xU jC aU (dv 1) (bZ cY l8 i7 rfl B.len_ bBw (aA (dv 0) aE)) (cN _)) (aM (bA (aO (dv 0) (dv 1) ra))) cC) (aM (bA aC)))
theorem sc__law_tops:aY ["_law_roof_here","_law_point","_law_found","_law_high","_law_plane","_law_here"] ["_law_roof_here","_law_point"] (aR lJ):=by walk_at "s"
theorem zE{c:Cls}(Df:Def K mg "_law_tops" ["_law_roof_here","_law_point"] lJ)(B:Blt mg)(C:gT mg c)(O:gU mg base c)(hk:gQ K c)(c__law_before:Cal P w K mg base 1 "_law_before" 2 (bS K c))(c__law_height:Cal P w K mg base 3 "_law_height" 2 (cX K c)):Cal P w K mg base 4 "_law_tops" 2 (dU K c):=by
 refine iC (k:=3) Df sc__law_tops rfl (fun f b A o s H E hr=>⟨lH K c,?_,y3 K c⟩)
 exact (aG (aW (i:=2) sc__law_tops.nd rfl (Or.inl rfl) (aAp aE)) (aG (aW (i:=3) sc__law_tops.nd rfl (Or.inl rfl) (aF c__law_height hr a6 (aA (aO (dv 0) aC ra) (aA (dv 1) aE)))) (aG (mB bBb rfl (bX (dv 0)) (bC (i:=4) sc__law_tops.nd rfl (Or.inl rfl)) (aG (aW (i:=5) sc__law_tops.nd rfl (Or.inl rfl) (aF c__law_height hr a6 (aA (dv 4) (aA (dv 1) aE)))) (aG (gB (n4 (aF c__law_before hr a6 (aA (dv 3) (aA (dv 5) aE)))) (aG (aW (i:=3) sc__law_tops.nd rfl (Or.inl rfl) (dv 5)) (aM (aW (i:=2) sc__law_tops.nd rfl (Or.inl rfl) (aAp aE)))) cC) (aM (gB (cZ (gG (u64 hr)) i4 eS (dv 5) (dv 3) (cN _)) (aM (aAn (i:=2) (bO (aA (aO (dv 4) aC ra) (aA (aO (dv 4) aC ra) aE))) (fun t q=>sW (aGr bB2 bFj bFk aAb (pv 2) (qI q vP))))) cC))))) (aM (bA (dv 2))))))
theorem sc__law_plain_roof:aY ["_law_script","_law_begin","_law_many","_law_highest","_law_k","_law_c","_law_slope","_law_height_here"] ["_law_script","_law_begin","_law_many"] (aR fX):=by walk_at "s"
theorem o8{c:Cls}(Df:Def K mg "_law_plain_roof" ["_law_script","_law_begin","_law_many"] fX)(B:Blt mg)(C:gT mg c)(O:gU mg base c)(hk:gQ K c)(c__law_before:Cal P w K mg base 1 "_law_before" 2 (bS K c))(c__law_fraction_by:Cal P w K mg base 2 "_law_fraction_by" 1 (bI K c))(c__law_own:Cal P w K mg base 1 "_law_own" 2 (dY K c)):Cal P w K mg base 3 "_law_plain_roof" 3 (cS K c):=by
 refine iC (k:=2) Df sc__law_plain_roof rfl (fun f b A o s H E hr=>⟨gA K c,?_,pM K c⟩)
 exact (aG (aW (i:=3) sc__law_plain_roof.nd rfl (Or.inr rfl) wU) (aG (mB bBb rfl (yV rfl B.range_ (aA (dv 2) aE)) (bC (i:=4) sc__law_plain_roof.nd rfl (Or.inl rfl)) (aG (aW (i:=5) sc__law_plain_roof.nd rfl (Or.inl rfl) (aF c__law_own hr a6 (aA (dv 0) (aA (aS cA dP cB (dv 1) (dv 4)) aE)))) (aG (aW (i:=6) sc__law_plain_roof.nd rfl (Or.inl rfl) (bO (aA (aS cD dQ aI (dv 5) aC) (aA (aS cD dQ aI (aS eL gC aI (dv 5) aC) aC) aE)))) (aG (aW (i:=7) sc__law_plain_roof.nd rfl (Or.inl rfl) (aF c__law_fraction_by hr a6 (aA (aS eL gC aI (dv 5) aC) aE))) (aM (gB (DW.t (aEr (oU (u1 hr) (dv 6) (dv 3)) (aAg (n4 (aF c__law_before hr a6 (aA (oF (u1 hr) (dv 3) (dv 6) ra) (aA (dv 7) aE))))))) (aM (wY (i:=3) (u1 hr) (pv 3) (dv 6) (dv 7) rfl)) cC)))))) (fC 3 (aM (bA (fE (xs:=["_law_slope"]) (ys:=["_law_highest"]) (js:=[3]) (cl:=[("_law_highest",s.heap.objs.size+1)]) rfl (bX (bZ (SRT.vZ rfl) zC v7 rfl B.sorted_ tO (aA (pI (qX rfl) aDa yK rfl B.list_ wN (aA (dv 3) aE)) aE))) (gM (ys:=["_law_highest"]) (js:=[3]) rfl (bAh.mpr ⟨rfl,(fun _ h=>nomatch h)⟩) (aX ⟨rfl,.inl rfl,.inl rfl,rfl,rfl⟩ aZ) (by decide +kernel) (by decide +kernel)) (aX ⟨rfl,.inl rfl,.inl rfl,rfl,rfl⟩ aZ) (by decide +kernel) rfl (by decide +kernel) rfl (by decide) (fun C s₀ H₀ ex pn=>(bC (i:=0) (show (["_law_slope","_law_highest"]:List Str).Nodup by decide +kernel) rfl (Or.inl rfl))) (fun C s₀ H₀ ex pn=>eF) (fun C s₀ H₀ ex pn=>(bO (aA (aO (dv 0) aC ra) (aA (aO (dv 0) aC ra) (aA (oF (u1 hr) (dv 1) (dv 0) ra) aE)))))))))))
theorem sc__law_drawn:aY ["_law_script","_law_roof_here","_law_point","_law_c","_law_wide","_law_cell"] ["_law_script"] (aR kH):=by walk_at "s"
theorem xX{c:Cls}(Df:Def K mg "_law_drawn" ["_law_script"] kH)(B:Blt mg)(C:gT mg c)(O:gU mg base c)(hk:gQ K c)(c__law_number:Cal P w K mg base 2 "_law_number" 2 (cM K c))(c__law_step:Cal P w K mg base 2 "_law_step" 1 (fO K c))(c__law_cell_at:Cal P w K mg base 1 "_law_cell_at" 2 (cI K c))(c__law_roof:Cal P w K mg base 3 "_law_roof" 2 (fR K c))(c__law_own:Cal P w K mg base 1 "_law_own" 2 (dY K c))(c__law_fraction_by:Cal P w K mg base 2 "_law_fraction_by" 1 (bI K c))(c__law_plain_roof:Cal P w K mg base 3 "_law_plain_roof" 3 (cS K c)):Cal P w K mg base 4 "_law_drawn" 1 (eC K c):=by
 refine iC (k:=3) Df sc__law_drawn rfl (fun f b A o s H E hr=>⟨iZ K c,?_,wK K c⟩)
 exact (aG (gB (DW.t (aJi (cZ aIe jC aU (bZ cY l8 i7 rfl B.len_ bBw (aA (dv 0) aE)) aC (cN _)) (aBl (cZ (gG (u64 hr)) i4 eS (aS cD dQ aI (aO (dv 0) aC ra) aC) aC (cN _))))) (aG (aW (i:=1) sc__law_drawn.nd rfl (Or.inl rfl) (aF c__law_plain_roof hr a6 (aA (dv 0) (aA aC (aA (aS cA dP cB aC (aS cD dQ aI (aS eL gC aI (aS cD dQ aI (aO (dv 0) aC ra) (aS l9 mD aI aC aC)) aC) aC)) aE))))) (aG (aW (i:=2) sc__law_drawn.nd rfl (Or.inl rfl) (bO (aA (aF c__law_fraction_by hr a6 (aA (aF c__law_own hr a6 (aA (dv 0) (aA aC aE))) aE)) (aA (aF c__law_fraction_by hr a6 (aA (aF c__law_own hr a6 (aA (dv 0) (aA aC aE))) aE)) aE)))) (aG (aW (i:=3) sc__law_drawn.nd rfl (Or.inl rfl) (aF c__law_own hr a6 (aA (dv 0) (aA aC aE)))) (aG (aW (i:=4) sc__law_drawn.nd rfl (Or.inl rfl) (aS cA dP cB (aS bB bJ aI aC (aS l9 mD aI aC aC)) aC)) (fC 1 (aM (bA (bO (aA (dv 1) (aA (dv 2) (aA (bO (aA (aS dH dN aU (aS cD dQ aI (dv 3) (dv 4)) (aS l9 mD aI aC aC)) (aA (aS dH dN aU (aS cD dQ aI (aS eL gC aI (dv 3) (dv 4)) (dv 4)) (aS l9 mD aI aC aC)) aE))) aE))))))))))) cC) (aG (aW (i:=1) sc__law_drawn.nd rfl (Or.inl rfl) (aF c__law_roof hr a6 (aA (aS cA dP cB (aPu (dv 0) (tU aC) (tU aC)) (aAp (aA (aF c__law_cell_at hr a6 (aA (dv 0) (aA aC aE))) aE))) (aA (aS cD dQ aI (aF c__law_cell_at hr a6 (aA (dv 0) (aA aC aE))) aC) aE)))) (aG (aW (i:=5) sc__law_drawn.nd rfl (Or.inl rfl) (aF c__law_cell_at hr a6 (aA (dv 0) (aA aC aE)))) (fC 1 (aM (bA (bO (aA (dv 1) (aA (bO (aA (aF c__law_number hr a6 (aA (dv 5) (aA aC aE))) (aA (aF c__law_number hr a6 (aA (dv 5) (aA aC aE))) aE))) (aA (aF c__law_step hr a6 (aA (aF c__law_cell_at hr a6 (aA (dv 0) (aA aC aE))) aE)) aE))))))))))
end
section
variable {P:Program}{w:World}{K:aZz}{mg:Str->Option Value}{base:Heap}
theorem aRr:aY ["a","b"] ["a","b"] (aR aD2):=by walk_at "s"
theorem aPm{c:Cls}(Df:Def K mg "plus" ["a","b"] aD2)(B:Blt mg)(C:gT mg c)(O:gU mg base c)(hk:gQ K c)(c_fraction:Cal P w K mg base 2 "fraction" 2 (bL K c)):Cal P w K mg base 3 "plus" 2 (jD K c):=by
 refine iC (k:=2) Df aRr rfl (fun f b A o s H E hr=>⟨aIt K c,?_,aQu K c⟩)
 exact (aM (bA (aF c_fraction hr a6 (aA (aS cA dP cB (aS bB bJ aI (aO (dv 0) aC ra) (aO (dv 1) aC ra)) (aS bB bJ aI (aO (dv 1) aC ra) (aO (dv 0) aC ra))) (aA (aS bB bJ aI (aO (dv 0) aC ra) (aO (dv 1) aC ra)) aE)))))
theorem sc_highest_by_slope:aY ["rows","highest","slope","height"] ["rows"] (aR fG):=by walk_at "s"
theorem oH{c:Cls}(Df:Def K mg "highest_by_slope" ["rows"] fG)(B:Blt mg)(C:gT mg c)(O:gU mg base c)(hk:gQ K c)(c_less:Cal P w K mg base 1 "less" 2 (jB K c)):Cal P w K mg base 2 "highest_by_slope" 1 (cF K c):=by
 refine iC (k:=1) Df sc_highest_by_slope rfl (fun f b A o s H E hr=>⟨gY K c,?_,oR K c⟩)
 exact (aG (aW (i:=1) sc_highest_by_slope.nd rfl (Or.inl rfl) aKy) (aG (mB bBb rfl (bX (dv 0)) (mV (n:=2) rfl (cW (bC (i:=2) sc_highest_by_slope.nd rfl (Or.inl rfl)) (cW (bC (i:=3) sc_highest_by_slope.nd rfl (Or.inl rfl)) j7))) (aM (gB (DW.t (aEr (oU (u1 hr) (dv 2) (dv 1)) (aAg (n4 (aF c_less hr a6 (aA (oF (u1 hr) (dv 1) (dv 2) ra) (aA (dv 3) aE))))))) (aM (wY (i:=1) (u1 hr) (pv 1) (dv 2) (dv 3) rfl)) cC))) (aM (bA (dv 1)))))
theorem aA5:aY ["roof","factor"] ["roof","factor"] (aR nC):=by walk_at "s"
theorem aA8{c:Cls}(Df:Def K mg "blown_up" ["roof","factor"] nC)(B:Blt mg)(C:gT mg c)(O:gU mg base c)(hk:gQ K c)(c_whole:Cal P w K mg base 1 "whole" 2 (k8 K c)):Cal P w K mg base 2 "blown_up" 2 (e9 K c):=by
 refine iC (k:=1) Df aA5 rfl (fun f b A o s H E hr=>⟨pW K c,?_,aCo K c⟩)
 exact (aM (bA (fE (xs:=["plane"]) (ys:=["factor"]) (js:=[1]) (cl:=[("factor",s.heap.objs.size+1)]) rfl (bX (dv 0)) (gM (ys:=["factor"]) (js:=[1]) rfl (bAh.mpr ⟨rfl,(fun _ h=>nomatch h)⟩) (aX ⟨rfl,.inl rfl,.inl rfl,rfl,rfl⟩ aZ) (by decide +kernel) (by decide +kernel)) (aX ⟨rfl,.inl rfl,.inl rfl,rfl,rfl⟩ aZ) (by decide +kernel) rfl (by decide +kernel) rfl (by decide) (fun C s₀ H₀ ex pn=>(bC (i:=0) (show (["plane","factor"]:List Str).Nodup by decide +kernel) rfl (Or.inl rfl))) (fun C s₀ H₀ ex pn=>eF) (fun C s₀ H₀ ex pn=>(bO (aA (aO (dv 0) aC ra) (aA (aO (dv 0) aC ra) (aA (bO (aA (aF c_whole hr oS (aA (aO (dv 0) aC ra) (aA (dv 1) aE))) (aA aC aE))) aE))))))))
theorem sc_without_y:aY ["rows","kept","highs","low"] ["rows"] (aR lW):=by walk_at "s"
theorem aAj{c:Cls}(Df:Def K mg "without_y" ["rows"] lW)(B:Blt mg)(C:gT mg c)(O:gU mg base c)(hk:gQ K c):Cal P w K mg base 1 "without_y" 1 (fQ K c):=by
 refine iC (k:=0) Df sc_without_y rfl (fun f b A o s H E hr=>⟨oG K c,?_,yX K c⟩)
 exact (aG (iF (i:=1) sc_without_y.nd rfl (Or.inl rfl) (xs:=["row"]) (ys:=[]) (js:=[]) (cl:=[]) rfl (bX (dv 0)) (gM (ys:=[]) (js:=[]) rfl (fun _ h=>nomatch h) aZ (by decide +kernel) (by decide +kernel)) aZ (by decide +kernel) rfl (by decide +kernel) rfl (by decide) (fun C s₀ H₀ ex pn=>(bC (i:=0) (show (["row"]:List Str).Nodup by decide +kernel) rfl (Or.inl rfl))) (fun C s₀ H₀ ex pn=>(kW (cZ (gG (u64 hr)) i4 eS (aO (dv 0) aC ra) aC (cN _)))) (fun C s₀ H₀ ex pn=>(bO (aA (aO (dv 0) aC ra) (aA (aO (dv 0) aC ra) aE))))) (aG (iF (i:=2) sc_without_y.nd rfl (Or.inl rfl) (xs:=["row"]) (ys:=[]) (js:=[]) (cl:=[]) rfl (bX (dv 0)) (gM (ys:=[]) (js:=[]) rfl (fun _ h=>nomatch h) aZ (by decide +kernel) (by decide +kernel)) aZ (by decide +kernel) rfl (by decide +kernel) rfl (by decide) (fun C s₀ H₀ ex pn=>(bC (i:=0) (show (["row"]:List Str).Nodup by decide +kernel) rfl (Or.inl rfl))) (fun C s₀ H₀ ex pn=>(kW (cZ xU jC aU (aO (dv 0) aC ra) aC (cN _)))) (fun C s₀ H₀ ex pn=>(dv 0))) (fC 2 (aG (mB bBb rfl (bX (dv 0)) (bC (i:=3) sc_without_y.nd rfl (Or.inr rfl)) (aM (gB (cZ aIe jC aU (aO (dv 3) aC ra) aC (cN _)) (aM (yL (i:=1) (fE (xs:=["high"]) (ys:=["low"]) (js:=[3]) (cl:=[("low",s.heap.objs.size+1)]) rfl (bX (dv 2)) (gM (ys:=["low"]) (js:=[3]) rfl (bAh.mpr ⟨rfl,(fun _ h=>nomatch h)⟩) (aX ⟨rfl,.inl rfl,.inl rfl,rfl,rfl⟩ aZ) (by decide +kernel) (by decide +kernel)) (aX ⟨rfl,.inl rfl,.inl rfl,rfl,rfl⟩ aZ) (by decide +kernel) rfl (by decide +kernel) rfl (by decide) (fun C s₀ H₀ ex pn=>(bC (i:=0) (show (["high","low"]:List Str).Nodup by decide +kernel) rfl (Or.inl rfl))) (fun C s₀ H₀ ex pn=>eF) (fun C s₀ H₀ ex pn=>(bO (aA (aS dH dN aU (aS bB bJ aI (aO (dv 1) aC ra) (aO (dv 0) aC ra)) (aS bB bJ aI (aO (dv 0) aC ra) (aO (dv 1) aC ra))) (aA (aS dH dN aU (aS bB bJ aI (aO (dv 1) aC ra) (aO (dv 0) aC ra)) (aS bB bJ aI (aO (dv 0) aC ra) (aO (dv 1) aC ra))) aE))))) (fun t q=>sW (aGr bB2 bFl bFm zR (pv 1) (qI q vP))))) cC))) (aM (bA (dv 1)))))))
theorem sc_pieces:aY ["roof","stay","factor","planes","found","k","one"] ["roof"] (aR rN):=by walk_at "s"
theorem aG8{c:Cls}(Df:Def K mg "pieces" ["roof"] rN)(B:Blt mg)(C:gT mg c)(O:gU mg base c)(hk:gQ K c)(c_piece_of:Cal P w K mg base 6 "piece_of" 4 (fZ K c))(c_blown_up:Cal P w K mg base 2 "blown_up" 2 (e9 K c))(c_whole_factor:Cal P w K mg base 3 "whole_factor" 1 (cV K c))(c_thinned:Cal P w K mg base 8 "thinned" 1 (jS K c)):Cal P w K mg base 9 "pieces" 1 (kK K c):=by
 refine iC (k:=8) Df sc_pieces rfl (fun f b A o s H E hr=>⟨rM K c,?_,aKj K c⟩)
 exact (aG (aW (i:=1) sc_pieces.nd rfl (Or.inl rfl) (aF c_thinned hr a6 (aA (dv 0) aE))) (fC 1 (aG (aW (i:=2) sc_pieces.nd rfl (Or.inr rfl) (aF c_whole_factor hr a6 (aA (dv 1) aE))) (aG (aW (i:=3) sc_pieces.nd rfl (Or.inr rfl) (aF c_blown_up hr a6 (aA (dv 1) (aA (dv 2) aE)))) (aG (aW (i:=4) sc_pieces.nd rfl (Or.inl rfl) (aAp aE)) (fC 3 (aG (mB bBb rfl (aHo rfl B.enumerate_ (aA (dv 3) aE)) (mV (n:=2) rfl (cW (bC (i:=5) sc_pieces.nd rfl (Or.inl rfl)) (cW (bC (i:=6) sc_pieces.nd rfl (Or.inr rfl)) j7))) (aM (yL (i:=4) (fE (xs:=["other"]) (ys:=["factor","one","planes"]) (js:=[2,6,3]) (cl:=[("planes",s.heap.objs.size+1+1),("one",s.heap.objs.size+1+1+1),("factor",s.heap.objs.size+1)]) rfl (bX (aPu (dv 3) (tU (aS cA dP cB (dv 5) aC)) aQl)) (gM (ys:=["factor","one","planes"]) (js:=[2,6,3]) rfl (bAh.mpr ⟨rfl,(bAh.mpr ⟨rfl,(bAh.mpr ⟨rfl,(fun _ h=>nomatch h)⟩)⟩)⟩) (aX ⟨rfl,.inl rfl,.inl rfl,rfl,rfl⟩ (aX ⟨rfl,.inl rfl,.inl rfl,rfl,rfl⟩ (aX ⟨rfl,.inl rfl,.inl rfl,rfl,rfl⟩ aZ))) (by decide +kernel) (by decide +kernel)) (aX ⟨rfl,.inl rfl,.inl rfl,rfl,rfl⟩ (aX ⟨rfl,.inl rfl,.inl rfl,rfl,rfl⟩ (aX ⟨rfl,.inl rfl,.inl rfl,rfl,rfl⟩ aZ))) (by decide +kernel) rfl (by decide +kernel) rfl (by decide) (fun C s₀ H₀ ex pn=>(bC (i:=0) (show (["other","factor","one","planes"]:List Str).Nodup by decide +kernel) rfl (Or.inl rfl))) (fun C s₀ H₀ ex pn=>eF) (fun C s₀ H₀ ex pn=>(aF c_piece_of hr oS (aA (dv 3) (aA (dv 2) (aA (dv 0) (aA (dv 1) aE))))))) (fun t q=>sW (aGr bB2 bFl bFm zR (pv 4) (qI q vP)))))) (fC 4 (aM (bA (fE (xs:=["piece"]) (ys:=[]) (js:=[]) (cl:=[]) rfl (bX (dv 4)) (gM (ys:=[]) (js:=[]) rfl (fun _ h=>nomatch h) aZ (by decide +kernel) (by decide +kernel)) aZ (by decide +kernel) rfl (by decide +kernel) rfl (by decide) (fun C s₀ H₀ ex pn=>(bC (i:=0) (show (["piece"]:List Str).Nodup by decide +kernel) rfl (Or.inl rfl))) (fun C s₀ H₀ ex pn=>(kW (aHy (dv 0)))) (fun C s₀ H₀ ex pn=>(dv 0)))))))))))))
theorem sc__law_mix:aY ["_law_cell","_law_k","_law_blend"] ["_law_cell","_law_k"] (aR nO):=by walk_at "s"
theorem aB5{c:Cls}(Df:Def K mg "_law_mix" ["_law_cell","_law_k"] nO)(B:Blt mg)(C:gT mg c)(O:gU mg base c)(hk:gQ K c):Cal P w K mg base 1 "_law_mix" 2 (bG K c):=by
 refine iC (k:=0) Df sc__law_mix rfl (fun f b A o s H E hr=>⟨nF K c,?_,aA6 K c⟩)
 exact (aG (aW (i:=2) sc__law_mix.nd rfl (Or.inl rfl) (aS cA dP cB (aS cA dP cB (aS bB bJ aI (aS cD dQ aI (dv 0) (aS l9 mD aI aC aC)) (aS cA dP cB (aS bB bJ aI aC (dv 1)) aC)) (aS bB bJ aI (aS bB bJ aI aC (dv 1)) (dv 1))) (dv 1))) (aM (bA (aS cD dQ aI (aS bB bJ aI (aS cD dQ aI (dv 2) aC) aC) aC))))
theorem sc__law_spot:aY ["_law_point","_law_step_here","_law_t","_law_spot_here"] ["_law_point","_law_step_here","_law_t"] (aR lL):=by walk_at "s"
theorem zX{c:Cls}(Df:Def K mg "_law_spot" ["_law_point","_law_step_here","_law_t"] lL)(B:Blt mg)(C:gT mg c)(O:gU mg base c)(hk:gQ K c)(c__law_sum:Cal P w K mg base 2 "_law_sum" 2 (dB K c))(c__law_product:Cal P w K mg base 2 "_law_product" 2 (bR K c)):Cal P w K mg base 3 "_law_spot" 3 (eD K c):=by
 refine iC (k:=2) Df sc__law_spot rfl (fun f b A o s H E hr=>⟨oJ K c,?_,aA1 K c⟩)
 exact (aG (iF (i:=3) sc__law_spot.nd rfl (Or.inl rfl) (xs:=["_law_k"]) (ys:=["_law_point","_law_step_here","_law_t"]) (js:=[0,1,2]) (cl:=[("_law_t",s.heap.objs.size+1+1+1),("_law_step_here",s.heap.objs.size+1+1),("_law_point",s.heap.objs.size+1)]) rfl (yV rfl B.range_ (aA aC aE)) (gM (ys:=["_law_point","_law_step_here","_law_t"]) (js:=[0,1,2]) rfl (bAh.mpr ⟨rfl,(bAh.mpr ⟨rfl,(bAh.mpr ⟨rfl,(fun _ h=>nomatch h)⟩)⟩)⟩) (aX ⟨rfl,.inl rfl,.inl rfl,rfl,rfl⟩ (aX ⟨rfl,.inl rfl,.inl rfl,rfl,rfl⟩ (aX ⟨rfl,.inl rfl,.inl rfl,rfl,rfl⟩ aZ))) (by decide +kernel) (by decide +kernel)) (aX ⟨rfl,.inl rfl,.inl rfl,rfl,rfl⟩ (aX ⟨rfl,.inl rfl,.inl rfl,rfl,rfl⟩ (aX ⟨rfl,.inl rfl,.inl rfl,rfl,rfl⟩ aZ))) (by decide +kernel) rfl (by decide +kernel) rfl (by decide) (fun C s₀ H₀ ex pn=>(bC (i:=0) (show (["_law_k","_law_point","_law_step_here","_law_t"]:List Str).Nodup by decide +kernel) rfl (Or.inl rfl))) (fun C s₀ H₀ ex pn=>eF) (fun C s₀ H₀ ex pn=>(aF c__law_sum hr oS (aA (aO (dv 1) (dv 0) ra) (aA (aF c__law_product hr oS (aA (bO (aA (aO (dv 2) (dv 0) ra) (aA aC aE))) (aA (dv 3) aE))) aE))))) (aM (bA (bO (aA (aO (dv 3) aC ra) (aA (aO (dv 3) aC ra) aE))))))
theorem aBv:aY ["_law_script","_law_k"] ["_law_script","_law_k"] (aR nD):=by walk_at "s"
theorem aBd{c:Cls}(Df:Def K mg "_law_own" ["_law_script","_law_k"] nD)(B:Blt mg)(C:gT mg c)(O:gU mg base c)(hk:gQ K c):Cal P w K mg base 1 "_law_own" 2 (dY K c):=by
 refine iC (k:=0) Df aBv rfl (fun f b A o s H E hr=>⟨lB K c,?_,aBu K c⟩)
 exact (aG (gB (cZ xU jC aU (dv 1) (bZ cY l8 i7 rfl B.len_ bBw (aA (dv 0) aE)) (cN _)) (aM (bA (aS cD dQ aI (aO (dv 0) (dv 1) ra) (aS l9 mD aI aC aC)))) cC) (aM (bA aC)))
end
theorem aOp{K:aZz}{h₀:Heap}{mg:Str->Option Value}{x:Str}{C:Addr}{bmB:List Value}{newId:String}(X:K.In h₀)(G:h₀.Ns mainGlobals mg)(e:bBf K mainGlobals x=some (some (.ref C)))(q:PySem.W.excIn K C bmB newId=true):PyProof.Rows.OwnCls x C bmB newId mg h₀:=by
 refine ⟨bDw X G e,?_⟩
 unfold PySem.W.excIn at q
 split at q
 ·rename_i d1 cd1 sl1 ho1
  split at q
  ·rename_i C1 bm1 s0 s1 s2 s3 n1 s5 hm1 hs1
   simp only [bCa,bD3,Bool.not_eq_true'] at q
   obtain ⟨⟨⟨⟨⟨rfl,rfl⟩,hdl⟩,htl⟩,hnok⟩,hini⟩:=q
   obtain ⟨c1,c2,c3,c4,c5,c6,c7,c8,c9,c10,c11⟩:=cd1
   dsimp only at hm1 hdl hnok hini
   subst hm1 hdl
   obtain ⟨sll⟩:=sl1
   simp only at hs1
   subst hs1
   exact ⟨bm1,c4,c1,c5,c2,c6,c7,c8,c9,c10,d1,s0,s1,s2,s3,s5,_,X _ _ ho1,.of_isNs (PySem.W.isNs_of_in X hnok),PySem.W.nsMap_none_of_in X hnok hini,PySem.W.tail_of_in X htl⟩
  ·cases q
 ·cases q
theorem lZ{α:Type}{us:List α}(h:us.length=1):∃ a,us=[a]:=List.length_eq_one_iff.mp h
theorem gE{α:Type}{us:List α}(h:us.length=2):∃ a b,us=[a,b]:=by
 cases us with
 | nil=>cases h
 | cons a r=>obtain ⟨b,rfl⟩:=lZ (bD9 h);exact ⟨a,b,rfl⟩
theorem aE1{α:Type}{us:List α}(h:us.length=3):∃ a b c,us=[a,b,c]:=by
 cases us with
 | nil=>cases h
 | cons a r=>obtain ⟨b,c,rfl⟩:=gE (bD9 h);exact ⟨a,b,c,rfl⟩
def aGl(K:aZz):Bool:=K.all fun p=>match p.2.cls with
 | .type n=>!(n == "list")
 | _=>true
theorem lookup_mem{a:Addr}{o:Obj}:∀ {l:List (Addr×Obj)},l.lookup a=some o->(a,o)∈l
 | (k,v) :: r,h=>by
  unfold List.lookup at h
  split at h
  ·rename_i z
   have e:a=k:=by simpa using z
   cases h
   rw [e]
   exact .head _
  ·exact .tail _ (lookup_mem h)
theorem aE9{K:aZz}(h:aGl K=true){a:Addr}{o:Obj}(e:K.lookup a=some o)(hc:o.cls=.type "list"):False:=by
 have:=bCz.mp h (a,o) (lookup_mem e)
 dsimp only at this
 rw [hc] at this
 cases this
def aMj:Sp:=fun vs H Q _=>∃ (a:Addr) (ns:List Int),vs=[.ref a]/\Rd H a (.lst (ns.map V.int))/\ns.length<=63/\∀ H',Q (.bl true) H'
theorem yN{K:aZz}{G:Hp}:∀ ns:List Int,Reps K G (ns.map V.int) (ns.map PyData.int)
 | []=>.nil
 | i :: r=>.cons (.int i) (yN r)
theorem aTb{P:Program}{w:World}{K:aZz}{mg:Str->Option Value}{base:Heap}{f:Addr}{fd:FuncData}{c:Cls}(hk:gQ K c)(F:FnOk P w K mg base (CXr P w) 10 f fd ["_law_script"] (spM K 1 (aFv K c))):FnOk P w K mg base (CXr P w) 10 f fd ["_law_script"] aMj :=
 F.imp fun vs H Q E h=>by
  obtain ⟨a,ns,rfl,rd,hl,hq⟩:=h
  refine ⟨rfl,H,[.p (.list (ns.map .int))],Same.refl _,⟨.lst rd (yN ns),trivial⟩,?_⟩
  rw [aSi K c hk ns hl]
  intro G' H' v st r
  cases r
  exact hq H'
theorem aRb{α:Type}{us:List α}(h:us.length=4):∃ a0 a1 a2 a3,us=[a0,a1,a2,a3]:=by
 cases us with
 | nil=>cases h
 | cons a0 r=>obtain ⟨a1,a2,a3,rfl⟩:=aE1 (bD9 h);exact ⟨a0,a1,a2,a3,rfl⟩
theorem aX1{α:Type}{us:List α}(h:us.length=5):∃ a0 a1 a2 a3 a4,us=[a0,a1,a2,a3,a4]:=by
 cases us with
 | nil=>cases h
 | cons a0 r=>obtain ⟨a1,a2,a3,a4,rfl⟩:=aRb (bD9 h);exact ⟨a0,a1,a2,a3,a4,rfl⟩
structure FnAt(K:aZz)(x:Str)(st:Stmt)(f:Addr)(m:Value)(c:Addr):Prop where
 a:bBf K mainGlobals x=some (some (.ref f))
 l:K.lookup f=some ⟨.type "function",none,.func (PySem.W.fnOf x x (mW st) (jW st) (aR st) .none .none .none m none (.ref c) .none),#[]⟩
 c:PySem.W.codeIn K (.ref c) x=true
 k:PySem.W.keepIn K (.ref f)=true
theorem FnAt.df{K:aZz}{h:Heap}{mg:Str->Option Value}{x:Str}{st:Stmt}{f c:Addr}{m:Value}{ps:List Str}(A:FnAt K x st f m c)(X:K.In h)(G:h.Ns mainGlobals mg)
  (hb:∀ (kV doc pm:Value) (an:Option Addr) (cdv ct:Value) (us:List Value),us.length=ps.length->bindArgs (PySem.W.fnOf x x (mW st) (jW st) (aR st) .none kV doc pm an cdv ct) ⟨us,[]⟩=pure (ps.zip us)):Def K mg x ps st :=
 have F:=aOl (st:=st) A.l A.c A.k
 ⟨_,_,F,F.binds hb,A.k,bDw X G A.a⟩
local macro_rules | `(tactic| walk_at "q2") => `(tactic| (intro _ _ _ _ _ _ us hl;obtain ⟨_,_,_,h⟩:=aE1 hl;subst h;rfl))
local macro_rules | `(tactic| walk_at "q3") => `(tactic| (intro _ _ _ _ _ _ us hl;obtain ⟨_,_,h⟩:=gE hl;subst h;rfl))
local macro_rules | `(tactic| walk_at "q4") => `(tactic| (intro _ _ _ _ _ _ us hl;obtain ⟨_,h⟩:=lZ hl;subst h;rfl))
theorem all_mk{l:PySem.W.OpenLaw}{w:World}{K:aZz}{h:Heap}{mg:Str->Option Value}{fa:Addr}{f1 c1 f2 c2 f3 c3 f4 c4 f5 c5 f6 c6 f7 c7 f8 c8 f9 c9 f10 c10 f11 c11 f12 c12 f13 c13 f14 c14 f15 c15 f16 c16 f17 c17 f18 c18 f19 c19 f20 c20 f21 c21 f22 c22 f23 c23 f24 c24 f25 c25 f26 c26 f27 c27 f28 c28 f29 c29 f30 c30 f31 c31 f32 c32 f33 c33 f34 c34 f35 c35 f36 c36 f37 c37 f38 c38 f39 c39 f40 c40 f41 c41 f42 c42 f43 c43 f44 c44 f45 c45 f46 c46 f47 c47 f48 c48 f49 c49 f50 c50 f51 c51 f52 c52 f53 c53 f54 c54 f55 c55 f56 c56 f57 c57 f58 c58 f59 c59 CRoofError CNoFraction CNoRoof:Addr}(X:K.In h)(G:h.Ns mainGlobals mg)(hfa:mg "law" = some (.ref fa))
  {m1 m2 m3 m4 m5 m6 m7 m8 m9 m10 m11 m12 m13 m14 m15 m16 m17 m18 m19 m20 m21 m22 m23 m24 m25 m26 m27 m28 m29 m30 m31 m32 m33 m34 m35 m36 m37 m38 m39 m40 m41 m42 m43 m44 m45 m46 m47 m48 m49 m50 m51 m52 m53 m54 m55 m56 m57 m58 m59:Value}
  (h1:FnAt K "greatest_divisor" fF f1 m1 c1)
  (h2:FnAt K "fraction" nI f2 m2 c2)
  (h3:FnAt K "plus" aD2 f3 m3 c3)
  (h4:FnAt K "minus" x5 f4 m4 c4)
  (h5:FnAt K "times" w4 f5 m5 c5)
  (h6:FnAt K "over" aC1 f6 m6 c6)
  (h7:FnAt K "less" aEm f7 m7 c7)
  (h8:FnAt K "greatest" nN f8 m8 c8)
  (h9:FnAt K "least" xD f9 m9 c9)
  (h10:FnAt K "common_bottom" gW f10 m10 c10)
  (h11:FnAt K "whole" xG f11 m11 c11)
  (h12:FnAt K "turn" aDm f12 m12 c12)
  (h13:FnAt K "chain" xR f13 m13 c13)
  (h14:FnAt K "slope_of" nR f14 m14 c14)
  (h15:FnAt K "plane_height" iN f15 m15 c15)
  (h16:FnAt K "highest_by_slope" fG f16 m16 c16)
  (h17:FnAt K "whole_factor" iK f17 m17 c17)
  (h18:FnAt K "blown_up" nC f18 m18 c18)
  (h19:FnAt K "shrunk" rS f19 m19 c19)
  (h20:FnAt K "line_of" pN f20 m20 c20)
  (h21:FnAt K "line_thinned" iM f21 m21 c21)
  (h22:FnAt K "along" wF f22 m22 c22)
  (h23:FnAt K "bend_between" iP f23 m23 c23)
  (h24:FnAt K "bends" wX f24 m24 c24)
  (h25:FnAt K "between" o6 f25 m25 c25)
  (h26:FnAt K "solved" rQ f26 m26 c26)
  (h27:FnAt K "without_y" lW f27 m27 c27)
  (h28:FnAt K "gap" aLt f28 m28 c28)
  (h29:FnAt K "lone_point" kP f29 m29 c29)
  (h30:FnAt K "lone_points" jK f30 m30 c30)
  (h31:FnAt K "thinned" pD f31 m31 c31)
  (h32:FnAt K "weight_of" lY f32 m32 c32)
  (h33:FnAt K "step_of" pO f33 m33 c33)
  (h34:FnAt K "turned_round" iR f34 m34 c34)
  (h35:FnAt K "level_point" jG f35 m35 c35)
  (h36:FnAt K "gone" aD6 f36 m36 c36)
  (h37:FnAt K "piece_of" nM f37 m37 c37)
  (h38:FnAt K "pieces" rN f38 m38 c38)
  (h39:FnAt K "_law_cell_at" iQ f39 m39 c39)
  (h40:FnAt K "_law_mix" nO f40 m40 c40)
  (h41:FnAt K "_law_lowest" jH f41 m41 c41)
  (h42:FnAt K "_law_sum" nL f42 m42 c42)
  (h43:FnAt K "_law_product" iJ f43 m43 c43)
  (h44:FnAt K "_law_before" jJ f44 m44 c44)
  (h45:FnAt K "_law_number" jN f45 m45 c45)
  (h46:FnAt K "_law_slope_by" hZ f46 m46 c46)
  (h47:FnAt K "_law_roof" lQ f47 m47 c47)
  (h48:FnAt K "_law_height" jE f48 m48 c48)
  (h49:FnAt K "_law_tops" lJ f49 m49 c49)
  (h50:FnAt K "_law_step" lX f50 m50 c50)
  (h51:FnAt K "_law_times" kN f51 m51 c51)
  (h52:FnAt K "_law_spot" lL f52 m52 c52)
  (h53:FnAt K "_law_place_of" hU f53 m53 c53)
  (h54:FnAt K "_law_piece_right" fL f54 m54 c54)
  (h55:FnAt K "_law_own" nD f55 m55 c55)
  (h56:FnAt K "_law_fraction_by" fJ f56 m56 c56)
  (h57:FnAt K "_law_plain_roof" fX f57 m57 c57)
  (h58:FnAt K "_law_drawn" kH f58 m58 c58)
  (h59:FnAt K "law" aAk f59 m59 c59)
  (z0:bBf K mainGlobals "abs" = some none)
  (z1:bBf K mainGlobals "any" = some none)
  (z2:bBf K mainGlobals "bool" = some none)
  (z3:bBf K mainGlobals "enumerate" = some none)
  (z4:bBf K mainGlobals "int" = some none)
  (z5:bBf K mainGlobals "isinstance" = some none)
  (z6:bBf K mainGlobals "len" = some none)
  (z7:bBf K mainGlobals "list" = some none)
  (z8:bBf K mainGlobals "max" = some none)
  (z9:bBf K mainGlobals "min" = some none)
  (z10:bBf K mainGlobals "range" = some none)
  (z11:bBf K mainGlobals "reversed" = some none)
  (z12:bBf K mainGlobals "sorted" = some none)
  (z13:bBf K mainGlobals "sum" = some none)
  (z14:bBf K mainGlobals "tuple" = some none)
  (z15:bBf K mainGlobals "zip" = some none)
  (nRoofError:bBf K mainGlobals "RoofError" = some (some (.ref CRoofError)))
  (nNoFraction:bBf K mainGlobals "NoFraction" = some (some (.ref CNoFraction)))
  (nNoRoof:bBf K mainGlobals "NoRoof" = some (some (.ref CNoRoof)))
  (eNoFraction:PySem.W.excIn K CNoFraction [.type "ValueError",.type "Exception",.type "BaseException",.type "object"] "ValueError.__new__" = true)
  (eNoRoof:PySem.W.excIn K CNoRoof [.type "ValueError",.type "Exception",.type "BaseException",.type "object"] "ValueError.__new__" = true)
  (xii:PySem.W.kitOne K (.type "int") (.type "int")=some true)
  (xib:PySem.W.kitOne K (.type "int") (.type "bool")=some false)
  (xtt:PySem.W.kitOne K (.type "tuple") (.type "tuple")=some true)
  (xll:PySem.W.kitOne K (.type "list") (.type "list")=some true)
  : ∃ fd:FuncData,(∀ (s:Shared) (v:Value),BindsTo s fd ⟨[v],[]⟩ [("_law_script",v)])/\∀ base:Heap,K.In base->base.Ns mainGlobals mg->FnOk l.prog w K mg base (CXr l.prog w) 10 fa fd ["_law_script"] aMj:=by
 have e:=hfa.symm.trans (bDw X G h59.a)
 cases e
 have B:Blt mg:=⟨bA2 X G z0,bA2 X G z1,bA2 X G z2,bA2 X G z3,bA2 X G z4,bA2 X G z5,bA2 X G z6,bA2 X G z7,bA2 X G z8,bA2 X G z9,bA2 X G z10,bA2 X G z11,bA2 X G z12,bA2 X G z13,bA2 X G z14,bA2 X G z15⟩
 let c:Cls:=⟨CRoofError,CNoFraction,CNoRoof⟩
 have C:gT mg c:=⟨bDw X G nRoofError,bDw X G nNoFraction,bDw X G nNoRoof⟩
 have hk:gQ K c:=⟨xii,xib,xtt,xll⟩
 refine ⟨PySem.W.fnOf "law" "law" (mW aAk) (jW aAk) (aR aAk) .none .none .none m59 none (.ref c59) .none,fun s v=>.of_eq rfl,fun base kb nb=>?_⟩
 have O:gU mg base c:=⟨aOp kb nb nNoFraction eNoFraction,aOp kb nb nNoRoof eNoRoof⟩
 have G1:Cal l.prog w K mg base 1 "greatest_divisor" 2 (bF K c):=n6 (h1.df X G (by walk_at "q3")) B C O hk
 have G7:Cal l.prog w K mg base 1 "less" 2 (jB K c):=aPq (h7.df X G (by walk_at "q3")) B C O hk
 have G11:Cal l.prog w K mg base 1 "whole" 2 (k8 K c):=aNp (h11.df X G (by walk_at "q3")) B C O hk
 have G12:Cal l.prog w K mg base 1 "turn" 3 (qU K c):=aQs (h12.df X G (by walk_at "q2")) B C O hk
 have G14:Cal l.prog w K mg base 1 "slope_of" 1 (e8 K c):=aB0 (h14.df X G (by walk_at "q4")) B C O hk
 have G27:Cal l.prog w K mg base 1 "without_y" 1 (fQ K c):=aAj (h27.df X G (by walk_at "q4")) B C O hk
 have G28:Cal l.prog w K mg base 1 "gap" 2 (aBw K c):=aSo (h28.df X G (by walk_at "q3")) B C O hk
 have G34:Cal l.prog w K mg base 1 "turned_round" 1 (dE K c):=uK (h34.df X G (by walk_at "q4")) B C O hk
 have G39:Cal l.prog w K mg base 1 "_law_cell_at" 2 (cI K c):=sY (h39.df X G (by walk_at "q3")) B C O hk
 have G40:Cal l.prog w K mg base 1 "_law_mix" 2 (bG K c):=aB5 (h40.df X G (by walk_at "q3")) B C O hk
 have G41:Cal l.prog w K mg base 1 "_law_lowest" 2 (bN K c):=uT (h41.df X G (by walk_at "q3")) B C O hk
 have G44:Cal l.prog w K mg base 1 "_law_before" 2 (bS K c):=uU (h44.df X G (by walk_at "q3")) B C O hk
 have G51:Cal l.prog w K mg base 1 "_law_times" 2 (cR K c):=xP (h51.df X G (by walk_at "q3")) B C O hk
 have G55:Cal l.prog w K mg base 1 "_law_own" 2 (dY K c):=aBd (h55.df X G (by walk_at "q3")) B C O hk
 have G2:Cal l.prog w K mg base 2 "fraction" 2 (bL K c):=aBg (h2.df X G (by walk_at "q3")) B C O hk G1
 have G8:Cal l.prog w K mg base 2 "greatest" 1 (fW K c):=aCa (h8.df X G (by walk_at "q4")) B C O hk G7
 have G9:Cal l.prog w K mg base 2 "least" 1 (lO K c):=aLx (h9.df X G (by walk_at "q4")) B C O hk G7
 have G10:Cal l.prog w K mg base 2 "common_bottom" 1 (bW K c):=rB (h10.df X G (by walk_at "q4")) B C O hk G1
 have G13:Cal l.prog w K mg base 2 "chain" 1 (l4 K c):=aK7 (h13.df X G (by walk_at "q4")) B C O hk G12
 have G16:Cal l.prog w K mg base 2 "highest_by_slope" 1 (cF K c):=oH (h16.df X G (by walk_at "q4")) B C O hk G7
 have G18:Cal l.prog w K mg base 2 "blown_up" 2 (e9 K c):=aA8 (h18.df X G (by walk_at "q3")) B C O hk G11
 have G32:Cal l.prog w K mg base 2 "weight_of" 2 (eI K c):=aAv (h32.df X G (by walk_at "q3")) B C O hk G1
 have G42:Cal l.prog w K mg base 2 "_law_sum" 2 (dB K c):=aBe (h42.df X G (by walk_at "q3")) B C O hk G41
 have G43:Cal l.prog w K mg base 2 "_law_product" 2 (bR K c):=sG (h43.df X G (by walk_at "q3")) B C O hk G41
 have G45:Cal l.prog w K mg base 2 "_law_number" 2 (cM K c):=uW (h45.df X G (by walk_at "q3")) B C O hk G40 G41
 have G46:Cal l.prog w K mg base 2 "_law_slope_by" 2 (dM K c):=rA (h46.df X G (by walk_at "q3")) B C O hk G40
 have G50:Cal l.prog w K mg base 2 "_law_step" 1 (fO K c):=yO (h50.df X G (by walk_at "q4")) B C O hk G40
 have G56:Cal l.prog w K mg base 2 "_law_fraction_by" 1 (bI K c):=oQ (h56.df X G (by walk_at "q4")) B C O hk G41
 have G3:Cal l.prog w K mg base 3 "plus" 2 (jD K c):=aPm (h3.df X G (by walk_at "q3")) B C O hk G2
 have G4:Cal l.prog w K mg base 3 "minus" 2 (kA K c):=aL5 (h4.df X G (by walk_at "q3")) B C O hk G2
 have G5:Cal l.prog w K mg base 3 "times" 2 (gX K c):=aLr (h5.df X G (by walk_at "q3")) B C O hk G2
 have G6:Cal l.prog w K mg base 3 "over" 2 (nZ K c):=aR3 (h6.df X G (by walk_at "q3")) B C O hk G2
 have G17:Cal l.prog w K mg base 3 "whole_factor" 1 (cV K c):=sR (h17.df X G (by walk_at "q4")) B C O hk G10
 have G19:Cal l.prog w K mg base 3 "shrunk" 2 (lM K c):=aI1 (h19.df X G (by walk_at "q3")) B C O hk G2
 have G20:Cal l.prog w K mg base 3 "line_of" 1 (iV K c):=aE6 (h20.df X G (by walk_at "q4")) B C O hk G16
 have G21:Cal l.prog w K mg base 3 "line_thinned" 1 (dF K c):=uM (h21.df X G (by walk_at "q4")) B C O hk G13 G11 G10
 have G33:Cal l.prog w K mg base 3 "step_of" 2 (iW K c):=aFu (h33.df X G (by walk_at "q3")) B C O hk G32
 have G35:Cal l.prog w K mg base 3 "level_point" 2 (eT K c):=u6 (h35.df X G (by walk_at "q3")) B C O hk G2
 have G47:Cal l.prog w K mg base 3 "_law_roof" 2 (fR K c):=zN (h47.df X G (by walk_at "q3")) B C O hk G44 G40 G45 G46
 have G48:Cal l.prog w K mg base 3 "_law_height" 2 (cX K c):=vE (h48.df X G (by walk_at "q3")) B C O hk G42 G43
 have G52:Cal l.prog w K mg base 3 "_law_spot" 3 (eD K c):=zX (h52.df X G (by walk_at "q2")) B C O hk G42 G43
 have G57:Cal l.prog w K mg base 3 "_law_plain_roof" 3 (cS K c):=o8 (h57.df X G (by walk_at "q2")) B C O hk G44 G56 G55
 have G15:Cal l.prog w K mg base 4 "plane_height" 2 (cH K c):=s9 (h15.df X G (by walk_at "q3")) B C O hk G3 G5
 have G23:Cal l.prog w K mg base 4 "bend_between" 2 (eG K c):=tV (h23.df X G (by walk_at "q3")) B C O hk G6 G4
 have G25:Cal l.prog w K mg base 4 "between" 2 (jX K c):=aFm (h25.df X G (by walk_at "q3")) B C O hk G7 G6 G3 G9 G8 G4
 have G36:Cal l.prog w K mg base 4 "gone" 3 (uC K c):=aQx (h36.df X G (by walk_at "q2")) B C O hk G3 G5
 have G49:Cal l.prog w K mg base 4 "_law_tops" 2 (dU K c):=zE (h49.df X G (by walk_at "q3")) B C O hk G44 G48
 have G53:Cal l.prog w K mg base 4 "_law_place_of" 4 (cG K c):=rL (h53.df X G (fun _ _ _ _ _ _ us hl=>by obtain ⟨_,_,_,_,rfl⟩:=aRb hl;rfl)) B C O hk G41 G42 G48 G51
 have G58:Cal l.prog w K mg base 4 "_law_drawn" 1 (eC K c):=xX (h58.df X G (by walk_at "q4")) B C O hk G45 G50 G39 G47 G55 G56 G57
 have G22:Cal l.prog w K mg base 5 "along" 3 (lV K c):=aLh (h22.df X G (by walk_at "q2")) B C O hk G21 G20 G15
 have G24:Cal l.prog w K mg base 5 "bends" 1 (jT K c):=aLo (h24.df X G (by walk_at "q4")) B C O hk G23 G21
 have G26:Cal l.prog w K mg base 5 "solved" 1 (iO K c):=aHd (h26.df X G (by walk_at "q4")) B C O hk G25 G2
 have G54:Cal l.prog w K mg base 5 "_law_piece_right" 5 (bY K c):=oA (h54.df X G (fun _ _ _ _ _ _ us hl=>by obtain ⟨_,_,_,_,_,rfl⟩:=aX1 hl;rfl)) B C O hk G49 G52 G53
 have G29:Cal l.prog w K mg base 6 "lone_point" 2 (fT K c):=wM (h29.df X G (by walk_at "q3")) B C O hk G26 G27 G28
 have G37:Cal l.prog w K mg base 6 "piece_of" 4 (fZ K c):=aBz (h37.df X G (fun _ _ _ _ _ _ us hl=>by obtain ⟨_,_,_,_,rfl⟩:=aRb hl;rfl)) B C O hk G14 G32 G34 G19 G36 G24 G15 G22 G35 G33
 have G30:Cal l.prog w K mg base 7 "lone_points" 2 (eA K c):=vD (h30.df X G (by walk_at "q3")) B C O hk G29 G18
 have G31:Cal l.prog w K mg base 8 "thinned" 1 (jS K c):=aFn (h31.df X G (by walk_at "q4")) B C O hk G30 G17
 have G38:Cal l.prog w K mg base 9 "pieces" 1 (kK K c):=aG8 (h38.df X G (by walk_at "q4")) B C O hk G37 G18 G17 G31
 exact aTb hk (aVa (aOl (st:=aAk) h59.l h59.c h59.k) B C O hk G38 G54 G51 G49 G52 G24 G22 G58)
theorem walk{l:PySem.W.OpenLaw}{q:Program}{loose:List Str}{XP:(Str->Option Value)->Heap->Prop}{YP:World->Heap->Prop}{d:DefRec}{K:Params->aZz}(hn:l.most=some 63)(hdf:d.params.defaults=[])
  {ts:List Addr} (hY:∀ (w:World) (h:Heap),YP w h->(K w.params).In h/\∀ P∈ts,h.get? P=some (PySem.W.tabObj #[])) (hT:∀ w:World,aPj (K w.params) ts=true) (hK:∀ w:World,aGl (K w.params)=true)
  (F:∀ (w:World) (mg:Str->Option Value) (fa:Addr) (h:Heap),(K w.params).In h->h.Ns mainGlobals mg->mg d.name=some (.ref fa) ->
   ∃ fd:FuncData,(∀ (s:Shared) (u:Value),BindsTo s fd ⟨[u],[]⟩ [("_law_script",u)])/\∀ base:Heap,(K w.params).In base->base.Ns mainGlobals mg->FnOk l.prog w (K w.params) mg base (CXr l.prog w) 10 fa fd ["_law_script"] aMj) :
  PySem.W.WalkO q loose XP YP l.row.toRowW d [] (fun f vs=>PySem.call f vs) :=
 L2.aPb (n:=63) (k:=10) (x:="_law_script") (CX:=fun w=>CXr l.prog w) (sp:=fun _=>aMj) hn (by decide) hdf ⟨rfl,by decide,by decide⟩ hY hT F (fun w _ a ns hl _ hS=>⟨a,ns,rfl,hS.elim id (fun ⟨_,_,_,e,hc,_⟩=>(aE9 (hK w) e hc).elim),hl,fun _=>rfl⟩) fun _ _ _ _ _ ⟨_,_,_,_,_,_,_,z⟩=>z
end My
namespace Hd
open PySem PySem.W PyProof.Rows L2 My
abbrev mN:String:="law_creasecurve_k68_whole_lines_cut_creases"
abbrev pr:Program:=PySem.Challenge.pw_creasecurve_k68_whole_lines_cut_creases
noncomputable def vs(s:String)(t:Nat):Value:=.str (Str.ofString s) t
noncomputable def en(P:Params)(s:String)(t:Nat)(v:Value):DictEntry:=⟨PyData.keyHash P (Str.ofString s),.str (Str.ofString s) t,v⟩
noncomputable def fd(n q:String)(a:Arguments)(b:FuncBody)(s:Scope)(g:Nat)(c:List (Str×Nat))(d k dc m:Value)(an:Option Nat)(co ct:Value)(bl:Nat):FuncData:=⟨Str.ofString n,Str.ofString q,a,b,s,g,c,d,k,dc,m,an,co,ct,bl⟩
noncomputable def pE(e:DictEntry):Obj->Obj
 | ⟨c,d,.dict es n,s⟩=>⟨c,d,.dict (es.push e) (n+1),s⟩
 | o=>o
noncomputable def rE(i:Nat)(v:Value):Obj->Obj
 | ⟨c,d,.dict es n,s⟩=>⟨c,d,.dict (es.modify i fun e=>⟨e.hash,e.key,v⟩) n,s⟩
 | o=>o
noncomputable def pF(vs:List Value):Obj->Obj
 | ⟨c,d,.fields xs,s⟩=>⟨c,d,.fields (xs++vs.toArray),s⟩
 | o=>o
noncomputable def tu(xs:List Value):Obj:=⟨.type "tuple",none,.seq xs.toArray 0,#[]⟩
noncomputable def fl(xs:List Value):Obj:=⟨.none,none,.fields xs.toArray,#[]⟩
noncomputable def fo(i:Nat)(nm:String)(g:Nat)(m co c:Value):Obj:=⟨c,none,.func (fd nm nm (mW (top i)) (.stmts (jW (top i))) (aR (top i)) g [] .none .none .none m none co .none 0),#[]⟩
noncomputable def co(nm:String)(t u l k a c:Nat)(v x:Value)(f:Nat):Obj:=⟨.type "code",none,.fields #[vs nm t,vs nm (t+1),vs "/claim/cut.py" (t+2),.int l 0,.int k 0,.int 0 0,.int 0 0,.int 3 0,.ref a,.bool true,.int 181 0,.ref c,.none,v,x,.ref f,.int u 0,.int l 0,vs "/claim/cut.py" (u+1)],#[]⟩
noncomputable def vL(t:Nat):List String->List Value
 | []=>[]
 | s :: r=>vs s t :: vL (t+1) r
noncomputable abbrev w0:Value:=vs "creasecurve.bends" 427
noncomputable abbrev w1:Value:=vs "creasecurve.errors" 187
noncomputable abbrev w2:Value:=vs "creasecurve.fractions" 239
noncomputable abbrev w3:Value:=vs "creasecurve.hulls" 336
noncomputable abbrev w5:Value:=vs "creasecurve.lines" 407
noncomputable abbrev w6:Value:=vs "creasecurve.pieces" 494
noncomputable abbrev w7:Value:=vs "creasecurve.roofs" 358
noncomputable abbrev w8:Value:=vs "creasecurve.thinning" 444
noncomputable def dC(P:Params)(nm:String)(ss:List Value)(l n t:Nat)(T:BT):BT:=T |>
 (fun T=>T.set 3 (pE (en P nm (t+15) (.ref (n+9))))) |>
 (fun T=>T.set 12 (pF [(.int l 0),(.int 0 0),(.ref (n+5))])) |>
 (fun T=>T.set 24 (fun _=>⟨(.type "type"),none,(.cls ⟨"RoofError",[(.type "ValueError")],[(.ref 24),(.type "ValueError"),(.type "Exception"),(.type "BaseException"),(.type "object")],23,"RoofError",true,[],ss,false,none,false⟩),#[(some (.ref 15)),none,(some (vs "RoofError" 189)),(some (vs "RoofError" 197)),(some (.builtin "ValueError.__new__")),(some (.bool true))]⟩)) |>
 (fun T=>T.ins n (tu [(.ref 24)])) |>
 (fun T=>T.ins (n+1) ⟨(.type "builtin_function_or_method"),none,(.fields #[(.builtin "type.__prepare__"),(.type "type")]),#[]⟩) |>
 (fun T=>T.ins (n+2) ⟨(.type "dict"),none,(.dict #[en P "__module__" (t+7) w1,en P "__qualname__" (t+9) (vs nm (t+8)),en P "__firstlineno__" (t+11) (.int l (t+10)),en P "__static_attributes__" (t+12) (.ref (n+7))] 4),#[]⟩) |>
 (fun T=>T.ins (n+3) (tu [])) |>
 (fun T=>T.ins (n+4) (fl [])) |>
 (fun T=>T.ins (n+5) ⟨(.type "code"),none,(.fields #[(vs nm (t+2)),(vs nm (t+3)),(vs "/claim/cut.py" (t+4)),(.int l 0),(.int 0 0),(.int 0 0),(.int 0 0),(.int 0 0),(.ref (n+3)),(.bool false),(.int 181 0),(.ref (n+4)),.none,.none,.none,.none,(.int (t+5) 0),(.int l 0),(vs "/claim/cut.py" (t+6))]),#[]⟩) |>
 (fun T=>T.ins (n+6) ⟨(.type "frame"),none,.plain,#[(some (.ref (n+5))),(some (.ref 3)),(some (.ref (n+2))),none,(some w1),none,(some (.ref 0))]⟩) |>
 (fun T=>T.ins (n+7) (tu [])) |>
 (fun T=>T.ins (n+8) ⟨(.type "dict"),none,(.dict #[en P "__module__" (t+7) w1,en P "__firstlineno__" (t+11) (.int l (t+10)),en P "__static_attributes__" (t+12) (.ref (n+7)),en P "__doc__" (t+13) .none] 2),#[]⟩) |>
 (fun T=>T.ins (n+9) ⟨(.type "type"),none,(.cls ⟨nm,[(.ref 24)],[(.ref (n+9)),(.ref 24),(.type "ValueError"),(.type "Exception"),(.type "BaseException"),(.type "object")],(n+8),nm,true,[],[],false,none,false⟩),#[(some (.ref n)),none,(some (vs nm t)),(some (vs nm (t+8))),(some (.builtin "ValueError.__new__")),(some (.bool true))]⟩) |>
 (fun T=>T.ins (n+10) ⟨(.type "super"),none,(.fields #[(.ref (n+9)),(.ref (n+9)),(.ref (n+9))]),#[]⟩) |>
 (fun T=>T.ins (n+11) ⟨(.type "builtin_function_or_method"),none,(.fields #[(.builtin "object.__init_subclass__"),(.ref (n+9))]),#[]⟩)
noncomputable def d7(P:Params)(i:Nat)(nm:String)(m:Value)(l k:Nat)(vn:List String)(n t u:Nat)(T:BT):BT:=((((((((T.set 3 (pE (en P nm (u+2) (.ref (n+6))))).set 12 (pF [.int l 0,.int 0 0,.ref (n+5)])).ins n (tu [])).ins (n+1) (fl [])).ins (n+2) (tu (vL (t+3) vn))).ins (n+3) (tu [])).ins (n+4) (fo i nm 0 .none .none .none)).ins (n+5) (co nm t u l k n (n+1) (.ref (n+2)) (.ref (n+3)) (n+4))).ins (n+6) (fo i nm 3 m (.ref (n+5)) (.type "function"))
noncomputable def d5(P:Params)(i:Nat)(nm:String)(m:Value)(l k n t u:Nat)(T:BT):BT:=((((((T.set 3 (pE (en P nm (u+2) (.ref (n+4))))).set 12 (pF [.int l 0,.int 0 0,.ref (n+3)])).ins n (tu [])).ins (n+1) (fl [])).ins (n+2) (fo i nm 0 .none .none .none)).ins (n+3) (co nm t u l k n (n+1) .none .none (n+2))).ins (n+4) (fo i nm 3 m (.ref (n+3)) (.type "function"))
noncomputable def aKw:Env:={ scope:=pr.main.scope,locals:=mainNs,globals:=mainNs,cells:=[],code:=(.ref 13),frame:=some 14 }
noncomputable def cE:Code:=.body (behindTheImports pr) aKw
noncomputable def ol(P:Params):List Obj:=[boot_o_0 P,boot_o_1 P,boot_o_2 P,boot_o_3 P,boot_o_4 P,boot_o_5 P,boot_o_6 P,boot_o_7 P,boot_o_8 P,boot_o_9 P,boot_o_10 P,(⟨(.type "tuple"),none,(.seq #[] 0),#[]⟩:Obj),(⟨.none,none,(.fields #[]),#[]⟩:Obj),(⟨(.type "code"),none,(.fields #[(vs "<module>" 182),(vs "<module>" 183),(vs "/claim/cut.py" 184),(.int 1 0),(.int 0 0),(.int 0 0),(.int 0 0),(.int 0 0),(.ref 11),(.bool false),(.int 181 0),(.ref 12),.none,.none,.none,.none,(.int 185 0),(.int 1 0),(vs "/claim/cut.py" 186)]),#[]⟩:Obj),(⟨(.type "frame"),none,.plain,#[(some (.ref 13)),(some (.ref 3)),(some (.ref 3)),none,(some (vs "__main__" 164)),none,(some (.ref 0))]⟩:Obj)]
noncomputable def bt:Nat->List Obj->BT->BT
 | _,[],T=>T
 | i,o :: r,T=>bt (i+1) r (T.ins i o)
noncomputable def t0(P:Params):BT:=bt 0 (ol P) .nil
noncomputable abbrev sT(t:Params->BT)(n k:Nat)(w:World)(os:OsState):SharedT:=⟨t w.params,n,{},⟨[]⟩,boot_drawn,k,os⟩
abbrev B:List Frame:=[topFrame ⟨0,0,0,0⟩]
theorem aSc(w:World):(fun os=>topGo treeTable pr w 11 (some (.ref 6)) 12 ⟨boot_heap w.params,⟨[]⟩,boot_drawn,boot_toks,os⟩ (topStub pr))=(fun os=>some ((⟨⟨⟨ol w.params⟩,{}⟩,⟨[]⟩,boot_drawn,187,os⟩:Shared),⟨denote treeTable cE,cE,⟨0,0,0,0⟩,B⟩)):=by
 rw [PySem.W.Fast.te15667345088766844465,bAr,PySem.W.Fast.te11892475500146522536]
 kernel_rfl
theorem aTv(w:World):(fun os=>segRun treeTable pr w 11 (some (.ref 6)) 1 1 ⟨⟨⟨ol w.params⟩,{}⟩,⟨[]⟩,boot_drawn,187,os⟩ (blockOf (behindTheImports pr) aKw cE ⟨0,0,0,0⟩ B))=(fun os=>some (.next,(sT t0 15 187 w os).abs,cE,⟨0,0,0,0⟩)):=by
 rw [PySem.W.Fast.te14374325043358763698,bAr]
 kernel_rfl
noncomputable def t1(P:Params):BT :=
 (t0 P) |>
 (fun T=>T.set 3 (rE 0 w1)) |>
 (fun T=>T.set 3 (pE (en P "RoofError" 206 (.ref 24)))) |>
 (fun T=>T.set 12 (pF [(.int 2 0),(.int 0 0),(.ref 20)])) |>
 (fun T=>T.ins 15 (tu [(.type "ValueError")])) |>
 (fun T=>T.ins 16 ⟨(.type "builtin_function_or_method"),none,(.fields #[(.builtin "type.__prepare__"),(.type "type")]),#[]⟩) |>
 (fun T=>T.ins 17 ⟨(.type "dict"),none,(.dict #[en P "__module__" 196 w1,en P "__qualname__" 198 (vs "RoofError" 197),en P "__firstlineno__" 200 (.int 2 199),en P "__static_attributes__" 201 (.ref 22)] 4),#[]⟩) |>
 (fun T=>T.ins 18 (tu [])) |>
 (fun T=>T.ins 19 (fl [])) |>
 (fun T=>T.ins 20 ⟨(.type "code"),none,(.fields #[(vs "RoofError" 191),(vs "RoofError" 192),(vs "/claim/cut.py" 193),(.int 2 0),(.int 0 0),(.int 0 0),(.int 0 0),(.int 0 0),(.ref 18),(.bool false),(.int 181 0),(.ref 19),.none,.none,.none,.none,(.int 194 0),(.int 2 0),(vs "/claim/cut.py" 195)]),#[]⟩) |>
 (fun T=>T.ins 21 ⟨(.type "frame"),none,.plain,#[(some (.ref 20)),(some (.ref 3)),(some (.ref 17)),none,(some w1),none,(some (.ref 0))]⟩) |>
 (fun T=>T.ins 22 (tu [])) |>
 (fun T=>T.ins 23 ⟨(.type "dict"),none,(.dict #[en P "__module__" 196 w1,en P "__firstlineno__" 200 (.int 2 199),en P "__static_attributes__" 201 (.ref 22),en P "__weakref__" 203 (.ref 25),en P "__doc__" 204 .none] 3),#[]⟩) |>
 (fun T=>T.ins 24 ⟨(.type "type"),none,(.cls ⟨"RoofError",[(.type "ValueError")],[(.ref 24),(.type "ValueError"),(.type "Exception"),(.type "BaseException"),(.type "object")],23,"RoofError",true,[],[],false,none,false⟩),#[(some (.ref 15)),none,(some (vs "RoofError" 189)),(some (vs "RoofError" 197)),(some (.builtin "ValueError.__new__")),(some (.bool true))]⟩) |>
 (fun T=>T.ins 25 ⟨(.type "getset_descriptor"),none,(.fields #[(vs "__weakref__" 202),(.ref 24),(.builtin "ExceptionGroup.__weakref__"),.none]),#[]⟩) |>
 (fun T=>T.ins 26 ⟨(.type "super"),none,(.fields #[(.ref 24),(.ref 24),(.ref 24)]),#[]⟩) |>
 (fun T=>T.ins 27 ⟨(.type "builtin_function_or_method"),none,(.fields #[(.builtin "object.__init_subclass__"),(.ref 24)]),#[]⟩)
noncomputable def g0:List Stmt:=[top 0,top 1]
theorem hg0(w:World):(fun os=>segRunT treeTable pr w 11 (some (.ref 6)) 1 196 (sT t0 15 187 w os) (piecesOf g0 aKw cE ⟨0,0,0,0⟩ B))=(fun os=>some (.next,sT t1 28 207 w os,cE,⟨2,0,3,8⟩)):=by
 rw [bA1,bAr]
 kernel_rfl
noncomputable def t2(P:Params):BT :=
 (t1 P) |>
 (dC P "NoFraction" [(.ref 37)] 4 28 207)
noncomputable def g1:List Stmt:=[top 2]
theorem hg1(w:World):(fun os=>segRunT treeTable pr w 11 (some (.ref 6)) 1 214 (sT t1 28 207 w os) (piecesOf g1 aKw cE ⟨2,0,3,8⟩ B))=(fun os=>some (.next,sT t2 40 223 w os,cE,⟨4,0,5,8⟩)):=by
 rw [bA1,bAr]
 kernel_rfl
noncomputable def t3(P:Params):BT :=
 (t2 P) |>
 (dC P "NoRoof" [(.ref 37),(.ref 49)] 6 40 223) |>
 (fun T=>T.set 3 (rE 0 w2)) |>
 (d7 P 5 "greatest_divisor" w2 9 2 ["a","b","larger","smaller","rest"] 52 241 249) |>
 (d7 P 6 "fraction" w2 17 2 ["top","bottom","divisor"] 59 252 258) |>
 (d7 P 7 "plus" w2 24 2 ["a","b"] 66 261 266) |>
 (d7 P 8 "minus" w2 26 2 ["a","b"] 73 269 274) |>
 (d7 P 9 "times" w2 28 2 ["a","b"] 80 277 282)
noncomputable def g2:List Stmt:=[top 3,top 4,top 5,top 6,top 7,top 8,top 9]
theorem hg2(w:World):(fun os=>segRunT treeTable pr w 11 (some (.ref 6)) 1 377 (sT t2 40 223 w os) (piecesOf g2 aKw cE ⟨4,0,5,8⟩ B))=(fun os=>some (.next,sT t3 87 285 w os,cE,⟨28,0,29,45⟩)):=by
 rw [bA1,bAr]
 kernel_rfl
noncomputable def t4(P:Params):BT :=
 (t3 P) |>
 (d7 P 10 "over" w2 30 2 ["a","b"] 87 285 290) |>
 (d7 P 11 "less" w2 32 2 ["a","b"] 94 293 298) |>
 (d7 P 12 "greatest" w2 34 1 ["numbers","best","number"] 101 301 307) |>
 (d7 P 13 "least" w2 40 1 ["numbers","best","number"] 108 310 316) |>
 (d7 P 14 "common_bottom" w2 46 1 ["numbers","common","number"] 115 319 325) |>
 (d7 P 15 "whole" w2 51 2 ["number","factor"] 122 328 333) |>
 (fun T=>T.set 3 (rE 0 w3)) |>
 (d7 P 17 "turn" w3 54 3 ["start","middle","end","along","across"] 129 338 346) |>
 (d7 P 18 "chain" w3 58 1 ["points","kept","point"] 136 349 355) |>
 (fun T=>T.set 3 (rE 0 w7)) |>
 (d7 P 20 "slope_of" w7 66 1 ["plane"] 143 360 364) |>
 (d7 P 21 "plane_height" w7 68 2 ["plane","point","along_x","along_y"] 150 367 374) |>
 (d7 P 22 "highest_by_slope" w7 72 1 ["rows","highest","slope","height"] 157 377 384) |>
 (d5 P 23 "whole_factor" w7 78 1 164 387 390)
noncomputable def g3:List Stmt:=[top 10,top 11,top 12,top 13,top 14,top 15,top 16,top 17,top 18,top 19,top 20,top 21,top 22,top 23]
theorem hg3(w:World):(fun os=>segRunT treeTable pr w 11 (some (.ref 6)) 1 385 (sT t3 87 285 w os) (piecesOf g3 aKw cE ⟨28,0,29,45⟩ B))=(fun os=>some (.next,sT t4 169 393 w os,cE,⟨78,0,79,54⟩)):=by
 rw [bA1,bAr]
 kernel_rfl
noncomputable def t5(P:Params):BT :=
 (t4 P) |>
 (d5 P 24 "blown_up" w7 80 2 169 393 396) |>
 (d7 P 25 "shrunk" w7 82 2 ["point","factor"] 174 399 404) |>
 (fun T=>T.set 3 (rE 0 w5)) |>
 (d5 P 27 "line_of" w5 85 1 181 409 412) |>
 (d5 P 28 "line_thinned" w5 90 1 186 415 418) |>
 (d5 P 29 "along" w5 95 3 191 421 424) |>
 (fun T=>T.set 3 (rE 0 w0)) |>
 (d7 P 31 "bend_between" w0 99 2 ["row","following","weight"] 196 429 435) |>
 (d5 P 32 "bends" w0 102 1 203 438 441) |>
 (fun T=>T.set 3 (rE 0 w8)) |>
 (d7 P 34 "between" w8 107 2 ["lows","highs","low","high"] 208 446 453) |>
 (d5 P 35 "solved" w8 117 1 215 456 459) |>
 (d5 P 36 "without_y" w8 123 1 220 462 465) |>
 (d7 P 37 "gap" w8 130 2 ["plane","other"] 225 468 473) |>
 (d5 P 38 "lone_point" w8 132 2 232 476 479) |>
 (d5 P 39 "lone_points" w8 139 2 237 482 485)
noncomputable def g4:List Stmt:=[top 24,top 25,top 26,top 27,top 28,top 29,top 30,top 31,top 32,top 33,top 34,top 35,top 36,top 37,top 38,top 39]
theorem hg4(w:World):(fun os=>segRunT treeTable pr w 11 (some (.ref 6)) 1 385 (sT t4 169 393 w os) (piecesOf g4 aKw cE ⟨78,0,79,54⟩ B))=(fun os=>some (.next,sT t5 242 488 w os,cE,⟨139,0,141,58⟩)):=by
 rw [bA1,bAr]
 kernel_rfl
noncomputable def t6(P:Params):BT :=
 (t5 P) |>
 (d5 P 40 "thinned" w8 142 1 242 488 491) |>
 (fun T=>T.set 3 (rE 0 w6)) |>
 (d7 P 42 "weight_of" w6 146 2 ["one","other"] 247 496 501) |>
 (d7 P 43 "step_of" w6 148 2 ["one","other","weight"] 254 504 510) |>
 (d7 P 44 "turned_round" w6 151 1 ["step"] 261 513 517) |>
 (d7 P 45 "level_point" w6 153 2 ["one","other","a","b","rise","square"] 268 520 529) |>
 (d7 P 46 "gone" w6 159 3 ["point","step","t"] 275 532 538) |>
 (d5 P 47 "piece_of" w6 161 4 282 541 544) |>
 (d5 P 48 "pieces" w6 174 1 287 547 550) |>
 (fun T=>T.set 3 (rE 0 (vs mN 553))) |>
 (d7 P 50 "_law_whole" (vs mN 553) 183 1 ["_law_found"] 292 555 559) |>
 (d7 P 51 "_law_cell_at" (vs mN 553) 185 2 ["_law_script","_law_k"] 299 562 567) |>
 (d7 P 52 "_law_mix" (vs mN 553) 189 2 ["_law_cell","_law_k","_law_blend"] 306 570 576) |>
 (d7 P 53 "_law_lowest" (vs mN 553) 192 2 ["_law_top","_law_bottom","_law_one","_law_other","_law_rest"] 313 579 587)
noncomputable def g5:List Stmt:=[top 40,top 41,top 42,top 43,top 44,top 45,top 46,top 47,top 48,top 49,top 50,top 51,top 52,top 53]
theorem hg5(w:World):(fun os=>segRunT treeTable pr w 11 (some (.ref 6)) 1 375 (sT t5 242 488 w os) (piecesOf g5 aKw cE ⟨139,0,141,58⟩ B))=(fun os=>some (.next,sT t6 320 590 w os,cE,⟨192,0,201,58⟩)):=by
 rw [bA1,bAr]
 kernel_rfl
noncomputable def t7(P:Params):BT :=
 (t6 P) |>
 (d7 P 54 "_law_sum" (vs mN 553) 202 2 ["_law_a","_law_b"] 320 590 595) |>
 (d7 P 55 "_law_product" (vs mN 553) 204 2 ["_law_a","_law_b"] 327 598 603) |>
 (d7 P 56 "_law_before" (vs mN 553) 206 2 ["_law_a","_law_b"] 334 606 611) |>
 (d7 P 57 "_law_is_fraction" (vs mN 553) 208 1 ["_law_found"] 341 614 618) |>
 (d7 P 58 "_law_number" (vs mN 553) 212 2 ["_law_cell","_law_k","_law_way"] 348 621 627) |>
 (d7 P 59 "_law_slope_by" (vs mN 553) 219 2 ["_law_cell","_law_most"] 355 630 635) |>
 (d5 P 60 "_law_roof" (vs mN 553) 221 2 362 638 641) |>
 (d7 P 61 "_law_height" (vs mN 553) 236 2 ["_law_plane","_law_point","_law_sides"] 367 644 650) |>
 (d7 P 62 "_law_tops" (vs mN 553) 239 2 ["_law_roof_here","_law_point","_law_found","_law_high","_law_plane","_law_here"] 374 653 662) |>
 (d7 P 63 "_law_step" (vs mN 553) 250 1 ["_law_cell","_law_step_here"] 381 665 670) |>
 (d7 P 64 "_law_times" (vs mN 553) 255 2 ["_law_slope","_law_step_here"] 388 673 678) |>
 (d5 P 65 "_law_spot" (vs mN 553) 257 3 395 681 684) |>
 (d5 P 66 "_law_place_of" (vs mN 553) 260 4 400 687 690)
noncomputable def g6:List Stmt:=[top 54,top 55,top 56,top 57,top 58,top 59,top 60,top 61,top 62,top 63,top 64,top 65,top 66]
theorem hg6(w:World):(fun os=>segRunT treeTable pr w 11 (some (.ref 6)) 1 384 (sT t6 320 590 w os) (piecesOf g6 aKw cE ⟨192,0,201,58⟩ B))=(fun os=>some (.next,sT t7 405 693 w os,cE,⟨260,0,268,63⟩)):=by
 rw [bA1,bAr]
 kernel_rfl
noncomputable def t8(P:Params):BT :=
 (t7 P) |>
 (d7 P 67 "_law_piece_right" (vs mN 553) 269 5 ["_law_roof_here","_law_row","_law_point","_law_step_here","_law_weights","_law_t","_law_found","_law_across"] 405 693 704) |>
 (d7 P 68 "_law_own" (vs mN 553) 280 2 ["_law_script","_law_k"] 412 707 712) |>
 (d7 P 69 "_law_fraction_by" (vs mN 553) 284 1 ["_law_c"] 419 715 719) |>
 (d5 P 70 "_law_plain_roof" (vs mN 553) 286 3 426 722 725) |>
 (d7 P 71 "_law_drawn" (vs mN 553) 295 1 ["_law_script","_law_roof_here","_law_point","_law_c","_law_wide","_law_cell"] 431 728 737) |>
 (d5 P 72 "law" (vs mN 553) 305 1 438 740 743)
noncomputable def g7:List Stmt:=[top 67,top 68,top 69,top 70,top 71,top 72]
theorem hg7(w:World):(fun os=>segRunT treeTable pr w 11 (some (.ref 6)) 1 182 (sT t7 405 693 w os) (piecesOf g7 aKw cE ⟨260,0,268,63⟩ B))=(fun os=>some (.next,sT t8 443 746 w os,cE,⟨305,0,320,15⟩)):=by
 rw [bA1,bAr]
 kernel_rfl
noncomputable def hF(P:Params):Heap:=absHeap (t8 P) 443 {}
theorem aXz(w:World):(fun os=>topRun treeTable pr w 11 (some (.ref 6)) 2 (sT t8 443 746 w os).abs ⟨doneF .next,cE,⟨305,0,320,15⟩,B⟩)=(fun os=>some ((⟨hF w.params,⟨[]⟩,boot_drawn,746,os⟩:Shared))):=by
 rw [PySem.W.Fast.te14082659384304107361,bAr]
 kernel_rfl
theorem hb:behindTheImports pr=g0++(g1++(g2++(g3++(g4++(g5++(g6++(g7++[]))))))):=by kernel_rfl
theorem aY4(w:World)(os:OsState):topRun treeTable pr w 11 (some (.ref 6)) (12+(1+(196+(214+(377+(385+(385+(375+(384+(182+(2))))))))))) ⟨boot_heap w.params,⟨[]⟩,boot_drawn,boot_toks,os⟩ (topStub pr)=some ⟨hF w.params,⟨[]⟩,boot_drawn,746,os⟩:=go_top (bDc (aSc w) os) (piece_block (bDc (aTv w) os) (by
 rw [hb]
 exact bEs (bEt (bDc (hg0 w) os)) (bEs (bEt (bDc (hg1 w) os)) (bEs (bEt (bDc (hg2 w) os)) (bEs (bEt (bDc (hg3 w) os)) (bEs (bEt (bDc (hg4 w) os)) (bEs (bEt (bDc (hg5 w) os)) (bEs (bEt (bDc (hg6 w) os)) (bEs (bEt (bDc (hg7 w) os)) (piece_nil (bDc (aXz w) os)))))))))))
noncomputable def qv:Program:={ pr with main:={ pr.main with body:=[top 1,top 2,top 3,top 5,top 6,top 7,top 8,top 9,top 10,top 11,top 12,top 13,top 14,top 15,top 17,top 18,top 20,top 21,top 22,top 23,top 24,top 25,top 27,top 28,top 29,top 31,top 32,top 34,top 35,top 36,top 37,top 38,top 39,top 40,top 42,top 43,top 44,top 45,top 46,top 47,top 48,top 50,top 51,top 52,top 53,top 54,top 55,top 56,top 57,top 58,top 59,top 60,top 61,top 62,top 63,top 64,top 65,top 66,top 67,top 68,top 69,top 70,top 71,top 72] } }
noncomputable def ks:List Nat:=[3,20,23,24,33,36,37,45,48,49,57,58,64,65,71,72,78,79,85,86,92,93,99,100,106,107,113,114,120,121,127,128,134,135,141,142,148,149,155,156,162,163,167,168,172,173,179,180,184,185,189,190,194,195,201,202,206,207,213,214,218,219,223,224,230,231,235,236,240,241,245,246,252,253,259,260,266,267,273,274,280,281,285,286,290,291,297,298,304,305,311,312,318,319,325,326,332,333,339,340,346,347,353,354,360,361,365,366,372,373,379,380,386,387,393,394,398,399,403,404,410,411,417,418,424,425,429,430,436,437,441,442]
noncomputable def K(P:Params):Frag:=ks.map fun a=>(a,((t8 P).get a).getD default)
theorem ksE(P:Params):ks=(K P).map (·.1):=by kernel_rfl
noncomputable abbrev hk:Hook:=kmHook K ks ksE []
noncomputable abbrev xt:Shared->Bool:=fun s=>xlAt qv [] s && recOk [] s
theorem aXp(w:World):((boot_heap w.params).isNs mainGlobals && (⟨[]⟩:Array GenState).size == 0,(boot_heap w.params).objs.size,(boot_heap w.params).nsMap mainGlobals "__annotations__")=(true,11,(some (.ref 6))):=by kernel_rfl
theorem aWk(w:World):(fun os:OsState=>(staticsOk (importedModules pr.main.body) (boot_heap w.params) (hF w.params) && namesBound pr (hF w.params) && gensDone ⟨hF w.params,⟨[]⟩,boot_drawn,746,os⟩ && laidKept (boot_heap w.params) (hF w.params)))=fun _=>true:=by
 rw [bDo]
 kernel_rfl
theorem aX2(w:World):(fun os:OsState=>openSeen qv [] (importedModules pr.main.body) xt true ⟨hF w.params,⟨[]⟩,boot_drawn,746,os⟩)=fun _=>openGood qv []:=by
 rw [PySem.W.Fast.te4187177175401517315,bDo]
 kernel_rfl
theorem aW6(w:World):(fun os:OsState=>hk.obs ⟨hF w.params,⟨[]⟩,boot_drawn,746,os⟩)=fun _=>hk.val w:=by kernel_rfl
theorem left:LeftO pr qv [] xt hk.obs hk.val 5106:=LeftO.of_pieces (boot_open (by kernel_rfl) (by decide) (fun _=>by kernel_rfl)) aXp aY4 (by decide) fun w=>funext fun os=>looks_pair (bDc (aWk w) os) (looks_pair (bDc (aX2 w) os) (bDc (aW6 w) os))
theorem h1(w:World):FnAt (K w.params) "greatest_divisor" fF 58 w2 57:=by constructor<;>kernel_rfl
theorem h2(w:World):FnAt (K w.params) "fraction" nI 65 w2 64:=by constructor<;>kernel_rfl
theorem h3(w:World):FnAt (K w.params) "plus" aD2 72 w2 71:=by constructor<;>kernel_rfl
theorem h4(w:World):FnAt (K w.params) "minus" x5 79 w2 78:=by constructor<;>kernel_rfl
theorem h5(w:World):FnAt (K w.params) "times" w4 86 w2 85:=by constructor<;>kernel_rfl
theorem h6(w:World):FnAt (K w.params) "over" aC1 93 w2 92:=by constructor<;>kernel_rfl
theorem h7(w:World):FnAt (K w.params) "less" aEm 100 w2 99:=by constructor<;>kernel_rfl
theorem h8(w:World):FnAt (K w.params) "greatest" nN 107 w2 106:=by constructor<;>kernel_rfl
theorem h9(w:World):FnAt (K w.params) "least" xD 114 w2 113:=by constructor<;>kernel_rfl
theorem h10(w:World):FnAt (K w.params) "common_bottom" gW 121 w2 120:=by constructor<;>kernel_rfl
theorem h11(w:World):FnAt (K w.params) "whole" xG 128 w2 127:=by constructor<;>kernel_rfl
theorem h12(w:World):FnAt (K w.params) "turn" aDm 135 w3 134:=by constructor<;>kernel_rfl
theorem h13(w:World):FnAt (K w.params) "chain" xR 142 w3 141:=by constructor<;>kernel_rfl
theorem h14(w:World):FnAt (K w.params) "slope_of" nR 149 w7 148:=by constructor<;>kernel_rfl
theorem h15(w:World):FnAt (K w.params) "plane_height" iN 156 w7 155:=by constructor<;>kernel_rfl
theorem h16(w:World):FnAt (K w.params) "highest_by_slope" fG 163 w7 162:=by constructor<;>kernel_rfl
theorem h17(w:World):FnAt (K w.params) "whole_factor" iK 168 w7 167:=by constructor<;>kernel_rfl
theorem h18(w:World):FnAt (K w.params) "blown_up" nC 173 w7 172:=by constructor<;>kernel_rfl
theorem h19(w:World):FnAt (K w.params) "shrunk" rS 180 w7 179:=by constructor<;>kernel_rfl
theorem h20(w:World):FnAt (K w.params) "line_of" pN 185 w5 184:=by constructor<;>kernel_rfl
theorem h21(w:World):FnAt (K w.params) "line_thinned" iM 190 w5 189:=by constructor<;>kernel_rfl
theorem h22(w:World):FnAt (K w.params) "along" wF 195 w5 194:=by constructor<;>kernel_rfl
theorem h23(w:World):FnAt (K w.params) "bend_between" iP 202 w0 201:=by constructor<;>kernel_rfl
theorem h24(w:World):FnAt (K w.params) "bends" wX 207 w0 206:=by constructor<;>kernel_rfl
theorem h25(w:World):FnAt (K w.params) "between" o6 214 w8 213:=by constructor<;>kernel_rfl
theorem h26(w:World):FnAt (K w.params) "solved" rQ 219 w8 218:=by constructor<;>kernel_rfl
theorem h27(w:World):FnAt (K w.params) "without_y" lW 224 w8 223:=by constructor<;>kernel_rfl
theorem h28(w:World):FnAt (K w.params) "gap" aLt 231 w8 230:=by constructor<;>kernel_rfl
theorem h29(w:World):FnAt (K w.params) "lone_point" kP 236 w8 235:=by constructor<;>kernel_rfl
theorem h30(w:World):FnAt (K w.params) "lone_points" jK 241 w8 240:=by constructor<;>kernel_rfl
theorem h31(w:World):FnAt (K w.params) "thinned" pD 246 w8 245:=by constructor<;>kernel_rfl
theorem h32(w:World):FnAt (K w.params) "weight_of" lY 253 w6 252:=by constructor<;>kernel_rfl
theorem h33(w:World):FnAt (K w.params) "step_of" pO 260 w6 259:=by constructor<;>kernel_rfl
theorem h34(w:World):FnAt (K w.params) "turned_round" iR 267 w6 266:=by constructor<;>kernel_rfl
theorem h35(w:World):FnAt (K w.params) "level_point" jG 274 w6 273:=by constructor<;>kernel_rfl
theorem h36(w:World):FnAt (K w.params) "gone" aD6 281 w6 280:=by constructor<;>kernel_rfl
theorem h37(w:World):FnAt (K w.params) "piece_of" nM 286 w6 285:=by constructor<;>kernel_rfl
theorem h38(w:World):FnAt (K w.params) "pieces" rN 291 w6 290:=by constructor<;>kernel_rfl
theorem h39(w:World):FnAt (K w.params) "_law_cell_at" iQ 305 (vs mN 553) 304:=by constructor<;>kernel_rfl
theorem h40(w:World):FnAt (K w.params) "_law_mix" nO 312 (vs mN 553) 311:=by constructor<;>kernel_rfl
theorem h41(w:World):FnAt (K w.params) "_law_lowest" jH 319 (vs mN 553) 318:=by constructor<;>kernel_rfl
theorem h42(w:World):FnAt (K w.params) "_law_sum" nL 326 (vs mN 553) 325:=by constructor<;>kernel_rfl
theorem h43(w:World):FnAt (K w.params) "_law_product" iJ 333 (vs mN 553) 332:=by constructor<;>kernel_rfl
theorem h44(w:World):FnAt (K w.params) "_law_before" jJ 340 (vs mN 553) 339:=by constructor<;>kernel_rfl
theorem h45(w:World):FnAt (K w.params) "_law_number" jN 354 (vs mN 553) 353:=by constructor<;>kernel_rfl
theorem h46(w:World):FnAt (K w.params) "_law_slope_by" hZ 361 (vs mN 553) 360:=by constructor<;>kernel_rfl
theorem h47(w:World):FnAt (K w.params) "_law_roof" lQ 366 (vs mN 553) 365:=by constructor<;>kernel_rfl
theorem h48(w:World):FnAt (K w.params) "_law_height" jE 373 (vs mN 553) 372:=by constructor<;>kernel_rfl
theorem h49(w:World):FnAt (K w.params) "_law_tops" lJ 380 (vs mN 553) 379:=by constructor<;>kernel_rfl
theorem h50(w:World):FnAt (K w.params) "_law_step" lX 387 (vs mN 553) 386:=by constructor<;>kernel_rfl
theorem h51(w:World):FnAt (K w.params) "_law_times" kN 394 (vs mN 553) 393:=by constructor<;>kernel_rfl
theorem h52(w:World):FnAt (K w.params) "_law_spot" lL 399 (vs mN 553) 398:=by constructor<;>kernel_rfl
theorem h53(w:World):FnAt (K w.params) "_law_place_of" hU 404 (vs mN 553) 403:=by constructor<;>kernel_rfl
theorem h54(w:World):FnAt (K w.params) "_law_piece_right" fL 411 (vs mN 553) 410:=by constructor<;>kernel_rfl
theorem h55(w:World):FnAt (K w.params) "_law_own" nD 418 (vs mN 553) 417:=by constructor<;>kernel_rfl
theorem h56(w:World):FnAt (K w.params) "_law_fraction_by" fJ 425 (vs mN 553) 424:=by constructor<;>kernel_rfl
theorem h57(w:World):FnAt (K w.params) "_law_plain_roof" fX 430 (vs mN 553) 429:=by constructor<;>kernel_rfl
theorem h58(w:World):FnAt (K w.params) "_law_drawn" kH 437 (vs mN 553) 436:=by constructor<;>kernel_rfl
theorem h59(w:World):FnAt (K w.params) "law" aAk 442 (vs mN 553) 441:=by constructor<;>kernel_rfl
end Hd
open PySem PySem.W PyProof.Rows
theorem Hd.said:PySem.Challenge.rw_creasecurve_k68_whole_lines_cut_creases.wellSaid=true:=by kernel_rfl
set_option maxRecDepth 100000 in
set_option maxHeartbeats 0 in
theorem PySem.Challenge.cw_creasecurve_k68_whole_lines_cut_creases_holds : PySem.Challenge.rw_creasecurve_k68_whole_lines_cut_creases.Holds := by
 refine holds_law Hd.said fun said=>?_
 refine holds_open (q:=Hd.qv) (Xt:=Hd.xt) (XP:=XL Hd.qv []) (YP:=Hd.hk.says) (N:=5106) Hd.left Hd.hk.of Hd.hk.keeps (fun s e=>xl_of s (bBd.mp e).1) XL.keeps (by rfl) (by rfl) (by rfl) (fun s e=>recFacts_of (bBd.mp e).2) (by rfl) said (by decide +kernel) ⟨rfl,rfl,rfl,rfl,rfl,by decide +kernel⟩ ?hw ?hc
 case hw=>w_witness2
 refine My.walk (l:=PySem.Challenge.rw_creasecurve_k68_whole_lines_cut_creases) rfl rfl (fun w h Y=>⟨PySem.W.km_in_of Y,PySem.W.km_tabs_of Y⟩) (fun w=>by kernel_rfl) (fun w=>by kernel_rfl) ?F
 case F =>
  intro w mg fa h KX G hmg
  exact My.all_mk (CRoofError:=24) (CNoFraction:=37) (CNoRoof:=49) KX G hmg (Hd.h1 w) (Hd.h2 w) (Hd.h3 w) (Hd.h4 w) (Hd.h5 w) (Hd.h6 w) (Hd.h7 w) (Hd.h8 w) (Hd.h9 w) (Hd.h10 w) (Hd.h11 w) (Hd.h12 w) (Hd.h13 w) (Hd.h14 w) (Hd.h15 w) (Hd.h16 w) (Hd.h17 w) (Hd.h18 w) (Hd.h19 w) (Hd.h20 w) (Hd.h21 w) (Hd.h22 w) (Hd.h23 w) (Hd.h24 w) (Hd.h25 w) (Hd.h26 w) (Hd.h27 w) (Hd.h28 w) (Hd.h29 w) (Hd.h30 w) (Hd.h31 w) (Hd.h32 w) (Hd.h33 w) (Hd.h34 w) (Hd.h35 w) (Hd.h36 w) (Hd.h37 w) (Hd.h38 w) (Hd.h39 w) (Hd.h40 w) (Hd.h41 w) (Hd.h42 w) (Hd.h43 w) (Hd.h44 w) (Hd.h45 w) (Hd.h46 w) (Hd.h47 w) (Hd.h48 w) (Hd.h49 w) (Hd.h50 w) (Hd.h51 w) (Hd.h52 w) (Hd.h53 w) (Hd.h54 w) (Hd.h55 w) (Hd.h56 w) (Hd.h57 w) (Hd.h58 w) (Hd.h59 w) (by kernel_rfl) (by kernel_rfl) (by kernel_rfl) (by kernel_rfl) (by kernel_rfl) (by kernel_rfl) (by kernel_rfl) (by kernel_rfl) (by kernel_rfl) (by kernel_rfl) (by kernel_rfl) (by kernel_rfl) (by kernel_rfl) (by kernel_rfl) (by kernel_rfl) (by kernel_rfl) (by kernel_rfl) (by kernel_rfl) (by kernel_rfl) (by kernel_rfl) (by kernel_rfl) (by kernel_rfl) (by kernel_rfl) (by kernel_rfl) (by kernel_rfl)

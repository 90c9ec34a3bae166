import PyProof.Rows.All
import Wide.All
import OpenK.AllK
import Wide.FinOn
import Lean
import PyProof.EqAt
import PyProof.EqKinds
import PyProof.TupleCall
import PySem.Challenge.RW_creasecurve_k64_whole_field_of_a_sum
abbrev aV9:=PySem.W.Frag
abbrev aWa:=@PySem.wpAny_bind
abbrev aWb:=@List.length_map
abbrev aWc:=@List.length_cons
abbrev aWd:=@List.getElem?_eq_getElem
abbrev aWe:=@PySem.wpAny_pure
abbrev aWf:=@PySem.Heap.get?_push_of_some
abbrev aWg:=@List.mem_map
abbrev aWh:=@List.mem_cons
abbrev aWi:=@PySem.Heap.lt_size
abbrev aWj:=@Array.getElem?_eq_getElem
abbrev aWk:=@List.size_toArray
abbrev aWl:=@Nat.le_refl
abbrev aWm:=@if_pos
abbrev aWn:=@if_neg
abbrev aWo:=@List.map_cons
abbrev aWp:=@List.getElem?_cons_succ
abbrev aWq:=@List.length_append
abbrev aWr:=@Array.length_toList
abbrev aWs:=@List.set_cons_zero
abbrev aWt:=@List.set_cons_succ
abbrev aWu:=@List.getElem?_map
abbrev aWv:=@PySem.W.Fast.te14364793385576792824
abbrev aWw:=@PySem.Heap.get?_push_size
abbrev aWx:=@Option.some.inj
abbrev aWy:=@Array.getElem?_toList
abbrev aWz:=@List.getElem?_cons_zero
abbrev aW0:=@decide_eq_false
abbrev aW1:=@List.mem_append_right
abbrev aW2:=@Nat.ne_of_lt
abbrev aW3:=@List.forall_mem_cons
abbrev aW4:=@PySem.W.Fast.te10110043849684766642
abbrev aW5:=@Bool.false_eq_true
abbrev aW6:=@List.getElem?_append_right
abbrev aW7:=@Nat.lt_of_lt_of_le
abbrev aW8:=@List.length_replicate
abbrev aW9:=@List.getElem?_eq_none
abbrev aXa:=@List.getElem?_eq_some_iff
abbrev aXb:=@List.map_append
abbrev aXc:=@List.length_nil
abbrev aXd:=@List.mem_singleton
abbrev aXe:=@PySem.W.mg_none_of
abbrev aXf:=@Bool.and_eq_true_iff
abbrev aXg:=@decide_eq_true
abbrev aXh:=@PySem.boot_len
abbrev aXi:=PySem.W.nsIn
abbrev aXj:=@PySem.PassesOwn.leaving
abbrev aXk:=@Nat.le_trans
abbrev aXl:=@List.getElem?_append_left
abbrev aXm:=@List.map_map
abbrev aXn:=@Nat.lt_irrefl
abbrev aXo:=@Nat.zero_le
abbrev aXp:=@List.length_range
abbrev aXq:=@Bool.false_ne_true
abbrev aXr:=@Array.getElem?_eq_none
abbrev aXs:=@PyProof.Rows.callWith_type1
abbrev aXt:=@Option.isSome_iff_exists
abbrev aXu:=@Array.getD_eq_getD_getElem?
abbrev aXv:=@PySem.wpAny_setState_of
abbrev aXw:=@List.mem_range
abbrev aXx:=@List.mem_append
abbrev aXy:=@List.mem_cons_of_mem
abbrev aXz:=@Array.mem_toList_iff
abbrev aX0:=@Int.mul_fdiv_cancel_left
abbrev aX1:=@List.filterMap_cons
abbrev aX2:=@PySem.W.kia_one
abbrev aX3:=@List.length_reverse
abbrev aX4:=@List.not_mem_nil
abbrev aX5:=@PySem.natAbs_fdiv_le
abbrev aX6:=@PySem.wpAny_mono
abbrev aX7:=@Int.toNat_natCast
abbrev aX8:=@List.length_eq_zero_iff
abbrev aX9:=@Array.getElem?_eq_some_iff
abbrev aYa:=@List.pairwise_cons
abbrev aYb:=@Int.mul_le_mul_of_nonneg_right
abbrev aYc:=@List.mem_filter
abbrev aYd:=@List.nodup_cons
abbrev aYe:=@PySem.mem_of_lookup
abbrev aYf:=@PySem.Heap.SameBut.update
abbrev aYg:=@Nat.zero_add
abbrev aYh:=@Nat.lt_or_ge
abbrev aYi:=@PySem.F.slot_dict_keyiterator_next
abbrev aYj:=@PySem.wpAny_holding
abbrev aYk:=@List.append_nil
abbrev aYl:=@of_decide_eq_false
abbrev aYm:=@Int.mul_eq_zero
abbrev aYn:=@Int.le_refl
abbrev aYo:=@PySem.F.plainAttrs_list
abbrev aYp:=@List.length_take
abbrev aYq:=@List.map_nil
abbrev aYr:=@PySem.wpAny_call_entry
abbrev aYs:=@Nat.le_add_right
abbrev aYt:=@if_false
abbrev aYu:=@PySem.wpAny_newObj_type
abbrev aYv:=@List.ext_getElem?
abbrev aYw:=@List.toList_toArray
abbrev aYx:=@List.length_pos_iff
abbrev aYy:=@PySem.Heap.get?_update_self
abbrev aYz:=@PySem.wpAny_Call_Name_kw
abbrev aY0:=@PySem.sizeLine_eq
abbrev aY1:=@PySem.wpAny_typeNameOfWhole_keyiter
abbrev aY2:=@List.mem_of_getElem?
abbrev aY3:=@List.mem_iff_getElem
abbrev aY4:=@List.getElem?_replicate
abbrev aY5:=@PySem.wpAny_callSpecial?_slot
abbrev aY6:=@PySem.W.mg_of
abbrev aY7:=@PyProof.Rows.F.plain_set_update_loop
abbrev aY8:=@PySem.wpAny_truthy_bool
abbrev aY9:=@List.append_assoc
abbrev aZa:=@PySem.W.hideAll_get
abbrev aZb:=@List.getElem?_range
abbrev aZc:=@List.replicate_succ
abbrev aZd:=@List.nil_append
abbrev aZe:=@Int.eq_of_mul_eq_mul_right
abbrev aZf:=@PySem.F.excBase_ValueError
abbrev aZg:=@List.length_drop
abbrev aZh:=@Nat.lt_of_le_of_lt
abbrev aZi:=@PySem.Obj.data_mapFields
abbrev aZj:=@List.mem_iff_getElem?
abbrev aZk:=@Prod.ext
abbrev aZl:=@PySem.wpAny_passesOwn
abbrev aZm:=@PySem.wpAny_dictEntries
abbrev aZn:=@PySem.wpAny_typeNameOf_keyiter
abbrev aZo:=@of_decide_eq_true
abbrev aZp:=@List.reverse_cons
abbrev aZq:=@Nat.lt_trichotomy
abbrev aZr:=@Nat.le_of_lt
abbrev aZs:=@List.all_eq_true
abbrev aZt:=@List.cons_append
abbrev aZu:=@congrArg
abbrev aZv:=@PySem.Calls.spliced_cons
abbrev aZw:=@Int.gcd_pos_of_ne_zero_right
abbrev aZx:=@List.getElem?_drop
abbrev aZy:=@congrFun
abbrev aZz:=@List.length_set
abbrev aZ0:=@List.find?_cons
abbrev aZ1:=@Array.mem_of_getElem?
abbrev aZ2:=@List.Pairwise.sublist
abbrev aZ3:=@List.foldl_cons
abbrev aZ4:=@Int.le_of_eq
abbrev aZ5:=@decide_false
abbrev aZ6:=@List.length_filter_le
abbrev aZ7:=@PySem.Calls.spliced_nil
abbrev aZ8:=@Nat.le_of_lt_succ
abbrev aZ9:=@List.pairwise_map
abbrev bAa:=@List.flatten_cons
abbrev bAb:=@Int.fmod_eq_emod_of_nonneg
abbrev bAc:=@List.mem_append_left
abbrev bAd:=@List.pairwise_iff_getElem
abbrev bAe:=@PyProof.Rows.F.entry_set_update_loop
abbrev bAf:=@PySem.wpAny_isInstance
abbrev bAg:=@PySem.wpAny_askSetting
abbrev bAh:=@beq_eq_false_iff_ne
abbrev bAi:=@if_true
abbrev bAj:=@decide_true
abbrev bAk:=@List.Pairwise.imp_of_mem
abbrev bAl:=@PySem.F.slot_list_append
abbrev bAm:=@PySem.F.type_list_append
abbrev bAn:=@PySem.W.Fast.te5923862056798008813
abbrev bAo:=@List.mem_cons_self
abbrev bAp:=@List.mem_filterMap
abbrev bAq:=@PySem.tupleKind_room_in1
abbrev bAr:=@PySem.wpAny_specialOf
abbrev bAs:=@PySem.codeAny_builtin
abbrev bAt:=@PySem.W.KasT.kasWp_bind
abbrev bAu:=@Nat.not_lt_zero
abbrev bAv:=@List.getElem?_take
abbrev bAw:=@Option.map_some
abbrev bAx:=@decide_eq_true_iff
abbrev bAy:=@List.getElem?_set_self
abbrev bAz:=@PySem.Heap.get?_update_other
abbrev bA0:=@Nat.lt_succ_of_lt
abbrev bA1:=@List.getElem?_set
abbrev bA2:=@List.map_dropLast
abbrev bA3:=@PySem.wpAny_setField
abbrev bA4:=@Nat.mul_le_mul
abbrev bA5:=@PyProof.Rows.callWith_builtin1
abbrev bA6:=@Nat.le_of_eq
abbrev bA7:=@PySem.F.args_dict_keyiterator_next_1
abbrev bA8:=@PySem.Obj.isFreed_of_fields
abbrev bA9:=@Nat.succ_pos
abbrev bBa:=@List.getElem?_toArray
abbrev bBb:=@List.take_append_drop
abbrev bBc:=@PySem.W.piece_app
abbrev bBd:=@PySem.W.segRun_of
abbrev bBe:=@Nat.lt_succ_self
abbrev bBf:=@List.getElem_mem
abbrev bBg:=@PySem.F.entry_dict_keyiterator_next
abbrev bBh:=@List.flatMap_nil
abbrev bBi:=@List.getElem?_set_ne
abbrev bBj:=@List.length_dropLast
abbrev bBk:=@PySem.codeAny_call_builtin
abbrev bBl:=@List.mem_erase_of_ne
abbrev bBm:=@List.mem_of_mem_drop
abbrev bBn:=@List.perm_cons_erase
abbrev bBo:=@PySem.Around.under_plainId
abbrev bBp:=@or_false
abbrev bBq:=@beq_iff_eq
abbrev bBr:=@PySem.wpAny_execs_nil
abbrev bBs:=@PySem.wpAny_dictEpoch
abbrev bBt:=@PySem.wpAny_of_eq
abbrev bBu:=@PySem.Heap.get?_update_ne
abbrev bBv:=@beq_false_of_ne
abbrev bBw:=@Int.mul_pos
abbrev bBx:=@ite_false
abbrev bBy:=@Int.le_of_mul_le_mul_right
abbrev bBz:=@PySem.codeAny_mono
abbrev bB0:=@Int.emod_lt_of_pos
abbrev bB1:=@Int.natAbs_natCast
abbrev bB2:=@Ne.symm
abbrev bB3:=@PySem.wpAny_fieldsOf
abbrev bB4:=@List.drop_eq_getElem_cons
abbrev bB5:=@List.Perm.refl
abbrev bB6:=@PySem.wpAny_pyIter_list
abbrev bB7:=@Option.isSome_map
abbrev bB8:=@PySem.wpAny_pyIter_slot
abbrev bB9:=@PySem.Obj.cls_mapFields
abbrev bCa:=@List.length_erase_of_mem
abbrev bCb:=@Int.gcd_dvd_natAbs_right
abbrev bCc:=@PySem.wpAny_standAt
abbrev bCd:=@Int.eq_ofNat_of_zero_le
abbrev bCe:=@Int.gcd_natCast_natCast
abbrev bCf:=@Int.mul_assoc
abbrev bCg:=@PySem.intItems_at
abbrev bCh:=@PySem.wpAny_attempt
abbrev bCi:=@List.pairwise_singleton
abbrev bCj:=@Nat.le_succ
abbrev bCk:=@Int.pos_of_mul_pos_left
abbrev bCl:=@ite_true
abbrev bCm:=@Nat.le_of_not_lt
abbrev bCn:=@List.any_eq_true
abbrev bCo:=@Nat.succ_le_succ
abbrev bCp:=@Bool.and_eq_true
abbrev bCq:=@List.ext_getElem
abbrev bCr:=@List.suffix_refl
abbrev bCs:=@PySem.W.cellsFrom_some
abbrev bCt:=@Option.map_eq_some_iff
abbrev bCu:=@List.pairwise_lt_range
abbrev bCv:=@Array.toList_filterMap
abbrev bCw:=@Nat.ne_of_gt
abbrev bCx:=@List.of_mem_zip
abbrev bCy:=@Nat.lt_trans
abbrev bCz:=@Bool.eq_iff_iff
abbrev bC0:=@Int.emod_nonneg
abbrev bC1:=@PySem.call_meets
abbrev bC2:=@Nat.mod_lt
abbrev bC3:=@Int.add_mul
abbrev bC4:=@List.any_cons
abbrev bC5:=@Bool.not_true
abbrev bC6:=@List.map_take
abbrev bC7:=@List.cons.inj
abbrev bC8:=@Int.not_lt
set_option Elab.async false
set_option linter.all false
set_option maxRecDepth 100000
namespace L2
open PySem PySem.Spec PyProof.Rows
abbrev Key:=Sum Int Str
def aCj:Key->Value->Bool
 | .inl k,v=>Value.isInt k v
 | .inr x,v=>Value.isStrOf x v
def aUj(w:World):Key->Int
 | .inl k=>hashInt k
 | .inr x=>hashStr w x
theorem eF:∀ {k:Key} {v:Value},aCj k v=true->(∃ i t,k=Sum.inl i/\v=Value.int i t)\/(∃ x t,k=Sum.inr x/\v=Value.str x t)
 | .inl i,v,h=>by
  obtain ⟨t,e⟩:=Value.isInt_shape (k:=i) (v:=v) h
  exact .inl ⟨i,t,rfl,e⟩
 | .inr x,v,h=>by
  obtain ⟨t,e⟩:=Value.isStrOf_shape (x:=x) (v:=v) h
  exact .inr ⟨x,t,rfl,e⟩
theorem aFf(i:Int)(t:Tok):aCj (.inl i) (.int i t)=true:=by simp [aCj,Value.isInt]
theorem aDe(x:Str)(t:Tok):aCj (.inr x) (.str x t)=true:=by simp [aCj,Value.isStrOf]
theorem aR9(a b:Int):decide ((Sum.inl a:Key)=Sum.inl b)=(a == b):=by
 by_cases e:a=b
 ·subst e;simp
 ·have h:¬ (Sum.inl a:Key)=Sum.inl b:=fun q=>e (Sum.inl.inj q)
  rw [aW0 h]
  exact (bAh.mpr e).symm
theorem aSk(a b:Str):decide ((Sum.inr a:Key)=Sum.inr b)=decide (a=b):=by
 by_cases e:a=b
 ·subst e;simp
 ·have h:¬ (Sum.inr a:Key)=Sum.inr b:=fun q=>e (Sum.inr.inj q)
  rw [aW0 h,aW0 e]
theorem aRr(a:Int)(b:Str):decide ((Sum.inl a:Key)=Sum.inr b)=false:=aW0 (fun q=>nomatch q)
theorem aSc(a:Str)(b:Int):decide ((Sum.inr a:Key)=Sum.inl b)=false:=aW0 (fun q=>nomatch q)
def gL(prog:Program)(w:World):PySem.KeyKind prog w Key where
 is:=aCj
 hash:=aUj w
 inj:=fun v a b ha hb=>by
  rcases eF ha with ⟨i,t,rfl,rfl⟩ | ⟨x,t,rfl,rfl⟩
  ·rcases eF hb with ⟨j,u,rfl,e⟩ | ⟨y,u,rfl,e⟩
   ·injection e with e1 _;rw [e1]
   ·exact nomatch e
  ·rcases eF hb with ⟨j,u,rfl,e⟩ | ⟨y,u,rfl,e⟩
   ·exact nomatch e
   ·injection e with e1 _;rw [e1]
 byValue:=fun k v h=>by
  rcases eF h with ⟨i,t,rfl,rfl⟩ | ⟨x,t,rfl,rfl⟩<;>rfl
 pyHash:=fun hv h=>by
  rcases eF hv with ⟨i,t,rfl,rfl⟩ | ⟨x,t,rfl,rfl⟩
  ·exact wpAny_pyHash_int h
  ·exact wpAny_pyHash_str h
 eqBool:=fun hu hv h=>by
  rcases eF hu with ⟨i,t,rfl,rfl⟩ | ⟨x,t,rfl,rfl⟩
  ·rcases eF hv with ⟨j,u,rfl,rfl⟩ | ⟨y,u,rfl,rfl⟩
   ·rw [aR9] at h;exact wpAny_eqBool_int h
   ·rw [aRr] at h;exact SeqAt.EqAt.int_str i t y u _ _ _ _ h
  ·rcases eF hv with ⟨j,u,rfl,rfl⟩ | ⟨y,u,rfl,rfl⟩
   ·rw [aSc] at h;exact SeqAt.EqAt.str_int x t j u _ _ _ _ h
   ·rw [aSk] at h;exact wpAny_eqBool_str h
 «strs»:=fun k x t v h=>by
  rcases eF h with ⟨i,u,rfl,e⟩ | ⟨y,u,rfl,e⟩
  ·exact nomatch e
  ·injection e with e1 _
   subst e1
   cases v<;>rfl
theorem xZ(prog:Program)(w:World)(i:Int)(t:Tok):(gL prog w).is (.inl i) (.int i t)=true:=aFf i t
theorem y8(prog:Program)(w:World)(x:Str)(t:Tok):(gL prog w).is (.inr x) (.str x t)=true:=aDe x t
inductive V where
 | non | bl (b:Bool) | int (i:Int) | str (x:Str) | byt (b:Array UInt8) | flt (b:UInt64) | ref (a:Addr) | ty (n:String)
 deriving DecidableEq
def RelV:V->Value->Prop
 | .non,u=>u=Value.none
 | .bl b,u=>u=Value.bool b
 | .int i,u=>∃ t,u=Value.int i t
 | .str x,u=>∃ t,u=Value.str x t
 | .byt b,u=>∃ t,u=Value.bytes b t
 | .flt b,u=>∃ t,u=Value.float b t
 | .ref a,u=>u=Value.ref a
 | .ty n,u=>u=Value.type n
abbrev Vals:List V->List Value->Prop:=Paired RelV
theorem Vals.length{xs:List V}{us:List Value}(r:Vals xs us):xs.length=us.length:=Paired.length r
theorem Vals.get:∀ {xs:List V} {us:List Value} {i:Nat} {x:V},Vals xs us->xs[i]? = some x->∃ u,us[i]? = some u/\RelV x u
 | _,_,_,_,.nil,e=>by simp at e
 | _,_,0,_,.cons r _,e=>by simp at e;subst e;exact ⟨_,rfl,r⟩
 | _,_,i+1,x,.cons _ t,e=>by
  obtain ⟨u,h1,h2⟩:=Vals.get (i:=i) (x:=x) t (by simpa using e)
  exact ⟨u,by simpa using h1,h2⟩
theorem Vals.set{x:V}{u:Value}(r:RelV x u):∀ {xs:List V} {us:List Value} (i:Nat),Vals xs us->Vals (xs.set i x) (us.set i u)
 | _,_,_,.nil=>.nil
 | _,_,0,.cons _ t=>.cons r t
 | _,_,i+1,.cons q t=>.cons q (Vals.set r i t)
theorem Vals.append:∀ {xs ys:List V} {us ws:List Value},Vals xs us->Vals ys ws->Vals (xs++ys) (us++ws)
 | _,_,_,_,.nil,s=>s
 | _,_,_,_,.cons r t,s=>.cons r (Vals.append t s)
theorem Vals.take:∀ {xs:List V} {us:List Value} (n:Nat),Vals xs us->Vals (xs.take n) (us.take n)
 | _,_,0,_=>.nil
 | _,_,_+1,.nil=>.nil
 | _,_,n+1,.cons r t=>.cons r (Vals.take n t)
theorem Vals.drop:∀ {xs:List V} {us:List Value} (n:Nat),Vals xs us->Vals (xs.drop n) (us.drop n)
 | _,_,0,r=>r
 | _,_,_+1,.nil=>.nil
 | _,_,n+1,.cons _ t=>Vals.drop n t
def RelO:Option V->Option Value->Prop
 | some v,some u=>RelV v u
 | none,none=>True
 | _,_=>False
def KV{κ:Type}:List (κ×V)->List (κ×Value)->Prop:=Paired fun (p:κ×V) (q:κ×Value)=>p.1=q.1/\RelV p.2 q.2
def kV:Key->V
 | .inl i=>.int i
 | .inr x=>.str x
inductive HO where
 /-- a list -/
 | lst (xs:List V)
 /-- a tuple (never changes) -/
 | tup (xs:List V)
 /-- a dict whose keys are ints and texts;one whose keys are tuples of ints and texts (the empty one is both) -/
 | dK (kvs:List (Key×V)) | dT (kvs:List (List Key×V))
 /-- a set of ints: its members,its size -/
 | set (S:Int->Bool) (n:Nat)
 /-- an instance of the class at C,its dict at dx,its attributes -/
 | ins (C dx:Addr) (fs:List (Str×V))
 /-- the dict of the instance at x -/
 | own (x:Addr)
 /-- the dict of an exception -/
 | xd (fs:List (Str×V))
 /-- a bound method,f of x -/
 | met (f x:Addr)
 /-- a range object lo,lo+1,.. below hi -/
 | rng (lo hi:Int)
 /-- a thing that is known to the object (the script;a dict while a loop walks it): read,never written while it is so -/
 | frz (o:Obj) (u:HO)
 /-- a code object's table -/
 | tbl (ps:Array Value)
 /-- any other thing,by what is true of its one object (a def of one's own: SetO a S n:=HO.ext fun h=>..) -/
 | ext (φ:Heap->Prop)
abbrev Hp:=Addr->Option HO
def upd(H:Hp)(a:Addr)(o:HO):Hp:=fun b=>if b=a then some o else H b
theorem cJ{H:Hp}{a:Addr}{o:HO}:upd H a o a=some o:=by unfold upd;rw [aWm rfl]
theorem bY{H:Hp}{a b:Addr}{o:HO}(h:b≠a):upd H a o b=H b:=by unfold upd;rw [aWn h]
theorem aUu{H:Hp}{a b:Addr}{o u:HO}(h:H a=some o)(h':H b=some u)(d:o≠u):a≠b:=by
 intro e;subst e;rw [h] at h';exact d (aWx h')
theorem eB{H:Hp}{a b:Addr}{o:HO}(h:H a=some o)(h':H b=none):a≠b:=by
 intro e;subst e;rw [h] at h';cases h'
section
variable (P:Program)(w:World)
def ObjOk(H:Hp)(h:Heap)(a:Addr):HO->Prop
 | .lst xs=>xs.length<=sizeLine/\∃ (its:List Value) (n:Nat),Vals xs its/\h.get? a=some { cls:=.type "list",data:=.seq its.toArray n }
 | .tup xs=>xs.length<=sizeLine/\∃ its:List Value,Vals xs its/\IsTup h a its.toArray
 | .dK kvs=>kvs.length<=sizeLine/\(a == sysModules)=false/\∃ vs,KV kvs vs/\h.DictOf (gL P w) a vs
 | .dT kvs=>kvs.length<=sizeLine/\(a == sysModules)=false/\∃ xs:List (List Key×Addr×Value),
   Paired (fun (p:List Key×V) (q:List Key×Addr×Value)=>p.1=q.1/\H q.2.1=some (.tup (p.1.map kV))/\RelV p.2 q.2.2) kvs xs /\
   ∃ o es ep,h.get? a=some o/\o.ExactDict/\o.data=.dict es ep/\es.toList=xs.map (entryOfKey (tupleKind (gL P w)))/\(xs.map (·.1)).Nodup
 | .set S n=>h.SetOf (intKind P w) a S n
 | .ins C dx fs=>H dx=some (.own a)/\fs.length<=1000/\dx≠a/\h.get? a=some (PySem.W.instObj C dx) /\
   ∃ mA,h.Ns1 dx mA/\(∀ f,RelO (fs.lookup f) (mA f))/\PySem.Within mA (fs.map (·.1))
 | .own _=>∃ o,h.get? a=some o
 | .xd fs=>∃ mA,h.Ns1 a mA/\∀ f,RelO (fs.lookup f) (mA f)
 | .rng lo hi=>∃ t u v,h.get? a=some { cls:=.type "range",data:=.fields #[.int lo t,.int hi u,.int 1 v] }
 | .frz o u=>h.get? a=some o/\ObjOk H h a u
 | .tbl ps=>h.get? a=some { cls:=.none,data:=.fields ps }
 | .met f x=>h.get? a=some (PySem.W.methodObj (.ref f) (.ref x))
 | .ext φ=>φ h/\(∃ o,h.get? a=some o)/\∀ h1 h2:Heap,φ h1->(∀ o,h1.get? a=some o->h2.get? a=some o)->φ h2
def HOk(H:Hp)(h:Heap):Prop:=∀ a o,H a=some o->ObjOk P w H h a o
end
section
variable {P:Program}{w:World}{H H':Hp}{h h':Heap}{a:Addr}{o:HO}
theorem ObjOk.lt(x:ObjOk P w H h a o):a < h.objs.size:=by
 cases o with
 | lst xs=>obtain ⟨_,_,_,_,e⟩:=x;exact aWi e
 | tup xs=>obtain ⟨_,_,_,p⟩:=x;exact p.lt
 | dK kvs=>obtain ⟨_,_,_,_,o,_,_,e,_⟩:=x;exact aWi e
 | dT kvs=>obtain ⟨_,_,_,_,o,_,_,e,_⟩:=x;exact aWi e
 | set S n=>obtain ⟨o,_,_,_,e,_⟩:=x;exact aWi e
 | ins C dx fs=>obtain ⟨_,_,_,e,_⟩:=x;exact aWi e
 | own y=>obtain ⟨_,e⟩:=x;exact aWi e
 | xd fs=>obtain ⟨_,⟨_,_,_,e,_⟩,_⟩:=x;exact aWi e
 | rng lo hi=>obtain ⟨_,_,_,e⟩:=x;exact aWi e
 | frz ob u=>obtain ⟨e,_⟩:=x;exact aWi e
 | tbl ps=>exact aWi (show h.get? a=some _ from x)
 | met f y=>exact aWi (show h.get? a=some _ from x)
 | ext φ=>obtain ⟨_,⟨_,e⟩,_⟩:=x;exact aWi e
theorem Paired.mapP{α β:Type}{F G:α->β->Prop}:∀ {l₁:List α} {l₂:List β},Paired F l₁ l₂->(∀ a b,F a b->G a b)->Paired G l₁ l₂
 | _,_,.nil,_=>.nil
 | _,_,.cons r t,f=>.cons (f _ _ r) (Paired.mapP t f)
theorem ObjOk.stay(x:ObjOk P w H h a o)(k:∀ b u,(b=a\/H b=some (.own a))->h.get? b=some u->h'.get? b=some u)
  (ho:∀ b,H b=some (.own a)->H' b=some (.own a)) (ht:∀ b xs,H b=some (.tup xs)->H' b=some (.tup xs)):ObjOk P w H' h' a o:=by
 induction o with
 | lst xs=>obtain ⟨z,its,n,r,e⟩:=x;exact ⟨z,its,n,r,k _ _ (.inl rfl) e⟩
 | tup xs=>obtain ⟨z,its,r,ob,e,c⟩:=x;exact ⟨z,its,r,ob,k _ _ (.inl rfl) e,c⟩
 | dK kvs=>obtain ⟨z,y,vs,r,ob,es,ep,e,c⟩:=x;exact ⟨z,y,vs,r,ob,es,ep,k _ _ (.inl rfl) e,c⟩
 | dT kvs =>
  obtain ⟨z,y,xs,r,ob,es,ep,e,c⟩:=x
  exact ⟨z,y,xs,Paired.mapP r fun p q z=>⟨z.1,ht _ _ z.2.1,z.2.2⟩,ob,es,ep,k _ _ (.inl rfl) e,c⟩
 | set S n=>obtain ⟨ob,es,ep,t,e,c⟩:=x;exact ⟨ob,es,ep,t,k _ _ (.inl rfl) e,c⟩
 | ins C dx fs =>
  obtain ⟨d,z,ne,e,mA,⟨od,es,ep,e2,c⟩,r⟩:=x
  exact ⟨ho _ d,z,ne,k _ _ (.inl rfl) e,mA,⟨od,es,ep,k _ _ (.inr d) e2,c⟩,r⟩
 | own y=>obtain ⟨ob,e⟩:=x;exact ⟨ob,k _ _ (.inl rfl) e⟩
 | xd fs=>obtain ⟨mA,⟨od,es,ep,e,c⟩,r⟩:=x;exact ⟨mA,⟨od,es,ep,k _ _ (.inl rfl) e,c⟩,r⟩
 | rng lo hi=>obtain ⟨t,u,v,e⟩:=x;exact ⟨t,u,v,k _ _ (.inl rfl) e⟩
 | frz ob u ih=>obtain ⟨e,q⟩:=x;exact ⟨k _ _ (.inl rfl) e,ih q⟩
 | tbl ps =>
  have e:h.get? a=some { cls:=.none,data:=.fields ps }:=x
  show h'.get? a=some { cls:=.none,data:=.fields ps }
  exact k a _ (.inl rfl) e
 | met f y =>
  have e:h.get? a=some (PySem.W.methodObj (.ref f) (.ref y)):=x
  show h'.get? a=some (PySem.W.methodObj (.ref f) (.ref y))
  exact k a _ (.inl rfl) e
 | ext φ=>obtain ⟨p,⟨o,e⟩,st⟩:=x;exact ⟨st _ _ p fun o q=>k _ _ (.inl rfl) q,⟨o,k _ _ (.inl rfl) e⟩,st⟩
theorem HOk.lt(x:HOk P w H h)(e:H a=some o):a < h.objs.size:=(x a o e).lt
theorem HOk.fresh(x:HOk P w H h)(e:h.objs.size<=a):H a=none:=by
 cases q:H a with
 | none=>rfl
 | some u=>exact absurd (aW7 (x.lt q) e) (aXn _)
theorem HOk.kept(x:HOk P w H h)(k:∀ b u,h.get? b=some u->h'.get? b=some u):HOk P w H h':=fun a o e =>
 (x a o e).stay (fun b u _ q=>k b u q) (fun _ q=>q) fun _ _ q=>q
theorem HOk.laid(x:HOk P w H h)(k:∀ b u,h.get? b=some u->h'.get? b=some u)(hp:h.objs.size<=a)(new:ObjOk P w (upd H a o) h' a o):HOk P w (upd H a o) h':=fun b u e=>by
 have hn:=x.fresh hp
 by_cases hb:b=a
 ·subst hb;rw [cJ] at e;cases e;exact new
 ·rw [bY hb] at e
  exact (x b u e).stay (fun c v _ q=>k c v q) (fun c q=>by rw [bY (eB q hn)];exact q) fun c xs q=>by rw [bY (eB q hn)];exact q
end
def Rd(H:Hp)(a:Addr)(u:HO):Prop:=H a=some u\/∃ o,H a=some (.frz o u)
theorem Rd.ok{P:Program}{w:World}{H:Hp}{h:Heap}{a:Addr}{u:HO}(r:Rd H a u)(x:HOk P w H h):ObjOk P w H h a u:=by
 rcases r with r | ⟨o,r⟩
 ·exact x a u r
 ·obtain ⟨_,q⟩:=x a _ r
  exact q
def Mut:Option HO->Prop
 | some (.lst _)=>True
 | some (.dK _)=>True
 | some (.dT _)=>True
 | some (.set _ _)=>True
 | some (.ins _ _ _)=>True
 | some (.ext _)=>True
 | _=>False
section
variable {P:Program}{w:World}{H:Hp}{h h':Heap}{x e:Addr}{o':HO}
theorem HOk.write(ok:HOk P w H h)(mu:Mut (H x))(he:e=x\/H e=some (.own x))(k:∀ b u,b≠e->h.get? b=some u->h'.get? b=some u)(heo:∃ u,h'.get? e=some u)
  (new:ObjOk P w (upd H x o') h' x o'):HOk P w (upd H x o') h':=fun b u q=>by
 have nown:∀ c y,H c=some (.own y)->c≠x:=fun c y r z=>by subst z;rw [r] at mu;exact mu
 have ntup:∀ c xs,H c=some (.tup xs)->c≠x:=fun c xs r z=>by subst z;rw [r] at mu;exact mu
 by_cases hb:b=x
 ·subst hb;rw [cJ] at q;cases q;exact new
 ·rw [bY hb] at q
  by_cases hbe:b=e
  ·have q':H b=some (.own x):=by
    rcases he with z | z
    ·exact absurd (hbe.trans z) hb
    ·rw [hbe];exact z
   rw [q] at q';cases q'
   obtain ⟨v,hv⟩:=heo
   exact ⟨v,by rw [hbe];exact hv⟩
  ·refine (ok b u q).stay (fun c v hc r=>k c v ?_ r) (fun c r=>by rw [bY (nown c b r)];exact r) fun c xs r=>by rw [bY (ntup c xs r)];exact r
   rcases hc with rfl | hc
   ·exact hbe
   ·rintro rfl
    rcases he with z | z
    ·exact nown c b hc z
    ·rw [hc] at z;cases z;exact hb rfl
end
structure Un(fs ex:List Addr)(H H':Hp)(h h':Heap):Prop where
 keep:∀ b o,h.get? b=some o->H b=none->b∉fs->b∉ex->h'.get? b=some o
 slot:∀ b o,h.get? b=some o->H b=none->b∈fs->b∉ex->∃ sl,h'.get? b=some { o with slots:=sl }
 free:∀ b o,h.get? b=some o->H b=none->b∉ex->H' b=none
 there:∀ b o,h.get? b=some o->b∉ex->∃ o',h'.get? b=some o'
 tups:∀ b xs,H b=some (.tup xs)->H' b=some (.tup xs)
 frzs:∀ b o u,H b=some (.frz o u)->H' b=some (.frz o u)
 tbls:∀ b ps,H b=some (.tbl ps)->∃ more,H' b=some (.tbl (ps++more))
section
variable {fs fs' ex ex':List Addr}{H H1 H2:Hp}{h h1 h2 h':Heap}{a x e:Addr}{o:HO}
theorem Un.any(u:Un fs ex H H1 h h1){b:Addr}{ob:Obj}(q:h.get? b=some ob)(n:H b=none)(hx:b∉ex):∃ sl,h1.get? b=some { ob with slots:=sl }:=by
 by_cases hb:b∈fs
 ·exact u.slot b ob q n hb hx
 ·exact ⟨ob.slots,u.keep b ob q n hb hx⟩
theorem Un.kept(k:∀ b u,h.get? b=some u->h'.get? b=some u):Un fs ex H H h h' :=
 ⟨fun b ob q _ _ _=>k b ob q,fun b ob q _ _ _=>⟨ob.slots,k b ob q⟩,fun _ _ _ n _=>n,fun b ob q _=>⟨ob,k b ob q⟩,fun _ _ q=>q,fun _ _ _ q=>q,fun _ ps q=>⟨#[],by rw [q];simp⟩⟩
theorem Un.refl:Un fs ex H H h h:=Un.kept fun _ _ q=>q
theorem Un.laid(k:∀ b u,h.get? b=some u->h'.get? b=some u)(hp:h.objs.size<=a)(hn:H a=none):Un fs ex H (upd H a o) h h' where
 keep:=fun b u q _ _ _=>k b u q
 slot:=fun b u q _ _ _=>⟨u.slots,k b u q⟩
 free:=fun b u q n _=>by rw [bY (aW2 (aW7 (aWi q) hp))];exact n
 there:=fun b u q _=>⟨u,k b u q⟩
 tups:=fun b xs q=>by rw [bY (eB q hn)];exact q
 frzs:=fun b u xs q=>by rw [bY (eB q hn)];exact q
 tbls:=fun b ps q=>⟨#[],by rw [bY (eB q hn),q];simp⟩
theorem Un.write(mu:Mut (H x))(he:e=x\/H e=some (.own x))(k:∀ b u,b≠e->h.get? b=some u->h'.get? b=some u)(heo:∃ u,h'.get? e=some u):Un fs ex H (upd H x o) h h':=by
 have hx:∀ b,H b=none->b≠x:=fun b n z=>by subst z;rw [n] at mu;exact mu
 have hb:∀ b,H b=none->b≠e:=fun b n z=>by
  subst z
  rcases he with r | r
  ·exact hx b n r
  ·rw [n] at r;cases r
 have hm:∀ b u,H b=some u->¬ Mut (some u)->b≠x:=fun b u q nm z=>by subst z;rw [q] at mu;exact nm mu
 refine ⟨fun b u q n _ _=>k b u (hb b n) q,fun b u q n _ _=>⟨u.slots,k b u (hb b n) q⟩,fun b u q n _=>by rw [bY (hx b n)];exact n,fun b u q _=>?_,
  fun b xs q=>by rw [bY (hm b _ q fun z=>z)];exact q,fun b u xs q=>by rw [bY (hm b _ q fun z=>z)];exact q,fun b ps q=>⟨#[],by rw [bY (hm b _ q fun z=>z),q];simp⟩⟩
 by_cases hbe:b=e
 ·subst hbe;exact heo
 ·exact ⟨u,k b u hbe q⟩
end
def trk(h:Heap)(H:Hp):List Addr:=(List.range h.objs.size).filter fun a=>(H a).isSome
def aJm(h:Heap)(H:Hp):Heap:=PySem.W.hideAll h (trk h H)
theorem aEn(h:Heap)(H:Hp):(aJm h H).objs.size=h.objs.size:=PySem.W.hideAll_size _ _
theorem aI0{h:Heap}{H:Hp}{b:Addr}{o:Obj}(e:h.get? b=some o)(n:H b=none):(aJm h H).get? b=some o :=
 aZa _ e fun hm=>by
  have q:(H b).isSome=true:=(aYc.mp hm).2
  rw [n] at q;simp at q
theorem aNp{h:Heap}{H:Hp}{b:Addr}{o:Obj}(e:(aJm h H).get? b=some o):h.get? b=some o/\H b=none:=by
 have e':h.get? b=some o:=PySem.W.of_hideAll (trk h H) e
 refine ⟨e',?_⟩
 cases q:H b with
 | none=>rfl
 | some x =>
  have hm:b∈trk h H:=aYc.mpr ⟨aXw.mpr (aWi e'),by simp [q]⟩
  have z:(aJm h H).get? b=none:=PySem.W.hideAll_none (trk h H) hm
  rw [z] at e;cases e
def aO2(g h:Heap)(L:Addr):List (Addr×Obj):=(List.range h.objs.size).filterMap fun a=>if a=L\/(g.get? a).isSome=true then none else (h.get? a).map fun o=>(a,o)
def rest(g h:Heap)(L d:Addr):List (Addr×Obj):=(aO2 g h L).filter fun p=>decide (p.1≠d)
structure Mod(K:aV9)(mg:Str->Option Value)(base:Heap):Prop where
 kin:K.In base
 glob:base.Ns mainGlobals mg
 blt:∃ mb,base.Ns builtinsNs mb/\∀ x:Str,x≠"__name__"->mb x=bootBuiltins x
 nolimit:base.NoLimit
structure Cx where
 prog:Program
 w:World
 K:aV9
 mg:Str->Option Value
 base:Heap
 A:Around
 N:List Str
 s₀:Shared
 H₀:Hp
 env:Env
 outer:List Env
 stack:List Env
 ex:List Addr
 fn:Str->Bool
 calm:Bool
 pn:List (Addr×Obj)
 xe:Value->Shared->Prop
def frs(l:List Env):List Addr:=l.filterMap (·.frame)
abbrev Cx.fs(X:Cx):List Addr:=frs X.outer
def Vis(sc:Scope)(x:Str):Prop:=sc.names.lookup x=some .local\/sc.names.lookup x=some .cell\/sc.names.lookup x=some .free
def Loc(sc:Scope)(x:Str):Prop:=sc.names.lookup x=some .local\/sc.names.lookup x=some .cell
def Look(env:Env)(h:Heap)(m:Str->Option Value)(x:Str)(u:Value):Prop :=
 (env.kindOf x=some .local/\m x=some u)\/((env.kindOf x=some .cell\/env.kindOf x=some .free)/\∃ c,env.cells.lookup x=some c/\h.IsCell c (some u))
structure Cx.Ok(X:Cx):Prop where
 mod:Mod X.K X.mg X.base
 kind:X.env.scope.kind=.function
 glob:X.env.globals=mainGlobals
 blt:X.env.builtins=builtinsNs
 above:X.s₀.heap.objs.size<=X.env.locals
 inj:∀ x y c,X.env.cells.lookup x=some c->X.env.cells.lookup y=some c->x=y
 has:∀ x,(X.env.kindOf x=some .cell\/X.env.kindOf x=some .free)->∃ c,X.env.cells.lookup x=some c
 cab:∀ x c,X.fn x=true->X.env.cells.lookup x=some c->X.s₀.heap.objs.size<=c
 hd:X.calm=true->X.A.handled=none
 frames:X.A.frames=some X.stack
 stk:X.stack=X.outer\/(X.stack=X.env :: X.outer/\X.env.frame=some X.env.locals)
 exf:∀ b∈X.ex,b≠X.env.locals/\∀ x c,X.env.cells.lookup x=some c->c≠b
 bs:∀ b o,X.base.get? b=some o->X.s₀.heap.get? b=some o/\X.H₀ b=none
 bsz:X.base.objs.size<=X.s₀.heap.objs.size
 noex:∀ b o,X.base.get? b=some o->b∉X.ex
 exfs:∀ b∈X.ex,b∉X.fs
 funs:X.s₀.heap.FunFrames X.base X.outer
 frf:∀ b∈X.fs,X.H₀ b=none
structure Inv(X:Cx)(pins:List (Addr×Obj))(σ:List (Option V))(H:Hp)(s:Shared):Prop where
 ok:X.Ok
 os:s.os=X.s₀.os
 bare:AllBare s.gens
 base:Un X.fs X.ex X.H₀ H X.s₀.heap s.heap
 loc:∃ m,s.heap.Ns X.env.locals m/\∀ (i:Nat) (x:Str) (v:V),X.N[i]? = some x->σ[i]? = some (some v)->Vis X.env.scope x->∃ u,RelV v u/\Look X.env s.heap m x u
 cell:∀ x c,X.env.cells.lookup x=some c->∃ v,s.heap.IsCell c v
 free:H X.env.locals=none
 freeC:∀ x c,X.env.cells.lookup x=some c->H c=none
 pin:∀ p∈X.pn++pins,s.heap.get? p.1=some p.2/\H p.1=none/\p.1≠X.env.locals/\p.1∉X.fs/\∀ v,p.2.data≠.cell v
 hok:HOk X.prog X.w H s.heap
 len:σ.length=X.N.length
section
variable {X:Cx}{pins:List (Addr×Obj)}{σ:List (Option V)}{H H':Hp}{s:Shared}{h':Heap}
theorem Cx.Ok.nofr(ok:X.Ok){b:Addr}{o:Obj}(e:X.base.get? b=some o):b∉X.fs:=fun hb=>by
 have:=(ok.funs.mem hb).1
 rw [e] at this;cases this
theorem Inv.bs(I:Inv X pins σ H s):∀ b o,X.base.get? b=some o->s.heap.get? b=some o/\H b=none:=fun b o e =>
 ⟨I.base.keep b o (I.ok.bs b o e).1 (I.ok.bs b o e).2 (I.ok.nofr e) (I.ok.noex b o e),I.base.free b o (I.ok.bs b o e).1 (I.ok.bs b o e).2 (I.ok.noex b o e)⟩
theorem Inv.bk(I:Inv X pins σ H s):∀ b o,X.base.get? b=some o->s.heap.get? b=some o:=fun b o e=>(I.bs b o e).1
theorem Inv.mod(I:Inv X pins σ H s):Mod X.K X.mg X.base:=I.ok.mod
theorem Inv.kIn(I:Inv X pins σ H s):X.K.In s.heap:=I.ok.mod.kin.keeps I.bk
theorem Inv.lt(I:Inv X pins σ H s):X.env.locals < s.heap.objs.size:=let ⟨_,hn,_⟩:=I.loc;hn.lt
theorem Inv.sz(I:Inv X pins σ H s):X.s₀.heap.objs.size<=s.heap.objs.size:=aXk I.ok.above (aZr I.lt)
theorem Inv.nofs(I:Inv X pins σ H s){a:Addr}(h:s.heap.objs.size<=a):a∉X.fs:=fun hb=>by
 obtain ⟨_,o,ho,_⟩:=I.ok.funs.mem hb
 exact absurd (aW7 (aWi ho) (aXk I.sz h)) (aXn _)
theorem Inv.cne(I:Inv X pins σ H s):∀ x c,X.env.cells.lookup x=some c->c≠X.env.locals:=fun x c e z=>by
 obtain ⟨v,o,ho,hd⟩:=I.cell x c e
 obtain ⟨m,⟨o',es,ep,ho',hd',_⟩,_⟩:=I.loc
 rw [z,ho'] at ho;cases ho;rw [hd'] at hd;cases hd
theorem Inv.funs(I:Inv X pins σ H s):s.heap.FunFrames X.base X.outer:=by
 have all:∀ (l:List Env),(∀ b∈frs l,b∈X.fs)->X.s₀.heap.FunFrames X.base l->s.heap.FunFrames X.base l:=by
  intro l
  induction l with
  | nil=>intro _ _;trivial
  | cons env r ih =>
   intro hs hl
   obtain ⟨hk,⟨L,o,hf,hn,ho,hd⟩,hr⟩:=hl
   have hL:L∈X.fs:=hs L (by unfold frs;rw [aX1,hf];exact bAo)
   obtain ⟨sl,e⟩:=I.base.slot L o ho (I.ok.frf L hL) hL fun z=>I.ok.exfs L z hL
   exact ⟨hk,⟨L,_,hf,hn,e,hd⟩,ih (fun b hb=>hs b (by unfold frs;rw [aX1,hf];exact aXy _ hb)) hr⟩
 exact all X.outer (fun _ hb=>hb) I.ok.funs
theorem Inv.stack(I:Inv X pins σ H s):s.heap.FunFrames X.base X.stack:=by
 rcases I.ok.stk with e | ⟨e,hf⟩
 ·rw [e];exact I.funs
 ·rw [e]
  obtain ⟨m,hn,_⟩:=I.loc
  refine .cons (by rw [I.ok.kind];decide) hf hn ?_ I.funs
  exact Heap.get?_none_of_le (aXk I.ok.bsz I.ok.above)
theorem Inv.stkSub(I:Inv X pins σ H s):∀ b∈frs X.stack,b∈X.env.locals :: X.fs:=fun b hb=>by
 rcases I.ok.stk with e | ⟨e,hf⟩
 ·rw [e] at hb;exact aXy _ hb
 ·rw [e] at hb
  unfold frs at hb
  rw [aX1,hf] at hb
  exact hb
theorem Inv.stkFree(I:Inv X pins σ H s):∀ b∈frs X.stack,H b=none:=fun b hb=>by
 rcases aWh.mp (I.stkSub b hb) with e | hb
 ·rw [e];exact I.free
 ·obtain ⟨_,o,ho,_⟩:=I.ok.funs.mem hb
  exact I.base.free b o ho (I.ok.frf b hb) fun z=>I.ok.exfs b z hb
theorem Inv.step{g':Array GenState}{t':Nat}{d':Drawn}{ch:List Addr}(I:Inv X pins σ H s)
  (hch:∀ b∈ch,(b∈X.ex\/X.s₀.heap.objs.size<=b)/\b≠X.env.locals/\(∀ x c,X.env.cells.lookup x=some c->c≠b)/\∀ p∈X.pn++pins,p.1≠b)
  (keep:∀ b o,b≠X.env.locals->b∉X.fs->b∉ch->s.heap.get? b=some o->H b=none->h'.get? b=some o)
  (slot:∀ b o,b≠X.env.locals->b∈X.fs->b∉ch->s.heap.get? b=some o->H b=none->∃ sl,h'.get? b=some { o with slots:=sl }) (free:∀ b o,b∉ch->s.heap.get? b=some o->H b=none->H' b=none)
  (there:∀ b o,b∉ch->s.heap.get? b=some o->∃ o',h'.get? b=some o')
  (tups:∀ b xs,H b=some (.tup xs)->H' b=some (.tup xs)) (frzs:∀ b o u,H b=some (.frz o u)->H' b=some (.frz o u)) (tbls:∀ b ps,H b=some (.tbl ps)->∃ more,H' b=some (.tbl (ps++more)))
  (ns:∀ m,s.heap.Ns X.env.locals m->h'.Ns X.env.locals m) (hok:HOk X.prog X.w H' h') (hg:AllBare g') :
  Inv X pins σ H' { s with heap:=h',gens:=g',drawn:=d',toks:=t' }:=by
 have neL:∀ b o,X.s₀.heap.get? b=some o->b≠X.env.locals:=fun b o e=>aW2 (aW7 (aWi e) I.ok.above)
 have neC:∀ b o,X.s₀.heap.get? b=some o->b∉X.ex->b∉ch:=fun b o e hx hb=>by
  rcases (hch b hb).1 with z | z
  ·exact hx z
  ·exact absurd (aW7 (aWi e) z) (aXn _)
 have cellK:∀ x c,X.env.cells.lookup x=some c->∀ v,s.heap.IsCell c v->h'.IsCell c v:=fun x c e v ⟨o,ho,hd⟩=>by
  have nch:c∉ch:=fun z=>(hch c z).2.2.1 x c e rfl
  by_cases hc:c∈X.fs
  ·obtain ⟨sl,q⟩:=slot c o (I.cne x c e) hc nch ho (I.freeC x c e)
   exact ⟨_,q,hd⟩
  ·exact ⟨o,keep c o (I.cne x c e) hc nch ho (I.freeC x c e),hd⟩
 refine ⟨I.ok,I.os,hg,⟨fun b o e n hb hx=>?_,fun b o e n hb hx=>?_,fun b o e n hx=>?_,fun b o e hx=>?_,fun b xs e=>tups b xs (I.base.tups b xs e),fun b o xs e=>frzs b o xs (I.base.frzs b o xs e),fun b ps e=>?_⟩,?_,fun x c e=>?_,?_,fun x c e=>?_,fun p hp=>?_,hok,I.len⟩
 ·exact keep b o (neL b o e) hb (neC b o e hx) (I.base.keep b o e n hb hx) (I.base.free b o e n hx)
 ·obtain ⟨sl,e1⟩:=I.base.slot b o e n hb hx
  obtain ⟨sl',e2⟩:=slot b _ (neL b o e) hb (neC b o e hx) e1 (I.base.free b o e n hx)
  exact ⟨sl',e2⟩
 ·obtain ⟨o',e1⟩:=I.base.there b o e hx
  exact free b o' (neC b o e hx) e1 (I.base.free b o e n hx)
 ·obtain ⟨o',e1⟩:=I.base.there b o e hx
  exact there b o' (neC b o e hx) e1
 ·obtain ⟨m1,e1⟩:=I.base.tbls b ps e
  obtain ⟨m2,e2⟩:=tbls b _ e1
  exact ⟨m1++m2,by rw [e2,Array.append_assoc]⟩
 ·obtain ⟨m,hn,hl⟩:=I.loc
  refine ⟨m,ns m hn,fun i x v e1 e2 e3=>?_⟩
  obtain ⟨u,r,l⟩:=hl i x v e1 e2 e3
  refine ⟨u,r,?_⟩
  rcases l with l | ⟨k,c,e,z⟩
  ·exact .inl l
  ·exact .inr ⟨k,c,e,cellK x c e _ z⟩
 ·obtain ⟨v,z⟩:=I.cell x c e
  exact ⟨v,cellK x c e v z⟩
 ·obtain ⟨m,⟨o,_,_,ho,_⟩,_⟩:=I.loc
  exact free _ o (fun z=>(hch _ z).2.1 rfl) ho I.free
 ·obtain ⟨v,o,ho,hd⟩:=I.cell x c e
  exact free c o (fun z=>(hch c z).2.2.1 x c e rfl) ho (I.freeC x c e)
 ·obtain ⟨e,n,ne,nf,d⟩:=I.pin p hp
  have nch:p.1∉ch:=fun z=>(hch p.1 z).2.2.2 p hp rfl
  exact ⟨keep p.1 p.2 ne nf nch e n,free p.1 p.2 nch e n,ne,nf,d⟩
theorem Inv.un{t':Nat}(I:Inv X pins σ H s)(u:Un X.fs [] H H' s.heap h')(hok:HOk X.prog X.w H' h'):Inv X pins σ H' { s with heap:=h',toks:=t' }:=by
 obtain ⟨m,⟨o,es,ep,ho,r⟩,_⟩:=id I.loc
 obtain ⟨sl,hL⟩:=u.any ho I.free (by simp)
 exact I.step (g':=s.gens) (d':=s.drawn) (ch:=[]) (fun _ z=>nomatch z) (fun b o _ hb _ e n=>u.keep b o e n hb (by simp)) (fun b o _ hb _ e n=>u.slot b o e n hb (by simp)) (fun b o _ e n=>u.free b o e n (by simp)) (fun b o _ e=>u.there b o e (by simp)) u.tups u.frzs u.tbls (fun m' hm=>by
  obtain ⟨o',es',ep',ho',r'⟩:=hm
  rw [ho] at ho';cases ho'
  exact ⟨_,es',ep',hL,r'⟩) hok I.bare
theorem Inv.call{g':Array GenState}{t':Nat}{d':Drawn}{ch:List Addr}(I:Inv X pins σ H s)(u:Un (frs X.stack) ch H H' s.heap h')(hok:HOk X.prog X.w H' h')(hg:AllBare g')
  (hch:∀ b∈ch,(b∈X.ex\/X.s₀.heap.objs.size<=b)/\b≠X.env.locals/\(∀ x c,X.env.cells.lookup x=some c->c≠b)/\∀ p∈X.pn++pins,p.1≠b) :
  Inv X pins σ H' { s with heap:=h',gens:=g',drawn:=d',toks:=t' }:=by
 obtain ⟨m,⟨o,es,ep,ho,r⟩,_⟩:=id I.loc
 obtain ⟨sl,hL⟩:=u.any ho I.free fun z=>(hch _ z).2.1 rfl
 exact I.step (ch:=ch) hch (fun b o hL hb hc e n=>u.keep b o e n (fun z=>(aWh.mp (I.stkSub b z)).elim hL hb) hc) (fun b o _ _ hc e n=>u.any e n hc) (fun b o hc e n=>u.free b o e n hc) (fun b o hc e=>u.there b o e hc) u.tups u.frzs u.tbls (fun m' hm=>by
  obtain ⟨o',es',ep',ho',r'⟩:=hm
  rw [ho] at ho';cases ho'
  exact ⟨_,es',ep',hL,r'⟩) hok hg
theorem Inv.turned{t':Nat}{it:Addr}(I:Inv X pins σ H s)(k:∀ b o,b≠it->s.heap.get? b=some o->h'.get? b=some o)(hn:H it=none)(hL:it≠X.env.locals)
  (h1:it∈X.ex\/X.s₀.heap.objs.size<=it) (h2:∀ x c,X.env.cells.lookup x=some c->c≠it) (h3:∀ p∈X.pn++pins,p.1≠it):Inv X pins σ H { s with heap:=h',toks:=t' }:=by
 have nit:∀ b u,H b=some u->b≠it:=fun b u e z=>by rw [z,hn] at e;cases e
 refine I.step (g':=s.gens) (d':=s.drawn) (ch:=[it]) (fun b hb=>?_) (fun b o _ _ hc e _=>k b o (fun z=>hc (by simp [z])) e) (fun b o _ _ hc e _=>⟨o.slots,k b o (fun z=>hc (by simp [z])) e⟩) (fun _ _ _ _ n=>n)
  (fun b o hc e=>⟨o,k b o (fun z=>hc (by simp [z])) e⟩) (fun _ _ e=>e) (fun _ _ _ e=>e) (fun b ps e=>⟨#[],by rw [e];simp⟩) (fun m hm=>?_) (fun b u e=>?_) I.bare
 ·have e:b=it:=by simpa using hb
  subst e
  exact ⟨h1,hL,h2,h3⟩
 ·obtain ⟨o,es,ep,ho,r⟩:=hm
  exact ⟨o,es,ep,k _ o (bB2 hL) ho,r⟩
 ·refine (I.hok b u e).stay (fun c v hc q=>k c v ?_ q) (fun _ q=>q) fun _ _ q=>q
  rcases hc with z | z
  ·rw [z];exact nit b u e
  ·exact nit c _ z
theorem Inv.tok(I:Inv X pins σ H s)(t:Nat):Inv X pins σ H { s with toks:=t }:=I.un (h':=s.heap) (t':=t) Un.refl I.hok
theorem Inv.kept{t':Nat}(I:Inv X pins σ H s)(k:∀ b u,s.heap.get? b=some u->h'.get? b=some u):Inv X pins σ H { s with heap:=h',toks:=t' }:=I.un (Un.kept k) (I.hok.kept k)
theorem Inv.laid{a:Addr}{o:HO}{t':Nat}(I:Inv X pins σ H s)(k:∀ b u,s.heap.get? b=some u->h'.get? b=some u)(hp:s.heap.objs.size<=a)(new:ObjOk X.prog X.w (upd H a o) h' a o) :
  Inv X pins σ (upd H a o) { s with heap:=h',toks:=t' }:=I.un (Un.laid k hp (I.hok.fresh hp)) (I.hok.laid k hp new)
theorem Inv.write{x e:Addr}{o:HO}{t':Nat}(I:Inv X pins σ H s)(mu:Mut (H x))(he:e=x\/H e=some (.own x))(k:∀ b u,b≠e->s.heap.get? b=some u->h'.get? b=some u)(heo:∃ u,h'.get? e=some u)
  (new:ObjOk X.prog X.w (upd H x o) h' x o):Inv X pins σ (upd H x o) { s with heap:=h',toks:=t' }:=I.un (Un.write mu he k heo) (I.hok.write mu he k heo new)
theorem Inv.weak{σ':List (Option V)}(I:Inv X pins σ H s)(hl:σ'.length=σ.length)(w:∀ (i:Nat) v,σ'[i]? = some (some v)->σ[i]? = some (some v)):Inv X pins σ' H s :=
 ⟨I.ok,I.os,I.bare,I.base,let ⟨m,hn,hl'⟩:=I.loc;⟨m,hn,fun i x v e1 e2 e3=>hl' i x v e1 (w i v e2) e3⟩,I.cell,I.free,I.freeC,I.pin,I.hok,hl.trans I.len⟩
theorem Inv.pins_of{pins':List (Addr×Obj)}(I:Inv X pins σ H s)(h:∀ p∈pins',s.heap.get? p.1=some p.2/\H p.1=none/\p.1≠X.env.locals/\p.1∉X.fs/\∀ v,p.2.data≠.cell v):Inv X pins' σ H s :=
 ⟨I.ok,I.os,I.bare,I.base,I.loc,I.cell,I.free,I.freeC,fun p hp=>(aXx.mp hp).elim (fun z=>I.pin p (bAc _ z)) (h p),I.hok,I.len⟩
theorem zS{N:List Str}(hN:N.Nodup){i j:Nat}{x:Str}(a:N[i]? = some x)(b:N[j]? = some x):i=j:=by
 obtain ⟨h1,e1⟩:=aXa.mp a
 obtain ⟨h2,e2⟩:=aXa.mp b
 exact (List.getElem_inj hN).mp (e1.trans e2.symm)
theorem aEa{M:Model}{A:Around}{E:Value->Shared->Prop}{i:Nat}{x:Str}{v:V}{u:Value}{Q:Unit->Shared->Prop}(I:Inv X pins σ H s)(hN:X.N.Nodup)(hi:X.N[i]? = some x)(hx:Loc X.env.scope x)(r:RelV v u)
  (h:∀ s',Inv X pins (σ.set i (some v)) H s'->(∃ a,Heap.SameBut a s.heap s'.heap/\(a=X.env.locals\/X.env.cells.lookup x=some a))->Q () s') (hf:X.fn x=true\/X.env.scope.names.lookup x=some .local:=by first | exact .inl rfl | exact .inr rfl | assumption):wpAny M A (storeName X.env x u) Q E s:=by
 obtain ⟨m,hn,hl⟩:=id I.loc
 have hcls:(X.env.scope.kind == .class || (X.env.scope.kind == .module && X.env.locals != X.env.globals))=false:=by rw [I.ok.kind];rfl
 have hiσ:i < σ.length:=by rw [I.len];exact (aXa.mp hi).1
 have cne:=I.cne
 have tracked:∀ {a:Addr} {h':Heap},(∃ o,s.heap.get? a=some o/\H a=none)->Heap.SameBut a s.heap h'->HOk X.prog X.w H h':=fun {a h'} ha hs b ob e=>by
  obtain ⟨_,_,hfree⟩:=ha
  refine (I.hok b ob e).stay (fun c w' hc q=>(hs.2 c ?_).trans q) (fun _ q=>q) fun _ _ q=>q
  rintro rfl
  rcases hc with rfl | hc
  ·rw [hfree] at e;cases e
  ·rw [hfree] at hc;cases hc
 rcases hx with hk | hk
 ·refine wpAny_storeName_local hk hn (fun h' hn' hs=>?_) hcls
  obtain ⟨oL,_,_,hoL,_⟩:=id hn
  refine h _ ⟨I.ok,I.os,I.bare,⟨fun b o e n hb hx=>?_,fun b o e n hb hx=>?_,I.base.free,fun b o e hx=>?_,I.base.tups,I.base.frzs,I.base.tbls⟩,⟨_,hn',fun j y v' e1 e2 e3=>?_⟩,fun y c e=>?_,I.free,I.freeC,fun p hp=>?_,tracked ⟨oL,hoL,I.free⟩ hs,by simpa using I.len⟩ ⟨_,hs,.inl rfl⟩
  ·exact (hs.2 b (aW2 (aW7 (aWi e) I.ok.above))).trans (I.base.keep b o e n hb hx)
  ·obtain ⟨sl,e1⟩:=I.base.slot b o e n hb hx
   exact ⟨sl,(hs.2 b (aW2 (aW7 (aWi e) I.ok.above))).trans e1⟩
  ·obtain ⟨o',e1⟩:=I.base.there b o e hx
   exact ⟨o',(hs.2 b (aW2 (aW7 (aWi e) I.ok.above))).trans e1⟩
  ·by_cases hj:j=i
   ·subst hj
    rw [hi] at e1;cases e1
    rw [bAy hiσ] at e2
    cases e2
    exact ⟨u,r,.inl ⟨hk,by simp⟩⟩
   ·rw [bBi (bB2 hj)] at e2
    obtain ⟨u',r',q⟩:=hl j y v' e1 e2 e3
    refine ⟨u',r',?_⟩
    rcases q with ⟨k,e⟩ | ⟨k,c,e,z⟩
    ·refine .inl ⟨k,?_⟩
     have:y≠x:=fun e=>hj (zS hN e1 (e▸hi))
     simp [this,e]
    ·exact .inr ⟨k,c,e,z.sameBut hs (cne y c e)⟩
  ·obtain ⟨w',z⟩:=I.cell y c e
   exact ⟨w',z.sameBut hs (cne y c e)⟩
  ·obtain ⟨e,n,ne,nf,d⟩:=I.pin p hp
   exact ⟨(hs.2 p.1 ne).trans e,n,ne,nf,d⟩
 ·have hfn:X.fn x=true:=by
   rcases hf with z | z
   ·exact z
   ·rw [z] at hk;cases hk
  obtain ⟨c,hc⟩:=I.ok.has x (.inl hk)
  obtain ⟨w',z⟩:=I.cell x c hc
  refine wpAny_storeName_cell I.ok.kind hk hc z (fun h' hc' hs=>?_)
  obtain ⟨oc,hoc,hocd⟩:=id z
  refine h { s with heap:=h' } ⟨I.ok,I.os,I.bare,⟨fun b o e n hb hx=>?_,fun b o e n hb hx=>?_,I.base.free,fun b o e hx=>?_,I.base.tups,I.base.frzs,I.base.tbls⟩,⟨m,hn.sameBut hs (bB2 (cne x c hc)),fun j y v' e1 e2 e3=>?_⟩,fun y c' e=>?_,I.free,I.freeC,fun p hp=>?_,tracked ⟨oc,hoc,I.freeC x c hc⟩ hs,by simpa using I.len⟩ ⟨c,hs,.inr hc⟩
  ·exact (hs.2 b (aW2 (aW7 (aWi e) (I.ok.cab x c hfn hc)))).trans (I.base.keep b o e n hb hx)
  ·obtain ⟨sl,e1⟩:=I.base.slot b o e n hb hx
   exact ⟨sl,(hs.2 b (aW2 (aW7 (aWi e) (I.ok.cab x c hfn hc)))).trans e1⟩
  ·obtain ⟨o',e1⟩:=I.base.there b o e hx
   exact ⟨o',(hs.2 b (aW2 (aW7 (aWi e) (I.ok.cab x c hfn hc)))).trans e1⟩
  ·by_cases hj:j=i
   ·subst hj
    rw [hi] at e1;cases e1
    rw [bAy hiσ] at e2
    cases e2
    exact ⟨u,r,.inr ⟨.inl hk,c,hc,hc'⟩⟩
   ·rw [bBi (bB2 hj)] at e2
    obtain ⟨u',r',q⟩:=hl j y v' e1 e2 e3
    refine ⟨u',r',?_⟩
    rcases q with q | ⟨k,c',e,z'⟩
    ·exact .inl q
    ·refine .inr ⟨k,c',e,z'.sameBut hs ?_⟩
     rintro rfl
     exact hj (zS hN e1 (I.ok.inj _ _ _ e hc▸hi))
  ·by_cases hcc:c'=c
   ·subst hcc;exact ⟨_,hc'⟩
   ·obtain ⟨w2,z2⟩:=I.cell y c' e
    exact ⟨w2,z2.sameBut hs hcc⟩
  ·obtain ⟨e,n,ne,nf,d⟩:=I.pin p hp
   refine ⟨(hs.2 p.1 ?_).trans e,n,ne,nf,d⟩
   intro q
   rw [q,hoc] at e
   have q':oc=p.2:=aWx e
   exact d w' (by rw [<- q'];exact hocd)
theorem pH{M:Model}{A:Around}{E:Value->Shared->Prop}{i:Nat}{x:Str}{v:V}{u:Value}{Q:Unit->Shared->Prop}(I:Inv X pins σ H s)(hN:X.N.Nodup)(hi:X.N[i]? = some x)(hx:Loc X.env.scope x)(r:RelV v u)
  (h:∀ s',Inv X pins (σ.set i (some v)) H s'->Q () s') (hf:X.fn x=true\/X.env.scope.names.lookup x=some .local:=by first | exact .inl rfl | exact .inr rfl | assumption):wpAny M A (storeName X.env x u) Q E s :=
 aEa I hN hi hx r (fun s' I' _=>h s' I') hf
theorem Inv.call'{s':Shared}{ch:List Addr}(I:Inv X pins σ H s)(ho:s'.os=s.os)(u:Un (frs X.stack) ch H H' s.heap s'.heap)(hok:HOk X.prog X.w H' s'.heap)(hg:AllBare s'.gens)
  (hch:∀ b∈ch,(b∈X.ex\/X.s₀.heap.objs.size<=b)/\b≠X.env.locals/\(∀ x c,X.env.cells.lookup x=some c->c≠b)/\∀ p∈X.pn++pins,p.1≠b):Inv X pins σ H' s':=by
 obtain ⟨h',g',d',t',o'⟩:=s'
 have e:o'=s.os:=ho
 subst e
 exact I.call (g':=g') (t':=t') (d':=d') u hok hg hch
end
abbrev XK:=Value->Option Addr->Hp->Prop
abbrev St:=List (Option V)
abbrev VK:=V->Hp->Prop
abbrev TE:=St->Hp->VK->Prop
abbrev TT:=St->Hp->(Bool->Hp->Prop)->Prop
abbrev TA:=St->Hp->(List V->Hp->Prop)->Prop
structure Ends where
 nx:St->Hp->Prop
 rt:VK
 bk:St->Hp->Prop:=fun _ _=>False
 ct:St->Hp->Prop:=fun _ _=>False
abbrev TS:=Ends->St->Hp->Prop
def EP(X:Cx)(pins:List (Addr×Obj))(σ:St)(Q:VK)(u:Value)(s':Shared):Prop:=∃ v H',Inv X pins σ H' s'/\RelV v u/\Q v H'
def TP(X:Cx)(pins:List (Addr×Obj))(σ:St)(Q:Bool->Hp->Prop)(b:Bool)(s':Shared):Prop:=∃ H',Inv X pins σ H' s'/\Q b H'
def AP(X:Cx)(pins:List (Addr×Obj))(σ:St)(Q:List V->Hp->Prop)(us:List Value)(s':Shared):Prop:=∃ vs H',Inv X pins σ H' s'/\Vals vs us/\Q vs H'
def SP(X:Cx)(pins:List (Addr×Obj))(D:Ends)(f:Flow)(s':Shared):Prop :=
 match f with
 | .next=>∃ σ' H',Inv X pins σ' H' s'/\D.nx σ' H'
 | .brk=>∃ σ' H',Inv X pins σ' H' s'/\D.bk σ' H'
 | .cont=>∃ σ' H',Inv X pins σ' H' s'/\D.ct σ' H'
 | .ret u=>∃ v σ' H',Inv X pins σ' H' s'/\RelV v u/\D.rt v H'
def PE(X:Cx)(e:Expr)(t:TE):Prop :=
 ∀ (pins:List (Addr×Obj)) (s:Shared) (σ:St) (H:Hp) (Q:VK),Inv X pins σ H s->t σ H Q->wpAny (model X.prog X.w) X.A (eval e X.env) (EP X pins σ Q) X.xe s
def PT(X:Cx)(e:Expr)(t:TT):Prop :=
 ∀ (pins:List (Addr×Obj)) (s:Shared) (σ:St) (H:Hp) (Q:Bool->Hp->Prop),Inv X pins σ H s->t σ H Q->wpAny (model X.prog X.w) X.A (isTrue e X.env (eval e X.env)) (TP X pins σ Q) X.xe s
def PW(X:Cx)(e:Expr)(t:TT):Prop :=
 ∀ (whole:Sem Value) (pins:List (Addr×Obj)) (s:Shared) (σ:St) (H:Hp) (Q:Bool->Hp->Prop),Inv X pins σ H s->t σ H Q->wpAny (model X.prog X.w) X.A (isTrue e X.env whole) (TP X pins σ Q) X.xe s
def PA(X:Cx)(es:List Expr)(t:TA):Prop :=
 ∀ (pos:Pos) (pins:List (Addr×Obj)) (s:Shared) (σ:St) (H:Hp) (Q:List V->Hp->Prop),Inv X pins σ H s->t σ H Q->wpAny (model X.prog X.w) X.A (spliced (backTo pos (starEach es X.env))) (AP X pins σ Q) X.xe s
def PS(X:Cx)(st:Stmt)(t:TS):Prop :=
 ∀ (pins:List (Addr×Obj)) (s:Shared) (σ:St) (H:Hp) (D:Ends),Inv X pins σ H s->t D σ H->wpAny (model X.prog X.w) X.A (exec st X.env) (SP X pins D) X.xe s
def PSs(X:Cx)(st:List Stmt)(t:TS):Prop :=
 ∀ (pins:List (Addr×Obj)) (s:Shared) (σ:St) (H:Hp) (D:Ends),Inv X pins σ H s->t D σ H->wpAny (model X.prog X.w) X.A (execs st X.env) (SP X pins D) X.xe s
theorem thn{α:Type}{t:Sem α}{Q Q':α->Shared->Prop}{M:Model}{A:Around}{E:Value->Shared->Prop}{s:Shared}(h:wpAny M A t Q E s)(hQ:∀ a s,Q a s->Q' a s):wpAny M A t Q' E s:=aX6 h hQ fun _ _ x=>x
section
variable {X:Cx}
def aLc(i:Nat):TE:=fun σ H Q=>∃ v,σ[i]? = some (some v)/\Q v H
def tC(v:V):TE:=fun _ H Q=>Q v H
theorem aKu{i:Nat}{x:Str}{pos:Pos}(hN:X.N[i]? = some x)(hv:Vis X.env.scope x)(hd:(x == ("__debug__" : Str))=false:=by decide)(hcd:(x == ("__classdict__" : Str))=false:=by decide):PE X (.Name x pos) (aLc i):=by
 intro pins s σ H Q I h
 obtain ⟨v,e,h⟩:=h
 obtain ⟨m,hn,hl⟩:=I.loc
 obtain ⟨u,r,l⟩:=hl i x v hN e hv
 have fin:EP X pins σ Q u s:=⟨v,H,I,r,h⟩
 rcases l with ⟨hk,hm⟩ | ⟨hk,c,hc,hcell⟩
 ·exact wpAny_Name (wpAny_loadName_local I.ok.kind hk hn hm fin) hd
 ·rcases hk with hk | hk
  ·exact wpAny_Name (wpAny_loadName_cell I.ok.kind hk hc hcell fin) hd
  ·exact wpAny_Name (wpAny_loadName_free I.ok.kind hk hc hcell fin hcd) hd
theorem aSm{i j pos}:PE X (.Constant (.int i) j pos) (tC (.int i)):=fun _ _ _ H _ I h=>wpAny_Constant_int ⟨.int i,H,I.tok _,⟨_,rfl⟩,h⟩
theorem aSy{b j pos}:PE X (.Constant (.bool b) j pos) (tC (.bl b)):=fun _ _ _ H _ I h=>Constant_bool ⟨.bl b,H,I,rfl,h⟩
theorem aQs{j pos}:PE X (.Constant .none j pos) (tC .non):=fun _ _ _ H _ I h=>Constant_none ⟨.non,H,I,rfl,h⟩
theorem aSf{x j pos}:PE X (.Constant (.str x) j pos) (tC (.str x)):=fun _ _ _ H _ I h=>Calls.Constant_str ⟨.str x,H,I.tok _,⟨_,rfl⟩,h⟩
def Gl(X:Cx)(x:Str):Prop:=X.env.kindOf x=some .globalImplicit
theorem xY{E:Value->Shared->Prop}{pins:List (Addr×Obj)}{s:Shared}{σ:St}{H:Hp}{x:Str}{u:Value}{pos:Pos}{Q:Value->Shared->Prop}(I:Inv X pins σ H s)(hg:Gl X x)(hm:X.mg x=some u)(h:Q u s)
  (hd:(x == ("__debug__" : Str))=false:=by decide):wpAny (model X.prog X.w) X.A (eval (.Name x pos) X.env) Q E s :=
 Calls.Name_function_global I.ok.kind hg (Calls.loadGlobal_global (by rw [I.ok.glob];exact I.mod.glob.keeps I.bk) hm h) hd
theorem lW{E:Value->Shared->Prop}{pins:List (Addr×Obj)}{s:Shared}{σ:St}{H:Hp}{x:Str}{u:Value}{pos:Pos}{Q:Value->Shared->Prop}(I:Inv X pins σ H s)(hg:Gl X x)(hm:X.mg x=none)(hv:bootBuiltins x=some u)(h:Q u s)
  (hn:x≠"__name__":=by decide) (hd:(x == ("__debug__" : Str))=false:=by decide):wpAny (model X.prog X.w) X.A (eval (.Name x pos) X.env) Q E s:=by
 obtain ⟨mb,h1,h2⟩:=I.mod.blt
 exact Calls.Name_function_global I.ok.kind hg (Calls.loadGlobal_builtin (by rw [I.ok.glob];exact I.mod.glob.keeps I.bk) hm (by rw [I.ok.blt];exact h1.keeps I.bk) ((h2 x hn).trans hv) h) hd
theorem aOc{x:Str}{v:V}{u:Value}{pos:Pos}(hg:Gl X x)(hm:X.mg x=some u)(r:RelV v u)(hd:(x == ("__debug__" : Str))=false:=by decide):PE X (.Name x pos) (tC v) :=
 fun _ _ _ H _ I h=>xY I hg hm ⟨v,H,I,r,h⟩ hd
theorem vU{x:Str}{v:V}{u:Value}{pos:Pos}(hg:Gl X x)(hm:X.mg x=none)(hv:bootBuiltins x=some u)(r:RelV v u)(hn:x≠"__name__":=by decide)(hd:(x == ("__debug__" : Str))=false:=by decide):PE X (.Name x pos) (tC v) :=
 fun _ _ _ H _ I h=>lW I hg hm hv ⟨v,H,I,r,h⟩ hn hd
variable {a b:Expr}{ta tb:TE}{pos:Pos}
def PC(X:Cx)(op:CmpOp)(a b:Expr)(t:TE):Prop :=
 ∀ (pins:List (Addr×Obj)) (s:Shared) (σ:St) (H:Hp) (Q:VK),Inv X pins σ H s->t σ H Q ->
  wpAny (model X.prog X.w) X.A (eval a X.env) (fun v s₁=>wpAny (model X.prog X.w) X.A (eval b X.env) (fun u s₂=>wpAny (model X.prog X.w) X.A (compareOp op v u) (EP X pins σ Q) X.xe s₂) X.xe s₁) X.xe s
theorem aAx(b:Expr){op:CmpOp}(h:op≠.In)(h2:op≠.NotIn):behindInMarks op b=false:=by
 have e1:(op == CmpOp.In)=false:=by cases op<;>first | rfl | exact absurd rfl h
 have e2:(op == CmpOp.NotIn)=false:=by cases op<;>first | rfl | exact absurd rfl h2
 cases b<;>simp [behindInMarks,e1,e2]
def aU5(ta:TE):TE:=fun σ H Q=>ta σ H fun x H1=>Q (.bl (decide (x=.non))) H1
def aPt(ta:TE):TE:=fun σ H Q=>ta σ H fun x H1=>Q (.bl (!decide (x=.non))) H1
theorem RelV.none_iff{x:V}{v:Value}(r:RelV x v):(v == Value.none)=decide (x=.non):=by
 cases x with
 | non=>cases r;rfl
 | bl _=>cases r;rfl
 | int _=>obtain ⟨t,rfl⟩:=r;rfl
 | str _=>obtain ⟨t,rfl⟩:=r;rfl
 | byt _=>obtain ⟨t,rfl⟩:=r;rfl
 | flt _=>obtain ⟨t,rfl⟩:=r;rfl
 | ref _=>cases r;rfl
 | ty _=>cases r;rfl
theorem aLw{j pos'}(ha:PE X a ta):PC X .Is a (.Constant .none j pos') (aU5 ta):=by
 intro pins s σ H Q I h
 refine thn (ha pins s σ H _ I h) fun v s1 ⟨x,H1,I1,r1,q1⟩=>?_
 exact Constant_none (is_none_gen ⟨.bl _,H1,I1,by rw [r1.none_iff];rfl,q1⟩)
theorem aNh{j pos'}(ha:PE X a ta):PC X .IsNot a (.Constant .none j pos') (aPt ta):=by
 intro pins s σ H Q I h
 refine thn (ha pins s σ H _ I h) fun v s1 ⟨x,H1,I1,r1,q1⟩=>?_
 exact Constant_none (isnot_none_gen ⟨.bl _,H1,I1,by rw [r1.none_iff];rfl,q1⟩)
def tB(t:TE):TT:=fun σ H Q=>t σ H fun x H1=>∃ c,x=.bl c/\Q c H1
theorem aQo{op:CmpOp}{t:TE}(h:PC X op a b t)(h1:behindInMarks op b=false:=by first | exact aAx _ (by decide) (by decide) | rfl):PE X (.Compare a [op] [b] pos) t:=fun pins s σ H Q I hw=>wpAny_Compare1 (h pins s σ H Q I hw) h1
theorem aBj{op:CmpOp}{t:TE}(h:PC X op a b t)(h1:behindInMarks op b=false:=by first | exact aAx _ (by decide) (by decide) | rfl):PT X (.Compare a [op] [b] pos) (tB t):=by
 intro pins s σ H Q I hw
 refine wpAny_isTrue_Compare1 (thn (h pins s σ H _ I hw) fun v s1 h1=>thn h1 fun u s2 h2=>thn h2 fun c s3 ⟨x,H1,I1,r1,q1⟩=>?_) h1
 obtain ⟨d,rfl,q⟩:=q1
 cases r1
 exact aY8 ⟨H1,I1,q⟩
theorem aQ4{e:Expr}{t:TE}(h:PE X e t)(he:∀ whole,isTrue e X.env whole=(do let v <- whole;standAt e.pos;holding [v] (truthy v)):=by intro _;rfl):PT X e (tB t):=by
 intro pins s σ H Q I hw
 refine isTrue_plain (thn (h pins s σ H _ I hw) fun v s1 ⟨x,H1,I1,r1,q1⟩=>?_) (he _)
 obtain ⟨d,rfl,q⟩:=q1
 cases r1
 exact aY8 ⟨H1,I1,q⟩
variable {tA tB':TT}{rest:List Expr}
def aVz(t u:TT):TT:=fun σ H Q=>t σ H fun c H1=>if c=true then u σ H1 Q else Q false H1
def tOr(t u:TT):TT:=fun σ H Q=>t σ H fun c H1=>if c=true then Q true H1 else u σ H1 Q
def aVq(t:TT):TT:=fun σ H Q=>t σ H fun c H1=>Q (!c) H1
theorem aNj(ha:PT X a tA):PW X (.BoolOp .And [a] pos) tA:=by
 intro wh pins s σ H Q I h
 refine isTrue_and (thn (ha pins s σ H Q I h) fun c s1 e=>?_)
 cases c with
 | true=>exact isTrue_and_nil e
 | false=>exact e
theorem aP5(ha:PT X a tA):PW X (.BoolOp .Or [a] pos) tA:=by
 intro wh pins s σ H Q I h
 refine isTrue_or (thn (ha pins s σ H Q I h) fun c s1 e=>?_)
 cases c with
 | false=>exact isTrue_or_nil e
 | true=>exact e
theorem aQy(ha:PT X a tA)(hb:PW X (.BoolOp .And (b :: rest) pos) tB'):PW X (.BoolOp .And (a :: b :: rest) pos) (aVz tA tB'):=by
 intro wh pins s σ H Q I h
 refine isTrue_and (thn (ha pins s σ H _ I h) fun c s1 ⟨H1,I1,q1⟩=>?_)
 cases c with
 | true=>exact hb wh pins s1 σ H1 Q I1 q1
 | false=>exact ⟨H1,I1,q1⟩
theorem aTa(ha:PT X a tA)(hb:PW X (.BoolOp .Or (b :: rest) pos) tB'):PW X (.BoolOp .Or (a :: b :: rest) pos) (tOr tA tB'):=by
 intro wh pins s σ H Q I h
 refine isTrue_or (thn (ha pins s σ H _ I h) fun c s1 ⟨H1,I1,q1⟩=>?_)
 cases c with
 | true=>exact ⟨H1,I1,q1⟩
 | false=>exact hb wh pins s1 σ H1 Q I1 q1
theorem aPl(ha:PT X a tA):PT X (.UnaryOp .Not a pos) (aVq tA):=by
 intro pins s σ H Q I h
 exact isTrue_not (ha pins s σ H (fun c H1=>Q (!c) H1) I h)
def aUr(ta tb:TE):TE:=fun σ H Q=>ta σ H fun x H1=>∃ c,x=.bl c/\if c=true then tb σ H1 Q else Q (.bl false) H1
def aVp(ta tb:TE):TE:=fun σ H Q=>ta σ H fun x H1=>∃ c,x=.bl c/\if c=true then Q (.bl true) H1 else tb σ H1 Q
def aUv(ta:TE):TE:=fun σ H Q=>ta σ H fun x H1=>∃ c,x=.bl c/\Q (.bl (!c)) H1
theorem aPn{op}{t:TE}(h:PE X a t):PE X (.BoolOp op [a] pos) t:=fun pins s σ H Q I hw=>BoolOp_one (h pins s σ H Q I hw)
theorem aRy(ha:PE X a ta)(hb:PE X (.BoolOp .And (b :: rest) pos) tb):PE X (.BoolOp .And (a :: b :: rest) pos) (aUr ta tb):=by
 intro pins s σ H Q I h
 refine BoolOp_and (thn (ha pins s σ H _ I h) fun v s1 ⟨x,H1,I1,r1,q1⟩=>?_)
 obtain ⟨c,rfl,q1⟩:=q1
 cases r1
 refine aY8 ?_
 cases c with
 | true=>exact hb pins s1 σ H1 Q I1 q1
 | false=>exact ⟨.bl false,H1,I1,rfl,q1⟩
theorem aTn(ha:PE X a ta)(hb:PE X (.BoolOp .Or (b :: rest) pos) tb):PE X (.BoolOp .Or (a :: b :: rest) pos) (aVp ta tb):=by
 intro pins s σ H Q I h
 refine BoolOp_or (thn (ha pins s σ H _ I h) fun v s1 ⟨x,H1,I1,r1,q1⟩=>?_)
 obtain ⟨c,rfl,q1⟩:=q1
 cases r1
 refine aY8 ?_
 cases c with
 | false=>exact hb pins s1 σ H1 Q I1 q1
 | true=>exact ⟨.bl true,H1,I1,rfl,q1⟩
theorem aR3(ha:PE X a ta):PE X (.UnaryOp .Not a pos) (aUv ta):=by
 intro pins s σ H Q I h
 refine UnaryOp_ (thn (ha pins s σ H _ I h) fun v s1 ⟨x,H1,I1,r1,q1⟩=>?_)
 obtain ⟨c,rfl,q1⟩:=q1
 cases r1
 exact not_of (aY8 ⟨.bl (!c),H1,I1,rfl,q1⟩)
end
def SqL(K:aV9)(H:Hp)(a:Addr)(xs:List V):Prop :=
 Rd H a (.lst xs) \/
  ∃ (o:Obj) (its:Array Value) (n:Nat),K.lookup a=some o/\o.cls=.type "list"/\o.dict=none/\o.data=.seq its n/\its.size<=sizeLine/\Vals xs its.toList
def SqT(K:aV9)(H:Hp)(a:Addr)(xs:List V):Prop :=
 Rd H a (.tup xs) \/
  ∃ (o:Obj) (its:Array Value) (n:Nat),K.lookup a=some o/\o.cls=.type "tuple"/\o.data=.seq its n/\its.size<=sizeLine/\Vals xs its.toList
def aVw:Value->Option V
 | .none=>some .non
 | .bool b=>some (.bl b)
 | .int i _=>some (.int i)
 | .str x _=>some (.str x)
 | .bytes b _=>some (.byt b)
 | .float b _=>some (.flt b)
 | .ref a=>some (.ref a)
 | .type n=>some (.ty n)
 | _=>none
theorem RelV.abs{x:V}{u:Value}(r:RelV x u):aVw u=some x:=by
 cases x with
 | non=>cases r;rfl
 | bl _=>cases r;rfl
 | int _=>obtain ⟨t,rfl⟩:=r;rfl
 | str _=>obtain ⟨t,rfl⟩:=r;rfl
 | byt _=>obtain ⟨t,rfl⟩:=r;rfl
 | flt _=>obtain ⟨t,rfl⟩:=r;rfl
 | ref _=>cases r;rfl
 | ty _=>cases r;rfl
theorem RelV.inj{x y:V}{u:Value}(r:RelV x u)(q:RelV y u):x=y:=aWx (r.abs.symm.trans q.abs)
theorem Vals.inj:∀ {xs ys:List V} {us:List Value},Vals xs us->Vals ys us->xs=ys
 | _,_,_,.nil,.nil=>rfl
 | _,_,_,.cons r t,.cons r' t'=>by rw [r.inj r',Vals.inj t t']
section
variable {X:Cx}{pins:List (Addr×Obj)}{σ:St}{H:Hp}{s:Shared}{a:Addr}{xs ys:List V}
theorem SqL.of{K:aV9}(h:H a=some (.lst xs)):SqL K H a xs:=.inl (.inl h)
theorem SqT.of{K:aV9}(h:H a=some (.tup xs)):SqT K H a xs:=.inl (.inl h)
theorem Inv.list(I:Inv X pins σ H s)(h:SqL X.K H a xs):∃ its:List Value,Vals xs its/\PlainL s.heap a its.toArray/\xs.length<=sizeLine:=by
 rcases h with h | ⟨o,its,n,hk,hc,hd,hs,hz,r⟩
 ·obtain ⟨z,its,n,r,e⟩:=h.ok I.hok
  exact ⟨its,r,⟨_,n,e,rfl,rfl,rfl⟩,z⟩
 ·refine ⟨its.toList,r,⟨o,n,I.kIn a o hk,hc,hd,by simpa using hs⟩,?_⟩
  have e:=r.length
  simp only [aWr] at e
  omega
theorem Inv.tuple(I:Inv X pins σ H s)(h:SqT X.K H a xs):∃ its:List Value,Vals xs its/\IsTup s.heap a its.toArray/\xs.length<=sizeLine:=by
 rcases h with h | ⟨o,its,n,hk,hc,hs,hz,r⟩
 ·obtain ⟨z,its,r,p⟩:=h.ok I.hok
  exact ⟨its,r,p,z⟩
 ·refine ⟨its.toList,r,⟨o,I.kIn a o hk,hc,n,by simpa using hs⟩,?_⟩
  have e:=r.length
  simp only [aWr] at e
  omega
theorem Inv.list_inj(I:Inv X pins σ H s)(h:SqL X.K H a xs)(h':SqL X.K H a ys):xs=ys:=by
 obtain ⟨its,r,⟨o,n,e,_,_,d⟩,_⟩:=I.list h
 obtain ⟨its',r',⟨o',n',e',_,_,d'⟩,_⟩:=I.list h'
 rw [e] at e';cases e'
 rw [d] at d'
 injection d' with d1 _
 have:its=its':=by simpa using aZu Array.toList d1
 subst this
 exact r.inj r'
end
section
variable {X:Cx}{pins:List (Addr×Obj)}{σ:St}{H:Hp}{s:Shared}{E:Value->Shared->Prop}
end
section
variable {X:Cx}{st:Stmt}{rest:List Stmt}{t u:TS}{e:Expr}{te:TE}{pos:Pos}
def aUh:TS:=fun D σ H=>D.nx σ H
def aVj(t u:TS):TS:=fun D σ H=>t { D with nx:=u D } σ H
theorem aO5:PSs X [] aUh:=fun _ _ σ H _ I h=>bBr ⟨σ,H,I,h⟩
theorem aJl(h1:PS X st t)(h2:PSs X rest u):PSs X (st :: rest) (aVj t u):=by
 intro pins s σ H D I h
 refine wpAny_execs_cons (thn (h1 pins s σ H { D with nx:=u D } I h) fun f s1 q=>?_)
 cases f with
 | next =>
  obtain ⟨σ',H',I',q⟩:=q
  exact h2 pins s1 σ' H' D I' q
 | ret v=>exact q
 | brk=>exact q
 | cont=>exact q
theorem aOt(h1:PS X st t):PSs X [st] t:=by
 intro pins s σ H D I h
 refine wpAny_execs_cons (thn (h1 pins s σ H D I h) fun f s1 q=>?_)
 cases f with
 | next=>exact bBr q
 | ret v=>exact q
 | brk=>exact q
 | cont=>exact q
theorem Inv.quiet{pins:List (Addr×Obj)}{σ:St}{H:Hp}{s:Shared}(I:Inv X pins σ H s):interactive X.env=false:=by simp [interactive,I.ok.kind]
def aDx(te:TE):TS:=fun D σ H=>te σ H fun _ H1=>D.nx σ H1
theorem nX(he:PE X e te)(hs:swapsWith e none pos.line X.env=pure false:=by rfl):PS X (.Expr e pos) (aDx te):=by
 intro pins s σ H D I h
 exact wpAny_Expr_any (thn (he pins s σ H _ I h) fun v s1 ⟨x,H1,I1,r1,q1⟩=>⟨σ,H1,I1,q1⟩) I.quiet hs
def aV4(te:TE):TS:=fun D σ H=>te σ H D.rt
theorem aSb(he:PE X e te):PS X (.Return (some e) pos) (aV4 te):=by
 intro pins s σ H D I h
 exact wpAny_Return_some (thn (he pins s σ H _ I h) fun v s1 ⟨x,H1,I1,r1,q1⟩=>⟨x,σ,H1,I1,r1,q1⟩)
def aVt(c:TT)(t u:TS):TS:=fun D σ H=>c σ H fun b H1=>if b=true then t D σ H1 else u D σ H1
theorem aTv{c:Expr}{a b:List Stmt}{tc:TT}(hc:PT X c tc)(ha:PSs X a t)(hb:PSs X b u):PS X (.If c a b pos) (aVt tc t u):=by
 intro pins s σ H D I h
 refine wpAny_If (thn (hc pins s σ H _ I h) fun d s1 ⟨H1,I1,q1⟩=>?_)
 cases d with
 | true=>exact ha pins s1 σ H1 D I1 q1
 | false=>exact hb pins s1 σ H1 D I1 q1
end
abbrev TG:=V->St->Hp->(St->Hp->Prop)->Prop
abbrev TGs:=List V->St->Hp->(St->Hp->Prop)->Prop
def PG(X:Cx)(target:Expr)(t:TG):Prop :=
 ∀ (pins:List (Addr×Obj)) (s:Shared) (σ:St) (H:Hp) (v:V) (u:Value) (Q:St->Hp->Prop),Inv X pins σ H s->RelV v u->t v σ H Q ->
  wpAny (model X.prog X.w) X.A (assign target X.env u) (fun _ s'=>∃ σ' H',Inv X pins σ' H' s'/\Q σ' H') X.xe s
def PGs(X:Cx)(ts:List Expr)(t:TGs):Prop :=
 ∀ (pins:List (Addr×Obj)) (s:Shared) (σ:St) (H:Hp) (vs:List V) (us:List Value) (Q:St->Hp->Prop),Inv X pins σ H s->Vals vs us->t vs σ H Q ->
  wpAny (model X.prog X.w) X.A (assignInOrder ((assignEach ts X.env).map (·.2)) us) (fun _ s'=>∃ σ' H',Inv X pins σ' H' s'/\Q σ' H') X.xe s
abbrev aTy:=V->V->V->Hp->(Hp->Prop)->Prop
def aVi(X:Cx)(t:aTy):Prop :=
 ∀ (pins:List (Addr×Obj)) (s:Shared) (σ:St) (H:Hp) (o i v:V) (ov iv u:Value) (Q:Hp->Prop),Inv X pins σ H s->RelV o ov->RelV i iv->RelV v u->t o i v H Q ->
  wpAny (model X.prog X.w) X.A (setItem ov iv u) (fun _ s'=>∃ H',Inv X pins σ H' s'/\Q H') X.xe s
section
variable {X:Cx}{pos:Pos}
def aOj(i:Nat):TG:=fun v σ H Q=>Q (σ.set i (some v)) H
theorem aDh{i:Nat}{x:Str}(hN:X.N.Nodup)(hi:X.N[i]? = some x)(hx:Loc X.env.scope x)(hf:X.fn x=true\/X.env.scope.names.lookup x=some .local:=by first | exact .inl rfl | exact .inr rfl | assumption):PG X (.Name x pos) (aOj i):=by
 intro pins s σ H v u Q I r h
 exact wpAny_assign_Name (pH I hN hi hx r (fun s' I'=>⟨_,H,I',h⟩) hf)
def aVu:TGs:=fun vs σ H Q=>vs=[]/\Q σ H
def aS0(t:TG)(u:TGs):TGs:=fun vs σ H Q=>∃ v r,vs=v :: r/\t v σ H fun σ' H'=>u r σ' H' Q
theorem aO0:PGs X [] aVu:=by
 intro pins s σ H vs us Q I r h
 obtain ⟨e,h⟩:=h
 subst e
 cases r
 exact assignInOrder_nil ⟨σ,H,I,h⟩
theorem aJn{e:Expr}{es:List Expr}{t:TG}{u:TGs}(h1:PG X e t)(h2:PGs X es u)
  (hs:(assignEach (e :: es) X.env).map (·.2)=assign e X.env :: (assignEach es X.env).map (·.2):=by rfl):PGs X (e :: es) (aS0 t u):=by
 intro pins s σ H vs us Q I r h
 obtain ⟨v,vr,e1,h⟩:=h
 subst e1
 cases r with
 | cons r rr =>
  rw [hs]
  refine assignInOrder_cons (thn (h1 pins s σ H _ _ _ I r h) fun _ s1 ⟨σ1,H1,I1,q1⟩=>?_)
  exact h2 pins s1 σ1 H1 _ _ Q I1 rr q1
def aV1(K:aV9)(n:Nat)(t:TGs):TG:=fun v σ H Q=>∃ a xs,v=.ref a/\SqT K H a xs/\xs.length=n/\t xs σ H Q
theorem aPw{es:List Expr}{k:Nat}{t:TGs}{n:Nat}(hc:X.calm=true)(h:PGs X es t)
  (hn:(assignEach es X.env).length=n:=by rfl) (hst:(assignEach es X.env).findIdx? (·.1)=none:=by rfl):PG X (.Tuple es k pos) (aV1 X.K n t):=by
 intro pins s σ H v u Q I r hw
 obtain ⟨a,xs,e1,hq,hl,hw⟩:=hw
 subst e1
 cases r
 obtain ⟨its,rv,ht,hz⟩:=I.tuple hq
 refine assign_Tuple_tuple (I.ok.hd hc) ht (by simp [hn,<- hl,rv.length]) hst fun h' hx=>?_
 have I1:Inv X pins σ H { s with heap:=h' }:=I.kept (t':=s.toks) fun b o e=>hx b o (aW2 (aWi e)) e
 exact h pins _ σ H xs _ Q I1 (by simpa using rv) hw
def aVd(to ti:TE)(t:aTy):TG:=fun v σ H Q=>to σ H fun o H1=>ti σ H1 fun i H2=>t o i v H2 fun H3=>Q σ H3
theorem aPq{o i:Expr}{to ti:TE}{t:aTy}(ho:PE X o to)(hi:PE X i ti)(hs:aVi X t)
  (ha:∀ v,assign (.Subscript o i pos) X.env v=(do
   let ov <- holding [v] (eval o X.env)
   let iv <- holding [v,ov] (eval i X.env)
   standAt pos
   holding [v,ov,iv] (setItem ov iv v)
   release [v,ov,iv] []):=by intro _;rfl):PG X (.Subscript o i pos) (aVd to ti t):=by
 intro pins s σ H v u Q I r h
 rw [ha]
 refine aWa (aYj (thn (ho pins s σ H _ I h) fun ov s1 ⟨x,H1,I1,r1,q1⟩=>?_))
 refine aWa (aYj (thn (hi pins s1 σ H1 _ I1 q1) fun iv s2 ⟨y,H2,I2,r2,q2⟩=>?_))
 refine aWa (bCc (aWa (aYj (thn (hs pins s2 σ H2 x y v ov iv u _ I2 r1 r2 r q2) fun _ s3 ⟨H3,I3,q3⟩=>?_))))
 exact wpAny_release ⟨σ,H3,I3,q3⟩
def aSs(te:TE)(g:TG):TS:=fun D σ H=>te σ H fun x H1=>g x σ H1 D.nx
theorem aLx{tg e:Expr}{te:TE}{g:TG}(he:PE X e te)(hg:PG X tg g)(hs:swapsWithSole [tg] e pos.line X.env=pure false:=by rfl)(hw:swappedStores [tg] e X.env=pure none:=by rfl)
  (h1:(assignEach [tg] X.env).map (·.2)=[assign tg X.env]:=by rfl):PS X (.Assign [tg] e pos) (aSs te g):=by
 intro pins s σ H D I h
 refine wpAny_Assign_stores (thn (he pins s σ H _ I h) fun v s1 ⟨x,H1,I1,r1,q1⟩=>?_) hs hw
 rw [h1]
 exact thn (hg pins s1 σ H1 x v _ I1 r1 q1) fun _ s2 q=>q
theorem aQ8{i:Nat}{x:Str}{e:Expr}{te:TE}{pos':Pos}(hN:X.N.Nodup)(hi:X.N[i]? = some x)(hx:Loc X.env.scope x)(he:PE X e te)(hs:swapsWith e (some (.Name x pos')) pos.line X.env=pure false:=by rfl)(hf:X.fn x=true\/X.env.scope.names.lookup x=some .local:=by first | exact .inl rfl | exact .inr rfl | assumption) :
  PS X (.Assign [.Name x pos'] e pos) (aSs te (aOj i)):=by
 intro pins s σ H D I h
 refine wpAny_Assign_Name (thn (he pins s σ H _ I h) fun v s1 ⟨y,H1,I1,r1,q1⟩=>?_) hs
 exact pH I1 hN hi hx r1 (fun s2 I2=>⟨_,H1,I2,q1⟩) hf
def aVy(i j:Nat)(ta:TA):TS:=fun D σ H=>ta σ H fun vs H1=>∃ v w,vs=[v,w]/\D.nx ((σ.set i (some v)).set j (some w)) H1
theorem aP0{i j:Nat}{x y:Str}{a b:Expr}{ta:TA}{px py pt:Pos}{kt k2 pt2}(hc:X.calm=true)(hN:X.N.Nodup)(hi:X.N[i]? = some x)(hj:X.N[j]? = some y)(hij:i≠j)
  (hx:X.env.scope.names.lookup x=some .local) (hy:X.env.scope.names.lookup y=some .local) (ha:PA X [a,b] ta)
  (hw:swappedStores [.Tuple [.Name x px,.Name y py] kt pt] (.Tuple [a,b] k2 pt2) X.env=pure (some [x,y]))
  (hs:swapsWithSole [.Tuple [.Name x px,.Name y py] kt pt] (.Tuple [a,b] k2 pt2) pos.line X.env=pure false:=by rfl) :
  PS X (.Assign [.Tuple [.Name x px,.Name y py] kt pt] (.Tuple [a,b] k2 pt2) pos) (aVy i j ta):=by
 intro pins s σ H D I h
 rw [exec_Assign_arm]
 refine aWa (bCc ?_)
 rw [hs]
 refine aWa (aWe ?_)
 rw [aWn (by decide)]
 refine aWa (Tuple_ (thn (ha _ pins s σ H _ I h) fun us s1 ⟨vs,H1,I1,r1,q1⟩=>?_))
 obtain ⟨v,w,e1,q1⟩:=q1
 subst e1
 obtain ⟨u1,u2,rfl,rv,rw'⟩:∃ u1 u2,us=[u1,u2]/\RelV v u1/\RelV w u2:=by
  cases r1 with
  | cons p q =>
   cases q with
   | cons p' q' =>
    cases q'
    exact ⟨_,_,rfl,p,p'⟩
 refine aYu ?_ (by show 2<=sizeLine;decide)
 have I2:Inv X pins σ H1 { s1 with heap:=s1.heap.push { cls:=.type "tuple",data:=.seq [u1,u2].toArray } }:=I1.kept (t':=s1.toks) fun b o e=>aWf _ e
 rw [hw]
 refine aWa (aWe ?_)
 show wpAny (model X.prog X.w) X.A (do rule "assign.swapped-stores";let items <- unpackItems (.ref s1.heap.objs.size) 2 none;assignInOrder [fun v=>bindName X.env y v,fun v=>bindName X.env x v] items.reverse;pure Flow.next) _ _ _
 refine aWa (wpAny_rule (aWa (unpackItems_tuple (items:=#[u1,u2]) (I.ok.hd hc) (IsTup.new s1.heap _) fun h' hx'=>?_)))
 have I3:=I2.kept (h':=h') (t':=s1.toks) fun b o e=>hx' b o (aW2 (aWi e)) e
 show wpAny _ _ (assignInOrder [fun v=>bindName X.env y v,fun v=>bindName X.env x v] [u2,u1] >>= fun _=>pure Flow.next) _ _ _
 refine aWa (assignInOrder_cons (wpAny_bindName (pH I3 hN hj (.inl hy) rw' (fun s2 I4=>?_) (.inr hy))))
 refine assignInOrder_cons (wpAny_bindName (pH I4 hN hi (.inl hx) rv (fun s3 I5=>assignInOrder_nil (aWe ?_)) (.inr hx)))
 rw [List.set_comm _ _ (bB2 hij)] at I5
 exact ⟨_,H1,I5,q1⟩
end
section
variable {X:Cx}{pos:Pos}
def aQm(c:TT)(tb:TS):TS:=fun D σ H=>∃ W:Nat->St->Hp->Prop,(∃ m,W m σ H)/\∀ m σ H,W m σ H ->
 c σ H fun b H1=>if b=true then ∃ N:St->Hp->Prop,(∀ σ' H',N σ' H'->∃ m',m' < m/\W m' σ' H')/\tb { D with nx:=N,ct:=N,bk:=D.nx } σ H1 else D.nx σ H1
theorem aIj{c:Expr}{body:List Stmt}{tc:TT}{tb:TS}(hp:PassesOwn (model X.prog X.w) X.A X.env X.xe)(hc:PT X c tc)(hb:PSs X body tb):PS X (.While c body [] pos) (aQm tc tb):=by
 intro pins s σ H D I h
 obtain ⟨W,⟨m0,w0⟩,turn⟩:=h
 refine wpAny_While (codeAny_whileLoop (fun n s'=>∃ σ' H',Inv X pins σ' H' s'/\W n σ' H') ?_ m0 ⟨σ,H,I,w0⟩)
 rintro n s1 ⟨σ1,H1,I1,w1⟩
 refine aZl hp (thn (hc pins s1 σ1 H1 _ I1 (turn n σ1 H1 w1)) fun b s2 ⟨H2,I2,q2⟩=>?_)
 cases b with
 | true =>
  obtain ⟨N,hN,q2⟩:=q2
  rw [aWm rfl]
  refine aZl hp (thn (hb pins s2 σ1 H2 _ I2 q2) fun f s3 q3=>?_)
  cases f with
  | next =>
   obtain ⟨σ3,H3,I3,n3⟩:=q3
   obtain ⟨m',hm,w3⟩:=hN σ3 H3 n3
   exact ⟨m',hm,σ3,H3,I3,w3⟩
  | cont =>
   obtain ⟨σ3,H3,I3,n3⟩:=q3
   obtain ⟨m',hm,w3⟩:=hN σ3 H3 n3
   exact ⟨m',hm,σ3,H3,I3,w3⟩
  | brk=>exact q3
  | ret v=>exact q3
 | false =>
  rw [aWn aXq]
  exact bBr ⟨σ1,H2,I2,q2⟩
end
structure It where
 go:Nat->Hp->Prop
 yld:Nat->Hp->V->Hp->Prop
 stop:Nat->Hp->Prop
def aI2(X:Cx)(pins:List (Addr×Obj))(H:Hp)(b:Addr):Prop :=
 H b=none/\b≠X.env.locals/\b∉X.fs/\(b∈X.ex\/X.s₀.heap.objs.size<=b)/\(∀ x c,X.env.cells.lookup x=some c->c≠b)/\∀ p∈X.pn++pins,p.1≠b
theorem Inv.fpOk{X:Cx}{pins:List (Addr×Obj)}{σ:St}{H H':Hp}{s:Shared}{b:Addr}(I:Inv X pins σ H s)(hb:s.heap.objs.size<=b)(hn:H' b=none):aI2 X pins H' b:=by
 refine ⟨hn,bCw (aW7 I.lt hb),I.nofs hb,.inr (aXk I.sz hb),fun x c e z=>?_,fun p hp z=>?_⟩
 ·obtain ⟨v,q⟩:=I.cell x c e
  exact absurd (aW7 q.lt (by rw [z];exact hb)) (aXn _)
 ·exact absurd (aW7 (aWi (I.pin p hp).1) (by rw [z];exact hb)) (aXn _)
structure Turn(P:Program)(w:World)(K:aV9)(tg:Expr)(J:It)(fp:List Addr)(it:Addr)(tn:Nat->Heap->Prop):Prop where
 mem:it∈fp
 obj:∀ i h,tn i h->∀ b∈fp,∃ o,h.get? b=some o/\∀ v,o.data≠.cell v
 keep:∀ i h h',tn i h->(∀ b∈fp,∀ o,h.get? b=some o->h'.get? b=some o)->tn i h'
 item:∀ (X:Cx),X.prog=P->X.w=w->X.K=K->X.calm=true->∀ (i:Nat) (pins:List (Addr×Obj)) (s:Shared) (σ:St) (H:Hp) (E:Value->Shared->Prop),Inv X pins σ H s->(∀ b∈fp,aI2 X pins H b)->tn i s.heap->J.go i H ->
  wpAny (model P w) X.A (pyNext (.ref it)) (fun r s1=>∃ u,r=some u /\
   wpAny (model P w) X.A (letOwnedTupleGo tg (.ref it) u) (fun _ s2=>∃ x H',Inv X pins σ H' s2/\RelV x u/\J.yld i H x H'/\tn (i+1) s2.heap/\∀ b∈fp,H' b=none) E s1) E s
 done:∀ (X:Cx),X.prog=P->X.w=w->X.K=K->X.calm=true->∀ (i:Nat) (pins:List (Addr×Obj)) (s:Shared) (σ:St) (H:Hp) (E:Value->Shared->Prop),Inv X pins σ H s->(∀ b∈fp,aI2 X pins H b)->tn i s.heap->J.stop i H ->
  wpAny (model P w) X.A (pyNext (.ref it)) (fun r s1=>r=none/\Inv X pins σ H s1) E s
 self:∀ (A:Around) (i:Nat) (s:Shared) (Q:Value->Shared->Prop) (E:Value->Shared->Prop),tn i s.heap->Q (.ref it) s->wpAny (model P w) A (pyIter (.ref it)) Q E s
abbrev TI:=St->Hp->(It->Hp->Prop)->Prop
def PIE(X:Cx)(pins:List (Addr×Obj))(σ:St)(tg:Expr)(R:It->Hp->Prop)(itv:Value)(s2:Shared):Prop :=
 ∃ (it:Addr) (fp:List Addr) (tn:Nat->Heap->Prop) (J:It) (H':Hp),itv=.ref it/\Inv X pins σ H' s2/\Turn X.prog X.w X.K tg J fp it tn/\tn 0 s2.heap/\(∀ b∈fp,aI2 X pins H' b)/\R J H'
def PI(X:Cx)(tg iter:Expr)(wi:TI):Prop :=
 ∀ (pins:List (Addr×Obj)) (s:Shared) (σ:St) (H:Hp) (R:It->Hp->Prop),Inv X pins σ H s->wi σ H R ->
  wpAny (model X.prog X.w) X.A (eval iter X.env) (fun v s1=>wpAny (model X.prog X.w) X.A (pyIter v) (PIE X pins σ tg R) X.xe s1) X.xe s
theorem aNi{M:Model}{A:Around}{E:Value->Shared->Prop}{s:Shared}{tg:Expr}{it:Addr}{u:Value}{o:Obj}{n:String}{vs:Array Value}{Q:Unit->Shared->Prop}(ho:s.heap.get? it=some o)(hc:o.cls=.type n)(hd:o.data=.fields vs)
  (hn:["enumerate","zip","dict_itemiterator","dict_reverseitemiterator","odict_iterator","itertools.zip_longest","itertools.pairwise"].contains n=false) (hQ:Q () s):wpAny M A (letOwnedTupleGo tg (.ref it) u) Q E s:=by
 unfold letOwnedTupleGo
 cases tg<;>first
  | exact aWe hQ
  | (cases u<;>first
    | exact aWe hQ
    | (refine aWa (wpAny_load ho ?_)
       rw [hc,hd]
       show wpAny M A (if (["enumerate","zip","dict_itemiterator","dict_reverseitemiterator","odict_iterator","itertools.zip_longest","itertools.pairwise"].contains n && vs[0]? == some (rawInt _))=true then _ else _) Q E s
       rw [aWn (by intro h;rw [hn,Bool.false_and] at h;cases h)]
       exact aWe hQ))
def Itl(K:aV9)(a:Addr):It :=
 ⟨fun i H=>∃ xs x,SqL K H a xs/\xs[i]? = some x,fun i H x H'=>H'=H/\∀ xs,SqL K H a xs->xs[i]? = some x,fun i H=>∃ xs,SqL K H a xs/\xs.length<=i⟩
def Itr(lo:Int)(n:Nat):It:=⟨fun i _=>i < n,fun i H x H'=>H'=H/\x=.int (lo+i),fun i _=>n<=i⟩
theorem aD0{P:Program}{w:World}{K:aV9}{tg:Expr}(a it:Addr):Turn P w K tg (Itl K a) [it] it (fun i h=>h.IsListIter it a i) where
 mem:=by simp
 obj:=fun i h st b hb=>by
  have e:b=it:=by simpa using hb
  subst e
  obtain ⟨o,e,c,d⟩:=st
  exact ⟨o,e,fun v z=>by rw [d] at z;cases z⟩
 keep:=fun i h h' st k=>st.at fun o e=>k it (by simp) o e
 item:=by
  intro X hP hw hK hc i pins s σ H E I hf st hg
  subst hP hw hK
  obtain ⟨xs,x,hq,hx⟩:=hg
  obtain ⟨its,rv,p,hz⟩:=I.list hq
  obtain ⟨u,hu,ru⟩:=rv.get hx
  obtain ⟨f0,f1,f2,f3,f4,f5⟩:=hf it (by simp)
  refine wpAny_pyNext_list_item st p.isList (x:=u) (by simpa using hu) fun h' st' sb=>?_
  have I1:Inv X pins σ H { s with heap:=h' }:=I.turned (t':=s.toks) (fun b o hb e=>(sb.2 b hb).trans e) f0 f1 f3 f4 f5
  obtain ⟨o,e,c,d⟩:=id st'
  exact ⟨u,rfl,aNi (s:={ s with heap:=h' }) e c d (by decide) ⟨x,H,I1,ru,⟨rfl,fun ys hy=>by rw [I.list_inj hy hq];exact hx⟩,st',fun b hb=>(hf b hb).1⟩⟩
 done:=by
  intro X hP hw hK hc i pins s σ H E I hf st hg
  subst hP hw hK
  obtain ⟨xs,hq,hx⟩:=hg
  obtain ⟨its,rv,p,hz⟩:=I.list hq
  obtain ⟨f0,f1,f2,f3,f4,f5⟩:=hf it (by simp)
  have hl:=rv.length
  exact wpAny_pyNext_list_end (I.ok.hd hc) st p.isList (by simp;omega) fun h' eb=>⟨rfl,I.turned (t':=s.toks) (fun b o hb e=>eb b o hb e) f0 f1 f3 f4 f5⟩
 self:=fun _ _ _ _ _ st h=>wpAny_pyIter_listiter st h
theorem aCx{P:Program}{w:World}{K:aV9}{tg:Expr}(it:Addr)(lo:Int)(n:Nat):Turn P w K tg (Itr lo n) [it] it (fun i h=>IsRangeIter h it (lo+(i:Nat)*1) ((n:Int) - (i:Nat)) 1) where
 mem:=by simp
 obj:=fun i h st b hb=>by
  have e:b=it:=by simpa using hb
  subst e
  exact ⟨_,st,fun v z=>by
   have z':Data.fields _=Data.cell v:=z
   cases z'⟩
 keep:=fun i h h' st k=>k it (by simp) _ st
 item:=by
  intro X hP hw hK hc i pins s σ H E I hf st hg
  subst hP hw hK
  obtain ⟨f0,f1,f2,f3,f4,f5⟩:=hf it (by simp)
  have W:=Walks.range (prog:=X.prog) (w:=X.w) (I.ok.hd hc) it lo 1 n
  refine W.item i s _ _ hg st fun v h' tk hv st' kk=>?_
  obtain ⟨t,rfl⟩:=hv
  have I1:Inv X pins σ H { s with heap:=h',toks:=tk }:=I.turned (fun b o hb e=>kk b o (by simpa using hb) e) f0 f1 f3 f4 f5
  refine ⟨_,rfl,aNi (s:={ s with heap:=h',toks:=tk }) (n:="range_iterator") st' rfl rfl (by decide) ⟨.int (lo+i),H,I1,⟨t,?_⟩,⟨rfl,rfl⟩,st',fun b hb=>(hf b hb).1⟩⟩
  rw [Int.mul_one]
 done:=by
  intro X hP hw hK hc i pins s σ H E I hf st hg
  subst hP hw hK
  obtain ⟨f0,f1,f2,f3,f4,f5⟩:=hf it (by simp)
  exact wpAny_pyNext_range_end (I.ok.hd hc) st (by have:n<=i:=hg;omega) fun h' eb=>⟨rfl,I.turned (t':=s.toks) (fun b o hb e=>eb b o hb e) f0 f1 f3 f4 f5⟩
 self:=fun _ _ _ _ _ st h=>wpAny_pyIter_rangeiter st h
section
variable {X:Cx}{tg:Expr}
def aS6(K:aV9)(tl:TE):TI:=fun σ H R=>tl σ H fun x H1=>∃ a,x=.ref a/\(∃ xs,SqL K H1 a xs)/\R (Itl K a) H1
theorem aO7{l:Expr}{tl:TE}(hl:PE X l tl):PI X tg l (aS6 X.K tl):=by
 intro pins s σ H R I h
 refine thn (hl pins s σ H _ I h) fun v s1 ⟨x,H1,I1,r1,q1⟩=>?_
 obtain ⟨a,e,⟨xs,hq⟩,q⟩:=q1
 subst e
 cases r1
 obtain ⟨its,rv,p,hz⟩:=I1.list hq
 refine bB6 p.isList ?_
 refine ⟨s1.heap.objs.size,[s1.heap.objs.size],_,_,H1,rfl,I1.kept (t':=s1.toks) fun b o e=>aWf _ e,aD0 a _,⟨_,aWw _ rfl,rfl,rfl⟩,fun b hb=>?_,q⟩
 have e:b=s1.heap.objs.size:=by simpa using hb
 subst e
 exact I1.fpOk (aWl _) (I1.hok.fresh (aWl _))
theorem aI7{pins:List (Addr×Obj)}{σ:St}{H:Hp}{s:Shared}{R:It->Hp->Prop}{E:Value->Shared->Prop}{lo hi:Int}{t u v:Tok}{tk:Nat}(I:Inv X pins σ H s)(h1:-(2 ^ 62)<=lo)(h2:lo < 2 ^ 62)(h3:-(2 ^ 62)<=hi)(h4:hi < 2 ^ 62)
  (q:R (Itr lo (hi - lo).toNat) H):wpAny (model X.prog X.w) X.A (pyIter (.ref s.heap.objs.size)) (PIE X pins σ tg R) E { s with heap:=s.heap.push { cls:=.type "range",data:=.fields #[.int lo t,.int hi u,.int 1 v] },toks:=tk }:=by
 refine wpAny_pyIter_range (IsRange.new ..) (small_one h1 h2 h3 h4) ?_
 have I1:Inv X pins σ H { s with heap:=s.heap.push { cls:=.type "range",data:=.fields #[.int lo t,.int hi u,.int 1 v] },toks:=tk }:=I.kept fun b o e=>aWf _ e
 refine ⟨(s.heap.push { cls:=.type "range",data:=.fields #[.int lo t,.int hi u,.int 1 v] }).objs.size,[(s.heap.push { cls:=.type "range",data:=.fields #[.int lo t,.int hi u,.int 1 v] }).objs.size],_,_,H,rfl,
  I1.kept (t':=tk) fun b o e=>aWf _ e,aCx _ lo (hi - lo).toNat,?_,fun b hb=>?_,q⟩
 ·have e1:lo+((0:Nat):Int)*1=lo:=by simp
  have e2:(((hi - lo).toNat:Nat):Int) - ((0:Nat):Int)=Builtin.Range.rangeSize lo hi 1:=by rw [rangeSize_one];split<;>omega
  show IsRangeIter _ _ (lo+((0:Nat):Int)*1) ((((hi - lo).toNat:Nat):Int) - ((0:Nat):Int)) 1
  rw [e1,e2]
  exact aWw _ rfl
 ·have e:b=(s.heap.push { cls:=.type "range",data:=.fields #[.int lo t,.int hi u,.int 1 v] }).objs.size:=by simpa using hb
  subst e
  exact I1.fpOk (aWl _) (I1.hok.fresh (aWl _))
def aUi(ta:TA):TI:=fun σ H R=>ta σ H fun vs H1=>∃ j:Int,vs=[.int j]/\-(2 ^ 62)<=j/\j < 2 ^ 62/\R (Itr 0 j.toNat) H1
theorem aGb{a:Expr}{ta:TA}{p pos:Pos}(hg:Gl X "range")(hm:X.mg "range" = none)(ha:PA X [a] ta)(hs:starEach [a] X.env=[(false,eval a X.env)]:=by rfl):PI X tg (.Call (.Name "range" p) [a] [] pos) (aUi ta):=by
 intro pins s σ H R I h
 refine Call_ (lW I hg hm boot_range (aXs (thn (ha pos pins s σ H _ I h) fun us s1 ⟨vs,H1,I1,r1,q1⟩=>?_) hs rfl))
 obtain ⟨j,e,q1,q2,q⟩:=q1
 subst e
 cases r1 with
 | cons r rr =>
  cases rr
  obtain ⟨t,rfl⟩:=r
  exact call_range_1 (aI7 I1 (by omega) (by omega) q1 q2 (by simpa using q))
def aV8(wi:TI)(g:TG)(tb:TS):TS:=fun D σ H=>wi σ H fun J H1=>∃ W:Nat->Nat->St->Hp->Prop,(∃ m,W 0 m σ H1)/\∀ i m σ H,W i m σ H ->
 (J.stop i H/\D.nx σ H)\/(J.go i H/\∃ N:St->Hp->Prop,(∀ σ' H',N σ' H'->∃ m',m' < m/\W (i+1) m' σ' H')/\∀ x H',J.yld i H x H'->g x σ H' fun σ2 H2=>tb { D with nx:=N,ct:=N,bk:=D.nx } σ2 H2)
def aBr(fp:List Addr)(h:Heap):List (Addr×Obj):=fp.filterMap fun b=>(h.get? b).map fun o=>(b,o)
theorem gK{fp:List Addr}{h:Heap}{b:Addr}{o:Obj}(hb:b∈fp)(e:h.get? b=some o):(b,o)∈aBr fp h:=bAp.mpr ⟨b,hb,by rw [e];rfl⟩
theorem aFp{fp:List Addr}{h:Heap}{p:Addr×Obj}(hp:p∈aBr fp h):p.1∈fp/\h.get? p.1=some p.2:=by
 obtain ⟨b,hb,e⟩:=bAp.mp hp
 cases q:h.get? b with
 | none=>rw [q] at e;cases e
 | some o =>
  rw [q] at e
  have e':(b,o)=p:=aWx e
  subst e'
  exact ⟨hb,q⟩
theorem Inv.pinned{pins:List (Addr×Obj)}{σ:St}{H:Hp}{s:Shared}{fp:List Addr}(I:Inv X pins σ H s)(hf:∀ b∈fp,aI2 X pins H b)(ho:∀ b∈fp,∃ o,s.heap.get? b=some o/\∀ v,o.data≠.cell v):Inv X (pins++aBr fp s.heap) σ H s :=
 I.pins_of fun p hp=>(aXx.mp hp).elim (fun z=>I.pin p (aW1 _ z)) fun z=>by
  obtain ⟨hb,e⟩:=aFp z
  obtain ⟨f0,f1,f2,_⟩:=hf p.1 hb
  obtain ⟨o,e',d⟩:=ho p.1 hb
  rw [e] at e';cases e'
  exact ⟨e,f0,f1,f2,d⟩
theorem Inv.unpinned{pins pl:List (Addr×Obj)}{σ:St}{H:Hp}{s:Shared}(I:Inv X (pins++pl) σ H s):Inv X pins σ H s:=I.pins_of fun p hp=>I.pin p (aW1 _ (bAc _ hp))
theorem aRt{iter:Expr}{body:List Stmt}{wi:TI}{g:TG}{tb:TS}{pos:Pos}(hp:PassesOwn (model X.prog X.w) X.A X.env X.xe)(hc:X.calm=true)(hi:PI X tg iter wi)(hg:PG X tg g)(hb:PSs X body tb)
  (hs:∀ x,foldedSetIterable iter X.env x=pure x:=by intro _;rfl):PS X (.For tg iter body [] pos) (aV8 wi g tb):=by
 intro pins s σ H D I h
 refine wpAny_For (thn (hi pins s σ H _ I h) fun v s1 h1=>thn h1 fun itv s2 h2=>?_) hs
 obtain ⟨it,fp,tn,J,H2,e,I2,T,st2,f2,W,⟨m0,w0⟩,turn⟩:=h2
 subst e
 have stat:∀ {H':Hp},(∀ b∈fp,H' b=none)->∀ b∈fp,aI2 X pins H' b:=fun hn b hb=>⟨hn b hb,(f2 b hb).2⟩
 refine codeAny_forLoop_any (fun n s'=>∃ i σ' H',Inv X pins σ' H' s'/\tn i s'.heap/\(∀ b∈fp,H' b=none)/\W i n σ' H') ?_ m0 ⟨0,σ,H2,I2,st2,fun b hb=>(f2 b hb).1,w0⟩
 rintro n s3 ⟨i,σ3,H3,I3,st3,fr3,w3⟩
 rcases turn i n σ3 H3 w3 with ⟨stop,qn⟩ | ⟨go,N,hN,step⟩
 ·refine aZl hp (thn (T.done X rfl rfl rfl hc i pins s3 σ3 H3 X.xe I3 (stat fr3) st3 stop) fun r s4 ⟨hr,I4⟩=>?_)
  subst hr
  exact bBr ⟨σ3,H3,I4,qn⟩
 ·refine aZl hp (thn (T.item X rfl rfl rfl hc i pins s3 σ3 H3 X.xe I3 (stat fr3) st3 go) fun r s4 ⟨u,hr,h4⟩=>?_)
  subst hr
  refine aZl hp (thn h4 fun _ s5 ⟨x,H5,I5,r5,y5,st5,fr5⟩=>?_)
  have I5':=I5.pinned (stat fr5) (T.obj _ _ st5)
  refine aZl hp (thn (hg _ s5 σ3 H5 x u _ I5' r5 (step x H5 y5)) fun _ s6 ⟨σ6,H6,I6,q6⟩=>?_)
  refine aZl hp (thn (hb _ s6 σ6 H6 _ I6 q6) fun f s7 q7=>?_)
  have again:∀ {σ7:St} {H7:Hp},Inv X (pins++aBr fp s5.heap) σ7 H7 s7->N σ7 H7->∃ m,m < n/\∃ i σ' H',Inv X pins σ' H' s7/\tn i s7.heap/\(∀ b∈fp,H' b=none)/\W i m σ' H':=fun {σ7 H7} I7 n7=>by
   obtain ⟨m',hm,w7⟩:=hN σ7 H7 n7
   refine ⟨m',hm,i+1,σ7,H7,I7.unpinned,T.keep _ _ _ st5 fun b hb o e=>(I7.pin (b,o) (aW1 _ (aW1 _ (gK hb e)))).1,fun b hb=>?_,w7⟩
   obtain ⟨o,e,d⟩:=T.obj _ _ st5 b hb
   exact (I7.pin (b,o) (aW1 _ (aW1 _ (gK hb e)))).2.1
  cases f with
  | next=>obtain ⟨σ7,H7,I7,n7⟩:=q7;exact again I7 n7
  | cont=>obtain ⟨σ7,H7,I7,n7⟩:=q7;exact again I7 n7
  | brk=>obtain ⟨σ7,H7,I7,q7⟩:=q7;exact ⟨σ7,H7,I7.unpinned,q7⟩
  | ret v=>obtain ⟨x7,σ7,H7,I7,r7,q7⟩:=q7;exact ⟨x7,σ7,H7,I7.unpinned,r7,q7⟩
end
abbrev R2:=V->V->Hp->VK->Prop
def OpR(X:Cx)(f:Value->Value->Sem Value)(r:R2):Prop :=
 ∀ (pins:List (Addr×Obj)) (s:Shared) (σ:St) (H:Hp) (x y:V) (v u:Value) (Q:VK),Inv X pins σ H s->RelV x v->RelV y u->r x y H Q ->
  wpAny (model X.prog X.w) X.A (f v u) (EP X pins σ Q) X.xe s
def UnR(X:Cx)(f:Value->Sem Value)(r:V->Hp->VK->Prop):Prop :=
 ∀ (pins:List (Addr×Obj)) (s:Shared) (σ:St) (H:Hp) (x:V) (v:Value) (Q:VK),Inv X pins σ H s->RelV x v->r x H Q ->
  wpAny (model X.prog X.w) X.A (f v) (EP X pins σ Q) X.xe s
def mF(X:Cx)(f:Value)(r:List V->Hp->VK->Prop):Prop :=
 ∀ (pins:List (Addr×Obj)) (s:Shared) (σ:St) (H:Hp) (xs:List V) (us:List Value) (Q:VK),Inv X pins σ H s->Vals xs us->r xs H Q ->
  wpAny (model X.prog X.w) X.A (call f us) (EP X pins σ Q) X.xe s
def tOp(r:R2)(ta tb:TE):TE:=fun σ H Q=>ta σ H fun x H1=>tb σ H1 fun y H2=>r x y H2 Q
def tUn(r:V->Hp->VK->Prop)(ta:TE):TE:=fun σ H Q=>ta σ H fun x H1=>r x H1 Q
def rI(C:Int->Int->Prop)(g:Int->Int->V):R2:=fun x y H Q=>∃ i j,x=.int i/\y=.int j/\C i j/\Q (g i j) H
def rI0(g:Int->Int->V):R2:=fun x y H Q=>∃ i j,x=.int i/\y=.int j/\Q (g i j) H
def rU(g:Int->V):V->Hp->VK->Prop:=fun x H Q=>∃ i,x=.int i/\Q (g i) H
section
variable {X:Cx}{a b c:Expr}{ta tb tc:TE}{pos:Pos}
theorem aTm(ha:PE X a ta)(hb:PE X b tb){pins:List (Addr×Obj)}{s:Shared}{σ:St}{H:Hp}{R:V->V->Hp->Prop}(I:Inv X pins σ H s)
  (h:ta σ H fun x H1=>tb σ H1 fun y H2=>R x y H2) {Q:Value->Shared->Prop} {f:Value->Value->Sem Value}
  (hf:∀ v u s2 x y H2,Inv X pins σ H2 s2->RelV x v->RelV y u->R x y H2->wpAny (model X.prog X.w) X.A (f v u) Q X.xe s2) :
  wpAny (model X.prog X.w) X.A (eval a X.env) (fun v s₁=>wpAny (model X.prog X.w) X.A (eval b X.env) (fun u s₂=>wpAny (model X.prog X.w) X.A (f v u) Q X.xe s₂) X.xe s₁) X.xe s:=by
 refine thn (ha pins s σ H _ I h) fun v s1 ⟨x,H1,I1,r1,q1⟩=>?_
 refine thn (hb pins s1 σ H1 _ I1 q1) fun u s2 ⟨y,H2,I2,r2,q2⟩=>?_
 exact hf v u s2 x y H2 I2 r1 r2 q2
theorem aTb{op:Operator}{r:R2}(ho:OpR X (binaryOp op) r)(ha:PE X a ta)(hb:PE X b tb):PE X (.BinOp a op b pos) (tOp r ta tb):=by
 intro pins s σ H Q I h
 exact wpAny_BinOp (aTm ha hb I h fun v u s2 x y H2 I2 rx ry q=>ho pins s2 σ H2 x y v u Q I2 rx ry q)
theorem aTp{op:UnaryOp}{r:V->Hp->VK->Prop}(ho:UnR X (unaryOp op) r)(ha:PE X a ta):PE X (.UnaryOp op a pos) (tUn r ta):=by
 intro pins s σ H Q I h
 exact UnaryOp_ (thn (ha pins s σ H _ I h) fun v s1 ⟨x,H1,I1,r1,q1⟩=>ho pins s1 σ H1 x v Q I1 r1 q1)
theorem opI{f:Value->Value->Sem Value}{C:Int->Int->Prop}{g:Int->Int->Int}
  (rule:∀ (i j:Int) (t u:Tok) (s:Shared) (Q:Value->Shared->Prop) (E:Value->Shared->Prop),C i j->Q (.int (g i j) s.toks) { s with toks:=s.toks+1 }->wpAny (model X.prog X.w) X.A (f (.int i t) (.int j u)) Q E s) :
  OpR X f (rI C fun i j=>.int (g i j)):=by
 intro pins s σ H x y v u Q I rx ry h
 obtain ⟨i,j,rfl,rfl,hc,q⟩:=h
 obtain ⟨t,rfl⟩:=rx
 obtain ⟨t',rfl⟩:=ry
 exact rule i j t t' s _ _ hc ⟨.int (g i j),H,I.tok _,⟨_,rfl⟩,q⟩
theorem aVh{f:Value->Value->Sem Value}{g:Int->Int->Int}
  (rule:∀ (i j:Int) (t u:Tok) (s:Shared) (Q:Value->Shared->Prop) (E:Value->Shared->Prop),Q (.int (g i j) s.toks) { s with toks:=s.toks+1 }->wpAny (model X.prog X.w) X.A (f (.int i t) (.int j u)) Q E s) :
  OpR X f (rI0 fun i j=>.int (g i j)):=by
 intro pins s σ H x y v u Q I rx ry h
 obtain ⟨i,j,rfl,rfl,q⟩:=h
 obtain ⟨t,rfl⟩:=rx
 obtain ⟨t',rfl⟩:=ry
 exact rule i j t t' s _ _ ⟨.int (g i j),H,I.tok _,⟨_,rfl⟩,q⟩
theorem aTw{f:Value->Value->Sem Value}{g:Int->Int->Bool}
  (rule:∀ (i j:Int) (t u:Tok) (s:Shared) (Q:Value->Shared->Prop) (E:Value->Shared->Prop),Q (.bool (g i j)) s->wpAny (model X.prog X.w) X.A (f (.int i t) (.int j u)) Q E s) :
  OpR X f (rI0 fun i j=>.bl (g i j)):=by
 intro pins s σ H x y v u Q I rx ry h
 obtain ⟨i,j,rfl,rfl,q⟩:=h
 obtain ⟨t,rfl⟩:=rx
 obtain ⟨t',rfl⟩:=ry
 exact rule i j t t' s _ _ ⟨.bl (g i j),H,I,rfl,q⟩
def aK8(i j:Int):Prop:=0<=j/\j<=1000000/\i.natAbs < 2 ^ 64
theorem aQf:OpR X (binaryOp .Add) (rI0 fun i j=>.int (i+j)):=aVh fun _ _ _ _ _ _ _ q=>add_int q
theorem dB:OpR X (binaryOp .Sub) (rI0 fun i j=>.int (i - j)):=aVh fun _ _ _ _ _ _ _ q=>sub_int q
theorem aW:OpR X (binaryOp .Mod) (rI (fun _ j=>j≠0) fun i j=>.int (i.fmod j)):=opI fun _ _ _ _ _ _ _ hc q=>mod_int' hc q
theorem nJ:OpR X (binaryOp .Pow) (rI aK8 fun i j=>.int (i ^ j.toNat)):=opI fun _ _ _ _ _ _ _ hc q=>pow_int_small hc.1 hc.2.1 hc.2.2 q
theorem unI{f:Value->Sem Value}{g:Int->Int}
  (rule:∀ (i:Int) (t:Tok) (s:Shared) (Q:Value->Shared->Prop) (E:Value->Shared->Prop),Q (.int (g i) s.toks) { s with toks:=s.toks+1 }->wpAny (model X.prog X.w) X.A (f (.int i t)) Q E s) :
  UnR X f (rU fun i=>.int (g i)):=by
 intro pins s σ H x v Q I rx h
 obtain ⟨i,rfl,q⟩:=h
 obtain ⟨t,rfl⟩:=rx
 exact rule i t s _ _ ⟨.int (g i),H,I.tok _,⟨_,rfl⟩,q⟩
theorem aQ7:UnR X (unaryOp .USub) (rU fun i=>.int (-i)):=unI fun _ _ _ _ _ q=>neg_int q
end
section
variable {X:Cx}{a b c:Expr}{ta tb tc:TE}{pos:Pos}
theorem wF:OpR X (compareOp .Lt) (rI0 fun i j=>.bl (decide (i < j))):=aTw fun _ _ _ _ _ _ _ q=>lt_int q
theorem aRd:OpR X (compareOp .LtE) (rI0 fun i j=>.bl (decide (i<=j))):=aTw fun _ _ _ _ _ _ _ q=>le_int q
theorem yH:OpR X (compareOp .Gt) (rI0 fun i j=>.bl (decide (j < i))):=aTw fun _ _ _ _ _ _ _ q=>gt_int q
theorem OpR.or{f:Value->Value->Sem Value}{r r':R2}(h:OpR X f r)(h':OpR X f r'):OpR X f (fun x y H Q=>r x y H Q\/r' x y H Q):=by
 intro pins s σ H x y v u Q I rx ry q
 rcases q with q | q
 ·exact h pins s σ H x y v u Q I rx ry q
 ·exact h' pins s σ H x y v u Q I rx ry q
theorem cS(b:Expr){op:CmpOp}(h:op≠.In:=by decide)(h2:op≠.NotIn:=by decide):behindInMarks op b=false:=by
 have e1:(op == CmpOp.In)=false:=by cases op<;>first | rfl | exact absurd rfl h
 have e2:(op == CmpOp.NotIn)=false:=by cases op<;>first | rfl | exact absurd rfl h2
 cases b<;>simp [behindInMarks,e1,e2]
theorem aO3{op:CmpOp}{r:R2}(ho:OpR X (compareOp op) r)(ha:PE X a ta)(hb:PE X b tb)(hm:behindInMarks op b=false):PE X (.Compare a [op] [b] pos) (tOp r ta tb):=by
 intro pins s σ H Q I h
 exact wpAny_Compare1 (aTm ha hb I h fun v u s2 x y H2 I2 rx ry q=>ho pins s2 σ H2 x y v u Q I2 rx ry q) hm
def aUs(t:TE):TT:=fun σ H Q=>t σ H fun x H'=>∃ k,x=.bl k/\Q k H'
theorem aN0{op:CmpOp}{r:R2}(ho:OpR X (compareOp op) r)(ha:PE X a ta)(hb:PE X b tb)(hm:behindInMarks op b=false):PT X (.Compare a [op] [b] pos) (aUs (tOp r ta tb)):=by
 intro pins s σ H Q I h
 refine wpAny_isTrue_Compare1 (thn (ha pins s σ H _ I h) fun v s1 ⟨x,H1,I1,r1,q1⟩=>thn (hb pins s1 σ H1 _ I1 q1) fun u s2 ⟨y,H2,I2,r2,q2⟩ =>
  thn (ho pins s2 σ H2 x y v u _ I2 r1 r2 q2) fun c s3 ⟨z,H3,I3,r3,k,e,q3⟩=>?_) hm
 subst e
 cases r3
 exact aY8 ⟨H3,I3,q3⟩
theorem aBl:(sizeLine:Nat) < 2 ^ 63:=by rw [aY0];decide
theorem aCo:OpR X (binaryOp .Add) (fun x y H Q=>∃ i j,x=.str i/\y=.str j/\i.length+j.length<=sizeLine/\Q (.str (i++j)) H):=by
 intro pins s σ H x y v u Q I rx ry h
 obtain ⟨i,j,rfl,rfl,hz,q⟩:=h
 obtain ⟨t,rfl⟩:=rx
 obtain ⟨t',rfl⟩:=ry
 exact add_str (fun t' tk=>⟨.str (i++j),H,I.tok _,⟨_,rfl⟩,q⟩) hz
theorem vals1{x:V}{us:List Value}(r:Vals [x] us):∃ u,us=[u]/\RelV x u:=by
 cases r with
 | cons r1 r2=>cases r2;exact ⟨_,rfl,r1⟩
theorem vals2{x y:V}{us:List Value}(r:Vals [x,y] us):∃ u w',us=[u,w']/\RelV x u/\RelV y w':=by
 cases r with
 | cons r1 r2 =>
  cases r2 with
  | cons r3 r4=>cases r4;exact ⟨_,_,rfl,r1,r3⟩
theorem pC:mF X (.builtin "abs") (fun xs H Q=>∃ i,xs=[.int i]/\Q (.int (if i < 0 then -i else i)) H):=by
 intro pins s σ H xs us Q I r h
 obtain ⟨i,rfl,q⟩:=h
 obtain ⟨u,rfl,t,rfl⟩:=vals1 r
 exact call_abs_int fun u tk=>⟨.int (if i < 0 then -i else i),H,I.tok _,⟨_,rfl⟩,q⟩
theorem aG8(hc:X.calm=true):mF X (.builtin "max") (fun xs H Q=>∃ i j,xs=[.int i,.int j]/\Q (.int (if j > i then j else i)) H):=by
 intro pins s σ H xs us Q I r h
 obtain ⟨i,j,rfl,q⟩:=h
 obtain ⟨u,w',rfl,⟨t,rfl⟩,⟨t',rfl⟩⟩:=vals2 r
 refine max_two_ints (I.ok.hd hc) fun h' tk k=>⟨_,H,I.kept k,?_,q⟩
 by_cases hj:j > i
 ·rw [aWm hj,aWm hj];exact ⟨_,rfl⟩
 ·rw [aWn hj,aWn hj];exact ⟨_,rfl⟩
end
structure ObjM(h:Heap)(x dx C:Addr)(mA:Str->Option Value):Prop where
 obj:h.get? x=some (PySem.W.instObj C dx)
 ns:h.Ns1 dx mA
 ne:dx≠x
theorem aDb{h:Heap}{dx:Addr}{mA:Str->Option Value}(n:h.Ns1 dx mA):∃ od,h.get? dx=some od/\∀ name,PySem.W.lookIn name od=some (mA name):=by
 obtain ⟨o,es,ep,ho,hd,hk,_,hm⟩:=n
 refine ⟨o,ho,fun name=>?_⟩
 have e:=hm name
 unfold nsFind findBy at e
 rw [<- Array.find?_toList] at e
 unfold PySem.W.lookIn
 rw [hd]
 dsimp only
 split
 ·rename_i y q
  rw [q] at e
  exact aZu some e
 ·rename_i q
  rw [q] at e
  have a:es.toList.any (·.refKey)=false:=by
   rw [List.any_eq_false]
   intro y hy
   obtain ⟨z,t,hkey⟩:=hk y (aXz.mp hy)
   simp [DictEntry.refKey,hkey]
  have a':¬ es.toList.any (·.refKey)=true:=by rw [a];exact aXq
  rw [aWn a']
  exact aZu some e
theorem ObjM.look{h:Heap}{x dx C:Addr}{mA:Str->Option Value}(I:ObjM h x dx C mA):∃ od,PySem.W.InstAt h x (PySem.W.instObj C dx) C (some od)/\∀ name,PySem.W.lookIn name od=some (mA name) :=
 let ⟨od,ho,hl⟩:=aDb I.ns
 ⟨od,⟨I.obj,rfl,rfl,ho⟩,hl⟩
section
variable {prog:Program}{w:World}{A:Around}{E:Value->Shared->Prop}{s:Shared}{K:aV9}{x dx C f:Addr}{mA:Str->Option Value}{name:Str}{v:Value}
end
theorem RelO.some_of{v:V}{o:Option Value}(r:RelO (some v) o):∃ u,o=some u/\RelV v u:=by
 cases o with
 | none=>exact (show False from r).elim
 | some u=>exact ⟨u,rfl,r⟩
section
variable {P:Program}{w:World}{H H':Hp}{h h':Heap}{a C dx:Addr}{fs fs':List (Str×V)}
theorem aN5(hok:HOk P w H h)(e:H a=some (.ins C dx fs)):∃ mA,ObjM h a dx C mA/\(∀ f,RelO (fs.lookup f) (mA f))/\PySem.Within mA (fs.map (·.1))/\fs.length<=1000/\H dx=some (.own a):=by
 obtain ⟨d,z,ne,ob,mA,n,r,q⟩:=(show ObjOk P w H h a (.ins C dx fs) from hok a _ e)
 exact ⟨mA,⟨ob,n,ne⟩,r,q,z,d⟩
end
structure Cls(K:aV9)(C:Addr):Prop where
 pg:PySem.W.plainGet K C Str.empty=true
 hd:PySem.W.hasDictIn K C=true
 po:PySem.W.plainOver K C=true
 sa:PySem.W.findIn K (.ref C) "__setattr__" = some (some (.builtin "object.__setattr__"))
theorem Cls.get{K:aV9}{C:Addr}(c:Cls K C)(f:Str):PySem.W.plainGet K C f=true:=c.pg
section
variable {X:Cx}{pins:List (Addr×Obj)}{σ:St}{H:Hp}{s:Shared}{a C dx:Addr}{fs:List (Str×V)}{f:Str}{v:V}{A:Around}{E:Value->Shared->Prop}
end
section
variable {X:Cx}{o e value:Expr}{f:Str}{pos pos' tpos:Pos}{ta tv:TE}
end
section
variable {X:Cx}{pins:List (Addr×Obj)}{σ:St}{H:Hp}{s:Shared}{A:Around}{E:Value->Shared->Prop}{Q:Value->Shared->Prop}{c:Value}{b:Bool}
inductive aBf(K:aV9)(H:Hp):V->Value->Prop where
 | non:aBf K H .non (.type "NoneType")
 | bl (x:Bool):aBf K H (.bl x) (.type "bool")
 | int (i:Int):aBf K H (.int i) (.type "int")
 | str (x:Str):aBf K H (.str x) (.type "str")
 | flt (x:UInt64):aBf K H (.flt x) (.type "float")
 | lst {a:Addr} {xs:List V} (e:H a=some (.lst xs)):aBf K H (.ref a) (.type "list")
 | frz {a:Addr} {o:Obj} {xs:List V} (e:H a=some (.frz o (.lst xs))):aBf K H (.ref a) (.type "list")
 | tup {a:Addr} {xs:List V} (e:H a=some (.tup xs)):aBf K H (.ref a) (.type "tuple")
 | dK {a:Addr} {kvs:List (Key×V)} (e:H a=some (.dK kvs)):aBf K H (.ref a) (.type "dict")
 | dT {a:Addr} {kvs:List (List Key×V)} (e:H a=some (.dT kvs)):aBf K H (.ref a) (.type "dict")
 | ins {a C dx:Addr} {fs:List (Str×V)} (e:H a=some (.ins C dx fs)) (cl:Cls K C) (ha:PySem.W.findIn K (.ref C) "__class__" = some (some (.builtin "object.__class__")))
   (hn:PySem.W.specialIn K (.builtin "object.__class__") "__get__" = some (some (.builtin "getset_descriptor.__get__"))) (htk:PySem.W.takesIn K (.builtin "object.__class__")=some true)
   (hm:PySem.W.mroIn K C (.type "object")=some true):aBf K H (.ref a) (.ref C)
theorem aGx{x:V}{u t:Value}(I:Inv X pins σ H s)(rx:RelV x u)(ty:aBf X.K H x t)(e:PySem.W.kitOne X.K t c=some b)(h:∀ tk,Q (.bool b) { s with toks:=tk }) :
  wpAny (model X.prog X.w) A (call (.builtin "isinstance") [u,c]) Q E s:=by
 cases ty with
 | non=>cases (show u=Value.none from rx);exact aX2 PySem.W.kitx_none I.kIn True.intro e (fun z=>nomatch z) h
 | bl y=>cases (show u=Value.bool y from rx);exact aX2 PySem.W.kitx_bool I.kIn True.intro e (fun z=>nomatch z) h
 | int i=>obtain ⟨t,q⟩:=(show ∃ t,u=Value.int i t from rx);cases q;exact aX2 PySem.W.kitx_int I.kIn True.intro e (fun z=>nomatch z) h
 | str y=>obtain ⟨t,q⟩:=(show ∃ t,u=Value.str y t from rx);cases q;exact aX2 PySem.W.kitx_str I.kIn True.intro e (fun z=>nomatch z) h
 | flt y=>obtain ⟨t,q⟩:=(show ∃ t,u=Value.float y t from rx);cases q;exact aX2 PySem.W.kitx_float I.kIn True.intro e (fun z=>nomatch z) h
 | @lst a xs ea =>
  cases (show u=Value.ref a from rx)
  obtain ⟨_,_,n,_,h1⟩:=(show ObjOk X.prog X.w H s.heap a (.lst xs) from I.hok a _ ea)
  exact aX2 PySem.W.kitx_list I.kIn ⟨_,h1,rfl⟩ e (fun z=>nomatch z) h
 | @frz a ob xs ea =>
  cases (show u=Value.ref a from rx)
  obtain ⟨_,_,_,n,_,h1⟩:=(show ObjOk X.prog X.w H s.heap a (.frz ob (.lst xs)) from I.hok a _ ea)
  exact aX2 PySem.W.kitx_list I.kIn ⟨_,h1,rfl⟩ e (fun z=>nomatch z) h
 | @tup a xs ea =>
  cases (show u=Value.ref a from rx)
  obtain ⟨_,_,_,p⟩:=(show ObjOk X.prog X.w H s.heap a (.tup xs) from I.hok a _ ea)
  obtain ⟨o,h1,h2,_⟩:=p
  exact aX2 PySem.W.kitx_tuple I.kIn ⟨o,h1,h2⟩ e (fun z=>nomatch z) h
 | @dK a kvs ea =>
  cases (show u=Value.ref a from rx)
  obtain ⟨_,_,vs,_,p⟩:=(show ObjOk X.prog X.w H s.heap a (.dK kvs) from I.hok a _ ea)
  obtain ⟨o,es,ep,h1,h2,_⟩:=p
  exact aX2 PySem.W.kitx_dict I.kIn ⟨o,h1,h2.1⟩ e (fun z=>nomatch z) h
 | @dT a kvs ea =>
  cases (show u=Value.ref a from rx)
  obtain ⟨_,_,xs,_,o,es,ep,h1,h2,_⟩:=(show ObjOk X.prog X.w H s.heap a (.dT kvs) from I.hok a _ ea)
  exact aX2 PySem.W.kitx_dict I.kIn ⟨o,h1,h2.1⟩ e (fun z=>nomatch z) h
 | @ins a C dx fs ea cl ha hn htk hm =>
  cases (show u=Value.ref a from rx)
  obtain ⟨mA,O,_⟩:=aN5 I.hok ea
  obtain ⟨od,J,_⟩:=O.look
  exact aX2 (PySem.W.kitx_own (cl.get _) cl.hd ha hn htk hm) I.kIn J e (fun z=>nomatch z) h
end
structure Room(k:Nat)(A:Around):Prop where
 hd:A.handled=none
 dp:A.depth+3*k+5 < recursionLimit
 un:A.units+16*k+200 < cLine
theorem Room.mono{j k:Nat}{A:Around}(r:Room k A)(h:j<=k):Room j A:=⟨r.hd,by have:=r.dp;omega,by have:=r.un;omega⟩
theorem Room.deeper{k:Nat}{A:Around}(r:Room (k+1) A)(env:Env):Room k (A.deeper env) :=
 ⟨r.hd,by have:=r.dp;show A.depth+1+3*k+5 < _;omega,by have:=r.un;show A.units+3+16*k+200 < _;omega⟩
theorem Room.depth{k:Nat}{A:Around}(r:Room k A):A.depth < recursionLimit:=by have:=r.dp;omega
def aT5:TA:=fun _ H Q=>Q [] H
def aOq(ta:TE)(tr:TA):TA:=fun σ H Q=>ta σ H fun x H1=>tr σ H1 fun xs H2=>Q (x :: xs) H2
section
variable {X:Cx}{e:Expr}{es:List Expr}{te:TE}{t:TA}{pos:Pos}
theorem sX:PA X [] aT5:=fun _ _ _ _ H Q I h=>aZ7 ⟨[],H,I,.nil,h⟩
theorem l9(ha:PE X e te)(hr:PA X es t)(hs:starEach (e :: es) X.env=(false,eval e X.env) :: starEach es X.env:=by rfl):PA X (e :: es) (aOq te t):=by
 intro pos pins s σ H Q I h
 rw [hs]
 show wpAny _ _ (spliced ((false,eval e X.env) :: backTo pos (starEach es X.env))) _ _ s
 refine aZv (thn (ha pins s σ H _ I h) fun u s1 ⟨x,H1,I1,r1,q1⟩=>?_)
 exact thn (hr pos pins s1 σ H1 _ I1 q1) fun us s2 ⟨xs,H2,I2,r2,q2⟩=>⟨x :: xs,H2,I2,.cons r1 r2,q2⟩
def aVk(t:TA):TE:=fun σ H Q=>t σ H fun xs H1=>xs.length<=sizeLine/\∀ p,H1 p=none->Q (.ref p) (upd H1 p (.tup xs))
def aV0(t:TA):TE:=fun σ H Q=>t σ H fun xs H1=>xs.length<=sizeLine/\∀ p,H1 p=none->Q (.ref p) (upd H1 p (.lst xs))
theorem aSq{x1}(h:PA X es t):PE X (.Tuple es x1 pos) (aVk t):=by
 intro pins s σ H Q I hq
 refine wpAny_Tuple_spliced (thn (h pos pins s σ H _ I hq) fun us s1 ⟨xs,H1,I1,r,z,q⟩=>⟨by rw [<- r.length];exact z,?_⟩)
 have hf:H1 s1.heap.objs.size=none:=I1.hok.fresh (aWl _)
 refine ⟨.ref s1.heap.objs.size,upd H1 s1.heap.objs.size (.tup xs),I1.laid (t':=s1.toks) (fun b u e=>aWf _ e) (aWl _) ?_,rfl,q _ hf⟩
 exact ⟨z,us,r,⟨_,aWw _ rfl,rfl,_,rfl⟩⟩
theorem aR2(h:PA X es t):PE X (.List es pos) (aV0 t):=by
 intro pins s σ H Q I hq
 refine wpAny_List_spliced (thn (h pos pins s σ H _ I hq) fun us s1 ⟨xs,H1,I1,r,z,q⟩=>⟨by rw [<- r.length];exact z,?_⟩)
 have hf:H1 s1.heap.objs.size=none:=I1.hok.fresh (aWl _)
 refine ⟨.ref s1.heap.objs.size,upd H1 s1.heap.objs.size (.lst xs),I1.laid (t':=s1.toks) (fun b u e=>aWf _ e) (aWl _) ?_,rfl,q _ hf⟩
 exact ⟨z,us,0,r,aWw _ rfl⟩
end
abbrev Sp:=List V->Hp->VK->XK->Prop
abbrev CXT:=List Env->Hp->Shared->XK->Value->Shared->Prop
structure aSu(P:Program)(w:World)(K:aV9)(mg:Str->Option Value)(base:Heap)(A:Around)(outer:List Env)(s:Shared)(H:Hp):Prop where
 frames:A.frames=some outer
 mod:Mod K mg base
 bs:∀ b o,base.get? b=some o->s.heap.get? b=some o/\H b=none
 bsz:base.objs.size<=s.heap.objs.size
 funs:s.heap.FunFrames base outer
 frf:∀ b∈frs outer,H b=none
 hok:HOk P w H s.heap
 bare:AllBare s.gens
def CE(outer:List Env)(P:Program)(w:World)(H:Hp)(s:Shared)(Q:VK)(u:Value)(s':Shared):Prop :=
 ∃ v H',s'.os=s.os/\AllBare s'.gens/\Un (frs outer) [] H H' s.heap s'.heap/\HOk P w H' s'.heap/\RelV v u/\Q v H'
def CR(CX:CXT)(outer:List Env)(P:Program)(w:World)(H:Hp)(s:Shared)(Q:VK)(E:XK)(r:Result)(s':Shared):Prop :=
 match r with
 | .ok (.ret u)=>CE outer P w H s Q u s'
 | .ok _=>False
 | .error e=>CX outer H s E e s'
structure FnOk(P:Program)(w:World)(K:aV9)(mg:Str->Option Value)(base:Heap)(CX:CXT)(k:Nat)(f:Addr)(fd:FuncData)(ps:List Str)(sp:Sp):Prop where
 len:∀ vs H Q E,sp vs H Q E->vs.length=ps.length
 run:∀ (A:Around) (outer:List Env) (s:Shared) (H:Hp) (args:Args) (us:List Value) (vs:List V) (Q:VK) (E:XK),Room k A->aSu P w K mg base A outer s H->BindsTo s fd args (ps.zip us)->Vals vs us->sp vs H Q E ->
  codeAny (model P w) A (.call (.ref f) args) (CR CX outer P w H s Q E) s
theorem FnOk.mono{P:Program}{w:World}{K:aV9}{mg:Str->Option Value}{base:Heap}{CX:CXT}{j k:Nat}{f:Addr}{fd:FuncData}{ps:List Str}{sp:Sp}(F:FnOk P w K mg base CX j f fd ps sp)(h:j<=k) :
  FnOk P w K mg base CX k f fd ps sp:=⟨F.len,fun A outer s H args us vs Q E hr=>F.run A outer s H args us vs Q E (hr.mono h)⟩
theorem FnOk.imp{P:Program}{w:World}{K:aV9}{mg:Str->Option Value}{base:Heap}{CX:CXT}{k:Nat}{f:Addr}{fd:FuncData}{ps:List Str}{sp sp':Sp}(F:FnOk P w K mg base CX k f fd ps sp)
  (h:∀ vs H Q E,sp' vs H Q E->sp vs H Q E):FnOk P w K mg base CX k f fd ps sp' :=
 ⟨fun vs H Q E q=>F.len vs H Q E (h _ _ _ _ q),fun A outer s H args us vs Q E hr he hb hv hs=>F.run A outer s H args us vs Q E hr he hb hv (h _ _ _ _ hs)⟩
section
variable {X:Cx}{pins:List (Addr×Obj)}{σ:St}{H:Hp}{s s':Shared}
theorem Inv.env0(I:Inv X pins σ H s):aSu X.prog X.w X.K X.mg X.base X.A X.stack s H :=
 ⟨I.ok.frames,I.ok.mod,I.bs,aXk I.ok.bsz I.sz,I.stack,I.stkFree,I.hok,I.bare⟩
theorem Inv.after{Q:VK}{u:Value}(I:Inv X pins σ H s)(h:CE X.stack X.prog X.w H s Q u s'):EP X pins σ Q u s':=by
 obtain ⟨v,H',os,bare,un,hok,r,q⟩:=h
 obtain ⟨hh,g,d,t,os'⟩:=s'
 obtain rfl:os'=s.os:=os
 exact ⟨v,H',I.call (h':=hh) (g':=g) (d':=d) (t':=t) (ch:=[]) un hok bare (fun b z=>absurd z (by simp)),r,q⟩
end
def Binds(K:aV9)(fd:FuncData)(ps:List Str)(ds:List Value):Prop :=
 ∀ (s:Shared) (us:List Value),K.In s.heap->(us++ds).length=ps.length->BindsTo s fd ⟨us,[]⟩ (ps.zip (us++ds))
theorem Binds.all{K:aV9}{fd:FuncData}{ps:List Str}(h:∀ us:List Value,us.length=ps.length->bindArgs fd ⟨us,[]⟩=pure (ps.zip us)):Binds K fd ps []:=fun s us _ hl=>by
 rw [aYk] at hl ⊢
 exact .of_eq (h us hl)
def aQl(CX:CXT)(X:Cx)(E:XK):Prop:=∀ (pins:List (Addr×Obj)) (σ:St) (H:Hp) (s:Shared) (e:Value) (s':Shared),Inv X pins σ H s->CX X.stack H s E e s'->X.xe e s'
section
variable {X:Cx}{CX:CXT}{k:Nat}{f C:Addr}{fd:FuncData}{ps:List Str}{sp:Sp}{dvs:List V}{ds:List Value}{E:XK}{x m:Str}{p pos apos:Pos}{e o:Expr}{es:List Expr}{ta:TE}{t:TA}
end
section
variable {X:Cx}{CX:CXT}{k:Nat}{f C:Addr}{fd:FuncData}{ps ks:List Str}{sp:Sp}{E:XK}{x m:Str}{p pos apos kpos:Pos}{e o:Expr}{es:List Expr}{kws:List Keyword}{te ta:TE}{t tk:TA}{nm:Option Str}
variable {g:List Value->List Value->List Value}{gV:List V->List V->List V}
end
structure a9(N P:List Str)(sc:Scope):Prop where
 kind:sc.kind=.function
 co:sc.isCoroutine=false
 gen:sc.isGenerator=false
 nd:N.Nodup
 pre:N.take P.length=P
 par:∀ x∈P,sc.names.lookup x=some .local\/sc.names.lookup x=some .cell
 nofree:∀ y∈sc.names,y.2≠.free
theorem v8{kindOf:Str->Option NameKind}{x:Str}:∀ {binds:List (Str×Value)} {m:Str->Option Value},(∀ v,(x,v)∉binds)->bindL kindOf binds m x=m x
 | [],_,_=>rfl
 | (n,v) :: r,m,h=>by
  unfold bindL
  rw [v8 fun w hw=>h w (aXy _ hw)]
  split
  ·have:x≠n:=by rintro rfl;exact h v bAo
   simp [this]
  ·rfl
theorem vZ{kindOf:Str->Option NameKind}{x:Str}:∀ {binds:List (Str×Value)} {m:Str->Option Value},(∀ v,(x,v)∉binds)->bindC kindOf binds m x=m x
 | [],_,_=>rfl
 | (n,v) :: r,m,h=>by
  unfold bindC
  rw [vZ fun w hw=>h w (aXy _ hw)]
  split
  ·rfl
  ·have:x≠n:=by rintro rfl;exact h v bAo
   simp [this]
theorem wG{kindOf:Str->Option NameKind}{x:Str}{v:Value}:∀ {P:List Str} {vs:List Value} {i:Nat} {m:Str->Option Value},P.Nodup->P[i]? = some x->vs[i]? = some v->kindOf x=some .local ->
  bindL kindOf (P.zip vs) m x=some v
 | [],_,_,_,_,h,_,_=>by simp at h
 | _ :: _,[],_,_,_,_,h,_=>by simp at h
 | p :: P,w :: vs,0,m,nd,h1,h2,hk=>by
  simp at h1 h2;subst h1;subst h2
  show bindL kindOf ((p,w) :: P.zip vs) m p=_
  unfold bindL
  rw [v8 fun v hv=>(aYd.mp nd).1 (bCx hv).1,aWm hk]
  simp
 | p :: P,w :: vs,i+1,m,nd,h1,h2,hk=>by
  show bindL kindOf ((p,w) :: P.zip vs) m x=_
  unfold bindL
  exact wG (i:=i) (aYd.mp nd).2 (by simpa using h1) (by simpa using h2) hk
theorem wV{kindOf:Str->Option NameKind}{x:Str}{v:Value}:∀ {P:List Str} {vs:List Value} {i:Nat} {m:Str->Option Value},P.Nodup->P[i]? = some x->vs[i]? = some v->kindOf x≠some .local ->
  bindC kindOf (P.zip vs) m x=some v
 | [],_,_,_,_,h,_,_=>by simp at h
 | _ :: _,[],_,_,_,_,h,_=>by simp at h
 | p :: P,w :: vs,0,m,nd,h1,h2,hk=>by
  simp at h1 h2;subst h1;subst h2
  show bindC kindOf ((p,w) :: P.zip vs) m p=_
  unfold bindC
  rw [vZ fun v hv=>(aYd.mp nd).1 (bCx hv).1,aWn hk]
  simp
 | p :: P,w :: vs,i+1,m,nd,h1,h2,hk=>by
  show bindC kindOf ((p,w) :: P.zip vs) m x=_
  unfold bindC
  exact wV (i:=i) (aYd.mp nd).2 (by simpa using h1) (by simpa using h2) hk
def start(N:List Str)(vs:List V):St:=vs.map some++List.replicate (N.length - vs.length) none
def uO(CX:CXT)(P:Program)(w:World)(K:aV9)(mg:Str->Option Value)(base:Heap)(N:List Str)(qual:Str)(scope:Scope)(f:Addr)(cd:Value)(A:Around)(outer:List Env)(s:Shared)(H:Hp)(E:XK):Cx where
 prog:=P
 w:=w
 K:=K
 mg:=mg
 base:=base
 A:=A.deeper (envOfC qual scope s.heap.objs.size f cd)
 N:=N
 s₀:=s
 H₀:=H
 env:=envOfC qual scope s.heap.objs.size f cd
 outer:=outer
 stack:=envOfC qual scope s.heap.objs.size f cd :: outer
 ex:=[]
 calm:=true
 fn:=fun _=>true
 pn:=[]
 xe:=fun e s'=>wpAny (model P w) (A.deeper (envOfC qual scope s.heap.objs.size f cd)) (leaving (envOfC qual scope s.heap.objs.size f cd) e) (fun _ s''=>CX outer H s E e s'') (fun e' s''=>CX outer H s E e' s'') s'
theorem aB8{sc:Scope}{n:Nat}{x:Str}(h:sc.names.lookup x=some .cell):∃ c,(cellsFrom n sc.names []).lookup x=some c:=by
 have q:=bCs sc.names n [] (.inl h)
 exact aXt.mp q
theorem aG1{CX:CXT}{P:Program}{w:World}{K:aV9}{mg:Str->Option Value}{base:Heap}{N ps:List Str}{qual:Str}{scope:Scope}{f:Addr}{cd:Value}{A:Around}{outer:List Env}{s s1:Shared}{H:Hp}{E:XK}{us:List Value}{vs:List V}
  (S:a9 N ps scope) (hd:A.handled=none) (e0:aSu P w K mg base A outer s H) (hl:vs.length=ps.length) (r:Vals vs us)
  (x:InCallC s s.heap.objs.size (bindL (envOfC qual scope s.heap.objs.size f cd).kindOf (ps.zip us) fun _=>none) (cellsFrom (s.heap.objs.size+1) scope.names []) (bindC (envOfC qual scope s.heap.objs.size f cd).kindOf (ps.zip us) fun _=>none) s1) :
  Inv (uO CX P w K mg base N qual scope f cd A outer s H E) [] (start N vs) H s1:=by
 have hpl:ps.length<=N.length:=by have:=aZu List.length S.pre;rw [aYp] at this;omega
 obtain ⟨h1,tk,rfl,hk⟩:=x.done
 have noA:∀ b:Addr,b∉(uO CX P w K mg base N qual scope f cd A outer s H E).ex:=fun b z=>absurd (show b∈([]:List Addr) from z) (by simp)
 refine ⟨⟨e0.mod,S.kind,rfl,rfl,aWl _,fun y z c h1 h2=>?_,fun y hy=>?_,fun y c _ h=>?_,fun _=>hd,Around.frames_deeper e0.frames,.inr ⟨rfl,rfl⟩,fun b z=>absurd z (noA b),e0.bs,e0.bsz,fun b _ _=>noA b,fun b z=>absurd z (noA b),e0.funs,e0.frf⟩,
  rfl,e0.bare,Un.kept hk,⟨_,x.toInCall.ns,fun i y v h1 h2 h3=>?_⟩,fun y c h=>⟨_,x.cell y c h⟩,e0.hok.fresh (aWl _),fun y c h=>?_,fun p hp=>absurd (show p∈([]:List (Addr×Obj)) from hp) (by simp),e0.hok.kept hk,?_⟩
 ·exact name_of_addr x.apart (aYe h1) (aYe h2)
 ·have hy:scope.names.lookup y=some .cell\/scope.names.lookup y=some .free:=hy
  rcases hy with hy | hy
  ·exact aB8 hy
  ·exact absurd rfl (S.nofree _ (aYe hy))
 ·exact aZr (x.above y c (aYe h))
 ·have hi:i < vs.length:=by
   unfold start at h2
   by_cases hi:i < vs.length
   ·exact hi
   ·rw [aW6 (by simpa using hi)] at h2
    rw [aY4] at h2
    split at h2<;>cases h2
  have ha:vs[i]? = some v:=by
   unfold start at h2
   rw [aXl (by simpa using hi),aWu] at h2
   cases e:vs[i]? with
   | none=>rw [e] at h2;cases h2
   | some a=>rw [e] at h2;cases h2;rfl
  obtain ⟨u,hu,rv⟩:=r.get ha
  have hp:ps[i]? = some y:=by
   rw [<- S.pre,List.getElem?_take_of_lt (by omega)];exact h1
  have ndP:ps.Nodup:=by rw [<- S.pre];exact S.nd.sublist (List.take_sublist _ _)
  refine ⟨u,rv,?_⟩
  rcases S.par y (aY2 hp) with k | k
  ·exact .inl ⟨k,wG ndP hp hu k⟩
  ·obtain ⟨c,e⟩:=aB8 (n:=s.heap.objs.size+1) k
   refine .inr ⟨.inl k,c,e,?_⟩
   have q:=x.cell y c e
   rw [wV ndP hp hu (by show scope.names.lookup y≠_;rw [k];decide)] at q
   exact q
 ·exact e0.hok.fresh (aZr (x.above y c (aYe h)))
 ·unfold start
  show _=N.length
  rw [aWq,aWb,aW8]
  omega
theorem aS2{CX:CXT}{P:Program}{w:World}{K:aV9}{mg:Str->Option Value}{base:Heap}{k:Nat}{f:Addr}{name qual:Str}{params:Arguments}{body:List Stmt}{scope:Scope}{dV kV doc pm cdv ct oc:Value}{an od:Option Addr}
  {osl:Array (Option Value)} {N ps:List Str} {sp:Sp} (lk:K.lookup f=some ⟨oc,od,.func (PySem.W.fnOf name qual params body scope dV kV doc pm an cdv ct),osl⟩) (hcd:PySem.W.codeIn K cdv qual=true) (S:a9 N ps scope)
  (len:∀ vs H Q E,sp vs H Q E->vs.length=ps.length)
  (hbody:∀ (A:Around) (outer:List Env) (s:Shared) (H:Hp) (vs:List V) (Q:VK) (E:XK),Room k (A.deeper (envOfC qual scope s.heap.objs.size f cdv))->sp vs H Q E ->
   ∃ t,PSs (uO CX P w K mg base N qual scope f cdv A outer s H E) body t/\t { nx:=fun _ H'=>Q .non H',rt:=Q } (start N vs) H) :
  FnOk P w K mg base CX (k+1) f (PySem.W.fnOf name qual params body scope dV kV doc pm an cdv ct) ps sp:=by
 refine ⟨len,fun A outer s H args us vs Q E hr e0 hb r hsp=>?_⟩
 have hl:=len _ _ _ _ hsp
 have KX:K.In s.heap:=e0.mod.kin.keeps fun b o e=>(e0.bs b o e).1
 have lim:s.heap.NoLimit:=e0.mod.nolimit.keeps fun b o e=>(e0.bs b o e).1
 have hkind:∀ y∈ps.zip us,scope.names.lookup y.1=some .local\/(scope.names.lookup y.1=some .cell/\((cellsFrom (s.heap.objs.size+1) scope.names []).lookup y.1).isSome=true):=fun ⟨n,v⟩ hy=>by
  rcases S.par n (bCx hy).1 with q | q
  ·exact .inl q
  ·exact .inr ⟨q,bCs _ _ _ (.inl q)⟩
 refine codeAny_call_function hr.depth (KX _ _ lk) rfl S.co S.gen rfl (PySem.W.codeRec_of KX hcd) (hb _ _ _ _ ?_)
 refine wpAny_newFunctionEnv_cells S.kind hkind fun env he s1 x=>?_
 subst he
 refine ⟨lim.keeps x.toInCall.keep,codeAny_func ?_⟩
 obtain ⟨t,ht,hq⟩:=hbody A outer s H vs Q E (hr.deeper _) hsp
 have I:Inv (uO CX P w K mg base N qual scope f cdv A outer s H E) [] (start N vs) H s1:=aG1 S hr.hd e0 hl r x
 refine aX6 (ht [] s1 (start N vs) H _ I hq) (fun fl s' hs=>?_) fun e s' hs=>hs
 have fin:∀ {σ':St} {H':Hp} {v:V} {u:Value},Inv (uO CX P w K mg base N qual scope f cdv A outer s H E) [] σ' H' s'->RelV v u->Q v H'->CE outer P w H s Q u s' :=
  fun {σ' H' v u} J rv q=>⟨v,H',J.os,J.bare,J.base,J.hok,rv,q⟩
 cases fl with
 | ret u =>
  obtain ⟨v,σ',H',J,rv,q⟩:=hs
  exact fin J rv q
 | next =>
  obtain ⟨σ',H',J,q⟩:=hs
  exact fin (v:=V.non) (u:=Value.none) J rfl q
 | brk =>
  obtain ⟨_,_,_,q⟩:=hs
  exact False.elim q
 | cont =>
  obtain ⟨_,_,_,q⟩:=hs
  exact False.elim q
section
variable {X:Cx}{x:Str}{p pos:Pos}{e:Expr}{es:List Expr}{t:TA}{id T:String}{r:List V->Hp->VK->Prop}
def tCB(r:List V->Hp->VK->Prop)(t:TA):TE:=fun σ H Q=>t σ H fun vs H1=>r vs H1 Q
theorem aB6(hc:mF X (.builtin id) r)(hg:Gl X x)(hm:X.mg x=none)(hv:bootBuiltins x=some (.builtin id))(ha:PA X (e :: es) t)(hn:x≠"__name__":=by decide)(hdb:(x == ("__debug__" : Str))=false:=by decide)
  (he:starEach (e :: es) X.env=(false,eval e X.env) :: starEach es X.env:=by rfl) (hpl:(backTo pos (starEach es X.env)).any (·.1)=false:=by rfl):PE X (.Call (.Name x p) (e :: es) [] pos) (tCB r t):=by
 intro pins s σ H Q I h
 refine aYz (lW I hg hm hv ?_ hn hdb)
 exact bA5 (thn (ha pos pins s σ H _ I h) fun us s1 ⟨vs,H1,I1,r1,q1⟩=>hc pins s1 σ H1 vs us Q I1 r1 q1) he hpl
theorem aGw(hc:mF X (.type T) r)(hg:Gl X x)(hm:X.mg x=none)(hv:bootBuiltins x=some (.type T))(ha:PA X (e :: es) t)(hn:x≠"__name__":=by decide)(hdb:(x == ("__debug__" : Str))=false:=by decide)
  (he:starEach (e :: es) X.env=(false,eval e X.env) :: starEach es X.env:=by rfl) (hpl:(backTo pos (starEach es X.env)).any (·.1)=false:=by rfl):PE X (.Call (.Name x p) (e :: es) [] pos) (tCB r t):=by
 intro pins s σ H Q I h
 refine aYz (lW I hg hm hv ?_ hn hdb)
 exact aXs (thn (ha pos pins s σ H _ I h) fun us s1 ⟨vs,H1,I1,r1,q1⟩=>hc pins s1 σ H1 vs us Q I1 r1 q1) he hpl
end
end L2
namespace HT
open PySem PyProof.Rows
def lexLt:List Int->List Int->Bool
 | [],[]=>false
 | [],_ :: _=>true
 | _ :: _,[]=>false
 | x :: xs,y :: ys=>if x=y then lexLt xs ys else decide (x < y)
theorem fB(x y:Int)(xs ys:List Int):lexLt (x :: xs) (y :: ys)=if x=y then lexLt xs ys else decide (x < y):=rfl
theorem tV:lexLt [] []=false:=rfl
section
open PySem.SeqAt
open PySem.AutoSeq1 (wpAny_loadPart')
open PySem.MeetsSeq PySem.MeetsSeq2 PySem.MeetsSeq3
end
section
variable {prog:Program}{w:World}{A:Around}{E:Value->Shared->Prop}{s:Shared}
def sIx(n d:Nat):Option Int->Nat
 | none=>d
 | some v=>if v < 0 then (v+(n:Int)).toNat else min v.toNat n
theorem aAb(n d:Nat):sIx n d none=d:=rfl
theorem yC(n d k:Nat):sIx n d (some (k:Int))=min k n:=by
 show (if (k:Int) < 0 then ((k:Int)+(n:Int)).toNat else min (k:Int).toNat n)=min k n
 rw [aWn (by omega),aX7]
end
end HT
namespace L2
open PySem PySem.Spec PyProof.Rows
abbrev TO:=St->Hp->(Option Int->Hp->Prop)->Prop
def PO(X:Cx)(e:Option Expr)(t:TO):Prop :=
 ∀ (pins:List (Addr×Obj)) (s:Shared) (σ:St) (H:Hp) (Q:Option Int->Hp->Prop),Inv X pins σ H s->t σ H Q ->
  wpAny (model X.prog X.w) X.A (evalPart e X.env) (fun u s'=>∃ o H',Inv X pins σ H' s'/\IsPart u o/\Q o H') X.xe s
def aMo:TO:=fun _ H Q=>Q none H
def aS4(t:TE):TO:=fun σ H Q=>t σ H fun x H1=>∃ i,x=.int i/\Q (some i) H1
theorem intsAre_of{ns:List Int}:∀ {us:List Value},Vals (ns.map V.int) us->IntsAre us ns:=by
 induction ns with
 | nil=>intro us r;rw [aYq] at r;cases r;exact .nil
 | cons n ns ih =>
  intro us r
  rw [aWo] at r
  cases r with
  | cons r1 r2 =>
   obtain ⟨t,e⟩:=r1
   subst e
   exact .cons n t (ih r2)
section
variable {X:Cx}{e:Expr}{te:TE}{lo hi:Option Expr}{tl th:TO}{pos p2:Pos}
theorem aM7:PO X none aMo:=by
 intro pins s σ H Q I h
 rw [evalPart_none]
 exact aWe ⟨none,H,I,.none,h⟩
theorem aN3(h:PE X e te):PO X (some e) (aS4 te):=by
 intro pins s σ H Q I hw
 rw [evalPart_some]
 refine thn (h pins s σ H _ I hw) fun u s1 ⟨x,H1,I1,r1,q1⟩=>?_
 obtain ⟨i,rfl,q⟩:=q1
 obtain ⟨t,rfl⟩:=r1
 exact ⟨some i,H1,I1,.int i t,q⟩
def SlR(X:Cx)(r:V->Option Int->Option Int->Hp->VK->Prop):Prop :=
 ∀ (pins:List (Addr×Obj)) (s:Shared) (σ:St) (H:Hp) (x:V) (v vl vu:Value) (lo hi:Option Int) (sl:Addr) (Q:VK),Inv X pins σ H s->RelV x v->s.heap.IsSliceOf sl vl vu .none->IsPart vl lo->IsPart vu hi->r x lo hi H Q ->
  ∃ T id,typeLookup (.type T) "__getitem__" = pure (some (.builtin id))/\s.TypeIs v T/\wpAny (model X.prog X.w) X.A (getItem v (.ref sl)) (EP X pins σ Q) X.xe s
def tSl(r:V->Option Int->Option Int->Hp->VK->Prop)(te:TE)(tl th:TO):TE:=fun σ H Q=>te σ H fun x H1=>tl σ H1 fun l H2=>th σ H2 fun u H3=>r x l u H3 Q
theorem aIu{r:V->Option Int->Option Int->Hp->VK->Prop}(hr:SlR X r)(he:PE X e te)(hl:PO X lo tl)(hu:PO X hi th):PE X (.Subscript e (.Slice lo hi none p2) pos) (tSl r te tl th):=by
 intro pins s σ H Q I h
 refine Subscript_ (thn (he pins s σ H _ I h) fun v s1 ⟨x,H1,I1,r1,q1⟩=>?_)
 refine wpAny_Slice (thn (hl pins s1 σ H1 _ I1 q1) fun vl s2 ⟨l,H2,I2,pl,q2⟩=>thn (hu pins s2 σ H2 _ I2 q2) fun vu s3 ⟨u,H3,I3,pu,q3⟩=>?_)
 rw [evalPart_none]
 refine aWe ?_
 have I4:Inv X pins σ H3 { s3 with heap:=s3.heap.push { cls:=.type "slice",data:=.fields #[vl,vu,.none] } }:=I3.kept (t':=s3.toks) fun b ob q=>aWf _ q
 obtain ⟨T,id,hT,ht,hg⟩:=hr pins { s3 with heap:=s3.heap.push { cls:=.type "slice",data:=.fields #[vl,vu,.none] } } σ H3 x v vl vu l u s3.heap.objs.size Q I4 r1 (Heap.IsSliceOf.new ..) pl pu q3
 show wpAny (model X.prog X.w) X.A (subscriptTail e (.Slice lo hi none p2) v (.ref s3.heap.objs.size)) (EP X pins σ Q) X.xe { s3 with heap:=s3.heap.push { cls:=.type "slice",data:=.fields #[vl,vu,.none] } }
 exact tail_any (ops:=[.ref s3.heap.objs.size,v]) ht hT hg (by with_unfolding_all rfl)
def aPi(xs:List V)(lo hi:Option Int):List V:=(xs.drop (HT.sIx xs.length 0 lo)).take (HT.sIx xs.length xs.length hi - HT.sIx xs.length 0 lo)
theorem yK(xs:List V)(lo hi:Option Int):(aPi xs lo hi).length<=xs.length:=by
 unfold aPi
 rw [aYp,aZg]
 omega
end
def ixN(n:Nat)(i:Int):Option Nat:=if 0<=i then (if i < n then some i.toNat else none) else if -(n:Int)<=i then some (i+n).toNat else none
def atI{α:Type}(xs:List α)(i:Int):Option α:=(ixN xs.length i).bind fun j=>xs[j]?
theorem aFo{n:Nat}{i:Int}{j:Nat}(h:ixN n i=some j):seqIndex? i n=some j/\j < n/\-(n:Int)<=i/\i < n:=by
 unfold ixN at h
 by_cases h0:0<=i
 ·rw [aWm h0] at h
  by_cases h1:i < n
  ·rw [aWm h1] at h
   have e:i.toNat=j:=aWx h
   exact ⟨by rw [seqIndex_of h0 h1,e],by omega,by omega,h1⟩
  ·rw [aWn h1] at h;cases h
 ·rw [aWn h0] at h
  by_cases h1:-(n:Int)<=i
  ·rw [aWm h1] at h
   have e:(i+n).toNat=j:=aWx h
   exact ⟨by rw [seqIndex_neg (by omega) h1,e],by omega,h1,by omega⟩
  ·rw [aWn h1] at h;cases h
theorem aDj{α:Type}{xs:List α}{i:Int}{v:α}(h:atI xs i=some v):∃ j,seqIndex? i xs.length=some j/\xs[j]? = some v/\j < xs.length/\-(xs.length:Int)<=i/\i < xs.length:=by
 unfold atI at h
 cases e:ixN xs.length i with
 | none=>rw [e] at h;cases h
 | some j =>
  rw [e] at h
  obtain ⟨h1,h2,h3,h4⟩:=aFo e
  exact ⟨j,h1,h,h2,h3,h4⟩
theorem qQ{α:Type}{xs:List α}{j:Nat}{v:α}(h:xs[j]? = some v):atI xs (j:Int)=some v:=by
 have hj:j < xs.length:=(aXa.mp h).1
 have e:ixN xs.length (j:Int)=some j:=by
  unfold ixN
  rw [aWm (by omega),aWm (by omega)];simp
 unfold atI;rw [e];exact h
theorem aI3{α:Type}(xs:List α)(v:α):atI (xs++[v]) (-1)=some v:=by
 have hl:(xs++[v]).length=xs.length+1:=by simp
 have e:ixN (xs++[v]).length (-1)=some xs.length:=by
  unfold ixN
  rw [hl,aWn (by decide),aWm (by omega)]
  congr 1
  omega
 unfold atI
 rw [e]
 show (xs++[v])[xs.length]? = some v
 simp
def aFg(b:Expr):Prop:=∀ o i,subscripted b false o i=operate [o,i] (getItem o i)
def IxR(X:Cx)(r:R2):Prop :=
 ∀ (value slice:Expr) (pins:List (Addr×Obj)) (s:Shared) (σ:St) (H:Hp) (x y:V) (v u:Value) (Q:VK),Inv X pins σ H s->RelV x v->RelV y u->r x y H Q ->
  subscripted slice false v u=operate [v,u] (getItem v u)->wpAny (model X.prog X.w) X.A (subscriptTail value slice v u) (EP X pins σ Q) X.xe s
def MtR(X:Cx)(id:String)(r:V->List V->Hp->VK->Prop):Prop :=
 ∀ (pins:List (Addr×Obj)) (s:Shared) (σ:St) (H:Hp) (x:V) (xs:List V) (v:Value) (us:List Value) (Q:VK),Inv X pins σ H s->RelV x v->Vals xs us->r x xs H Q ->
  wpAny (model X.prog X.w) X.A (call (.builtin id) (v :: us)) (EP X pins σ Q) X.xe s
section
variable {X:Cx}{a b:Expr}{ta tb:TE}{pos:Pos}
theorem IxR.or{r r':R2}(h:IxR X r)(h':IxR X r'):IxR X (fun x y H Q=>r x y H Q\/r' x y H Q):=by
 intro value slice pins s σ H x y v u Q I rx ry q hs
 rcases q with q | q
 ·exact h value slice pins s σ H x y v u Q I rx ry q hs
 ·exact h' value slice pins s σ H x y v u Q I rx ry q hs
theorem aU0{r:R2}(hr:IxR X r)(ha:PE X a ta)(hb:PE X b tb)(hs:aFg b):PE X (.Subscript a b pos) (tOp r ta tb):=by
 intro pins s σ H Q I h
 exact Subscript_ (aTm ha hb I h fun v u s2 x y H2 I2 rx ry q=>hr a b pins s2 σ H2 x y v u Q I2 rx ry q (hs _ _))
def aVg(K:aV9):R2:=fun x y H Q=>∃ p xs i v,x=.ref p/\y=.int i/\SqL K H p xs/\atI xs i=some v/\Q v H
def aVc(K:aV9):R2:=fun x y H Q=>∃ p xs i v,x=.ref p/\y=.int i/\SqT K H p xs/\atI xs i=some v/\Q v H
theorem ix_list:IxR X (aVg X.K):=by
 intro value slice pins s σ H x y v u Q I rx ry h hs
 obtain ⟨p,xs,i,z,rfl,rfl,hq,he,q⟩:=h
 cases rx
 obtain ⟨t,rfl⟩:=ry
 obtain ⟨its,r,pl,hz⟩:=I.list hq
 obtain ⟨j,h1,h2,h3,h4,h5⟩:=aDj he
 obtain ⟨w,ew,rw'⟩:=r.get h2
 have hl:=r.length
 have hn:=aBl
 have fin:EP X pins σ Q w s:=⟨z,H,I,rw',q⟩
 by_cases h0:0<=i
 ·have hj:i.toNat=j:=by
   rw [seqIndex_of h0 h5] at h1
   exact aWx h1
  exact item_listR pl.isList h0 (by omega) (by rw [hj];simpa using ew) fin hs
 ·have hj:(i+(its.toArray.size:Int)).toNat=j:=by
   rw [seqIndex_neg (by omega) h4] at h1
   rw [aWk,<- hl]
   exact aWx h1
  exact subscriptTail_builtinR (x:=w) pl.isList.typeIs slot_list_getitem.lookup
   (wpAny_getItem_list_neg (Q:=fun r s'=>r=w/\EP X pins σ Q r s') pl.isList (by omega) (by rw [aWk]<;>omega) (by omega) (by rw [hj];simpa using ew) ⟨rfl,fin⟩) hs
theorem aQk:IxR X (aVc X.K):=by
 intro value slice pins s σ H x y v u Q I rx ry h hs
 obtain ⟨p,xs,i,z,rfl,rfl,hq,he,q⟩:=h
 cases rx
 obtain ⟨t,rfl⟩:=ry
 obtain ⟨its,r,pl,hz⟩:=I.tuple hq
 obtain ⟨j,h1,h2,h3,h4,h5⟩:=aDj he
 obtain ⟨w,ew,rw'⟩:=r.get h2
 have hl:=r.length
 have hn:=aBl
 have fin:EP X pins σ Q w s:=⟨z,H,I,rw',q⟩
 exact subscriptTail_builtinR (x:=w) pl.typeIs slot_tuple_getitem.lookup
  (getItem_tuple (j:=j) (Q:=fun r s'=>r=w/\EP X pins σ Q r s') pl (by omega) (by omega) (by rw [aWk,<- hl];exact h1) (by simpa using ew) ⟨rfl,fin⟩) hs
theorem aCr(its:List Value)(n j:Nat)(u:Value):Obj.mapSeq (·.setIfInBounds j u) { cls:=.type "list",data:=.seq its.toArray n }={ cls:=.type "list",data:=.seq (its.set j u).toArray n }:=by
 simp [Obj.mapSeq]
theorem Inv.lst{pins:List (Addr×Obj)}{σ:St}{H:Hp}{s:Shared}{p:Addr}{xs:List V}(I:Inv X pins σ H s)(h:H p=some (.lst xs)) :
  ∃ (its:List Value) (n:Nat),Vals xs its/\s.heap.get? p=some { cls:=.type "list",data:=.seq its.toArray n }/\xs.length<=sizeLine:=by
 obtain ⟨z,its,n,r,e⟩:=I.hok p _ h
 exact ⟨its,n,r,e,z⟩
theorem Inv.lstUpd{pins:List (Addr×Obj)}{σ:St}{H:Hp}{s:Shared}{p:Addr}{xs ys:List V}{its its':List Value}{n n':Nat}{f:Obj->Obj}(I:Inv X pins σ H s)(h:H p=some (.lst xs))
  (ho:s.heap.get? p=some { cls:=.type "list",data:=.seq its.toArray n }) (hf:f { cls:=.type "list",data:=.seq its.toArray n }={ cls:=.type "list",data:=.seq its'.toArray n' }) (r:Vals ys its') (hz:ys.length<=sizeLine) (t:Nat) :
  Inv X pins σ (upd H p (.lst ys)) { s with heap:=s.heap.update p f,toks:=t }:=by
 have e:(s.heap.update p f).get? p=some { cls:=.type "list",data:=.seq its'.toArray n' }:=by
  rw [aYy f ho (by rw [hf]<;>rfl),hf]
 refine I.write (x:=p) (e:=p) (by rw [h];trivial) (.inl rfl) (fun b u hb q=>(bAz _ _ (bB2 hb)).trans q) ⟨_,e⟩ ?_
 exact ⟨hz,its',n',r,e⟩
def aRn:V->V->V->Hp->(Hp->Prop)->Prop:=fun o i v H Q=>∃ p xs k j,o=.ref p/\i=.int k/\H p=some (.lst xs)/\ixN xs.length k=some j/\Q (upd H p (.lst (xs.set j v)))
theorem set_list:aVi X aRn:=by
 intro pins s σ H o i v ov iv u Q I ro ri rv h
 obtain ⟨p,xs,k,j,rfl,rfl,hp,hj,q⟩:=h
 cases ro
 obtain ⟨t,rfl⟩:=ri
 obtain ⟨its,n,r,ho,hz⟩:=I.lst hp
 obtain ⟨h1,h2,h3,h4⟩:=aFo hj
 have hl:=r.length
 have hn:=aBl
 have I':Inv X pins σ (upd H p (.lst (xs.set j v))) { s with heap:=s.heap.update p (Obj.mapSeq (·.setIfInBounds j u)) } :=
  I.lstUpd hp ho (aCr its n j u) (r.set rv j) (by rw [aZz];exact hz) s.toks
 by_cases h0:0<=k
 ·have hk:k.toNat=j:=by
   rw [seqIndex_of h0 h4] at h1
   exact aWx h1
  exact PySem.W.ki_setAt ho h0 (by omega) (by rw [aWk,<- hl];exact h4) (by rw [hk];exact ⟨_,I',q⟩)
 ·have hk:(k+(its.toArray.size:Int)).toNat=j:=by
   rw [seqIndex_neg (by omega) h3] at h1
   rw [aWk,<- hl]
   exact aWx h1
  exact PySem.W.ki_setBack ho (by omega) (by rw [aWk,<- hl];exact h3) (by omega) (by rw [hk];exact ⟨_,I',q⟩)
theorem w6(lo hi:Option Int)(n:Nat):(sliceBounds lo hi none n).1=((HT.sIx n 0 lo:Nat):Int)/\(sliceBounds lo hi none n).2.1=((HT.sIx n n hi:Nat):Int)/\(sliceBounds lo hi none n).2.2=1:=by
 refine ⟨?_,?_,rfl⟩
 ·cases lo with
  | none=>simp [sliceBounds,HT.sIx]
  | some i =>
   simp only [sliceBounds,HT.sIx,Option.getD_none,show (1:Int) > 0 by decide,bAi]
   by_cases h:i < 0
   ·simp only [h,bAi]<;>omega
   ·simp only [h,aYt]<;>omega
 ·cases hi with
  | none=>simp [sliceBounds,HT.sIx]
  | some i =>
   simp only [sliceBounds,HT.sIx,Option.getD_none,show (1:Int) > 0 by decide,bAi]
   by_cases h:i < 0
   ·simp only [h,bAi]<;>omega
   ·simp only [h,aYt]<;>omega
theorem vB(its:List Value)(lo hi:Option Int):slicePick its.toArray lo hi none=((its.drop (HT.sIx its.length 0 lo)).take (HT.sIx its.length its.length hi - HT.sIx its.length 0 lo)).toArray:=by
 obtain ⟨h1,h2,h3⟩:=w6 lo hi its.toArray.size
 unfold slicePick
 rw [h1,h2,h3]
 simp only [sliceRange_one,pick_run,aWk]<;>rfl
def aVs(K:aV9):V->Option Int->Option Int->Hp->VK->Prop:=fun x lo hi H Q=>∃ a xs,x=.ref a/\SqL K H a xs/\∀ p,H p=none->Q (.ref p) (upd H p (.lst (aPi xs lo hi)))
theorem aL8:SlR X (aVs X.K):=by
 intro pins s σ H x v vl vu lo hi sl Q I rx hs pl pu h
 obtain ⟨a,xs,rfl,hx,q⟩:=h
 cases rx
 obtain ⟨its,r,ht,hz⟩:=I.list hx
 have hlen:=r.length
 refine ⟨"list",_,slot_list_getitem.lookup,ht.isList.typeIs,?_⟩
 refine wpAny_getItem_list_slice ht.isList hs pl pu .none (by simp) ?_ (by rw [aWk]<;>omega)
 rw [vB,<- hlen]
 refine ⟨.ref s.heap.objs.size,_,I.laid (t':=s.toks) (o:=.lst (aPi xs lo hi)) (fun b ob q=>aWf _ q) (aWl _) ?_,rfl,q _ (I.hok.fresh (aWl _))⟩
 exact ⟨aXk (yK xs lo hi) hz,_,0,(r.drop (HT.sIx xs.length 0 lo)).take (HT.sIx xs.length xs.length hi - HT.sIx xs.length 0 lo),aWw _ rfl⟩
theorem bE:mF X (.builtin "len") (fun xs H Q=>∃ p ys,xs=[.ref p]/\(SqL X.K H p ys\/SqT X.K H p ys)/\Q (.int ys.length) H):=by
 intro pins s σ H xs us Q I r h
 obtain ⟨p,ys,rfl,hq,q⟩:=h
 obtain ⟨u,rfl,rx⟩:=vals1 r
 cases rx
 have hn:=aBl
 rcases hq with hq | hq
 ·obtain ⟨its,r',pl,hz⟩:=I.list hq
  have hlen:=r'.length
  exact Calls.call_len_list pl.isList (by simp only [aWk]<;>omega) ⟨.int ys.length,H,I.tok _,⟨s.toks+1,by rw [aWk,hlen]⟩,q⟩
 ·obtain ⟨its,r',pl,hz⟩:=I.tuple hq
  have hlen:=r'.length
  exact len_tuple pl (by simp only [aWk]<;>omega) ⟨.int ys.length,H,I.tok _,⟨s.toks+1,by rw [aWk,hlen]⟩,q⟩
theorem k7:mF X (.type "list") (fun xs H Q=>∃ p ys,xs=[.ref p]/\(SqL X.K H p ys\/SqT X.K H p ys)/\∀ l,H l=none->Q (.ref l) (upd H l (.lst ys))):=by
 intro pins s σ H xs us Q I r h
 obtain ⟨p,ys,rfl,hq,q⟩:=h
 obtain ⟨u,rfl,rx⟩:=vals1 r
 cases rx
 have fin:∀ (its:List Value),Vals ys its->ys.length<=sizeLine->∀ (h':Heap) (c':Nat),(∀ b o',s.heap.get? b=some o'->h'.get? b=some o') ->
   h'.get? s.heap.objs.size=some { cls:=.type "list",dict:=none,data:=.seq its.toArray c',slots:=#[] }->EP X pins σ Q (.ref s.heap.objs.size) { s with heap:=h' }:=fun its r' hz h' c' kp e =>
  ⟨.ref s.heap.objs.size,_,I.laid (t':=s.toks) kp (aWl _) (show ObjOk X.prog X.w _ h' _ (.lst ys) from ⟨hz,its,c',r',e⟩),rfl,q _ (I.hok.fresh (aWl _))⟩
 rcases hq with hq | hq
 ·obtain ⟨its,r',pl,hz⟩:=I.list hq
  have hlen:=r'.length
  obtain ⟨o,ho,hc,n,hd⟩:=pl.isList
  exact call_list_seq p (.inl rfl) ho hc hd (fun h' c' kp e=>fin its r' hz h' c' kp e) (by simp only [aWk]<;>omega)
 ·obtain ⟨its,r',pl,hz⟩:=I.tuple hq
  have hlen:=r'.length
  obtain ⟨o,ho,hc,n,hd⟩:=pl
  exact call_list_seq p (.inr rfl) ho hc hd (fun h' c' kp e=>fin its r' hz h' c' kp e) (by simp only [aWk]<;>omega)
def tyV(K:aV9)(T:String)(x:V)(H:Hp):Prop:=match x with
 | .str _=>T = "str"
 | .int _=>T = "int"
 | .ref p=>(T = "list"/\∃ xs,SqL K H p xs)\/(T = "tuple"/\∃ o,K.lookup p=some o/\o.cls=.type "tuple"/\o.dict=none) \/
   (T = "dict"/\((∃ kvs,H p=some (.dK kvs))\/∃ kvs,H p=some (.dT kvs)))\/(T = "set"/\∃ S n,H p=some (.set S n))
 | _=>False
theorem aKk{pins:List (Addr×Obj)}{σ:St}{H:Hp}{s:Shared}{T:String}{x:V}{v:Value}(I:Inv X pins σ H s)(r:RelV x v)(ty:tyV X.K T x H) :
  s.TypeIs v T/\∀ a,v=.ref a->∃ ob,s.heap.get? a=some ob/\ob.dict=none:=by
 cases x with
 | str z =>
  obtain ⟨t,rfl⟩:=r
  cases (show T = "str" from ty)
  exact ⟨typeIs_str s z t,fun _ e=>nomatch e⟩
 | int i =>
  obtain ⟨t,rfl⟩:=r
  cases (show T = "int" from ty)
  exact ⟨typeIs_int s i t,fun _ e=>nomatch e⟩
 | ref p =>
  cases r
  rcases ty with ⟨rfl,xs,hq⟩ | ⟨rfl,o,hk,hc,hd⟩ | ⟨rfl,hk⟩ | ⟨rfl,S,n,hk⟩
  ·obtain ⟨its,_,pl,_⟩:=I.list hq
   refine ⟨pl.isList.typeIs,fun a e=>?_⟩
   cases e
   obtain ⟨o,n,e,c,hd,_⟩:=pl
   exact ⟨o,e,hd⟩
  ·refine ⟨⟨o,I.kIn p o hk,hc⟩,fun a e=>?_⟩
   cases e
   exact ⟨o,I.kIn _ o hk,hd⟩
  ·have z:∃ o,s.heap.get? p=some o/\o.ExactDict:=by
    rcases hk with ⟨kvs,hk⟩ | ⟨kvs,hk⟩
    ·obtain ⟨_,_,_,_,o,_,_,e,ex,_⟩:=I.hok p _ hk
     exact ⟨o,e,ex⟩
    ·obtain ⟨_,_,_,_,o,_,_,e,ex,_⟩:=I.hok p _ hk
     exact ⟨o,e,ex⟩
   obtain ⟨o,e,ex⟩:=z
   refine ⟨⟨o,e,ex.1⟩,fun a e2=>?_⟩
   cases e2
   exact ⟨o,e,ex.2.1⟩
  ·obtain ⟨o,_,_,_,e,ex,_⟩:=I.hok p _ hk
   refine ⟨⟨o,e,ex.1⟩,fun a e2=>?_⟩
   cases e2
   exact ⟨o,e,ex.2.1⟩
 | _=>exact False.elim ty
def aUk(K:aV9)(T:String)(r:V->List V->Hp->VK->Prop)(to:TE):TE:=fun σ H Q=>to σ H fun x H1=>tyV K T x H1/\r x [] H1 Q
def tBM(K:aV9)(T:String)(r:V->List V->Hp->VK->Prop)(to:TE)(t:TA):TE:=fun σ H Q=>to σ H fun x H1=>tyV K T x H1/\t σ H1 fun xs H2=>r x xs H2 Q
variable {o e:Expr}{es:List Expr}{to:TE}{t:TA}{name:Str}{apos cpos:Pos}{T id:String}{r:V->List V->Hp->VK->Prop}
theorem aKo(pa:PlainAttrs T)(slot:Slot T name id)(hty:typeOf (.builtin id)=pure (.type "method_descriptor"))(hm:MtR X id r)(ho:PE X o to)
  (hbase:attributeBase o name X.env (eval o X.env)=eval o X.env:=by rfl) (hline:(apos.endLine == cpos.line)=true:=by rfl):PE X (.Call (.Attribute o name apos) [] [] cpos) (aUk X.K T r to):=by
 intro pins s σ H Q I h
 refine wpAny_Call_method0_late hbase hline (thn (ho pins s σ H _ I h) fun v s1 ⟨x,H1,I1,r1,ty,q1⟩=>?_)
 obtain ⟨h1,h2⟩:=aKk I1 r1 ty
 exact ⟨T,id,pa,slot,hty,h1,h2,Calls.callWith_builtin rfl (PySem.evalArgs_none (hm pins s1 σ H1 x [] v [] Q I1 r1 .nil q1))⟩
theorem aIh(pa:PlainAttrs T)(slot:Slot T name id)(hty:typeOf (.builtin id)=pure (.type "method_descriptor"))(hm:MtR X id r)(ho:PE X o to)(ha:PA X (e :: es) t)
  (hbase:attributeBase o name X.env (eval o X.env)=eval o X.env:=by rfl)
  (hfew:((backTo cpos (starEach (e :: es) X.env)).all (fun x=>!x.1) && (backToKw cpos (keywordEach [] X.env)).all (fun x=>x.1.isSome)
   && decide ((e :: es).length+([]:List Keyword).length+(if ([]:List Keyword).isEmpty then 0 else 1) < 30))=true:=by rfl)
  (hline:(apos.endLine == cpos.line)=true:=by rfl) (hs:starEach (e :: es) X.env=(false,eval e X.env) :: starEach es X.env:=by rfl) (hplain:(backTo cpos (starEach es X.env)).any (·.1)=false:=by rfl) :
  PE X (.Call (.Attribute o name apos) (e :: es) [] cpos) (tBM X.K T r to t):=by
 intro pins s σ H Q I h
 refine wpAny_Call_method_late hbase hfew hline rfl (thn (ho pins s σ H _ I h) fun v s1 ⟨x,H1,I1,r1,ty,q1⟩=>?_)
 obtain ⟨h1,h2⟩:=aKk I1 r1 ty
 refine ⟨T,id,pa,slot,hty,h1,h2,?_⟩
 have hA:=ha cpos pins s1 σ H1 _ I1 q1
 rw [hs] at hA ⊢
 refine Calls.callWith_builtin (by show (false || (backTo cpos (starEach es X.env)).any (·.1))=false;rw [hplain]<;>rfl) (Calls.evalArgs_plain ?_)
 exact thn hA fun us s2 ⟨vs,H2,I2,r2,q2⟩=>hm pins s2 σ H2 x vs v us Q I2 r1 r2 q2
end
def MtM(X:Cx)(id:String)(r:V->List V->Hp->VK->Prop):Prop :=
 ∀ (pins:List (Addr×Obj)) (s:Shared) (σ:St) (H:Hp) (x:V) (xs:List V) (v:Value) (us:List Value) (Q:VK),Inv X pins σ H s->RelV x v->Vals xs us->r x xs H Q ->
  wpAny (model X.prog X.w) X.A (call (.builtin id) (v :: us)) (EP X pins σ Q) X.xe s
theorem Vals.one:∀ {x:V} {us:List Value},Vals [x] us->∃ u,us=[u]/\RelV x u
 | _,_,.cons r .nil=>⟨_,rfl,r⟩
theorem Vals.zero:∀ {us:List Value},Vals [] us->us=[]
 | _,.nil=>rfl
theorem Vals.dropLast{xs:List V}{us:List Value}(h:Vals xs us):Vals xs.dropLast us.dropLast:=by
 induction h with
 | nil=>exact .nil
 | cons r t ih =>
  cases t with
  | nil=>exact .nil
  | cons q t'=>exact .cons r ih
theorem aCa{α:Type}(l:List α):l.eraseIdx (l.length - 1)=l.dropLast:=by
 induction l with
 | nil=>rfl
 | cons a r ih =>
  cases r with
  | nil=>rfl
  | cons b r =>
   have e:(a :: b :: r).length - 1=((b :: r).length - 1)+1:=by
    have h1:(a :: b :: r).length=r.length+2:=rfl
    have h2:(b :: r).length=r.length+1:=rfl
    omega
   rw [e,List.eraseIdx_cons_succ,ih]
   all_goals rfl
section
variable {X:Cx}{pins:List (Addr×Obj)}{σ:St}{H:Hp}{s:Shared}{l b:Addr}{xs ys zs:List V}
theorem Inv.lset{its its':List Value}{n:Nat}{f:Array Value->Array Value}{t':Nat}(I:Inv X pins σ H s)(hH:H l=some (.lst xs))
  (e:s.heap.get? l=some { cls:=.type "list",data:=.seq its.toArray n }) (hf:f its.toArray=its'.toArray) (hv:Vals ys its') (hz:ys.length<=sizeLine) :
  Inv X pins σ (upd H l (.lst ys)) { s with heap:=s.heap.update l (Obj.mapSeq f),toks:=t' }:=by
 have q:=PySem.IsL.update e f
 rw [hf] at q
 refine I.write (x:=l) (e:=l) (by rw [hH];exact trivial) (.inl rfl) (fun b' u hb hu=>(bAz s.heap (Obj.mapSeq f) (bB2 hb)).trans hu) ⟨_,q⟩ ?_
 exact ⟨hz,its',_,hv,q⟩
theorem Inv.lnew{its:List Value}{t':Nat}(I:Inv X pins σ H s)(hv:Vals ys its)(hz:ys.length<=sizeLine) :
  Inv X pins σ (upd H s.heap.objs.size (.lst ys)) { s with heap:=s.heap.push { cls:=.type "list",data:=.seq its.toArray },toks:=t' } :=
 I.laid (fun _ _ q=>aWf _ q) (aWl _) ⟨hz,its,0,hv,aWw _ rfl⟩
theorem Inv.fresh(I:Inv X pins σ H s):H s.heap.objs.size=none:=I.hok.fresh (aWl _)
theorem Inv.lstM(I:Inv X pins σ H s)(hH:H l=some (.lst xs)):xs.length<=sizeLine/\∃ (its:List Value) (n:Nat),Vals xs its/\xs.length=its.length/\s.heap.get? l=some { cls:=.type "list",data:=.seq its.toArray n }:=by
 obtain ⟨z,its,n,r,e⟩:=I.hok l _ hH
 exact ⟨z,its,n,r,r.length,e⟩
theorem aIl{n:Nat}(h:n<=sizeLine):Builtin.List.listTooLong n=false:=by
 unfold Builtin.List.listTooLong
 exact aW0 (by omega)
end
section
variable {X:Cx}
def aFr:V->List V->Hp->VK->Prop:=fun x vs H Q=>∃ l xs y,x=.ref l/\vs=[y]/\H l=some (.lst xs)/\xs.length < sizeLine/\Q .non (upd H l (.lst (xs++[y])))
theorem pZ:MtM X "list.append" aFr:=by
 intro pins s σ H x vs v us Q I rx rv h
 obtain ⟨l,xs,y,rfl,rfl,hH,hz,q⟩:=h
 cases rx
 obtain ⟨u,rfl,ru⟩:=rv.one
 obtain ⟨z,its,n,r,hl,e⟩:=I.lstM hH
 refine bC1 F.slot_list_append ⟨_,e,rfl⟩ F.entry_list_append (F.args_list_append_2 _ _) (PySem.list_append l its.toArray n u (by rw [aWk];omega)) ⟨e,?_⟩
 refine ⟨.non,_,I.lset (its':=its++[u]) hH e (by simp) (r.append (.cons ru .nil)) ?_,rfl,q⟩
 rw [aWq,List.length_singleton]
 omega
def aF2:V->List V->Hp->VK->Prop:=fun x vs H Q=>∃ l b xs zs,x=.ref l/\vs=[.ref b]/\H l=some (.lst xs)/\H b=some (.lst zs)/\xs.length+zs.length<=sizeLine/\Q .non (upd H l (.lst (xs++zs)))
theorem aDf:MtM X "list.extend" aF2:=by
 intro pins s σ H x vs v us Q I rx rv h
 obtain ⟨l,b,xs,zs,rfl,rfl,hH,hB,hz,q⟩:=h
 cases rx
 obtain ⟨u,rfl,ru⟩:=rv.one
 cases ru
 obtain ⟨z,its,n,r,hl,e⟩:=I.lstM hH
 obtain ⟨z2,its2,n2,r2,hl2,e2⟩:=I.lstM hB
 have hsz:its.toArray.size+its2.toArray.size<=sizeLine:=by rw [aWk,aWk];omega
 have hlong:¬ (!its.toArray.isEmpty && Builtin.List.listTooLong (its.toArray.size+its2.toArray.size))=true:=by
  rw [aIl hsz,Bool.and_false]
  exact aXq
 refine bC1 F.slot_list_extend ⟨_,e,rfl⟩ F.entry_list_extend (F.args_list_extend_2 _ _)
  (AutoSeq1.list_extend_list_list_0 l its.toArray n b its2.toArray n2 hlong (by rw [aWk];omega) (by omega)) ⟨e,e2,?_⟩
 refine ⟨.non,_,I.lset (its':=its++its2) hH e (by simp) (r.append r2) ?_,rfl,q⟩
 rw [aWq]
 omega
def aU2:V->List V->Hp->VK->Prop:=fun x vs H Q=>∃ l xs y,x=.ref l/\vs=[]/\H l=some (.lst xs)/\xs[xs.length - 1]? = some y/\Q y (upd H l (.lst xs.dropLast))
theorem aK6:MtM X "list.pop" aU2:=by
 intro pins s σ H x vs v us Q I rx rv h
 obtain ⟨l,xs,y,rfl,rfl,hH,hy,q⟩:=h
 cases rx
 have hus:=rv.zero
 subst hus
 obtain ⟨z,its,n,r,hl,e⟩:=I.lstM hH
 obtain ⟨u,hu,ru⟩:=r.get hy
 have hy':its.toArray[its.toArray.size - 1]? = some u:=by
  show its.toArray[its.length - 1]? = some u
  rw [<- aWy,<- hl]
  exact hu
 refine bC1 F.slot_list_pop ⟨_,e,rfl⟩ F.entry_list_pop (F.args_list_pop_1 _) (MeetsSeq.list_pop_last l its.toArray n u hy' (by rw [aWk];omega)) ⟨e,?_⟩
 refine ⟨y,_,I.lset (its':=its.dropLast) hH e ?_ r.dropLast ?_,ru,q⟩
 ·show its.toArray.eraseIdxIfInBounds (its.toArray.size - 1)=its.dropLast.toArray
  rw [aWk,List.eraseIdxIfInBounds_toArray,aCa]
 ·rw [bBj]
  omega
end
section
variable {prog:Program}{w:World}{A:Around}{E:Value->Shared->Prop}{s:Shared}
set_option maxRecDepth 100000 in
end
section
variable {X:Cx}
end
section
variable {κ:Type}[DecidableEq κ]
def vX(kvs:List (κ×V))(k:κ):Option V:=(kvs.find? fun kv=>decide (kv.1=k)).map (·.2)
def putK(kvs:List (κ×V))(k:κ)(v:V):List (κ×V) :=
 if (kvs.any fun kv=>decide (kv.1=k))=true then kvs.map (fun kv=>if kv.1=k then (kv.1,v) else kv) else kvs++[(k,v)]
theorem mY{p:κ×V}{r:List (κ×V)}{k:κ}(e:p.1=k):vX (p :: r) k=some p.2:=by simp [vX,aZ0,e]
theorem mZ{p:κ×V}{r:List (κ×V)}{k:κ}(e:¬ p.1=k):vX (p :: r) k=vX r k:=by simp [vX,aZ0,e]
theorem pM(k:κ):∀ kvs:List (κ×V),(kvs.any fun kv=>decide (kv.1=k))=(vX kvs k).isSome
 | []=>rfl
 | p :: r=>by
  rw [bC4]
  by_cases e:p.1=k
  ·simp only [mY e,aXg e,Bool.true_or,Option.isSome_some]
  ·rw [mZ e,aW0 e,Bool.false_or];exact pM k r
theorem qX(kvs:List (κ×V))(k:κ)(v:V):(putK kvs k v).length<=kvs.length+1:=by
 unfold putK
 split
 ·rw [aWb];omega
 ·rw [aWq,aWc,aXc];omega
theorem RelO.isSome_eq{o:Option V}{u:Option Value}(r:RelO o u):o.isSome=u.isSome:=by
 cases o with
 | none=>cases u with
  | none=>rfl
  | some _=>exact (show False from r).elim
 | some _=>cases u with
  | none=>exact (show False from r).elim
  | some _=>rfl
theorem KV.val{kvs:List (κ×V)}{vs:List (κ×Value)}(r:KV kvs vs)(k:κ):RelO (vX kvs k) (valueAt vs k):=by
 unfold KV at r
 induction r with
 | nil=>exact True.intro
 | @cons p q ps qs h t ih =>
  obtain ⟨h1,h2⟩:=h
  by_cases e:p.1=k
  ·have e':q.1=k:=h1.symm.trans e
   have b:valueAt (q :: qs) k=some q.2:=by simp [valueAt,aZ0,e']
   rw [mY e,b];exact h2
  ·have e':¬ q.1=k:=fun z=>e (h1.trans z)
   have b:valueAt (q :: qs) k=valueAt qs k:=by simp [valueAt,aZ0,e']
   rw [mZ e,b];exact ih
theorem KV.any{kvs:List (κ×V)}{vs:List (κ×Value)}(r:KV kvs vs)(k:κ):(kvs.any fun kv=>decide (kv.1=k))=vs.any fun kv=>decide (kv.1=k):=by
 unfold KV at r
 induction r with
 | nil=>rfl
 | cons h t ih=>rw [bC4,bC4,ih,h.1]
theorem KV.repl{kvs:List (κ×V)}{vs:List (κ×Value)}(r:KV kvs vs)(k:κ){y:V}{u:Value}(ry:RelV y u) :
  KV (kvs.map fun kv=>if kv.1=k then (kv.1,y) else kv) (vs.map fun kv=>if kv.1=k then (kv.1,u) else kv):=by
 unfold KV at r ⊢
 induction r with
 | nil=>exact .nil
 | @cons p q ps qs h t ih =>
  rw [aWo,aWo]
  refine .cons ?_ ih
  obtain ⟨h1,h2⟩:=h
  by_cases e:p.1=k
  ·rw [aWm e,aWm (h1.symm.trans e)];exact ⟨h1,ry⟩
  ·rw [aWn e,aWn (fun z=>e (h1.trans z))];exact ⟨h1,h2⟩
theorem KV.put{kvs:List (κ×V)}{vs:List (κ×Value)}(r:KV kvs vs)(k:κ){y:V}{u:Value}(ry:RelV y u):KV (putK kvs k y) (stored vs k u):=by
 unfold putK stored
 rw [r.any k]
 by_cases e:(vs.any fun kv=>decide (kv.1=k))=true
 ·rw [aWm e,aWm e];exact r.repl k ry
 ·rw [aWn e,aWn e];exact Paired.snoc r ⟨rfl,ry⟩
theorem KV.length{kvs:List (κ×V)}{vs:List (κ×Value)}(r:KV kvs vs):kvs.length=vs.length:=Paired.length r
end
theorem aHc{P:Program}{w:World}{k:Key}{u:Value}(r:RelV (kV k) u):(gL P w).is k u=true:=by
 cases k with
 | inl i=>obtain ⟨t,e⟩:=(show ∃ t,u=Value.int i t from r);subst e;exact xZ P w i t
 | inr x=>obtain ⟨t,e⟩:=(show ∃ t,u=Value.str x t from r);subst e;exact y8 P w x t
theorem wO{P:Program}{w:World}:∀ {ks:List Key} {us:List Value},Vals (ks.map kV) us->ItemsAre (gL P w) ks us
 | [],_,r=>by rw [aYq] at r;cases r;exact .nil
 | k :: ks,_,r=>by
  rw [aWo] at r
  cases r with
  | cons h t=>exact .cons (aHc h) (wO t)
abbrev KT(H:Hp):List (List Key×V)->List (List Key×Addr×Value)->Prop:=Paired fun p q=>p.1=q.1/\H q.2.1=some (.tup (p.1.map kV))/\RelV p.2 q.2.2
theorem KT.val{H:Hp}{kvs:List (List Key×V)}{xs:List (List Key×Addr×Value)}(r:KT H kvs xs)(k:List Key):RelO (vX kvs k) ((atKey xs k).map (·.2)):=by
 induction r with
 | nil=>exact True.intro
 | @cons p q ps qs h t ih =>
  obtain ⟨h1,_,h2⟩:=h
  by_cases e:p.1=k
  ·have e':q.1=k:=h1.symm.trans e
   have b:atKey (q :: qs) k=some q.2:=by simp [atKey,aZ0,e']
   rw [mY e,b];exact h2
  ·have e':¬ q.1=k:=fun z=>e (h1.trans z)
   have b:atKey (q :: qs) k=atKey qs k:=by simp [atKey,aZ0,e']
   rw [mZ e,b];exact ih
theorem KT.repl{H:Hp}{kvs:List (List Key×V)}{xs:List (List Key×Addr×Value)}(r:KT H kvs xs)(k:List Key){y:V}{u:Value}(ry:RelV y u) :
  KT H (kvs.map fun kv=>if kv.1=k then (kv.1,y) else kv) (xs.map (putAt k u)):=by
 induction r with
 | nil=>exact .nil
 | @cons p q ps qs h t ih =>
  rw [aWo,aWo]
  refine .cons ?_ ih
  obtain ⟨h1,h2,h3⟩:=h
  unfold putAt
  by_cases e:p.1=k
  ·rw [aWm e,aWm (h1.symm.trans e)];exact ⟨h1,h2,ry⟩
  ·rw [aWn e,aWn (fun z=>e (h1.trans z))];exact ⟨h1,h2,h3⟩
theorem KT.put{H:Hp}{kvs:List (List Key×V)}{xs:List (List Key×Addr×Value)}(r:KT H kvs xs)(k:List Key){b:Addr}{y:V}{u:Value}(hb:H b=some (.tup (k.map kV)))(ry:RelV y u) :
  KT H (putK kvs k y) (storedH xs k b u):=by
 have e:(kvs.any fun kv=>decide (kv.1=k))=(atKey xs k).isSome:=by
  rw [pM,(r.val k).isSome_eq,bB7]
 unfold putK storedH
 rw [e]
 by_cases q:(atKey xs k).isSome=true
 ·rw [aWm q,aWm q];exact r.repl k ry
 ·rw [aWn q,aWn q];exact Paired.snoc r ⟨rfl,hb,ry⟩
theorem KT.keeps{H H':Hp}{kvs:List (List Key×V)}{xs:List (List Key×Addr×Value)}(r:KT H kvs xs)(ht:∀ b ys,H b=some (.tup ys)->H' b=some (.tup ys)):KT H' kvs xs :=
 Paired.mapP r fun _ _ z=>⟨z.1,ht _ _ z.2.1,z.2.2⟩
section
variable {P:Program}{w:World}{H:Hp}{h:Heap}{a:Addr}
theorem aR6{u:HO}(ok:HOk P w H h)(e:Rd H a u):ObjOk P w H h a u:=e.ok ok
theorem aCe{kvs:List (Key×V)}(ok:HOk P w H h)(e:Rd H a (.dK kvs)):kvs.length<=sizeLine/\(a == sysModules)=false/\∃ vs,KV kvs vs/\h.DictOf (gL P w) a vs :=
 show ObjOk P w H h a (.dK kvs) from aR6 ok e
theorem aS8{kvs:List (Key×V)}(ok:HOk P w H h)(e:H a=some (.dK kvs)):kvs.length<=sizeLine/\(a == sysModules)=false/\∃ vs,KV kvs vs/\h.DictOf (gL P w) a vs:=aCe ok (.inl e)
theorem wR{ks:List Key}(ok:HOk P w H h)(e:H a=some (.tup (ks.map kV))):(tupleKind (gL P w)).is h ks a:=by
 obtain ⟨_,its,r,o,h1,h2,n,h3⟩:=(show ObjOk P w H h a (.tup (ks.map kV)) from ok a _ e)
 exact ⟨o,its.toArray,n,h1,h2,h3,by simpa using wO r⟩
theorem aEb{kvs:List (List Key×V)}(ok:HOk P w H h)(e:Rd H a (.dT kvs)):kvs.length<=sizeLine/\(a == sysModules)=false /\
  ∃ xs,KT H kvs xs/\h.DictOfH (tupleKind (gL P w)) a xs:=by
 obtain ⟨z,y,xs,r,o,es,ep,h1,h2,h3,h4,h5⟩:=(show ObjOk P w H h a (.dT kvs) from aR6 ok e)
 refine ⟨z,y,xs,r,o,es,ep,h1,h2,h3,h4,fun x hx=>?_,h5⟩
 have all:∀ {l:List (List Key×V)} {m:List (List Key×Addr×Value)},KT H l m->∀ x∈m,(tupleKind (gL P w)).is h x.1 x.2.1:=by
  intro l m q
  induction q with
  | nil=>intro x hx;exact nomatch hx
  | @cons p q ps qs hq t ih =>
   intro x hx
   rcases aWh.mp hx with e | hx
   ·subst e
    exact wR ok (by rw [<- hq.1];exact hq.2.1)
   ·exact ih x hx
 exact all r x hx
theorem aUc{kvs:List (List Key×V)}(ok:HOk P w H h)(e:H a=some (.dT kvs)):kvs.length<=sizeLine/\(a == sysModules)=false /\
  ∃ xs,KT H kvs xs/\h.DictOfH (tupleKind (gL P w)) a xs:=aEb ok (.inl e)
end
def DGet(H:Hp)(a:Addr)(y:V)(r:Option V):Prop :=
 (∃ kvs k,Rd H a (.dK kvs)/\y=kV k/\r=vX kvs k)\/∃ kvs k b,Rd H a (.dT kvs)/\y=.ref b/\H b=some (.tup (k.map kV))/\r=vX kvs k
def DPut(H:Hp)(a:Addr)(y v:V)(H':Hp):Prop :=
 (∃ kvs k,H a=some (.dK kvs)/\y=kV k/\kvs.length < sizeLine/\H'=upd H a (.dK (putK kvs k v))) \/
 ∃ kvs k b,H a=some (.dT kvs)/\y=.ref b/\H b=some (.tup (k.map kV))/\kvs.length < sizeLine/\H'=upd H a (.dT (putK kvs k v))
theorem DGet.k{H:Hp}{a:Addr}{kvs:List (Key×V)}{k:Key}(e:H a=some (.dK kvs)):DGet H a (kV k) (vX kvs k):=.inl ⟨kvs,k,.inl e,rfl,rfl⟩
theorem DGet.t{H:Hp}{a b:Addr}{kvs:List (List Key×V)}{k:List Key}(e:H a=some (.dT kvs))(eb:H b=some (.tup (k.map kV))):DGet H a (.ref b) (vX kvs k):=.inr ⟨kvs,k,b,.inl e,rfl,eb,rfl⟩
theorem DPut.k{H:Hp}{a:Addr}{kvs:List (Key×V)}{k:Key}{v:V}(e:H a=some (.dK kvs))(hl:kvs.length < sizeLine):DPut H a (kV k) v (upd H a (.dK (putK kvs k v))):=.inl ⟨kvs,k,e,rfl,hl,rfl⟩
theorem DPut.t{H:Hp}{a b:Addr}{kvs:List (List Key×V)}{k:List Key}{v:V}(e:H a=some (.dT kvs))(eb:H b=some (.tup (k.map kV)))(hl:kvs.length < sizeLine) :
  DPut H a (.ref b) v (upd H a (.dT (putK kvs k v))):=.inr ⟨kvs,k,b,e,rfl,eb,hl,rfl⟩
section
variable {X:Cx}{pins:List (Addr×Obj)}{σ:St}{H:Hp}{s:Shared}{a:Addr}{y v:V}{u r:Value}{o:Option V}{A:Around}{E:Value->Shared->Prop}
theorem Inv.big(I:Inv X pins σ H s):sysModules < s.heap.objs.size:=by
 have h:mainGlobals < s.heap.objs.size:=(I.mod.glob.keeps I.bk).lt
 exact bCy (by decide) h
theorem aG3{Q:Value->Shared->Prop}(hu:A.units+1 < cLine)(I:Inv X pins σ H s)(g:DGet H a y (some v))(ry:RelV y u)(h:∀ w' s',Inv X pins σ H s'->RelV v w'->Q w' s') :
  wpAny (model X.prog X.w) A (getItem (.ref a) u) Q E s:=by
 rcases g with ⟨kvs,k,e,ey,l⟩ | ⟨kvs,k,b,e,ey,eb,l⟩
 ·subst ey
  obtain ⟨z,hd,vs,rel,dd⟩:=aCe I.hok e
  obtain ⟨w',hw,rw'⟩:=RelO.some_of (v:=v) (o:=valueAt vs k) (by rw [l];exact rel.val k)
  exact wpAny_getItem_of (aHc ry) dd.mapOf hw (h w' _ (I.tok _) rw')
 ·subst ey
  cases (show u=Value.ref b from ry)
  obtain ⟨z,hd,xs,rel,dd⟩:=aEb I.hok e
  obtain ⟨w',hw,rw'⟩:=RelO.some_of (v:=v) (o:=(atKey xs k).map (·.2)) (by rw [l];exact rel.val k)
  obtain ⟨p,hp,hp2⟩:=bCt.mp hw
  refine wpAny_getItem_heap (bAq hu) (wR I.hok eb) dd hp ?_
  rw [hp2]
  exact h w' _ (I.tok _) rw'
theorem aV3{Q:Value->Shared->Prop}(hu:A.units+1 < cLine)(I:Inv X pins σ H s)(g:DGet H a y o)(ry:RelV y u)(h:∀ s',Inv X pins σ H s'->Q (.bool o.isSome) s') :
  wpAny (model X.prog X.w) A (compareOp .In u (.ref a)) Q E s:=by
 rcases g with ⟨kvs,k,e,ey,l⟩ | ⟨kvs,k,b,e,ey,eb,l⟩
 ·subst ey
  obtain ⟨z,hd,vs,rel,dd⟩:=aCe I.hok e
  refine wpAny_in_of (aHc ry) hd dd.mapOf ?_
  rw [<- (rel.val k).isSome_eq,<- l]
  exact h _ (I.tok _)
 ·subst ey
  cases (show u=Value.ref b from ry)
  obtain ⟨z,hd,xs,rel,dd⟩:=aEb I.hok e
  refine wpAny_in_heap (bAq hu) (wR I.hok eb) hd dd ?_
  have q:=(rel.val k).isSome_eq
  rw [bB7] at q
  rw [<- q,<- l]
  exact h _ (I.tok _)
theorem aNo{Q:Value->Shared->Prop}(hu:A.units+1 < cLine)(I:Inv X pins σ H s)(g:DGet H a y o)(ry:RelV y u)(h:∀ s',Inv X pins σ H s'->Q (.bool (!o.isSome)) s') :
  wpAny (model X.prog X.w) A (compareOp .NotIn u (.ref a)) Q E s:=by
 rcases g with ⟨kvs,k,e,ey,l⟩ | ⟨kvs,k,b,e,ey,eb,l⟩
 ·subst ey
  obtain ⟨z,hd,vs,rel,dd⟩:=aCe I.hok e
  refine wpAny_notIn_of (aHc ry) hd dd.mapOf ?_
  rw [<- (rel.val k).isSome_eq,<- l]
  exact h _ (I.tok _)
 ·subst ey
  cases (show u=Value.ref b from ry)
  obtain ⟨z,hd,xs,rel,dd⟩:=aEb I.hok e
  refine wpAny_notIn_heap (bAq hu) (wR I.hok eb) hd dd ?_
  have q:=(rel.val k).isSome_eq
  rw [bB7] at q
  rw [<- q,<- l]
  exact h _ (I.tok _)
theorem aFw{h':Heap}{t':Nat}{ob:HO}(I:Inv X pins σ H s)(mu:Mut (H a))(hs:Heap.SameBut a s.heap h')(he:∃ q,h'.get? a=some q)(new:ObjOk X.prog X.w (upd H a ob) h' a ob) :
  Inv X pins σ (upd H a ob) { s with heap:=h',toks:=t' } :=
 I.write (x:=a) (e:=a) mu (.inl rfl) (fun b q hb z=>(hs.2 b hb).trans z) he new
theorem aRg{P:Program}{w:World}{H':Hp}{h':Heap}{kvs:List (Key×V)}{vs:List (Key×Value)}(z:kvs.length<=sizeLine)(hd:(a == sysModules)=false)(rel:KV kvs vs)(dd:h'.DictOf (gL P w) a vs) :
  ObjOk P w H' h' a (.dK kvs):=⟨z,hd,vs,rel,dd⟩
theorem aC4{H':Hp}{Q:Unit->Shared->Prop}(hu:A.units+1 < cLine)(I:Inv X pins σ H s)(g:DPut H a y v H')(ry:RelV y u)(rv:RelV v r)(h:∀ s',Inv X pins σ H' s'->Q () s') :
  wpAny (model X.prog X.w) A (setItem (.ref a) u r) Q E s:=by
 rcases g with ⟨kvs,k,e,ey,l,eH⟩ | ⟨kvs,k,b,e,ey,eb,l,eH⟩
 ·subst ey eH
  obtain ⟨z,hd,vs,rel,dd⟩:=aS8 I.hok e
  have hz:vs.length<=sizeLine:=by rw [<- rel.length];exact z
  have hl:(putK kvs k v).length<=sizeLine:=by have:=qX kvs k v;omega
  refine wpAny_setItem_pairs (hsz:=hz) (aHc ry) dd fun h' dd' hs=>h _ ?_
  have he:∃ q,h'.get? a=some q:=let ⟨q,_,_,hq,_⟩:=dd';⟨q,hq⟩
  exact aFw I (by rw [e];exact True.intro) hs he (aRg hl hd (rel.put k rv) dd')
 ·subst ey eH
  cases (show u=Value.ref b from ry)
  obtain ⟨z,hd,xs,rel,dd⟩:=aUc I.hok e
  have hz:xs.length<=sizeLine:=by rw [<- Paired.length rel];exact z
  have hl:(putK kvs k v).length<=sizeLine:=by have:=qX kvs k v;omega
  refine wpAny_setItem_heap (hsz:=hz) (bAq hu) (wR I.hok eb) dd fun h' dd' hs=>h _ ?_
  obtain ⟨q,es,ep,hq,h2,h3,h4,_,h5⟩:=dd'
  refine aFw I (by rw [e];exact True.intro) hs ⟨q,hq⟩ ⟨hl,hd,_,(rel.put k eb rv).keeps fun c ys ec=>?_,q,es,ep,hq,h2,h3,h4,h5⟩
  rw [bY (aUu ec e (fun z=>nomatch z))]
  exact ec
end
section
variable {X:Cx}{pins:List (Addr×Obj)}{σ:St}{H:Hp}{s:Shared}{a:Addr}{kvs:List (Key×V)}{k:Key}{u:Value}{A:Around}{E:Value->Shared->Prop}
theorem aTf{Q:Value->Shared->Prop}(I:Inv X pins σ H s)(e:Rd H a (.dK kvs))(h:∀ t s',Inv X pins σ H s'->Q (.int kvs.length t) s'):wpAny (model X.prog X.w) A (call (.builtin "len") [.ref a]) Q E s:=by
 obtain ⟨z,hd,vs,rel,dd⟩:=aCe I.hok e
 refine call_len_dict hd dd (by rw [<- rel.length];rw [aY0] at z;omega) ?_
 rw [<- rel.length]
 exact h _ _ (I.tok _)
end
def aUt(i:Expr):Prop:=∀ ov iv,subscripted i false ov iv=operate [ov,iv] (getItem ov iv)
theorem aM0{prog:Program}{w:World}{A:Around}{E:Value->Shared->Prop}{s:Shared}{env:Env}{value slice:Expr}{pos:Pos}{T id:String}{Q:Value->Shared->Prop}
  (hl:typeLookup (.type T) "__getitem__" = pure (some (.builtin id))) (hs:aUt slice)
  (h:wpAny (model prog w) A (eval value env) (fun o s₁=>wpAny (model prog w) A (eval slice env) (fun i s₂=>s₂.TypeIs o T/\wpAny (model prog w) A (getItem o i) Q E s₂) E s₁) E s) :
  wpAny (model prog w) A (eval (.Subscript value slice pos) env) Q E s:=by
 refine Subscript_ (aX6 h (fun o s₁ h₁=>aX6 h₁ (fun i s₂ h₂=>?_) fun _ _ x=>x) fun _ _ x=>x)
 obtain ⟨hT,h₂⟩:=h₂
 unfold subscriptTail
 refine aWa ?_
 rw [getitemInPython_of_ne hT.not_modules]
 refine aWa (bAr hT hl ?_)
 have fin:wpAny (model prog w) A (subscripted slice false o i) (fun r s₃=>wpAny (model prog w) A (letTemporaryGo value o r >>= fun _=>pure r) Q E s₃) E s₂:=by
  rw [hs o i]
  exact wpAny_operating (aX6 h₂ (fun r s₃ h₃=>aWa (wpAny_letTemporaryGo (aWe h₃))) fun _ _ x=>x)
 first
  | exact aWe (aWa fin)
  | exact aWa (aWe (aWa fin))
  | exact aWa fin
theorem y3{X:Cx}{pins:List (Addr×Obj)}{σ:St}{H:Hp}{s:Shared}{a:Addr}{y:V}{o:Option V}(I:Inv X pins σ H s)(g:DGet H a y o):s.TypeIs (.ref a) "dict":=by
 rcases g with ⟨kvs,k,e,_,_⟩ | ⟨kvs,k,b,e,_,_,_⟩
 ·obtain ⟨_,_,vs,_,dd⟩:=aCe I.hok e
  exact dd.typeIs
 ·obtain ⟨_,_,xs,_,dd⟩:=aEb I.hok e
  exact dd.typeIs
def aTk(td ty:TE):TE:=fun σ H Q=>td σ H fun x H1=>ty σ H1 fun y H2=>∃ a v,x=.ref a/\DGet H2 a y (some v)/\Q v H2
def aVa(ty td:TE):TE:=fun σ H Q=>ty σ H fun y H1=>td σ H1 fun x H2=>∃ a o,x=.ref a/\DGet H2 a y o/\Q (.bl o.isSome) H2
def aEr(ty td:TE):TE:=fun σ H Q=>ty σ H fun y H1=>td σ H1 fun x H2=>∃ a o,x=.ref a/\DGet H2 a y o/\Q (.bl (!o.isSome)) H2
def aTq(td ty tv:TE):TS:=fun D σ H=>tv σ H fun v H1=>td σ H1 fun x H2=>ty σ H2 fun y H3=>∃ a H4,x=.ref a/\DPut H3 a y v H4/\D.nx σ H4
section
variable {X:Cx}{o i e value:Expr}{pos pos' tpos:Pos}{td ty tv:TE}
theorem aNl(hu:X.A.units+1 < cLine)(ho:PE X o td)(hi:PE X i ty)(hs:aUt i):PE X (.Subscript o i pos) (aTk td ty):=by
 intro pins s σ H Q I h
 refine aM0 PySem.F.slot_dict_getitem.lookup hs (thn (ho pins s σ H _ I h) fun u s1 ⟨x,H1,I1,rx,q1⟩=>thn (hi pins s1 σ H1 _ I1 q1) fun iv s2 ⟨y,H2,I2,ry,a,v,ex,g,q2⟩=>?_)
 subst ex
 obtain rfl:u=Value.ref a:=rx
 exact ⟨y3 I2 g,aG3 hu I2 g ry fun w' s3 I3 rw'=>⟨v,H2,I3,rw',q2⟩⟩
theorem aRf(hu:X.A.units+1 < cLine)(hi:PE X i ty)(ho:PE X o td):PC X .In i o (aVa ty td):=by
 intro pins s σ H Q I h
 refine thn (hi pins s σ H _ I h) fun iv s1 ⟨y,H1,I1,ry,q1⟩=>thn (ho pins s1 σ H1 _ I1 q1) fun u s2 ⟨x,H2,I2,rx,a,ov,ex,g,q2⟩=>?_
 subst ex
 obtain rfl:u=Value.ref a:=rx
 exact aV3 hu I2 g ry fun s3 I3=>⟨.bl ov.isSome,H2,I3,rfl,q2⟩
theorem aGm(hu:X.A.units+1 < cLine)(hi:PE X i ty)(ho:PE X o td):PC X .NotIn i o (aEr ty td):=by
 intro pins s σ H Q I h
 refine thn (hi pins s σ H _ I h) fun iv s1 ⟨y,H1,I1,ry,q1⟩=>thn (ho pins s1 σ H1 _ I1 q1) fun u s2 ⟨x,H2,I2,rx,a,ov,ex,g,q2⟩=>?_
 subst ex
 obtain rfl:u=Value.ref a:=rx
 exact aNo hu I2 g ry fun s3 I3=>⟨.bl (!ov.isSome),H2,I3,rfl,q2⟩
theorem aM3(hu:X.A.units+1 < cLine)(ho:PE X o td)(hi:PE X i ty)(hv:PE X value tv)(hs:swapsWith value (some (.Subscript o i pos')) pos.line X.env=pure false) :
  PS X (.Assign [.Subscript o i pos'] value pos) (aTq td ty tv):=by
 intro pins s σ H D I h
 refine wpAny_Assign_Subscript (thn (hv pins s σ H _ I h) fun r s1 ⟨v,H1,I1,rv,q1⟩=>thn (ho pins s1 σ H1 _ I1 q1) fun u s2 ⟨x,H2,I2,rx,q2⟩=>thn (hi pins s2 σ H2 _ I2 q2) fun iv s3 ⟨y,H3,I3,ry,a,H4,ex,g,q3⟩=>?_) hs
 subst ex
 obtain rfl:u=Value.ref a:=rx
 exact aC4 hu I3 g ry rv fun s4 I4=>⟨σ,H4,I4,q3⟩
end
theorem aI8{P:Program}{w:World}{H:Hp}(h:Heap)(hb:sysModules < h.objs.size):ObjOk P w H (h.push { cls:=.type "dict",data:=.dict #[] }) h.objs.size (.dT []) :=
 ⟨aXo _,bAh.mpr (bB2 (aW2 hb)),[],.nil,_,#[],0,aWw _ rfl,⟨rfl,rfl,rfl⟩,rfl,rfl,List.nodup_nil⟩
def aRm:TE:=fun _ H Q=>∀ p,H p=none->Q (.ref p) (upd H p (.dT []))
section
variable {X:Cx}{pos:Pos}
theorem aJ2:PE X (.Dict [] [] pos) aRm:=fun pins s σ H Q I h =>
 wpAny_Dict_empty ⟨.ref s.heap.objs.size,_,I.laid (a:=s.heap.objs.size) (o:=.dT []) (t':=s.toks) (fun _ _ q=>aWf _ q) (aWl _) (aI8 s.heap I.big),rfl,h _ (I.hok.fresh (aWl _))⟩
end
section
variable {X:Cx}{pins:List (Addr×Obj)}{σ:St}{H:Hp}{s:Shared}{a:Addr}{y d:V}{u r:Value}{o:Option V}{A:Around}{E:Value->Shared->Prop}
end
section
variable {X:Cx}{o e f:Expr}{apos cpos:Pos}{td ty tx:TE}
end
section
variable {X:Cx}{pins:List (Addr×Obj)}{σ:St}{H:Hp}{s:Shared}{a:Addr}{kvs:List (Key×V)}{A:Around}{E:Value->Shared->Prop}
end
section
variable {X:Cx}{pins:List (Addr×Obj)}{σ:St}{H:Hp}{s:Shared}{a:Addr}{y:V}{u:Value}{A:Around}{E:Value->Shared->Prop}
end
end L2
namespace Att
open PySem PySem.W PySem.Calls PyProof.Rows
theorem rQ{P:Params}{h:Heap}:∀ (ns:List Int) (vs:List Value),WellAll P h vs (ns.map WData.int)->IntsAre vs ns:=by
 intro ns
 induction ns with
 | nil =>
  intro vs w
  rw [aYq] at w
  cases w
  exact .nil
 | cons n ns ih =>
  intro vs w
  rw [aWo] at w
  cases w with
  | cons a b =>
   cases a
   exact .cons _ _ (ih _ b)
theorem aGg{l:OpenLaw}{n:Nat}(hn:l.most=some n){P:Params}{h:Heap}{args:List WData}{vals:List Value}
  (aPh:l.row.toRowW.claim.pre args=true) (hwl:WellAll P h vals args) :
  ∃ a vs ns,vals=[Value.ref a]/\args=[WData.list (ns.map WData.int)]/\h.get? a=some { cls:=.type "list",data:=.seq vs.toArray }/\IntsAre vs ns/\ns.length<=n:=by
 have hsh:WShape.hasAll [] args [.list .int]=true:=(pre_splitW aPh).1
 have hc:l.pre.holds [] { args:=args }=true:=(pre_splitW aPh).2
 obtain ⟨d,r,rfl,h1,h2⟩:=hasAllW_cons hsh
 obtain rfl:=hasAllW_nil h2
 obtain ⟨xs,rfl,h3⟩:=hasW_list h1
 obtain ⟨ns,rfl⟩:=items_int h3
 have hlen:ns.length<=n:=by
  unfold OpenLaw.pre at hc
  have h4:(WTm.not (.lt (.lit (.int (n:Int))) (.len (.arg 0)))).holds [] { args:=[.list (ns.map .int)] }=true:=by
   have h4:=(holds_andW hc).1
   rw [hn] at h4
   exact h4
  have h5:=condW_of h4 (w_not (w_lt w_lit (w_len_list (w_arg rfl))))
  rw [aWb] at h5
  refine bCm fun q=>?_
  have q':(n:Int) < ((ns.length:Nat):Int):=by omega
  first
   | (rw [aXg q'] at h5;exact absurd h5 (by decide))
   | (simp at h5;omega)
 cases hwl with
 | cons w1 w2 =>
  cases w2
  cases w1 with
  | list ho hall=>exact ⟨_,_,ns,rfl,rfl,ho,rQ ns _ hall,hlen⟩
theorem aF8(l:OpenLaw)(args:List WData):l.row.toRowW.claim.post args (.bool true) args=true :=
 postW_of (r:=l.row.toRowW) (X:=(true == true))
  (show WShape.has [] (.bool true) .bool=true by first | rfl | decide | simp [WShape.has,WShape.arms,WShape.armsAll])
  (show (WTm.eq .res (.lit (.bool true))).value [] { args:=args,res:=some (.bool true),after:=args }=some (.bool (true == true)) from w_eq_bool (w_res rfl) w_lit) rfl
theorem yZ{l:OpenLaw}{n:Nat}{q:Program}{loose:List Str}{XP:(Str->Option Value)->Heap->Prop}{YP:World->Heap->Prop}{d:DefRec}
  (hn:l.most=some n) (hdf:d.params.defaults=[])
  (call:∀ (w:World) (s₀ s₁:Shared) (mg mb:Str->Option Value) (fa:Addr) (o:Obj) (pm cd doc:Value) (a:Addr) (vs:List Value) (ns:List Int),
   Ground q loose [] XP w s₀ mg mb s₁.heap->YP w s₁.heap ->
   s₁.heap.get? fa=some o->o.data=.func (docDef d.name d.params d.body d.scope pm cd doc)->s₁.heap.CodeRec cd d.name->mg d.name=some (.ref fa) ->
   s₁.heap.get? a=some { cls:=.type "list",data:=.seq vs.toArray }->IntsAre vs ns->ns.length<=n->s₁.gens=#[] ->
   codeAny (model l.prog w) callerA (.call (.ref fa) ⟨[.ref a],[]⟩) (fun r s'=>r=.ok (.ret (.bool true))/\OldK s₁.heap s'.heap/\s'.os=s₁.os/\AllBare s'.gens) s₁) :
  WalkO q loose XP YP l.row.toRowW d [] (fun f vs=>PySem.call f vs):=by
 intro w s₀ s₁ mg mb G Y fa o pm cd doc dV kV ho hd hcd hD hmg hg args vals as aPh hlay hrd hwl hlo
 obtain rfl:dV=.none:=Dflts.none hD hdf
 obtain rfl:kV=.none:=Dflts.noKw hD
 obtain ⟨a,vs,ns,rfl,rfl,hobj,hints,hlen⟩:=aGg hn aPh hwl
 refine enter_call (bBz (call w s₀ s₁ mg mb fa o pm cd doc a vs ns G Y ho (fd_plain hd) hcd hmg hobj hints hlen hg) fun r s' hq=>?_)
 obtain ⟨rfl,h2,h3,h4⟩:=hq
 exact ⟨.inl ⟨.bool true,.bool true,[],rfl,fun _=>rfl,.bool true,aF8 l _,fun _=>⟨List.Pairwise.nil,fun _ hm=>(nomatch hm)⟩⟩,h2,h3,h4⟩
section
variable {prog:Program}{w:World}{A:Around}{E:Value->Shared->Prop}{s:Shared}{K:Frag}
end
end Att
namespace L2
open PySem PySem.Spec PyProof.Rows
theorem wL:∀ {vs:List Value} {ns:List Int},IntsAre vs ns->Vals (ns.map V.int) vs
 | _,_,.nil=>.nil
 | _,_,.cons n t h=>.cons ⟨t,rfl⟩ (wL h)
def aUo(H:Hp):Prop:=∀ b,H b=none\/∃ o xs,H b=some (.frz o (.lst xs))
theorem aHw{P:Program}{w:World}{K:aV9}{mg mb:Str->Option Value}{CX:CXT}{k:Nat}{fa a:Addr}{fd:FuncData}{x:Str}{sp:Sp}{s₁:Shared}{vs:List Value}{ns:List Int}
  (KX:K.In s₁.heap) (hns:s₁.heap.Ns mainGlobals mg) (hb:s₁.heap.Ns builtinsNs mb) (hbb:∀ x:Str,x≠"__name__"->mb x=bootBuiltins x) (hlim:s₁.heap.NoLimit) (hg:s₁.gens=#[])
  (ha:s₁.heap.get? a=some { cls:=.type "list",data:=.seq vs.toArray }) (hi:IntsAre vs ns) (hl:ns.length<=sizeLine) (hr:Room k callerA)
  (F:∀ base:Heap,K.In base->base.Ns mainGlobals mg->FnOk P w K mg base CX k fa fd [x] sp) (hbind:∀ (s:Shared) (u:Value),BindsTo s fd ⟨[u],[]⟩ [(x,u)])
  (hsp:∀ H:Hp,aUo H->SqL K H a (ns.map V.int)->sp [.ref a] H (fun v _=>v=.bl true) fun _ _ _=>False)
  (hCX:∀ H e s',CX [] H s₁ (fun _ _ _=>False) e s'->False) :
  codeAny (model P w) callerA (.call (.ref fa) ⟨[.ref a],[]⟩) (fun r s'=>r=.ok (.ret (.bool true))/\OldK s₁.heap s'.heap/\s'.os=s₁.os/\AllBare s'.gens) s₁:=by
 have rv:=wL hi
 have lenV:=hi.length
 have core:∀ H:Hp,aUo H->SqL K H a (ns.map V.int)->HOk P w H s₁.heap->(∀ b,H b≠none->b=a)->(H a≠none->K.lookup a=none) ->
   codeAny (model P w) callerA (.call (.ref fa) ⟨[.ref a],[]⟩) (fun r s'=>r=.ok (.ret (.bool true))/\OldK s₁.heap s'.heap/\s'.os=s₁.os/\AllBare s'.gens) s₁:=by
  intro H hO hS hok hA hK
  have base_of:∀ {b:Addr} {o:Obj},s₁.heap.get? b=some o->H b=none->(aJm s₁.heap H).get? b=some o:=fun e n=>aI0 e n
  have noA:∀ {b:Addr} {o:Obj} {es:Array DictEntry} {ep:Nat},s₁.heap.get? b=some o->o.data=.dict es ep->H b=none:=fun {b o es ep} e d=>by
   cases q:H b with
   | none=>rfl
   | some u =>
    have e':b=a:=hA b (by rw [q];simp)
    subst e'
    rw [ha] at e;cases e
    have d':Data.seq vs.toArray _=Data.dict es ep:=d
    cases d'
  have nsK:∀ {b:Addr} {m:Str->Option Value},s₁.heap.Ns b m->(aJm s₁.heap H).Ns b m:=fun {b m} ⟨o,es,ep,e,d,r⟩=>⟨o,es,ep,base_of e (noA e d),d,r⟩
  have hKb:K.In (aJm s₁.heap H):=fun b o e=>base_of (KX b o e) (by
   cases q:H b with
   | none=>rfl
   | some u =>
    have e':b=a:=hA b (by rw [q];simp)
    subst e'
    rw [hK (by rw [q];simp)] at e;cases e)
  have hM:Mod K mg (aJm s₁.heap H):=⟨hKb,nsK hns,⟨mb,nsK hb,hbb⟩,let ⟨mc,h1,h2⟩:=hlim;⟨mc,nsK h1,h2⟩⟩
  have e0:aSu P w K mg (aJm s₁.heap H) callerA [] s₁ H:=⟨rfl,hM,fun b o e=>aNp e,bA6 (aEn _ _),trivial,fun b hb=>absurd (show b∈([]:List Addr) from hb) (by simp),hok,.of_eq hg⟩
  refine bBz ((F _ hKb (nsK hns)).run callerA [] s₁ H ⟨[.ref a],[]⟩ [.ref a] [.ref a] _ _ hr e0 (hbind s₁ (.ref a)) (.cons rfl .nil) (hsp H hO hS)) fun r s' h=>?_
  cases r with
  | error e=>exact (hCX H e s' h).elim
  | ok fl =>
   cases fl with
   | next=>exact False.elim h
   | brk=>exact False.elim h
   | cont=>exact False.elim h
   | ret u =>
    obtain ⟨v,H',os,bare,un,hok',r',q⟩:=h
    have q':v=.bl true:=q
    subst q'
    obtain rfl:u=Value.bool true:=r'
    refine ⟨rfl,OldK.of_keep fun b o e=>?_,os,bare⟩
    cases q:H b with
    | none=>exact un.keep b o e q (by intro z;exact absurd (show b∈([]:List Addr) from z) (by simp)) (by simp)
    | some u =>
     rcases hO b with z | ⟨ob,xs,z⟩
     ·rw [q] at z;cases z
     ·have z2:=un.frzs b ob _ z
      obtain ⟨e1,_⟩:=hok b _ z
      obtain ⟨e2,_⟩:=hok' b _ z2
      rw [e] at e1;cases e1
      exact e2
 cases hk:K.lookup a with
 | some o =>
  have e:=KX a o hk
  rw [ha] at e
  cases e
  refine core (fun _=>none) (fun _=>.inl rfl) (.inr ⟨_,vs.toArray,_,hk,rfl,rfl,rfl,by rw [aWk,lenV];exact hl,by simpa using rv⟩) (fun b u z=>by have z':(none:Option HO)=some u:=z;cases z') (fun b z=>absurd rfl z) fun z=>absurd rfl z
 | none =>
  refine core (fun b=>if b=a then some (.frz { cls:=.type "list",data:=.seq vs.toArray } (.lst (ns.map V.int))) else none) (fun b=>?_) (.inl (.inr ⟨{ cls:=.type "list",data:=.seq vs.toArray },aWm rfl⟩)) (fun b u z=>?_) (fun b z=>?_) fun _=>hk
  ·by_cases hb:b=a
   ·exact .inr ⟨_,_,aWm hb⟩
   ·exact .inl (aWn hb)
  ·by_cases hb:b=a
   ·have z':=(aWm hb).symm.trans z
    cases z'
    subst hb
    exact ⟨ha,by rw [aWb];exact hl,vs,_,rv,ha⟩
   ·have z':=(aWn hb).symm.trans z
    cases z'
  ·by_cases hb:b=a
   ·exact hb
   ·exact absurd (aWn hb) z
theorem aNs{l:PySem.W.OpenLaw}{n k:Nat}{q:Program}{loose:List Str}{XP:(Str->Option Value)->Heap->Prop}{YP:World->Heap->Prop}{d:DefRec}{K:Params->aV9}{CX:World->CXT}{sp:World->Sp}{x:Str}
  (hn:l.most=some n) (hn2:n<=sizeLine) (hdf:d.params.defaults=[]) (hr:Room k callerA)
  (hY:∀ (w:World) (h:Heap),YP w h->(K w.params).In h)
  (F:∀ (w:World) (mg:Str->Option Value) (fa:Addr) (h:Heap),(K w.params).In h->h.Ns mainGlobals mg->mg d.name=some (.ref fa) ->
   ∃ fd:FuncData,(∀ (s:Shared) (u:Value),BindsTo s fd ⟨[u],[]⟩ [(x,u)]) /\
    ∀ base:Heap,(K w.params).In base->base.Ns mainGlobals mg->FnOk l.prog w (K w.params) mg base (CX w) k fa fd [x] (sp w))
  (hsp:∀ (w:World) (H:Hp) (a:Addr) (ns:List Int),ns.length<=n->aUo H->SqL (K w.params) H a (ns.map V.int)->sp w [.ref a] H (fun v _=>v=.bl true) fun _ _ _=>False)
  (hCX:∀ (w:World) (H:Hp) (s:Shared) (e:Value) (s':Shared),CX w [] H s (fun _ _ _=>False) e s'->False) :
  PySem.W.WalkO q loose XP YP l.row.toRowW d [] (fun f vs=>PySem.call f vs):=by
 refine Att.yZ hn hdf fun w s₀ s₁ mg mb fa o pm cd doc a vs ns G Y ho hd hcd hmg hobj hints hlen hg=>?_
 have KX:=hY w _ Y
 obtain ⟨fd,hb,hF⟩:=F w mg fa _ KX G.T.g hmg
 exact aHw KX G.T.g G.T.b G.T.builtins G.T.nolimit hg hobj hints (aXk hlen hn2) hr hF hb (fun H hO hS=>hsp w H a ns hlen hO hS) fun H e s'=>hCX w H s₁ e s'
def kT(s:Stmt):Arguments:=match s with
 | .FunctionDef _ a _ _ _ _ _ _ _ _=>a
 | _=>{ posonlyargs:=[],args:=[],vararg:=none,kwonlyargs:=[],kw_defaults:=[],kwarg:=none,defaults:=[] }
def iS(s:Stmt):List Stmt:=match s with
 | .FunctionDef _ _ b _ _ _ _ _ _ _=>b
 | _=>[]
def aT(s:Stmt):Scope:=match s with
 | .FunctionDef _ _ _ _ _ _ sc _ _ _=>sc
 | _=>{ kind:=.function,names:=[],isGenerator:=false,isCoroutine:=false }
abbrev E0:XK:=fun _ _ _=>False
structure Fun(K:aV9)(x qual:Str)(st:Stmt)(f:Addr)(fd:FuncData):Prop where
 ex:∃ (oc:Value) (od:Option Addr) (kV doc pm:Value) (an:Option Addr) (cdv ct:Value) (osl:Array (Option Value)),
  fd=PySem.W.fnOf x qual (kT st) (iS st) (aT st) .none kV doc pm an cdv ct/\K.lookup f=some ⟨oc,od,.func fd,osl⟩/\PySem.W.codeIn K cdv qual=true
 kp:PySem.W.keepIn K (.ref f)=true
section
variable {P:Program}{w:World}{K:aV9}{mg:Str->Option Value}{base:Heap}
theorem Fun.binds{x qual:Str}{st:Stmt}{f:Addr}{fd:FuncData}{ps:List Str}(F:Fun K x qual st f fd)
  (h:∀ (kV doc pm:Value) (an:Option Addr) (cdv ct:Value) (us:List Value),us.length=ps.length->bindArgs (PySem.W.fnOf x qual (kT st) (iS st) (aT st) .none kV doc pm an cdv ct) ⟨us,[]⟩=pure (ps.zip us)):Binds K fd ps []:=by
 obtain ⟨oc,od,kV,doc,pm,an,cdv,ct,osl,rfl,lk,hcd⟩:=F.ex
 exact .all (h kV doc pm an cdv ct)
theorem aKw{x qual:Str}{st:Stmt}{f:Addr}{oc:Value}{od an:Option Addr}{osl:Array (Option Value)}{kV doc pm cdv ct:Value}(l:K.lookup f=some ⟨oc,od,.func (PySem.W.fnOf x qual (kT st) (iS st) (aT st) .none kV doc pm an cdv ct),osl⟩)
  (c:PySem.W.codeIn K cdv qual=true) (k:PySem.W.keepIn K (.ref f)=true):Fun K x qual st f (PySem.W.fnOf x qual (kT st) (iS st) (aT st) .none kV doc pm an cdv ct):=⟨⟨oc,od,kV,doc,pm,an,cdv,ct,osl,rfl,l,c⟩,k⟩
end
section
variable {X:Cx}
theorem pv(i:Nat){x:Str}{pos:Pos}(hN:X.N[i]? = some x:=by rfl)(hv:Vis X.env.scope x:=by first | exact Or.inl rfl | exact Or.inr (Or.inl rfl) | exact Or.inr (Or.inr rfl))(hd:(x == ("__debug__" : Str))=false:=by decide)
  (hcd:(x == ("__classdict__" : Str))=false:=by decide):PE X (.Name x pos) (aLc i):=aKu hN hv hd hcd
end
def Same(H H':Hp):Prop:=∀ b o,H b=some o->H' b=some o
theorem Same.refl(H:Hp):Same H H:=fun _ _ h=>h
theorem Same.trans{H H1 H2:Hp}(a:Same H H1)(b:Same H1 H2):Same H H2:=fun c o h=>b c o (a c o h)
theorem Same.free{H H':Hp}(e:Same H H'){l:Addr}(h:H' l=Option.none):H l=Option.none:=by
 cases q:H l with
 | none=>rfl
 | some o =>
  rw [e l o q] at h
  cases h
theorem Same.seq{K:aV9}{H H':Hp}{a:Addr}{xs:List V}(e:Same H H')(h:SqL K H a xs):SqL K H' a xs:=by
 rcases h with (h | ⟨o,h⟩) | h
 ·exact .inl (.inl (e _ _ h))
 ·exact .inl (.inr ⟨o,e _ _ h⟩)
 ·exact .inr h
section
variable {X:Cx}
end
section
variable {κ:Type}[DecidableEq κ]
end
end L2
set_option maxHeartbeats 4000000
namespace PySem.W
open PySem PySem.Spec PySem.Calls PyProof.Rows Builtin Builtin.ObjectAttr Builtin.Getset_descriptor
section
variable {prog:Program}{w:World}{A:Around}{E:Value->Shared->Prop}{K:Frag}{h:Heap}{g:Array GenState}{d:Drawn}{t:Nat}{os:OsState}{a C:Addr}
structure ExcK(K:Frag)(C:Addr):Prop where
 ga:findIn K (.ref C) "__getattribute__" = some (some (.builtin "BaseException.__getattribute__"))
 gt:findIn K (.ref C) "__getattr__" = some none
 cl:findIn K (.ref C) "__class__" = some (some (.builtin "object.__class__"))
 mo:mroIn K C (.type "object")=some true
 mb:mroIn K C (.type "BaseException")=some true
 ic:(clsIn K C).isSome=true
def ExcAt(a:Addr)(cls:Value)(h:Heap):Prop:=∃ o,h.get? a=some o/\o.cls=cls/\∃ vs,o.data=.fields vs
theorem ExcAt.ty{cls:Value}(p:ExcAt a cls h)(M:Model):Looks M h (typeOf (.ref a)) cls:=by
 obtain ⟨o,h1,h2,_⟩:=p
 exact h2▸(Looks.ld h1).andThen .now
theorem aQg{tp:Value}{R:Result->Shared->Prop}(X:K.In h)(T:ExcK K C)(p:ExcAt a (.ref C) h)(hq:R (.ok (.ret (.ref C))) ⟨h,g,d,t,os⟩) :
  codeAny (model prog w) A (.call (.builtin "getset_descriptor.__get__") ⟨[.builtin "object.__class__",.ref a,tp],[]⟩) R ⟨h,g,d,t,os⟩:=by
 have La:=p.ty (model prog w)
 have Lb:=looks_mroIn (M:=model prog w) X T.mo
 refine bBk KF.slot_gs.plain KF.entry_gs (KF.slot_gs.check _ _ _ _ _ _ _ _ KF.type_class (KF.args_gs _ _ _) ?_)
 unfold Builtin.«getset_descriptor.__get__» descrGet
 rw [dga_obj]
 refine aWa (aWe ?_)
 unfold descrGetter descrCheckInstance descrNameAndClass isInstance
 simp only [KF.owner_class]
 repeat lk
 refine ⟨Code.quiet_builtin _ (by decide +kernel),bAs KF.entry_class ?_⟩
 unfold Builtin.«object.__class__» shownTypeOf
 repeat lk
 exact hq
theorem aHv{tk:Tok}{Q:Fin->Shared->Prop}(X:K.In h)(T:ExcK K C)(p:ExcAt a (.ref C) h)(hq:Q (.done (.ret (.ref C))) ⟨h,g,d,t,os⟩) :
  wpAny (model prog w) A (Builtin.«object.__getattribute__» ⟨[.ref a,.str "__class__" tk],[]⟩) Q E ⟨h,g,d,t,os⟩:=by
 have La:=p.ty (model prog w)
 have Lc:=looks_findIn (M:=model prog w) X T.cl
 have hT5:(⟨h,g,d,t,os⟩:Shared).TypeIs (.builtin "object.__class__") "getset_descriptor":=F.typeOf_object_class
 have e5:=F.typeOf_object_class
 have e6:=F.slot_gs_get.lookup
 have e7:=F.slot_gs_set.lookup
 repeat (any_goals (first | assumption | with_reducible refine Looks.at (by assumption) ?_ | wp_step))
 refine aQg X T p ?_
 repeat (any_goals (first | assumption | wp_step))
theorem aJr{M:Model}{nameV:Value}{Q:Unit->Shared->Prop}(X:K.In h)(T:ExcK K C)(p:ExcAt a (.ref C) h)(hq:Q () ⟨h,g,d,t,os⟩) :
  wpAny M A (checkBuiltinCall "BaseException.__getattribute__" ⟨[.ref a,nameV],[]⟩) Q E ⟨h,g,d,t,os⟩:=by
 have hk:builtinKind "BaseException.__getattribute__" = some .slot:=by decide +kernel
 have hsp:splitId "BaseException.__getattribute__" = some ("BaseException","__getattribute__"):=by decide +kernel
 have La:=p.ty M
 have Lb:=looks_mroIn (M:=M) X T.mb
 have ha:=F.args_bexc_ga (.ref a) nameV
 simp only [checkBuiltinCall,hk,hsp]
 refine aWa ?_
 unfold isInstance
 repeat (any_goals (first | assumption | with_reducible refine Looks.at (by assumption) ?_ | wp_step))
theorem aMe{tk:Tok}{R:Result->Shared->Prop}(X:K.In h)(T:ExcK K C)(p:ExcAt a (.ref C) h)(hq:R (.ok (.ret (.ref C))) ⟨h,g,d,t,os⟩) :
  codeAny (model prog w) A (.call (.builtin "BaseException.__getattribute__") ⟨[.ref a,.str "__class__" tk],[]⟩) R ⟨h,g,d,t,os⟩ :=
 bBk F.attr_ValueError.ga.plain F.entry_bexc_ga (aJr X T p (aHv X T p hq))
theorem aUx{tk:Tok}{Q:Value->Shared->Prop}(X:K.In h)(T:ExcK K C)(p:ExcAt a (.ref C) h)(hq:Q (.ref C) ⟨h,g,d,t,os⟩):wpAny (model prog w) A (getAttrBy (.ref a) (.str "__class__" tk) false) Q E ⟨h,g,d,t,os⟩:=by
 have La:=p.ty (model prog w)
 have Lg:=looks_findIn (M:=model prog w) X T.ga
 have Lt:=looks_findIn (M:=model prog w) X T.gt
 have f3:=F.attr_ValueError.ga.bind (.ref a)
 have hx0:(false && onTheHeap (Value.builtin "BaseException.__getattribute__"))=false:=rfl
 have hx2:(Value.builtin "BaseException.__getattribute__" == Value.builtin "object.__getattribute__")=false:=by decide +kernel
 have hx1:(onTheHeap (Value.ref C) && Value.builtin "BaseException.__getattribute__" == Value.builtin "object.__getattribute__")=false:=by rw [hx2];rfl
 repeat (any_goals (first | assumption | with_reducible refine Looks.at (by assumption) ?_ | wp_step))
 refine aMe X T p ?_
 repeat (any_goals (first | assumption | wp_step))
theorem aOi{Q:Option Value->Shared->Prop}(X:K.In h)(T:ExcK K C)(p:ExcAt a (.ref C) h)(hq:Q (some (.ref C)) ⟨h,g,d,t+1,os⟩):wpAny (model prog w) A (getAttr? (.ref a) "__class__") Q E ⟨h,g,d,t,os⟩:=by
 unfold getAttr? getAttrBy?
 repeat (any_goals (first | assumption | with_reducible apply aUx X T p | wp_step))
theorem kitx_exc(T:ExcK K C):KitX K (.ref a) (.ref C) (ExcAt a (.ref C)) where
 ty:=fun M _ _ p=>p.ty M
 it:=fun _ _ X _=>by
  have hs:=T.ic
  unfold clsIn at hs
  split at hs
  ·rename_i ho
   intro A' Q' E' s' k q
   unfold isType loadHead
   exact aWa (wpAny_loadPart (k _ _ (X _ _ ho)) (aWe q))
  ·cases hs
 ne:=fun h tp dd its n sl X htp=>by
  refine Bool.eq_false_iff.mpr fun q=>?_
  have e:C=tp:=Value.ref.inj (bBq.mp q)
  have hs:=T.ic
  unfold clsIn at hs
  split at hs
  ·rename_i ho
   have z:=X _ _ ho
   rw [e,htp] at z
   cases z
  ·cases hs
 ca:=fun {_ _ _ _ _ s} X p k=>by
  obtain ⟨hh,gg,dd,tt,oo⟩:=s
  exact aOi X T p k
end
end PySem.W
namespace L2
open PySem PySem.Spec PyProof.Rows
structure aQa(P:Program)(w:World)(outer:List Env)(H:Hp)(s:Shared)(ea:Addr)(cls:Value)(H':Hp)(B:Heap)(a0:Value)(s':Shared):Prop where
 os:s'.os=s.os
 bare:AllBare s'.gens
 un:Un (frs outer) [] H H' s.heap s'.heap
 hok:HOk P w H' s'.heap
 fly:Heap.FlyingW B outer ea cls a0 s'.heap
 inB:∀ b o,s'.heap.get? b=some o->(H' b≠none\/((∃ u,s.heap.get? b=some u)/\b∉frs outer))->B.get? b=some o
 new:s.heap.get? ea=none
 nt:H' ea=none
def CXr(P:Program)(w:World):CXT:=fun outer H s E e s' =>
 ∃ (ea:Addr) (cls:Value) (H':Hp) (B:Heap) (a0:Value),e=.ref ea/\aQa P w outer H s ea cls H' B a0 s'/\E cls none H'
theorem uG{P:Program}{w:World}{H:Hp}{h h':Heap}(ok:HOk P w H h)(k:∀ b o,H b≠none->h.get? b=some o->h'.get? b=some o):HOk P w H h':=fun a o e =>
 (ok a o e).stay (fun b u hb q=>k b u (by
  rcases hb with z | z
  ·rw [z,e];exact fun q=>nomatch q
  ·rw [z];exact fun q=>nomatch q) q) (fun _ q=>q) fun _ _ q=>q
theorem rR{P:Program}{w:World}{H:Hp}{h:Heap}{a:Addr}{o:HO}(x:ObjOk P w H h a o):∃ ob,h.get? a=some ob:=by
 cases o with
 | lst xs=>obtain ⟨_,_,_,_,e⟩:=x;exact ⟨_,e⟩
 | tup xs=>obtain ⟨_,_,_,ob,e,_⟩:=x;exact ⟨_,e⟩
 | dK kvs=>obtain ⟨_,_,_,_,o,_,_,e,_⟩:=x;exact ⟨_,e⟩
 | dT kvs=>obtain ⟨_,_,_,_,o,_,_,e,_⟩:=x;exact ⟨_,e⟩
 | set S n=>obtain ⟨o,_,_,_,e,_⟩:=x;exact ⟨_,e⟩
 | ins C dx fs=>obtain ⟨_,_,_,e,_⟩:=x;exact ⟨_,e⟩
 | own y=>exact x
 | xd fs=>obtain ⟨_,⟨_,_,_,e,_⟩,_⟩:=x;exact ⟨_,e⟩
 | rng lo hi=>obtain ⟨_,_,_,e⟩:=x;exact ⟨_,e⟩
 | frz ob u=>obtain ⟨e,_⟩:=x;exact ⟨_,e⟩
 | tbl ps=>exact ⟨_,(show h.get? a=some _ from x)⟩
 | met f y=>exact ⟨_,(show h.get? a=some _ from x)⟩
 | ext φ=>obtain ⟨_,e,_⟩:=x;exact e
theorem HOk.there{P:Program}{w:World}{H:Hp}{h:Heap}{a:Addr}(x:HOk P w H h)(n:H a≠none):∃ ob,h.get? a=some ob:=by
 cases q:H a with
 | none=>exact absurd q n
 | some u=>exact rR (x a u q)
section
variable {P:Program}{w:World}{K:aV9}{mg:Str->Option Value}{base:Heap}{N:List Str}{qual:Str}{scope:Scope}{f:Addr}{cd:Value}{A:Around}{outer:List Env}{s:Shared}{H:Hp}{E:XK}
theorem uD{env:Env}{l:List Env}{L:Addr}(h:env.frame=some L):frs (env :: l)=L :: frs l:=by
 unfold frs
 rw [aX1,h]
theorem aBm{X:Cx}{pins:List (Addr×Obj)}{σ:St}{H1 H':Hp}{s1:Shared}{B h'':Heap}{ea:Addr}{cls a0:Value}{g':Array GenState}{d':Drawn}{t':Nat}{os':OsState}
  (I:Inv X pins σ H1 s1) (hx:X.ex=[]) (hs:X.env.locals∉frs X.outer)
  (ho:os'=X.s₀.os) (hg:AllBare g')
  (fly:Heap.FlyingW B X.outer ea cls a0 h'')
  (kp:∀ b o,s1.heap.get? b=some o->H1 b=none->b∉frs X.outer->b≠X.env.locals->B.get? b=some o)
  (sl:∀ b o,s1.heap.get? b=some o->b∈frs X.outer->∃ sl,h''.get? b=some { o with slots:=sl })
  (fr:∀ b o,s1.heap.get? b=some o->H1 b=none->H' b=none)
  (tups:∀ b xs,H1 b=some (.tup xs)->H' b=some (.tup xs)) (frzs:∀ b o u,H1 b=some (.frz o u)->H' b=some (.frz o u)) (tbls:∀ b ps,H1 b=some (.tbl ps)->∃ more,H' b=some (.tbl (ps++more)))
  (hok:HOk X.prog X.w H' h'') (inH:∀ b o,h''.get? b=some o->H' b≠none->B.get? b=some o)
  (th:∀ b o,s1.heap.get? b=some o->H1 b≠none->∃ o',h''.get? b=some o')
  (inB:∀ b o,s1.heap.get? b=some o->b∉frs X.outer->b≠X.env.locals->∃ o',B.get? b=some o')
  (new:s1.heap.get? ea=none) (nt:H' ea=none) :
  aQa X.prog X.w X.outer X.H₀ X.s₀ ea cls H' B a0 ⟨h'',g',d',t',os'⟩:=by
 have hxn:∀ b:Addr,b∉X.ex:=fun b z=>by rw [hx] at z;cases z
 have neL:∀ b o,X.s₀.heap.get? b=some o->b≠X.env.locals:=fun b o e=>aW2 (aW7 (aWi e) I.ok.above)
 have st:=fly.1
 refine ⟨ho,hg,⟨fun b o e n hb _=>?_,fun b o e n hb _=>?_,fun b o e n _=>?_,fun b o e _=>?_,fun b xs e=>tups b xs (I.base.tups b xs e),fun b o u e=>frzs b o u (I.base.frzs b o u e),fun b ps e=>?_⟩,hok,fly,fun b o e hb=>?_,?_,nt⟩
 ·exact st b o (kp b o (I.base.keep b o e n hb (hxn b)) (I.base.free b o e n (hxn b)) hb (neL b o e))
 ·obtain ⟨l1,e1⟩:=I.base.slot b o e n hb (hxn b)
  obtain ⟨l2,e2⟩:=sl b _ e1 hb
  exact ⟨l2,e2⟩
 ·obtain ⟨o1,e1⟩:=I.base.there b o e (hxn b)
  exact fr b o1 e1 (I.base.free b o e n (hxn b))
 ·obtain ⟨o1,e1⟩:=I.base.there b o e (hxn b)
  by_cases hb:b∈frs X.outer
  ·obtain ⟨l2,e2⟩:=sl b o1 e1 hb
   exact ⟨_,e2⟩
  ·obtain ⟨o2,e2⟩:=inB b o1 e1 hb (neL b o e)
   exact ⟨o2,st b o2 e2⟩
 ·obtain ⟨m1,e1⟩:=I.base.tbls b ps e
  obtain ⟨m2,e2⟩:=tbls b _ e1
  exact ⟨m1++m2,by rw [e2,Array.append_assoc]⟩
 ·rcases hb with hb | ⟨⟨u,hu⟩,hb⟩
  ·exact inH b o e hb
  ·obtain ⟨o1,e1⟩:=I.base.there b u hu (hxn b)
   obtain ⟨o2,e2⟩:=inB b o1 e1 hb (neL b u hu)
   have e3:=st b o2 e2
   have e4:h''.get? b=some o:=e
   rw [e3] at e4
   cases e4
   exact e2
 ·cases q:X.s₀.heap.get? ea with
  | none=>rfl
  | some o =>
   obtain ⟨o',e'⟩:=I.base.there ea o q (hxn ea)
   rw [new] at e'
   cases e'
theorem aTz:aQl (CXr P w) (uO (CXr P w) P w K mg base N qual scope f cd A outer s H E) E:=by
 intro pins σ H1 s1 e s1' I h
 obtain ⟨ea,cls,H',B,a0,rfl,F,want⟩:=h
 have hfr:(uO (CXr P w) P w K mg base N qual scope f cd A outer s H E).A.frames=some (envOfC qual scope s.heap.objs.size f cd :: outer):=I.ok.frames
 have hstk:frs (uO (CXr P w) P w K mg base N qual scope f cd A outer s H E).stack=s.heap.objs.size :: frs outer:=uD rfl
 have hLo:s.heap.objs.size∉frs outer:=fun z=>by
  obtain ⟨_,o,ho,_⟩:=I.ok.funs.mem z
  exact absurd (aWi ho) (aXn _)
 have nst:∀ {b:Addr},b∉frs outer->b≠s.heap.objs.size->b∉frs (uO (CXr P w) P w K mg base N qual scope f cd A outer s H E).stack:=fun h1 h2 z=>by
  rw [hstk] at z
  rcases aWh.mp z with z | z
  ·exact h2 z
  ·exact h1 z
 show wpAny (model P w) _ (leaving _ (.ref ea)) _ _ s1'
 refine wpAny_leaves_onW hfr rfl F.fly fun h'' fl' up=>?_
 have inB':∀ b o,s1'.heap.get? b=some o->H' b≠none->h''.get? b=some o:=fun b o e n=>fl'.1 b o (F.inB b o e (.inl n))
 refine ⟨ea,cls,H',B,a0,rfl,aBm (X:=uO (CXr P w) P w K mg base N qual scope f cd A outer s H E) I rfl hLo (F.os.trans I.os) F.bare fl' (fun b o e n hb hL=>?_) (fun b o e hb=>?_) (fun b o e n=>F.un.free b o e n (by simp)) F.un.tups F.un.frzs F.un.tbls
  (uG F.hok fun b o n e=>inB' b o e n) (fun b o e n=>?_) (fun b o e n=>?_) (fun b o e hb hL=>?_) F.new F.nt,want⟩
 ·exact F.inB b o (F.un.keep b o e n (nst hb hL) (by simp)) (.inr ⟨⟨o,e⟩,nst hb hL⟩)
 ·have hb':b∈frs outer:=hb
  have n:H1 b=none:=by
   have:=I.stkFree b (by rw [hstk];exact aXy _ hb')
   exact this
  obtain ⟨l1,e1⟩:=F.un.slot b o e n (by rw [hstk];exact aXy _ hb') (by simp)
  obtain ⟨_,o',ho',hd'⟩:=F.fly.2.2.1.mem (b:=b) (by
   have:b∈frs (uO (CXr P w) P w K mg base N qual scope f cd A outer s H E).stack:=by rw [hstk];exact aXy _ hb'
   exact this)
  rw [e1] at ho'
  cases ho'
  obtain ⟨l2,e2⟩:=up b _ e1 hd'
  exact ⟨l2,e2⟩
 ·obtain ⟨o1,e1⟩:=F.hok.there n
  have e2:=F.inB b o1 e1 (.inl n)
  have e3:=fl'.1 b o1 e2
  rw [e] at e3
  cases e3
  exact e2
 ·obtain ⟨o1,e1⟩:=F.un.there b o e (by simp)
  by_cases hb:b∈frs outer
  ·have hz:H1 b=none:=I.stkFree b (by rw [hstk];exact aXy _ hb)
   exact absurd hz n
  ·by_cases hL:b=s.heap.objs.size
   ·have hz:H1 b=none:=I.stkFree b (by rw [hstk,hL];exact bAo)
    exact absurd hz n
   ·exact ⟨o1,fl'.1 b o1 (F.inB b o1 e1 (.inr ⟨⟨o,e⟩,nst hb hL⟩))⟩
 ·obtain ⟨o1,e1⟩:=F.un.there b o e (by simp)
  exact ⟨o1,F.inB b o1 e1 (.inr ⟨⟨o,e⟩,nst hb hL⟩)⟩
def aDl(X:Cx)(E:XK):Prop:=∀ (pins:List (Addr×Obj)) (σ:St) (H:Hp) (s:Shared) (C:Addr) (h':Heap) (e:Addr) (vs:List Value),Inv X pins σ H s->Heap.MadeExcOf s.heap h' e (.ref C) vs->E (.ref C) none H->X.xe (.ref e) { s with heap:=h' }
theorem uJ:aDl (uO (CXr P w) P w K mg base N qual scope f cd A outer s H E) E:=by
 intro pins σ H1 s1 C h' e vs I hx want
 have hstk:frs (uO (CXr P w) P w K mg base N qual scope f cd A outer s H E).stack=s.heap.objs.size :: frs outer:=uD rfl
 have hfr:(uO (CXr P w) P w K mg base N qual scope f cd A outer s H E).A.frames=some (envOfC qual scope s.heap.objs.size f cd :: outer):=I.ok.frames
 have hLo:s.heap.objs.size∉frs outer:=fun z=>by
  obtain ⟨_,o,ho,_⟩:=I.ok.funs.mem z
  exact absurd (aWi ho) (aXn _)
 have st:s1.heap.FunFrames base (envOfC qual scope s.heap.objs.size f cd :: outer):=I.stack
 have fin:s1.heap.FunFrames (PySem.W.hideAll s1.heap (s.heap.objs.size :: frs outer)) (envOfC qual scope s.heap.objs.size f cd :: outer) :=
  PySem.W.funFrames_hide st fun env he a ha=>by
   rw [<- hstk]
   exact bAp.mpr ⟨env,he,ha⟩
 have nfr:∀ {b:Addr},H1 b≠none->b∉s.heap.objs.size :: frs outer:=fun n z=>n (I.stkFree _ (by rw [hstk];exact z))
 have nin:∀ {b:Addr},b∉frs outer->b≠s.heap.objs.size->b∉s.heap.objs.size :: frs outer:=fun h1 h2 z=>(aWh.mp z).elim h2 h1
 show wpAny (model P w) _ (leaving _ (.ref e)) _ _ { s1 with heap:=h' }
 refine wpAny_leaves_madeW (base:=PySem.W.hideAll s1.heap (s.heap.objs.size :: frs outer)) (h:=s1.heap) hfr rfl (fun b o q=>PySem.W.of_hideAll _ q) fin hx fun h'' t fl _ _ up=>?_
 refine ⟨e,.ref C,H1,_,.ref t,rfl,aBm (X:=uO (CXr P w) P w K mg base N qual scope f cd A outer s H E) I rfl hLo I.os I.bare fl (fun b o q n hb hL=>aZa _ q (nin hb hL)) (fun b o q hb=>?_) (fun _ _ _ n=>n) (fun _ _ q=>q) (fun _ _ _ q=>q)
  (fun b ps q=>⟨#[],by rw [q];simp⟩) (uG I.hok fun b o n q=>fl.1 b o (aZa _ q (nfr n))) (fun b o q n=>?_) (fun b o q n=>⟨o,fl.1 b o (aZa _ q (nfr n))⟩) (fun b o q hb hL=>⟨o,aZa _ q (nin hb hL)⟩) hx.new ?_,want⟩
 ·obtain ⟨_,o',ho',hd'⟩:=st.mem (b:=b) (by
   have:b∈frs (envOfC qual scope s.heap.objs.size f cd :: outer):=by
    rw [uD rfl]
    exact aXy _ hb
   exact this)
  rw [q] at ho'
  cases ho'
  exact up b o (hx.keeps b o q) hd'
 ·obtain ⟨o1,e1⟩:=I.hok.there n
  have e2:=aZa _ e1 (nfr n)
  have e3:=fl.1 b o1 e2
  rw [q] at e3
  cases e3
  exact e2
 ·cases q:H1 e with
  | none=>rfl
  | some u =>
   obtain ⟨ob,eo⟩:=rR (I.hok e u q)
   rw [hx.new] at eo
   cases eo
end
section
variable {X:Cx}{E:XK}
def aQp(C:Addr)(E:XK)(t:TA):TS:=fun _ σ H=>t σ H fun vs H1=>vs.length<=sizeLine/\E (.ref C) none H1
theorem aIe{x:Str}{e₀:Expr}{rest:List Expr}{t:TA}{C:Addr}{bm:List Value}{B newId initId:String}{np cpos pos:Pos}(hx:aDl X E)(hc:X.calm=true)(hg:Gl X x)(O:OwnCls x C bm newId X.mg X.base)
  (FB:ExcBaseFacts B newId initId bm) (ha:PA X (e₀ :: rest) t) (hdb:(x == ("__debug__" : Str))=false:=by decide)
  (he:starEach (e₀ :: rest) X.env=(false,eval e₀ X.env) :: starEach rest X.env:=by rfl) (hpl:(backTo cpos (starEach rest X.env)).any (·.1)=false:=by rfl) :
  PS X (.Raise (some (.Call (.Name x np) (e₀ :: rest) [] cpos)) none pos) (aQp C E t):=by
 intro pins s σ H D I h
 obtain ⟨tl,NN,nm,qn,bs,hdc,sn,sb,ab,cl,dd,z0,z1,z2,z3,z5,mN,hC,hN,hni,T⟩:=O.obj
 have hp:(backTo cpos (starEach (e₀ :: rest) X.env)).any (·.1)=false:=by
  rw [he]
  show (false || (backTo cpos (starEach rest X.env)).any (·.1))=false
  rw [hpl]
  all_goals rfl
 have h2:=ha cpos pins s σ H _ I h
 refine wpAny_Raise_call_subT (bm:=tl) (N:=NN) (nm:=nm) (q:=qn) (bs:=bs) (hdct:=hdc) (sn:=sn) (sub:=sb) (ab:=ab) (col:=cl) (dd:=dd) (k0:=z0) (k1:=z1) (k2:=z2) (k3:=z3) (k5:=z5) FB (T.hasType FB.hasBase) (I.ok.hd hc) hp hni
  (xY I hg O.bound ⟨rfl,?_⟩ hdb)
 rw [he] at h2 ⊢
 refine Calls.evalArgs_plain (thn h2 fun us s2 ⟨vs,H1,I1,r,z,w'⟩=>?_)
 exact ⟨rfl,by rw [<- r.length];exact z,I1.bk _ _ hC,hN.keeps I1.bk,T.keeps I1.bk,fun h' e hm=>hx pins σ H1 s2 C h' e us I1 hm w'⟩
end
def qE(CX:CXT)(X:Cx)(E:St->XK):Prop:=∀ (pins:List (Addr×Obj)) (σ:St) (H:Hp) (s:Shared) (e:Value) (s':Shared),Inv X pins σ H s->CX X.stack H s (E σ) e s'->X.xe e s'
def aSg(sp:Sp)(E:St->XK)(t:TA):TE:=fun σ H Q=>t σ H fun vs H1=>sp vs H1 Q (E σ)
section
variable {X:Cx}{CX:CXT}{k:Nat}{f:Addr}{fd:FuncData}{ps:List Str}{sp:Sp}{E:St->XK}{x:Str}{p pos:Pos}{e:Expr}{es:List Expr}{t:TA}
theorem aIw(F:FnOk X.prog X.w X.K X.mg X.base CX k f fd ps sp)(hr:Room k X.A)(hg:Gl X x)(hm:X.mg x=some (.ref f))(hk:PySem.W.keepIn X.K (.ref f)=true)(hb:Binds X.K fd ps [])(hx:qE CX X E)
  (ha:PA X (e :: es) t) (hdb:(x == ("__debug__" : Str))=false:=by decide) (he:starEach (e :: es) X.env=(false,eval e X.env) :: starEach es X.env:=by rfl) (hpl:(backTo pos (starEach es X.env)).any (·.1)=false:=by rfl) :
  PE X (.Call (.Name x p) (e :: es) [] pos) (aSg sp E t):=by
 intro pins s σ H Q I h
 refine aYz (xY I hg hm ?_ hdb)
 refine PySem.W.callWith_K (h₀:=X.base) I.ok.mod.kin hk (thn (ha pos pins s σ H _ I h) fun us s1 ⟨vs,H1,I1,r,q⟩=>⟨I1.kIn,?_⟩) he hpl
 have hl:us.length=ps.length:=by rw [<- r.length];exact F.len _ _ _ _ q
 have hb':=hb s1 us I1.kIn (by rw [aYk];exact hl)
 rw [aYk] at hb'
 refine wpAny_call (bBz (F.run X.A X.stack s1 H1 ⟨us,[]⟩ us vs Q (E σ) hr I1.env0 hb' r q) fun rr s' hq=>?_)
 cases rr with
 | error e'=>exact hx pins σ H1 s1 e' s' I1 hq
 | ok fl =>
  cases fl with
  | ret u=>exact I1.after hq
  | next=>exact False.elim hq
  | brk=>exact False.elim hq
  | cont=>exact False.elim hq
end
section
variable {X:Cx}{k:Nat}{f:Addr}{fd:FuncData}{ps:List Str}{sp:Sp}{x:Str}{p pos:Pos}{e:Expr}{es:List Expr}{t:TA}
end
def aPg(e:Addr)(cls:Value):HO:=.ext fun h=>∃ o,h.get? e=some o/\o.cls=cls/\∃ vs,o.data=.fields vs
abbrev cR(X:Cx)(scope:Scope)(cl:List (Str×Addr))(C:Addr)(N:List Str)(s₀:Shared)(H₀:Hp)(ex:List Addr)(pn:List (Addr×Obj)):Cx :=
 { X with env:=compEnvC scope cl C X.env,N:=N,s₀:=s₀,H₀:=H₀,outer:=X.stack,stack:=X.stack,ex:=ex,fn:=fun _=>false,pn:=pn,xe:=fun _ _=>False }
structure aOu(X:Cx)(scope:Scope)(cl:List (Str×Addr)):Prop where
 clos:closureFor scope X.env=pure cl
 sub:∀ y c,cl.lookup y=some c->X.env.cells.lookup y=some c
 has:∀ y,(relabel scope X.env).names.lookup y=some .cell\/(relabel scope X.env).names.lookup y=some .free->∃ c,cl.lookup y=some c
def aAl(js:List Nat)(σ:St):St:=js.map fun j=>(σ[j]?).getD none
structure sG(X:Cx)(scope:Scope)(cl:List (Str×Addr))(ys:List Str)(js:List Nat):Prop where
 len:ys.length=js.length
 at_:∀ (i:Nat) (y:Str) (j:Nat),ys[i]? = some y->js[i]? = some j->X.N[j]? = some y/\(X.env.kindOf y=some .cell\/X.env.kindOf y=some .free)/\((relabel scope X.env).names.lookup y=some .cell\/(relabel scope X.env).names.lookup y=some .free)/\(X.env.cells.lookup y).isSome=true/\cl.lookup y=X.env.cells.lookup y
section
variable {X:Cx}
end
def Sz(n:Nat)(x:Int):Prop:=x.natAbs < 2 ^ n
theorem Sz.mono{m n:Nat}{x:Int}(h:Sz m x)(l:m<=n):Sz n x:=aW7 h (Nat.pow_le_pow_right (by decide) l)
theorem Sz.mul{m n:Nat}{x y:Int}(hx:Sz m x)(hy:Sz n y):Sz (m+n) (x*y):=by
 unfold Sz at *
 rw [Int.natAbs_mul,Nat.pow_add]
 exact Nat.mul_lt_mul'' hx hy
theorem Sz.add{n:Nat}{x y:Int}(hx:Sz n x)(hy:Sz n y):Sz (n+1) (x+y):=by
 unfold Sz at *
 have:=Int.natAbs_add_le x y
 rw [Nat.pow_succ]
 omega
theorem Sz.neg{n:Nat}{x:Int}(hx:Sz n x):Sz n (-x):=by
 unfold Sz at *
 rw [Int.natAbs_neg]
 exact hx
theorem Sz.sub{n:Nat}{x y:Int}(hx:Sz n x)(hy:Sz n y):Sz (n+1) (x - y):=by
 have:=Sz.add hx hy.neg
 rwa [Int.sub_eq_add_neg]
theorem Sz.le{n:Nat}{x y:Int}(hy:Sz n y)(h:x.natAbs<=y.natAbs):Sz n x:=aZh h hy
def CMulW(i j:Int):Prop:=Sz 60000 i/\Sz 60000 j
theorem CMulW.ok{i j:Int}(h:CMulW i j):IntMulOk i j:=.of_le (intBits_le_iff.mpr h.1) (intBits_le_iff.mpr h.2) (by decide)
def iG(i j:Int):Prop:=j≠0/\Sz 8000 j
section
variable {X:Cx}
theorem aU:OpR X (binaryOp .Mult) (rI CMulW fun i j=>.int (i*j)):=opI fun _ _ _ _ _ _ _ hc q=>mul_int q hc.ok
theorem log2_small{n:Nat}(h:n < 2 ^ 8000):n.log2 < 9000:=by
 by_cases z:n=0
 ·rw [z];decide
 ·have:n.log2 < 8000:=(Nat.log2_lt z).mpr h
  omega
theorem bF:OpR X (binaryOp .FloorDiv) (rI iG fun i j=>.int (i.fdiv j)):=opI fun _ _ _ _ _ _ _ hc q=>floordiv_int hc.1 q (.inl (PyProof.noPylong_of_log2 (log2_small hc.2)))
inductive TyX(K:aV9)(H:Hp):V->Value->Prop where
 | plain {x:V} {t:Value} (h:aBf K H x t):TyX K H x t
 | exc {a C:Addr} (e:H a=some (aPg a (.ref C))) (T:PySem.W.ExcK K C):TyX K H (.ref a) (.ref C)
theorem RelV.tyOrRef{y:V}{c u:Value}(h:(∃ n,y=.ty n)\/∃ a,y=.ref a)(r:RelV y c)(r':RelV y u):u=c:=by
 rcases h with ⟨n,rfl⟩ | ⟨n,rfl⟩
 ·cases r;cases r';rfl
 ·cases r;cases r';rfl
def aQ2(K:aV9):List V->Hp->VK->Prop:=fun xs H Q=>∃ x y t c b,xs=[x,y]/\((∃ n,y=.ty n)\/∃ a,y=.ref a)/\TyX K H x t/\RelV y c/\PySem.W.kitOne K t c=some b/\Q (.bl b) H
theorem aIm:mF X (.builtin "isinstance") (aQ2 X.K):=by
 intro pins s σ H xs us Q I r h
 obtain ⟨x,y,t,c,b,rfl,hy,ty,rc,e,q⟩:=h
 obtain ⟨u,w',rfl,r1,r2⟩:=vals2 r
 have ec:=RelV.tyOrRef hy rc r2
 subst ec
 cases ty with
 | plain ty=>exact aGx I r1 ty e fun tk=>⟨.bl b,H,I.tok _,rfl,q⟩
 | @exc a C ea T =>
  cases (show u=Value.ref a from r1)
  obtain ⟨p,_,_⟩:=(show ObjOk X.prog X.w H s.heap a (aPg a (.ref C)) from I.hok a _ ea)
  exact aX2 (PySem.W.kitx_exc T) I.kIn p e (fun z=>nomatch z) fun tk=>⟨.bl b,H,I.tok _,rfl,q⟩
end
def aV6(K:aV9)(te:TE)(v:V):TE:=fun σ H Q=>te σ H fun x H1=>aQ2 K [x,v] H1 Q
theorem aQi{X:Cx}{e c:Expr}{te:TE}{v:V}{p pos:Pos}(hg:Gl X "isinstance")(hm:X.mg "isinstance" = none)(he:PE X e te)(hc:PE X c (tC v))(h1:starEach [e,c] X.env=(false,eval e X.env) :: starEach [c] X.env:=by rfl)
  (h2:(backTo pos (starEach [c] X.env)).any (·.1)=false:=by rfl) (h3:starEach [c] X.env=(false,eval c X.env) :: starEach [] X.env:=by rfl):PE X (.Call (.Name "isinstance" p) [e,c] [] pos) (aV6 X.K te v):=fun pins s σ H Q I h =>
 aB6 aIm hg hm (by decide +kernel) (l9 he (l9 hc sX h3) h1) (by decide) (by decide) h1 h2 pins s σ H Q I h
theorem Fun.okX{P:Program}{w:World}{K:aV9}{mg:Str->Option Value}{base:Heap}{x qual:Str}{st:Stmt}{f:Addr}{fd:FuncData}{N ps:List Str}{k:Nat}{sp:Sp}(F:Fun K x qual st f fd)(S:a9 N ps (aT st))(len:∀ vs H Q E,sp vs H Q E->vs.length=ps.length)
  (hbody:∀ (cdv:Value) (A:Around) (outer:List Env) (s:Shared) (H:Hp) (vs:List V) (Q:VK) (E:XK),Room k (A.deeper (envOfC qual (aT st) s.heap.objs.size f cdv))->sp vs H Q E ->
   ∃ t,PSs (uO (CXr P w) P w K mg base N qual (aT st) f cdv A outer s H E) (iS st) t/\t { nx:=fun _ H'=>Q .non H',rt:=Q } (start N vs) H):FnOk P w K mg base (CXr P w) (k+1) f fd ps sp:=by
 obtain ⟨oc,od,kV,doc,pm,an,cdv,ct,osl,rfl,lk,hcd⟩:=F.ex
 exact aS2 lk hcd S len fun A outer s H vs Q E hr hsp=>hbody cdv A outer s H vs Q E hr hsp
theorem Same.upd{H H':Hp}{p:Addr}(h:Same H H')(hp:H' p=none)(o:HO):Same H (upd H' p o):=fun b u q=>by
 have:=h b u q
 rw [bY (eB this hp)]
 exact this
end L2
namespace FR
theorem aBh{a b:Int}(ha:0<=a)(hb:0<=b):Int.gcd b (a % b)=Int.gcd a b:=by
 obtain ⟨m,rfl⟩:=bCd ha
 obtain ⟨n,rfl⟩:=bCd hb
 rw [<- Int.natCast_emod,bCe,bCe,Nat.gcd_comm n,<- Nat.gcd_rec,Nat.gcd_comm]
theorem aEj(a b:Int):Int.gcd (if a < 0 then -a else a) (if b < 0 then -b else b)=Int.gcd a b:=by
 split<;>split<;>simp [Int.gcd_neg,Int.neg_gcd]
theorem aD8{a:Int}(ha:0<=a):((Int.gcd a 0:Nat):Int)=a:=by
 rw [Int.gcd_zero_right]
 omega
def sgn(b:Int)(g:Int):Int:=if b < 0 then -g else g
def mk(t b:Int):Int×Int:=(t.fdiv (sgn b (Int.gcd t b)),b.fdiv (sgn b (Int.gcd t b)))
theorem xV{t b:Int}(hb:b≠0):0 < Int.gcd t b:=aZw t hb
theorem parts(t b:Int)(hb:b≠0):∃ t' b':Int,t=(Int.gcd t b:Int)*t'/\b=(Int.gcd t b:Int)*b'/\Int.gcd t' b'=1:=by
 obtain ⟨t',ht⟩:=Int.gcd_dvd_left t b
 obtain ⟨b',hb'⟩:=Int.gcd_dvd_right t b
 refine ⟨t',b',ht,hb',?_⟩
 have g0:=xV (t:=t) hb
 have e:Int.gcd t b=Int.gcd t b*Int.gcd t' b':=by
  have h:Int.gcd ((Int.gcd t b:Int)*t') ((Int.gcd t b:Int)*b')=(Int.gcd t b:Int).natAbs*Int.gcd t' b':=Int.gcd_mul_left ..
  rw [<- ht,<- hb'] at h
  simpa using h
 have e2:Int.gcd t b*1=Int.gcd t b*Int.gcd t' b':=by omega
 exact (Nat.eq_of_mul_eq_mul_left g0 e2).symm
theorem aIx{t b g t' b':Int}(g0:0 < g)(ht:t=g*t')(hb:b=g*b'):(t.fdiv (sgn b g)=(if b < 0 then -t' else t'))/\(b.fdiv (sgn b g)=if b < 0 then -b' else b'):=by
 unfold sgn
 by_cases h:b < 0
 ·rw [aWm h,aWm h,aWm h]
  have e1:t=(-g)*(-t'):=by rw [ht,Int.neg_mul_neg]
  have e2:b=(-g)*(-b'):=by rw [hb,Int.neg_mul_neg]
  constructor
  ·conv=>lhs;rw [e1]
   exact aX0 _ (by omega)
  ·conv=>lhs;rw [e2]
   exact aX0 _ (by omega)
 ·rw [aWn h,aWn h,aWn h]
  constructor
  ·conv=>lhs;rw [ht]
   exact aX0 _ (by omega)
  ·conv=>lhs;rw [hb]
   exact aX0 _ (by omega)
structure Fr(f:Int×Int):Prop where
 pos:1<=f.2
 low:Int.gcd f.1 f.2=1
theorem sD{t b:Int}(hb:b≠0):Fr (mk t b)/\(mk t b).1*b=t*(mk t b).2:=by
 obtain ⟨t',b',e1,e2,e3⟩:=parts t b hb
 have g0:(0:Int) < (Int.gcd t b:Int):=by have:=xV (t:=t) hb;omega
 obtain ⟨p1,p2⟩:=aIx g0 e1 e2
 have q1:(mk t b).1=if b < 0 then -t' else t':=p1
 have q2:(mk t b).2=if b < 0 then -b' else b':=p2
 have hs:b < 0↔b' < 0:=by
  constructor
  ·intro h
   rcases Int.lt_or_le b' 0 with z | z
   ·exact z
   ·have:=Int.mul_nonneg (Int.le_of_lt g0) z
    omega
  ·intro h
   have:=Int.mul_neg_of_pos_of_neg g0 h
   omega
 have hb':b'≠0:=by
  rintro rfl
  rw [Int.mul_zero] at e2
  exact hb e2
 refine ⟨⟨?_,?_⟩,?_⟩
 ·rw [q2]
  split
  ·rename_i h
   have:=hs.mp h
   omega
  ·rename_i h
   have:¬ b' < 0:=fun z=>h (hs.mpr z)
   omega
 ·rw [q1,q2]
  split
  ·rw [Int.gcd_neg,Int.neg_gcd,e3]
  ·exact e3
 ·rw [q1,q2]
  generalize hg:(Int.gcd t b:Int)=g at *
  rw [e1,e2]
  split
  ·rw [Int.neg_mul,Int.mul_neg,Int.mul_left_comm,bCf]
  ·rw [Int.mul_left_comm,bCf]
end FR
namespace L2
open PySem PySem.Spec PyProof.Rows
theorem qM{h h':Heap}{o:Obj}(hk:∀ b x,b∉[h.objs.size]->(h.push o).get? b=some x->h'.get? b=some x):∀ b x,h.get? b=some x->h'.get? b=some x:=fun b x e =>
 hk b x (fun m=>aXn _ (aXd.mp m▸aWi e)) (aWf _ e)
theorem aB2{h:Heap}{o:Obj}{l:Addr}(hl:l < h.objs.size):∀ b∈[h.objs.size,l],b < (h.push o).objs.size:=fun b hb=>by
 rw [Heap.size_push]
 rcases aWh.mp hb with e | hb
 ·subst e;exact bBe _
 ·rcases aWh.mp hb with e | hb
  ·subst e;exact bA0 hl
  ·cases hb
section
variable {X:Cx}
def aU9(K:aV9):List V->Hp->VK->Prop:=fun xs H Q=>∃ (a:Addr) (bs:List Bool),xs=[.ref a]/\SqL K H a (bs.map V.bl)/\Q (.bl (bs.any id)) H
theorem aDq:∀ {bs:List Bool} {us:List Value},Vals (bs.map V.bl) us->us=bs.map Value.bool
 | [],_,.nil=>rfl
 | _ :: _,_,.cons r t=>by
  have e:_=Value.bool _:=r
  rw [e,aDq t];rfl
theorem any_range(bs:List Bool):((List.range bs.length).any fun i=>(bs[i]?).getD false)=bs.any id:=by
 rw [bCz,bCn,bCn]
 constructor
 ·rintro ⟨i,hi,e⟩
  have hi:=aXw.mp hi
  exact ⟨bs[i],bBf hi,by simpa [hi] using e⟩
 ·rintro ⟨b,hb,e⟩
  obtain ⟨i,hi,e2⟩:=aY3.mp hb
  exact ⟨i,aXw.mpr hi,by simp [hi,e2];simpa using e⟩
theorem aJj(hc:X.calm=true){K:aV9}(hK:X.K=K):mF X (.builtin "any") (aU9 K):=by
 subst hK
 intro pins s σ H xs us Q I r h
 obtain ⟨a,bs,rfl,hq,q⟩:=h
 obtain ⟨u,rfl,ru⟩:=vals1 r
 cases ru
 obtain ⟨its,rv,p,hz⟩:=I.list hq
 have ei:=aDq rv
 have hl:=p.isList
 have lt:a < s.heap.objs.size:=by obtain ⟨_,e,_⟩:=hl;exact aWi e
 refine call_any_walk (bB6 hl ?_)
 refine ⟨s.heap.objs.size,[s.heap.objs.size,a],[s.heap.objs.size],its.toArray.size,_,_,fun i=>(bs[i]?).getD false,rfl,Walks.list (A:=X.A.in1) (I.ok.hd hc) _ a (aW2 lt) its.toArray,
  ⟨⟨_,aWw _ rfl,rfl,rfl⟩,hl.push _⟩,fun i v s' Q' E' hP hQ=>?_,fun h' tk hk=>?_⟩
 ·have e:its[i]? = some v:=by simpa using hP
  rw [ei,aWu] at e
  cases eb:bs[i]? with
  | none=>rw [eb] at e;cases e
  | some b =>
   have hQ:Q' ((bs[i]?).getD false) s':=hQ
   rw [eb] at e hQ
   cases e
   exact aY8 hQ
 ·have e:its.toArray.size=bs.length:=by rw [aWk,ei,aWb]
  rw [e,any_range]
  exact ⟨.bl (bs.any id),H,I.kept (qM hk),rfl,q⟩
def xU(K:aV9)(f:Int->Int->Int):List V->Hp->VK->Prop:=fun xs H Q=>∃ a i j,xs=[.ref a]/\SqT K H a [.int i,.int j]/\Q (.int (f i j)) H
theorem wZ{i j:Int}{us:List Value}(r:Vals [.int i,.int j] us):∃ t u,us.toArray=intItems #[(i,t),(j,u)]:=by
 obtain ⟨a,b,rfl,⟨t,rfl⟩,⟨u,rfl⟩⟩:=vals2 r
 exact ⟨t,u,by simp [intItems]⟩
theorem aDr(hc:X.calm=true){K:aV9}(hK:X.K=K):mF X (.builtin "min") (xU K fun i j=>if j < i then j else i):=by
 subst hK
 intro pins s σ H xs us Q I r h
 obtain ⟨a,i,j,rfl,hq,q⟩:=h
 obtain ⟨u,rfl,ru⟩:=vals1 r
 cases ru
 obtain ⟨its,rv,p,hz⟩:=I.tuple hq
 obtain ⟨t1,t2,ei⟩:=wZ rv
 have hT:s.heap.IsTuple a (intItems #[(i,t1),(j,t2)]):=ei▸p
 have lt:a < s.heap.objs.size:=by obtain ⟨_,e,_⟩:=p;exact aWi e
 refine call_min_walk (wpAny_pyIter_tuple hT ?_)
 refine ⟨_,[_,a],[_],_,_,_,_,rfl,Walks.tuple (A:=X.A.in1) (I.ok.hd hc) _ a (aW2 lt) (intItems #[(i,t1),(j,t2)]),⟨⟨_,aWw _ rfl,rfl,rfl⟩,hT.push _⟩,aB2 lt,by simp [intItems],
  CmpOf.ints_lt (numAt #[(i,t1),(j,t2)]) (fun _ _=>bCg),fun v h' tk hP hk=>⟨_,H,I.kept (qM hk),?_,q⟩⟩
 obtain ⟨t,rfl⟩:=bCg hP
 have z:(intItems #[(i,t1),(j,t2)]).size - 1=1:=by simp [intItems]
 rw [z]
 by_cases hj:j < i
 ·exact ⟨t,by simp [argBest,numAt,hj]⟩
 ·exact ⟨t,by simp [argBest,numAt,hj]⟩
theorem aE0(hc:X.calm=true){K:aV9}(hK:X.K=K):mF X (.builtin "max") (xU K fun i j=>if i < j then j else i):=by
 subst hK
 intro pins s σ H xs us Q I r h
 obtain ⟨a,i,j,rfl,hq,q⟩:=h
 obtain ⟨u,rfl,ru⟩:=vals1 r
 cases ru
 obtain ⟨its,rv,p,hz⟩:=I.tuple hq
 obtain ⟨t1,t2,ei⟩:=wZ rv
 have hT:s.heap.IsTuple a (intItems #[(i,t1),(j,t2)]):=ei▸p
 have lt:a < s.heap.objs.size:=by obtain ⟨_,e,_⟩:=p;exact aWi e
 refine call_max_walk (wpAny_pyIter_tuple hT ?_)
 refine ⟨_,[_,a],[_],_,_,_,_,rfl,Walks.tuple (A:=X.A.in1) (I.ok.hd hc) _ a (aW2 lt) (intItems #[(i,t1),(j,t2)]),⟨⟨_,aWw _ rfl,rfl,rfl⟩,hT.push _⟩,aB2 lt,by simp [intItems],
  CmpOf.ints_gt (numAt #[(i,t1),(j,t2)]) (fun _ _=>bCg),fun v h' tk hP hk=>⟨_,H,I.kept (qM hk),?_,q⟩⟩
 obtain ⟨t,rfl⟩:=bCg hP
 have z:(intItems #[(i,t1),(j,t2)]).size - 1=1:=by simp [intItems]
 rw [z]
 by_cases hj:i < j
 ·exact ⟨t,by simp [argBest,numAt,hj]⟩
 ·exact ⟨t,by simp [argBest,numAt,hj]⟩
end
open PySem.W (Dat kqdP kqdPs kqdOk kqd_lay kqd_eqv)
mutual
inductive HasD(H:Hp):V->Dat->Prop
 | int (i:Int):HasD H (.int i) (.int i)
 | tup {a:Addr} {xs:List V} {ds:List Dat}:H a=some (.tup xs)->HasDs H xs ds->HasD H (.ref a) (.tuple ds)
 | lst {a:Addr} {xs:List V} {ds:List Dat}:H a=some (.lst xs)->HasDs H xs ds->HasD H (.ref a) (.list ds)
inductive HasDs(H:Hp):List V->List Dat->Prop
 | nil:HasDs H [] []
 | cons {x:V} {xs:List V} {d:Dat} {ds:List Dat}:HasD H x d->HasDs H xs ds->HasDs H (x :: xs) (d :: ds)
end
mutual
theorem HasD.keep{H H':Hp}(k:∀ a o,H a=some o->H' a=some o):∀ {v:V} {d:Dat},HasD H v d->HasD H' v d
 | _,_,.int i=>.int i
 | _,_,.tup h r=>.tup (k _ _ h) (HasDs.keep k r)
 | _,_,.lst h r=>.lst (k _ _ h) (HasDs.keep k r)
theorem HasDs.keep{H H':Hp}(k:∀ a o,H a=some o->H' a=some o):∀ {v:List V} {d:List Dat},HasDs H v d->HasDs H' v d
 | _,_,.nil=>.nil
 | _,_,.cons h r=>.cons (HasD.keep k h) (HasDs.keep k r)
end
mutual
theorem HasD.reads{P:Program}{w:World}{H:Hp}{h:Heap}(ok:HOk P w H h):∀ {v:V} {d:Dat},HasD H v d->∀ {u:Value},RelV v u->∃ as,Reads h u (kqdP d) as
 | _,_,.int i,_,⟨t,e⟩=>by subst e;exact ⟨_,Reads.int i t⟩
 | _,_,.tup hh r,_,e=>by
  have e:_=Value.ref _:=e
  subst e
  obtain ⟨_,its,rv,o,ho,hc,n,hd⟩:=(show ObjOk P w H h _ _ from ok _ _ hh)
  obtain ⟨as,q⟩:=HasDs.reads ok r rv
  rw [kqdP]
  exact ⟨as,reads_tuple_at ho hc hd (by simpa using q)⟩
 | _,_,.lst hh r,_,e=>by
  have e:_=Value.ref _:=e
  subst e
  obtain ⟨_,its,n,rv,ho⟩:=(show ObjOk P w H h _ _ from ok _ _ hh)
  obtain ⟨as,q⟩:=HasDs.reads ok r rv
  rw [kqdP]
  exact ⟨_,reads_list_at ho rfl rfl (by simpa using q)⟩
theorem HasDs.reads{P:Program}{w:World}{H:Hp}{h:Heap}(ok:HOk P w H h):∀ {vs:List V} {ds:List Dat},HasDs H vs ds->∀ {us:List Value},Vals vs us->∃ as,ReadsAll h us (kqdPs ds) as
 | _,_,.nil,_,.nil=>⟨_,ReadsAll.nil⟩
 | _,_,.cons hd r,_,.cons rv rt=>by
  obtain ⟨as,q⟩:=HasD.reads ok hd rv
  obtain ⟨bs,p⟩:=HasDs.reads ok r rt
  rw [kqdPs]
  exact ⟨_,ReadsAll.cons q p⟩
end
section
variable {X:Cx}
end
def RawD(h:Heap)(d:Addr)(es:Array DictEntry)(ep:Nat):Prop:=∃ o,h.get? d=some o/\o.ExactDict/\o.data=.dict es ep
theorem RawD.at{h h':Heap}{d:Addr}{es:Array DictEntry}{ep:Nat}(x:RawD h d es ep)(k:∀ o,h.get? d=some o->h'.get? d=some o):RawD h' d es ep:=let ⟨o,ho,r⟩:=x;⟨o,k o ho,r⟩
theorem RawD.lt{h:Heap}{d:Addr}{es:Array DictEntry}{ep:Nat}(x:RawD h d es ep):d < h.objs.size:=let ⟨_,ho,_⟩:=x;aWi ho
theorem RawD.ty{s:Shared}{d:Addr}{es:Array DictEntry}{ep:Nat}(x:RawD s.heap d es ep):s.TypeIs (.ref d) "dict":=let ⟨o,ho,hc,_⟩:=x;⟨o,ho,hc.1⟩
section
variable {prog:Program}{w:World}{A:Around}{E:Value->Shared->Prop}{s:Shared}{d it:Addr}{es:Array DictEntry}{ep i:Nat}
theorem aJ1{Q:Value->Shared->Prop}(hd:(d == sysModules)=false)(hm:RawD s.heap d es ep)
  (q:Q (.ref s.heap.objs.size) { s with heap:=s.heap.push { cls:=.type "dict_keyiterator",data:=.fields #[.ref d,.int 0 0,.int es.size 0,.int ep 0] } }):wpAny (model prog w) A (pyIter (.ref d)) Q E s:=by
 have ty:=hm.ty
 obtain ⟨o,ho,hc,hdat⟩:=hm
 refine bB8 ty F.slot_dict_iter (aYr F.slot_dict_iter ty F.entry_dict_iter ?_ (F.args_dict_iter_1 _))
 unfold Builtin.«dict.__iter__» Builtin.Dict.dictSlotNone
 refine aWa (aWa (wpAny_notOrdered_dict ty (aWe ?_)))
 unfold Builtin.Dict.showsAll
 refine aWa (m:=Builtin.Dict.addrOf (Value.ref d)) (aWe ?_)
 rw [aWn (by rw [hd];exact aXq)]
 refine aWa (aWe (aWa (aZm ho hdat (aWa (bBs ho hdat ?_)))))
 exact aWa (aYu (aWe ⟨_,rfl,_,_,⟨_,aWw _ rfl,rfl⟩,aYi.lookup,q⟩))
theorem aJ7{Q:Option Value->Shared->Prop}(hit:s.heap.IsKeyIter it d i es.size ep)(hm:RawD s.heap d es ep)(lt:i < es.size)
  (q:∀ h',h'.IsKeyIter it d (i+1) es.size ep->Heap.SameBut it s.heap h'->Q (some es[i].key) { s with heap:=h' }):wpAny (model prog w) A (pyNext (.ref it)) Q E s:=by
 have ty:=hit.typeIs
 obtain ⟨o,ho,hc,hd⟩:=hit
 obtain ⟨od,hod,_,hdd⟩:=hm
 have own:Builtin.Dict_items.ownsTuple "dict_keyiterator" = false:=by decide
 have nn:¬ ((i:Int) < 0):=bC8.mpr (Int.natCast_nonneg i)
 unfold pyNext
 refine aWa (bCh (aY5 (name:=Str.ofString "__next__") ty aYi (aYr aYi ty bBg ?_ (bA7 _))))
 refine aWa (aWe (aWa (aWa ?_)))
 first | refine aWa (aY1 ty (aWe ?_)) | refine aWa (aZn ty (aWe ?_))
 refine aWa (bB3 ho hd ?_)
 simp only [own,aW5,aYt]
 show wpAny _ _ (if (Value.ref d == Value.none)=true then _ else _) _ _ s
 rw [aWn (by intro z;cases z)]
 refine aWa (aWe (aWa (aZm hod hdd ?_)))
 rw [aWn (by simp)]
 refine aWa (aWe (aWa (bBs hod hdd ?_)))
 rw [aWn (by simp)]
 refine aWe ?_
 simp only [nn,aYt,aX7,aWj lt]
 refine aWa ?_
 first | refine aWa (aY1 ty (aWe ?_)) | refine aWa (aZn ty (aWe ?_))
 refine aWa (wpAny_isOneOf_keyiter ty ?_)
 refine aWa (m:=setField (.ref it) 1 (rawInt ((i:Int)+1))) (bA3 ho hd (by simp) ?_)
 have hit':(s.heap.update it (Obj.mapFields (·.setIfInBounds 1 (rawInt ((i:Int)+1))))).IsKeyIter it d (i+1) es.size ep :=
  ⟨_,aYy _ ho (bA8 (aZi hd _)),(bB9 ..).trans hc,(aZi hd _).trans (by simp [rawInt])⟩
 refine aWa (aYj (aWa (wpAny_isOneOf_keyiter (s:={ s with heap:=s.heap.update it (Obj.mapFields (·.setIfInBounds 1 (rawInt ((i:Int)+1)))) }) hit'.typeIs ?_)))
 exact aWe (aWe ⟨_,rfl,aWe (q _ hit' (aYf ..))⟩)
theorem aMm{Q:Option Value->Shared->Prop}(hh:A.handled=none)(hit:s.heap.IsKeyIter it d es.size es.size ep)(hm:RawD s.heap d es ep)(q:∀ h',Heap.ExtBut it s.heap h'->Q none { s with heap:=h' }):wpAny (model prog w) A (pyNext (.ref it)) Q E s:=by
 have ty:=hit.typeIs
 obtain ⟨o,ho,hc,hd⟩:=hit
 obtain ⟨od,hod,_,hdd⟩:=hm
 have own:Builtin.Dict_items.ownsTuple "dict_keyiterator" = false:=by decide
 have nn:¬ ((es.size:Int) < 0):=bC8.mpr (Int.natCast_nonneg _)
 unfold pyNext
 refine aWa (bCh (aY5 (name:=Str.ofString "__next__") ty aYi (aYr aYi ty bBg ?_ (bA7 _))))
 refine aWa (aWe (aWa (aWa ?_)))
 first | refine aWa (aY1 ty (aWe ?_)) | refine aWa (aZn ty (aWe ?_))
 refine aWa (bB3 ho hd ?_)
 simp only [own,aW5,aYt]
 show wpAny _ _ (if (Value.ref d == Value.none)=true then _ else _) _ _ s
 rw [aWn (by intro z;cases z)]
 refine aWa (aWe (aWa (aZm hod hdd ?_)))
 rw [aWn (by simp)]
 refine aWa (aWe (aWa (bBs hod hdd ?_)))
 rw [aWn (by simp)]
 refine aWe ?_
 simp only [nn,aYt,aX7,aXr (aWl es.size)]
 refine aWa ?_
 first | refine aWa (aY1 ty (aWe ?_)) | refine aWa (aZn ty (aWe ?_))
 refine aWa (m:=setField (.ref it) 0 .none) (bA3 ho hd (by simp) ?_)
 refine aWa (m:=newExc (.type "StopIteration") []) ?_
 simp only [newExc,newTuple]
 refine aWa (aYu (aWa (m:=firstArgMember _ _) (bBt (a:=Value.none) (by first | rfl | (simp only [firstArgMember];rfl)) ?_)) (by size_fits))
 refine aYu ?_ (by size_fits)
 simp only [raiseNew]
 refine aWa (wpAny_handled ?_)
 rw [show A.in1.handled=none from hh]
 refine aWa (aWe (wpAny_throw ?_))
 refine aWa (bAf (T:="StopIteration") (b:=true) ⟨_,aWw _ rfl,rfl⟩ isSubtype_stop ?_)
 exact aWe (q _ (((aYf ..).extBut.push _).push _))
theorem aG0(hh:A.handled=none)(I d:Addr)(hne:d≠I)(es:Array DictEntry)(ep:Nat) :
  Walks prog w A I [I,d] [I] es.size (fun i v=>∃ e,es[i]? = some e/\v=e.key) (fun i h=>h.IsKeyIter I d i es.size ep/\RawD h d es ep) where
 sub:=fun b hb=>aWh.mpr (.inl (aXd.mp hb))
 frame:=fun _ _ _ st hk=>⟨st.1.at fun o e=>hk I (by simp) o e,st.2.at fun o e=>hk d (by simp) o e⟩
 item:=fun i s Q E hi st hQ=>aJ7 st.1 st.2 hi fun h' hit' sb=>hQ _ h' s.toks ⟨es[i],by simp [hi],rfl⟩ ⟨hit',st.2.at fun o e=>(sb.2 d hne).trans e⟩ fun b o hb e=>(sb.2 b fun z=>hb (by simp [z])).trans e
 done:=fun s Q E st hQ=>aMm hh st.1 st.2 fun h' he'=>hQ h' s.toks fun b o hb e=>he' b o (fun z=>hb (by simp [z])) e
 self:=fun _ _ _ _ st hQ=>wpAny_pyIter_keyiter st.1 hQ
theorem aNk(lo:(d == sysModules)=false):PySem.W.KdlSrc prog w "dict" d d es.size (fun i v=>∃ e,es[i]? = some e/\v=e.key) (fun h=>RawD h d es ep) where
 type:=fun _ hm=>hm.ty
 there:=fun _ hm=>⟨hm.lt,hm.lt⟩
 keep:=fun _ _ hm hk=>hm.at fun o e=>hk d (.inl rfl) o e
 notList:=by decide
 notTuple:=by decide
 hint:=fun _ _ _ _ hm hq=>PySem.W.kdl_hint_dict hm.ty hq
 iter:=fun _ _ hh hm=>⟨_,_,(fun _ _ hq=>aJ1 lo hm hq),aG0 hh _ d (aW2 hm.lt) es ep,⟨⟨_,aWw _ rfl,rfl,rfl⟩,hm.at fun o e=>aWf _ e⟩⟩
end
section
variable {prog:Program}{w:World}{A:Around}{R:Result->Shared->Prop}{s:Shared}
abbrev aEy(ifs:List Expr)(env:Env):Sem Bool:=forIn ifs true fun c r=>if r=true then do let ok <- isTrue c env (eval c env);pure (ForInStep.yield ok) else pure (ForInStep.yield r)
theorem aE8{elt target iter:Expr}{ifs:List Expr}{scope:Scope}{pos:Pos}{it acc:Value}{env:Env}(I:Nat->Shared->Prop)
  (turn:∀ n s,I n s->wpAny (model prog w) A (pyNext it) (fun r s₁=>match r with
   | none=>R (.ok .next) s₁
   | some v=>wpAny (model prog w) A (letOwnedTupleGo target it v) (fun _ s₀=>wpAny (model prog w) A (assign target env v) (fun _ s₂ =>
     wpAny (model prog w) A (aEy ifs env) (fun ok s₃ =>
      if ok=true then wpAny (model prog w) A (eval elt env) (fun x s₄ =>
       wpAny (model prog w) A (call (.builtin "list.append") [acc,x]) (fun _ s₅=>∃ m,m < n/\I m s₅) (fun _ _=>False) s₄) (fun _ _=>False) s₃
      else ∃ m,m < n/\I m s₃) (fun _ _=>False) s₂) (fun _ _=>False) s₀) (fun _ _=>False) s₁) (fun _ _=>False) s)
  (n:Nat) (h:I n s):codeAny (model prog w) A (.compLoop (.ListComp elt [⟨target,iter,ifs,0⟩] scope pos) 0 it acc env) R s:=by
 refine codeAny_loop rfl I (fun n s hI=>?_) n h
 show wpAny _ A ((compTurn (.ListComp elt [⟨target,iter,ifs,0⟩] scope pos) 0 it acc env).onRaise (fun x=>do noteFrame x env;theTreesLotGoes x)) _ _ s
 refine wpAny_noted ?_
 rw [compTurn_list]
 refine aWa (bCc (aWa (aX6 (turn n s hI) (fun r s₁ h₁=>?_) fun _ _ z=>z.elim)))
 cases r with
 | none=>exact aWe h₁
 | some v =>
  refine aWa (aX6 h₁ (fun _ s₀ h₀=>?_) fun _ _ z=>z.elim)
  refine aWa (aX6 h₀ (fun _ s₂ h₂=>aWa (aX6 h₂ (fun ok s₃ h₃=>?_) fun _ _ z=>z.elim)) fun _ _ z=>z.elim)
  cases ok with
  | false=>exact aWe ⟨rfl,h₃⟩
  | true =>
   exact aWa (aWa (aX6 h₃ (fun x s₄ h₄=>aWa (aX6 h₄ (fun _ s₅ h₅=>aWe (aWe ⟨rfl,h₅⟩)) fun _ _ z=>z.elim)) fun _ _ z=>z.elim))
end
def PTs(X:Cx)(ifs:List Expr)(t:TT):Prop :=
 ∀ (pins:List (Addr×Obj)) (s:Shared) (σ:St) (H:Hp) (Q:Bool->Hp->Prop),Inv X pins σ H s->t σ H Q->wpAny (model X.prog X.w) X.A (aEy ifs X.env) (TP X pins σ Q) X.xe s
def aVm:TT:=fun _ H Q=>Q true H
theorem aNz{X:Cx}:PTs X [] aVm:=fun _ _ _ H _ I h=>wpAny_tests_nil ⟨H,I,h⟩
theorem aM9{X:Cx}{c:Expr}{t:TT}(h:PT X c t):PTs X [c] t:=fun pins s σ H Q I hw=>wpAny_tests_one (h pins s σ H Q I hw)
def zV(wi:TI)(g:TG)(tt:TT)(te:TE)(n:Nat)(js:List Nat):TE:=fun σ H Q=>wi σ H fun J H1=>∀ D,H1 D=none->∃ (N:Nat) (W:Nat->List V->Hp->Prop),W 0 [] (upd H1 D (.lst []))/\∀ i ys H2,W i ys H2 ->
 (J.stop i H2/\Q (.ref D) H2)\/(i < N/\J.go i H2/\∀ v H3,J.yld i H2 v H3->g v (List.replicate n none++aAl js σ) H3 fun σ2 H4=>(σ2.length=n+js.length/\σ2.drop n=aAl js σ)/\tt σ2 H4 fun b H5 =>
  if b=true then te σ2 H5 fun y H6=>H6 D=some (.lst ys)/\ys.length < sizeLine/\W (i+1) (ys++[y]) (upd H6 D (.lst (ys++[y]))) else W (i+1) ys H5)
section
variable {X:Cx}
theorem Inv.but{pins:List (Addr×Obj)}{σ:St}{H:Hp}{s:Shared}{C:Addr}{h':Heap}(I:Inv X pins σ H s)(f:aI2 X pins H C)(hs:Heap.SameBut C s.heap h'):Inv X pins σ H { s with heap:=h' }:=by
 have ne:∀ b,b∉[C]->b≠C:=fun b hb z=>hb (by rw [z];exact .head _)
 refine I.call' (s':={ s with heap:=h' }) (ch:=[C]) rfl ⟨fun b o e n hb hx=>(hs.2 b (ne b hx)).trans e,fun b o e n hb hx=>⟨o.slots,(hs.2 b (ne b hx)).trans e⟩,fun b o e n hx=>n,fun b o e hx=>⟨o,(hs.2 b (ne b hx)).trans e⟩,fun b xs e=>e,fun b o u e=>e,fun b ps e=>⟨#[],by rw [Array.append_empty];exact e⟩⟩ (uG I.hok fun b o nn e=>(hs.2 b (fun z=>nn (by rw [z];exact f.1))).trans e) I.bare fun b hb=>?_
 rw [aXd.mp hb]
 exact ⟨f.2.2.2.1,f.2.1,f.2.2.2.2.1,f.2.2.2.2.2⟩
set_option maxHeartbeats 8000000 in
theorem wU{elt iter tg:Expr}{pos:Pos}{scope:Scope}{ifs:List Expr}{wi:TI}{g:TG}{tt:TT}{te:TE}{xs ys:List Str}{js:List Nat}{cl:List (Str×Addr)}(hc:X.calm=true)(hi:PI X tg iter wi)
  (hcl:aOu X scope cl) (hcap:sG X scope cl ys js) (hcell:∀ y∈scope.names,y.2≠.cell) (hkind:scope.kind=.function) (hnames:∀ y∈scope.names,y.2=.local->scope.names.lookup y.1=some .local)
  (hg:∀ C s₀ H₀ ex pn,PG (cR X scope cl C (xs++ys) s₀ H₀ ex pn) tg g) (ht:∀ C s₀ H₀ ex pn,PTs (cR X scope cl C (xs++ys) s₀ H₀ ex pn) ifs tt) (hb:∀ C s₀ H₀ ex pn,PE (cR X scope cl C (xs++ys) s₀ H₀ ex pn) elt te)
  (hs:∀ x,foldedSetIterable iter X.env x=pure x) {use:Option (Value->Sem Unit)} {QQ:Value->Shared->Prop} {Q:VK} {pins:List (Addr×Obj)} {s:Shared} {σ:St} {H:Hp} {cp:Pos} (I:Inv X pins σ H s)
  (aU1:∀ (C D:Addr) (s':Shared) (H':Hp),Inv X pins σ H' s'->aI2 X pins H' C->(∃ m,s'.heap.Ns C m)->Q (.ref D) H'->compPost (model X.prog X.w) X.A X.xe use QQ (.ref D) C (.ok .next) s')
  (h:zV wi g tt te xs.length js σ H Q) :
  wpAny (model X.prog X.w) X.A (comprehension (.ListComp elt [⟨tg,iter,ifs,0⟩] scope pos) scope X.env cp (newList []) false (eval iter X.env) use) QQ X.xe s:=by
 refine wpAny_comprehension_free rfl hs hcl.clos hkind hnames (thn (hi pins s σ H _ I h) fun v s1 h1=>thn h1 fun itv s2 h2=>?_)
 obtain ⟨it,fp,tn,J,H2,e,I2,T,st2,f2,q2⟩:=h2
 subst e
 obtain ⟨n,W,w0,turn⟩:=q2 s2.heap.objs.size I2.fresh
 refine aYu (wpAny_newFunctionEnv hcell (by intro y hy;simp at hy) (fun h₁ hns₁ hsb₁=>?_) hkind)
 dsimp only at hns₁ hsb₁ ⊢
 have I3:=I2.lnew (ys:=[]) (its:=[]) (t':=s2.toks) .nil (aXo _)
 generalize hg3:s2.heap.push { cls:=.type "list",dict:=none,data:=.seq ([]:List Value).toArray }=g3 at hns₁ hsb₁ I3 ⊢
 have sz3:g3.objs.size=s2.heap.objs.size+1:=by rw [<- hg3,Heap.size_push]
 generalize hC:g3.objs.size=C at hns₁ hsb₁ ⊢
 have old3:∀ b o,g3.get? b=some o->h₁.get? b=some o:=fun b o q=>hsb₁.extBut b o (by rw [<- hC];exact aW2 (aWi q)) (aWf _ q)
 have old2:∀ b o,s2.heap.get? b=some o->g3.get? b=some o:=fun b o q=>by rw [<- hg3];exact aWf _ q
 have fpl:∀ b∈fp,∃ o,s2.heap.get? b=some o/\∀ v,o.data≠.cell v:=T.obj _ _ st2
 have fplt:∀ b∈fp,b < s2.heap.objs.size:=fun b hb=>let ⟨o,q,_⟩:=fpl b hb;aWi q
 have H3n:∀ b,b≠s2.heap.objs.size->upd H2 s2.heap.objs.size (.lst []) b=H2 b:=fun b hb=>bY hb
 have fp3:∀ b∈fp,upd H2 s2.heap.objs.size (.lst []) b=none:=fun b hb=>by rw [H3n b (aW2 (fplt b hb))];exact (f2 b hb).1
 have okX:=I3.ok
 have inj:∀ y z c,cl.lookup y=some c->cl.lookup z=some c->y=z:=fun y z c h1 h2=>okX.inj y z c (hcl.sub y c h1) (hcl.sub z c h2)
 have cellE:∀ y c,cl.lookup y=some c->∃ v,g3.IsCell c v:=fun y c q=>I3.cell y c (hcl.sub y c q)
 have st3:g3.FunFrames X.base X.stack:=I3.stack
 have exlt:∀ b∈fp,b≠C:=fun b hb=>by rw [<- hC,sz3];exact aW2 (bA0 (fplt b hb))
 have frlt:∀ b∈frs X.stack,b < g3.objs.size:=fun b hb=>let ⟨_,o,q,_⟩:=st3.mem hb;aWi q
 have okB:(cR X scope cl C (xs++ys) { s2 with heap:=g3 } (upd H2 s2.heap.objs.size (.lst [])) fp (X.pn++pins)).Ok:=by
  refine ⟨okX.mod,hkind,okX.glob,okX.blt,bA6 hC,inj,fun y hy=>hcl.has y hy,(fun y c hf _=>nomatch hf),okX.hd,okX.frames,.inl rfl,fun b hb=>⟨exlt b hb,fun y c q z=>?_⟩,I3.bs,aXk okX.bsz I3.sz,fun b o q hb=>?_,fun b hb=>?_,st3,I3.stkFree⟩
  ·subst z
   exact (f2 c hb).2.2.2.2.1 y c (hcl.sub y c q) rfl
  ·rcases (f2 b hb).2.2.2.1 with z | z
   ·exact okX.noex b o q z
   ·have:=aWi (okX.bs b o q).1
    exact absurd (aW7 this z) (aXn _)
  ·intro hz
   rcases aWh.mp (I3.stkSub b hz) with z | z
   ·exact (f2 b hb).2.1 z
   ·exact (f2 b hb).2.2.1 z
 have tot:∀ tk:Nat,Inv (cR X scope cl C (xs++ys) { s2 with heap:=g3 } (upd H2 s2.heap.objs.size (.lst [])) fp (X.pn++pins)) [] (List.replicate xs.length none++aAl js σ) (upd H2 s2.heap.objs.size (.lst [])) { s2 with heap:=h₁,toks:=tk }:=fun tk=>by
  refine ⟨okB,rfl,I3.bare,Un.kept old3,⟨_,hns₁,fun i y v' e1 e2 e3=>?_⟩,fun y c q=>?_,I3.hok.fresh (bA6 hC),fun y c q=>?_,fun p hp=>?_,I3.hok.kept old3,?_⟩
  ·by_cases hix:i < xs.length
   ·rw [aXl (by rw [aW8];exact hix),aY4] at e2
    split at e2<;>cases e2
   ·have hix':xs.length<=i:=by omega
    obtain ⟨k,rfl⟩:∃ k,i=xs.length+k:=⟨i - xs.length,by omega⟩
    have e1':ys[k]? = some y:=by
     rw [aW6 (by omega)] at e1
     simpa using e1
    have e2':(aAl js σ)[k]? = some (some v'):=by
     rw [aW6 (by rw [aW8];omega),aW8] at e2
     simpa using e2
    unfold aAl at e2'
    rw [aWu] at e2'
    cases ej:js[k]? with
    | none=>rw [ej] at e2';cases e2'
    | some j =>
     rw [ej] at e2'
     have e2'':(σ[j]?).getD none=some v':=aWx e2'
     have eσ:σ[j]? = some (some v'):=by
      cases es:σ[j]? with
      | none=>rw [es] at e2'';cases e2''
      | some z=>rw [es] at e2'';have:z=some v':=e2'';rw [this]
     obtain ⟨c1,c2,c3,c4,c5⟩:=hcap.at_ k y j e1' ej
     obtain ⟨m0,hn0,hl0⟩:=I3.loc
     obtain ⟨u,r,l⟩:=hl0 j y v' c1 eσ (c2.elim (fun z=>.inr (.inl z)) fun z=>.inr (.inr z))
     refine ⟨u,r,.inr ⟨c3,?_⟩⟩
     rcases l with ⟨l,_⟩ | ⟨_,c,hcc,z⟩
     ·rcases c2 with c2 | c2
      ·rw [c2] at l;cases l
      ·rw [c2] at l;cases l
     ·obtain ⟨o,ho,hd⟩:=z
      exact ⟨c,c5.trans hcc,o,old3 c o ho,hd⟩
  ·obtain ⟨v0,o,ho,hd⟩:=cellE y c q
   exact ⟨v0,o,old3 c o ho,hd⟩
  ·exact I3.freeC y c (hcl.sub y c q)
  ·have hp':p∈X.pn++pins:=by simpa using hp
   obtain ⟨p1,p2,p3,p4,p5⟩:=I3.pin p hp'
   refine ⟨old3 _ _ p1,p2,?_,fun hz=>?_,p5⟩
   ·show p.1≠C
    rw [<- hC]
    exact aW2 (aWi p1)
   ·rcases aWh.mp (I3.stkSub p.1 hz) with z | z
    ·exact p3 z
    ·exact p4 z
  ·show (List.replicate xs.length none++aAl js σ).length=(xs++ys).length
   unfold aAl
   simp [hcap.len]
 have fpB:∀ {H':Hp},(∀ b∈fp,H' b=none)->∀ b∈fp,aI2 (cR X scope cl C (xs++ys) { s2 with heap:=g3 } (upd H2 s2.heap.objs.size (.lst [])) fp (X.pn++pins)) [] H' b:=fun hn b hb =>
  ⟨hn b hb,exlt b hb,okB.exfs b hb,.inl hb,(okB.exf b hb).2,fun p hp=>(f2 b hb).2.2.2.2.2 p (by simpa using hp)⟩
 have fin:∀ s':Shared,(∃ i zs σ' H',Inv (cR X scope cl C (xs++ys) { s2 with heap:=g3 } (upd H2 s2.heap.objs.size (.lst [])) fp (X.pn++pins)) [] σ' H' s'/\W i zs H'/\J.stop i H'/\Q (.ref s2.heap.objs.size) H') ->
   compPost (model X.prog X.w) X.A X.xe use QQ (.ref s2.heap.objs.size) C (.ok .next) s':=by
  rintro s' ⟨i,zs,σ',H',Ib,w,stop,q⟩
  obtain ⟨m',hn',_⟩:=Ib.loc
  have ub:=Ib.base
  have un:Un (frs X.stack) fp (upd H2 s2.heap.objs.size (.lst [])) H' g3 s'.heap:=ub
  have IX:Inv X pins σ H' s':=I3.call' (s':=s') (ch:=fp) Ib.os un Ib.hok Ib.bare fun b hb=>⟨(f2 b hb).2.2.2.1,(f2 b hb).2.1,(f2 b hb).2.2.2.2.1,(f2 b hb).2.2.2.2.2⟩
  exact aU1 C _ s' H' IX (I3.fpOk (bA6 hC) Ib.free) ⟨m',hn'⟩ q
 have loop:∀ s₃:Shared,(∃ tk,s₃={ s2 with heap:=h₁,toks:=tk }) ->
   codeAny (model X.prog X.w) X.A (.compLoop (.ListComp elt [⟨tg,iter,ifs,0⟩] scope pos) 0 (.ref it) (.ref s2.heap.objs.size) (compEnvC scope cl C X.env)) (compPost (model X.prog X.w) X.A X.xe use QQ (.ref s2.heap.objs.size) C) s₃:=by
  rintro s₃ ⟨tk,rfl⟩
  refine aE8 (fun k s'=>∃ i zs H',k=n+1 - i/\i<=n/\Inv (cR X scope cl C (xs++ys) { s2 with heap:=g3 } (upd H2 s2.heap.objs.size (.lst [])) fp (X.pn++pins)) [] (List.replicate xs.length none++aAl js σ) H' s'/\tn i s'.heap/\(∀ b∈fp,H' b=none)/\W i zs H')
   ?_ (n+1) ⟨0,[],_,rfl,aXo _,tot tk,T.keep _ _ _ st2 fun b hb o q=>old3 b o (old2 b o q),fp3,w0⟩
  rintro k s' ⟨i,zs,H',rfl,hin,Ib,st,fr,w⟩
  rcases turn i zs H' w with ⟨stop,qq⟩ | ⟨hlt,go,step⟩
  ·refine aX6 (T.done (cR X scope cl C (xs++ys) { s2 with heap:=g3 } (upd H2 s2.heap.objs.size (.lst [])) fp (X.pn++pins)) rfl rfl rfl hc i [] s' _ H' (fun _ _=>False) Ib (fpB fr) st stop) (fun r s4 ⟨hr,I4⟩=>?_) fun _ _ z=>z.elim
   subst hr
   exact fin s4 ⟨i,zs,_,H',I4,w,stop,qq⟩
  ·refine aX6 (T.item (cR X scope cl C (xs++ys) { s2 with heap:=g3 } (upd H2 s2.heap.objs.size (.lst [])) fp (X.pn++pins)) rfl rfl rfl hc i [] s' _ H' (fun _ _=>False) Ib (fpB fr) st go) (fun r s4 ⟨u,hr,h4⟩=>?_) fun _ _ z=>z.elim
   subst hr
   refine aX6 h4 (fun _ s5 ⟨v5,H5,I5,r5,y5,st5,fr5⟩=>?_) fun _ _ z=>z.elim
   have I5':=I5.pinned (fpB fr5) (T.obj _ _ st5)
   have hw5:=step v5 H5 y5
   refine aX6 (hg C _ _ fp (X.pn++pins) _ s5 _ H5 v5 u _ I5' r5 hw5) (fun _ s6 ⟨σ6,H6,I6,⟨hl6,hd6⟩,e6⟩=>?_) fun _ _ z=>z.elim
   have back:∀ {H':Hp} {s':Shared} {pins':List (Addr×Obj)},Inv (cR X scope cl C (xs++ys) { s2 with heap:=g3 } (upd H2 s2.heap.objs.size (.lst [])) fp (X.pn++pins)) pins' σ6 H' s'->Inv (cR X scope cl C (xs++ys) { s2 with heap:=g3 } (upd H2 s2.heap.objs.size (.lst [])) fp (X.pn++pins)) pins' (List.replicate xs.length none++aAl js σ) H' s':=fun I'=>by
    refine I'.weak ?_ fun j v' e=>?_
    ·rw [hl6];unfold aAl;simp
    ·by_cases hj:j < xs.length
     ·rw [aXl (by rw [aW8];exact hj),aY4] at e
      split at e<;>cases e
     ·rw [aW6 (by rw [aW8];omega),aW8,<- hd6,aZx] at e
      rw [<- e]
      congr 1
      omega
   refine aX6 (ht C _ _ fp (X.pn++pins) _ s6 _ _ _ I6 e6) (fun ok s6b ⟨H6b,I6b,e6b⟩=>?_) fun _ _ z=>z.elim
   cases ok with
   | false =>
    rw [aWn aXq]
    have e6c:W (i+1) zs H6b:=by simpa using e6b
    have I8:=back I6b
    refine ⟨n+1 - (i+1),by omega,i+1,zs,_,rfl,hlt,I8.unpinned (pins:=[]),?_,fun b hb=>?_,e6c⟩
    ·exact T.keep _ _ _ st5 fun b hb o q=>(I8.pin (b,o) (aW1 _ (aW1 _ (gK hb q)))).1
    ·obtain ⟨o,q,d⟩:=T.obj _ _ st5 b hb
     exact (I8.pin (b,o) (aW1 _ (aW1 _ (gK hb q)))).2.1
   | true =>
    rw [aWm rfl]
    have e6c:=e6b
    rw [aWm rfl] at e6c
    refine aX6 (hb C _ _ fp (X.pn++pins) _ s6b _ _ _ I6b e6c) (fun y s7 ⟨yv,H7,I7,r7,hD,hz,w7⟩=>?_) fun _ _ z=>z.elim
    obtain ⟨z7,its,n7,rv7,hl7,e7⟩:=I7.lstM hD
    refine append_at (n:=n7) (its:=its.toArray) e7 (fun h₈ sb8 eD8=>?_) (by rw [aWk,<- hl7];exact aZr hz)
    have I8:Inv _ _ _ (upd H7 s2.heap.objs.size (.lst (zs++[yv]))) { s7 with heap:=h₈,toks:=s7.toks }:=I7.write (x:=s2.heap.objs.size) (e:=s2.heap.objs.size) (by rw [hD];exact trivial) (.inl rfl) (fun b u hb q=>(sb8.2 b hb).trans q) ⟨_,eD8⟩
     ⟨by rw [aWq];exact hz,its++[y],n7+1,rv7.append (.cons r7 .nil),by rw [eD8,List.push_toArray]⟩
    have I9:=back I8
    refine ⟨n+1 - (i+1),by omega,i+1,zs++[yv],_,rfl,hlt,I9.unpinned (pins:=[]),?_,fun b hb=>?_,w7⟩
    ·exact T.keep _ _ _ st5 fun b hb o q=>(I8.pin (b,o) (aW1 _ (aW1 _ (gK hb q)))).1
    ·obtain ⟨o,q,d⟩:=T.obj _ _ st5 b hb
     exact (I8.pin (b,o) (aW1 _ (aW1 _ (gK hb q)))).2.1
 exact codeAny_compStart_list (loop _ ⟨_,rfl⟩) (T.self _ 0 _ _ _ (T.keep _ _ _ st2 fun b hb o q=>old3 b o (old2 b o q)) (loop _ ⟨_,rfl⟩))
theorem aIp{elt iter tg:Expr}{pos:Pos}{scope:Scope}{ifs:List Expr}{wi:TI}{g:TG}{tt:TT}{te:TE}{xs ys:List Str}{js:List Nat}{cl:List (Str×Addr)}(hc:X.calm=true)(hi:PI X tg iter wi)
  (hcl:aOu X scope cl) (hcap:sG X scope cl ys js) (hcell:∀ y∈scope.names,y.2≠.cell) (hkind:scope.kind=.function) (hnames:∀ y∈scope.names,y.2=.local->scope.names.lookup y.1=some .local)
  (hg:∀ C s₀ H₀ ex pn,PG (cR X scope cl C (xs++ys) s₀ H₀ ex pn) tg g) (ht:∀ C s₀ H₀ ex pn,PTs (cR X scope cl C (xs++ys) s₀ H₀ ex pn) ifs tt) (hb:∀ C s₀ H₀ ex pn,PE (cR X scope cl C (xs++ys) s₀ H₀ ex pn) elt te)
  (hs:∀ x,foldedSetIterable iter X.env x=pure x:=by intro _;rfl) :
  PE X (.ListComp elt [⟨tg,iter,ifs,0⟩] scope pos) (zV wi g tt te xs.length js):=by
 intro pins s σ H Q I h
 rw [eval_ListComp]
 exact wU hc hi hcl hcap hcell hkind hnames hg ht hb hs (use:=none) (QQ:=EP X pins σ Q) (Q:=Q) I (fun C D s' H' IX f ⟨m,hn⟩ q=>⟨m,hn,fun h' hs'=>⟨.ref D,H',IX.but f hs',rfl,q⟩⟩) h
theorem aIz{elt iter tg:Expr}{pos py spos:Pos}{scope:Scope}{ifs:List Expr}{wi:TI}{g:TG}{tt:TT}{te:TE}{xs ys:List Str}{js:List Nat}{cl:List (Str×Addr)}{i:Nat}{y:Str}(hN:X.N.Nodup)(hiN:X.N[i]? = some y)(hx:Loc X.env.scope y)(hc:X.calm=true)(hi:PI X tg iter wi)
  (hcl:aOu X scope cl) (hcap:sG X scope cl ys js) (hcell:∀ y∈scope.names,y.2≠.cell) (hkind:scope.kind=.function) (hnames:∀ y∈scope.names,y.2=.local->scope.names.lookup y.1=some .local)
  (hg:∀ C s₀ H₀ ex pn,PG (cR X scope cl C (xs++ys) s₀ H₀ ex pn) tg g) (ht:∀ C s₀ H₀ ex pn,PTs (cR X scope cl C (xs++ys) s₀ H₀ ex pn) ifs tt) (hb:∀ C s₀ H₀ ex pn,PE (cR X scope cl C (xs++ys) s₀ H₀ ex pn) elt te)
  (hsw:swapsWith (.ListComp elt [⟨tg,iter,ifs,0⟩] scope pos) (some (.Name y py)) spos.line X.env=pure true) (hs:∀ x,foldedSetIterable iter X.env x=pure x:=by intro _;rfl)
  (hf:X.fn y=true\/X.env.scope.names.lookup y=some .local:=by first | exact .inl rfl | exact .inr rfl | assumption) :
  PS X (.Assign [.Name y py] (.ListComp elt [⟨tg,iter,ifs,0⟩] scope pos) spos) (aSs (zV wi g tt te xs.length js) (aOj i)):=by
 intro pins s σ H D I h
 rw [exec_Assign_Name_used _ _ _ _ hsw]
 refine aWa (bCc (aWa ?_))
 show wpAny _ X.A (do let _ <- comprehension (.ListComp elt [⟨tg,iter,ifs,0⟩] scope pos) scope X.env _ (newList []) false (eval iter X.env) (some (assign (.Name y py) X.env))) _ _ s
 refine aWa (aX6 (wU hc hi hcl hcap hcell hkind hnames hg ht hb hs (use:=some (assign (.Name y py) X.env)) (QQ:=fun _ s'=>∃ σ' H',Inv X pins σ' H' s'/\D.nx σ' H') I (fun C L s' H' IX f ⟨m,hn⟩ q=>?_) h) (fun _ s' hq=>aWe (aWe hq)) fun _ _ e=>e)
 obtain ⟨o,es,ep,ho,hd,hr⟩:=id hn
 have IP:=IX.pinned (fp:=[C]) (fun b hb=>by rw [aXd.mp hb];exact f) (fun b hb=>by rw [aXd.mp hb];exact ⟨o,ho,fun v z=>by rw [hd] at z;cases z⟩)
 refine aX6 (aDh (pos:=py) hN hiN hx hf _ s' σ H' (.ref L) (.ref L) _ IP rfl q) (fun _ s2 ⟨σ2,H2,I2,q2⟩=>?_) fun _ _ e=>e
 have pc:=I2.pin (C,o) (aW1 _ (aW1 _ (gK (.head _) ho)))
 exact ⟨m,⟨o,es,ep,pc.1,hd,hr⟩,fun h' hs'=>⟨σ2,H2,(I2.unpinned (pins:=pins)).but ⟨pc.2.1,f.2⟩ hs',q2⟩⟩
end
end L2
namespace M
open PySem PySem.Spec PyProof.Rows L2
abbrev D:=PyData
inductive Res(α:Type) where
 | ok (a:α)
 | exc (C:Addr)
 | bad
def Res.bind{α β:Type}(r:Res α)(f:α->Res β):Res β:=match r with
 | .ok a=>f a
 | .exc C=>.exc C
 | .bad=>.bad
def wpR{α:Type}(r:Res α)(Q:α->Prop)(E:Addr->Prop):Prop:=match r with
 | .ok a=>Q a
 | .exc C=>E C
 | .bad=>False
theorem cK{α β:Type}{r:Res α}{f:α->Res β}{Q:β->Prop}{E:Addr->Prop}:wpR (r.bind f) Q E=wpR r (fun a=>wpR (f a) Q E) E:=by cases r<;>rfl
theorem bT{α:Type}{r:Res α}{Q Q':α->Prop}{E E':Addr->Prop}(h:wpR r Q E)(hQ:∀ a,Q a->Q' a)(hE:∀ C,E C->E' C):wpR r Q' E':=by
 cases r with
 | ok a=>exact hQ a h
 | exc C=>exact hE C h
 | bad=>exact h
inductive L where
 | p (d:D)
 | o (d:D)
 | x (C:Addr)
 | h (a:Addr)
inductive Ev where
 | p (d:D)
 | f (d:D)
 | b (d:D)
 | x (C:Addr)
def Ev.c:Ev->Ev
 | .f d=>.p d
 | r=>r
abbrev En:=List (Option L)
def kD:Key->D
 | .inl i=>.int i
 | .inr x=>.str x
def tkD(ks:List Key):D:=.tuple (ks.map kD)
mutual
inductive Rep(K:aV9)(G:Hp):V->D->Prop
 | non:Rep K G .non .none
 | bl (b:Bool):Rep K G (.bl b) (.bool b)
 | int (i:Int):Rep K G (.int i) (.int i)
 | str (x:Str):Rep K G (.str x) (.str x)
 | tup {a:Addr} {xs:List V} {ds:List D}:G a=some (.tup xs)->Reps K G xs ds->Rep K G (.ref a) (.tuple ds)
 | lst {a:Addr} {xs:List V} {ds:List D}:Rd G a (.lst xs)->Reps K G xs ds->Rep K G (.ref a) (.list ds)
 | dT {a:Addr} {kv:List (List Key×V)} {kvs:List (D×D)}:G a=some (.dT kv)->RepT K G kv kvs->Rep K G (.ref a) (.dict kvs)
 | dK {a:Addr} {kv:List (Key×V)} {kvs:List (D×D)}:G a=some (.dK kv)->RepK K G kv kvs->Rep K G (.ref a) (.dict ((.none,.none) :: kvs))
inductive Reps(K:aV9)(G:Hp):List V->List D->Prop
 | nil:Reps K G [] []
 | cons {x:V} {xs:List V} {d:D} {ds:List D}:Rep K G x d->Reps K G xs ds->Reps K G (x :: xs) (d :: ds)
inductive RepT(K:aV9)(G:Hp):List (List Key×V)->List (D×D)->Prop
 | nil:RepT K G [] []
 | cons {k:List Key} {x:V} {d:D} {kv:List (List Key×V)} {kvs:List (D×D)}:Rep K G x d->RepT K G kv kvs->RepT K G ((k,x) :: kv) ((tkD k,d) :: kvs)
inductive RepK(K:aV9)(G:Hp):List (Key×V)->List (D×D)->Prop
 | nil:RepK K G [] []
 | cons {k:Key} {x:V} {d:D} {kv:List (Key×V)} {kvs:List (D×D)}:Rep K G x d->RepK K G kv kvs->RepK K G ((k,x) :: kv) ((kD k,d) :: kvs)
end
inductive Cont(K:aV9)(G:Hp):HO->D->Prop
 | lst {xs:List V} {ds:List D}:Reps K G xs ds->Cont K G (.lst xs) (.list ds)
 | dT {kv:List (List Key×V)} {kvs:List (D×D)}:RepT K G kv kvs->Cont K G (.dT kv) (.dict kvs)
 | dK {kv:List (Key×V)} {kvs:List (D×D)}:RepK K G kv kvs->Cont K G (.dK kv) (.dict ((.none,.none) :: kvs))
section
variable {K:aV9}{G G' H H':Hp}
theorem iT{a:Addr}{u:HO}(s:Same G G')(h:Rd G a u):Rd G' a u:=by
 rcases h with h | ⟨o,h⟩
 ·exact .inl (s _ _ h)
 ·exact .inr ⟨o,s _ _ h⟩
mutual
theorem Rep.mono(s:Same G G'):∀ {v:V} {d:D},Rep K G v d->Rep K G' v d
 | _,_,.non=>.non
 | _,_,.bl b=>.bl b
 | _,_,.int i=>.int i
 | _,_,.str x=>.str x
 | _,_,.tup h r=>.tup (s _ _ h) (Reps.mono s r)
 | _,_,.lst h r=>.lst (iT s h) (Reps.mono s r)
 | _,_,.dT h r=>.dT (s _ _ h) (RepT.mono s r)
 | _,_,.dK h r=>.dK (s _ _ h) (RepK.mono s r)
theorem Reps.mono(s:Same G G'):∀ {v:List V} {d:List D},Reps K G v d->Reps K G' v d
 | _,_,.nil=>.nil
 | _,_,.cons h r=>.cons (Rep.mono s h) (Reps.mono s r)
theorem RepT.mono(s:Same G G'):∀ {v:List (List Key×V)} {d:List (D×D)},RepT K G v d->RepT K G' v d
 | _,_,.nil=>.nil
 | _,_,.cons h r=>.cons (Rep.mono s h) (RepT.mono s r)
theorem RepK.mono(s:Same G G'):∀ {v:List (Key×V)} {d:List (D×D)},RepK K G v d->RepK K G' v d
 | _,_,.nil=>.nil
 | _,_,.cons h r=>.cons (Rep.mono s h) (RepK.mono s r)
end
theorem Cont.mono(s:Same G G'){o:HO}{d:D}(h:Cont K G o d):Cont K G' o d:=by
 cases h with
 | lst r=>exact .lst (r.mono s)
 | dT r=>exact .dT (r.mono s)
 | dK r=>exact .dK (r.mono s)
theorem Cont.rep{a:Addr}{o:HO}{d:D}(h:Cont K G o d)(e:G a=some o):Rep K G (.ref a) d:=by
 cases h with
 | lst r=>exact .lst (.inl e) r
 | dT r=>exact .dT e r
 | dK r=>exact .dK e r
theorem Reps.length:∀ {xs:List V} {ds:List D},Reps K G xs ds->xs.length=ds.length
 | _,_,.nil=>rfl
 | _,_,.cons _ r=>by rw [aWc,aWc,Reps.length r]
theorem Reps.get:∀ {xs:List V} {ds:List D} {i:Nat} {x:V},Reps K G xs ds->xs[i]? = some x->∃ d,ds[i]? = some d/\Rep K G x d
 | _,_,_,_,.nil,e=>by simp at e
 | _,_,0,_,.cons h _,e=>by simp at e;subst e;exact ⟨_,rfl,h⟩
 | _,_,i+1,_,.cons _ r,e=>by
  have:=Reps.get (i:=i) r (by simpa using e)
  simpa using this
theorem Reps.get':∀ {xs:List V} {ds:List D} {i:Nat} {d:D},Reps K G xs ds->ds[i]? = some d->∃ x,xs[i]? = some x/\Rep K G x d
 | _,_,_,_,.nil,e=>by simp at e
 | _,_,0,_,.cons h _,e=>by simp at e;subst e;exact ⟨_,rfl,h⟩
 | _,_,i+1,_,.cons _ r,e=>by
  have:=Reps.get' (i:=i) r (by simpa using e)
  simpa using this
theorem Reps.append:∀ {xs ys:List V} {ds es:List D},Reps K G xs ds->Reps K G ys es->Reps K G (xs++ys) (ds++es)
 | _,_,_,_,.nil,r=>r
 | _,_,_,_,.cons h t,r=>.cons h (Reps.append t r)
theorem Reps.set{x:V}{d:D}(h:Rep K G x d):∀ {xs:List V} {ds:List D} (i:Nat),Reps K G xs ds->Reps K G (xs.set i x) (ds.set i d)
 | _,_,_,.nil=>.nil
 | _,_,0,.cons _ t=>.cons h t
 | _,_,i+1,.cons q t=>.cons q (Reps.set h i t)
theorem Reps.take:∀ {xs:List V} {ds:List D} (n:Nat),Reps K G xs ds->Reps K G (xs.take n) (ds.take n)
 | _,_,0,_=>.nil
 | _,_,_+1,.nil=>.nil
 | _,_,n+1,.cons h t=>.cons h (Reps.take n t)
theorem Reps.drop:∀ {xs:List V} {ds:List D} (n:Nat),Reps K G xs ds->Reps K G (xs.drop n) (ds.drop n)
 | _,_,0,r=>r
 | _,_,_+1,.nil=>.nil
 | _,_,n+1,.cons _ t=>Reps.drop n t
end
structure Step(G H G' H':Hp):Prop where
 g:Same G G'
 h:Same H H'
 gh:Same G' H'
 new:∀ b,H b≠none->G b=none->G' b=none\/∃ xs,H b=some (.tup xs)
theorem Step.off{G H G' H':Hp}(s:Step G H G' H'){b:Addr}{o:HO}(h:H b=some o)(n:∀ xs,o≠.tup xs)(g:G b=none):G' b=none:=by
 rcases s.new b (by rw [h];exact fun z=>nomatch z) g with z | ⟨xs,z⟩
 ·exact z
 ·rw [h] at z;exact absurd (aWx z) (n xs)
theorem aC3{H H':Hp}(s:Same H H'){b:Addr}(h:H b≠none):H' b≠none:=by
 cases e:H b with
 | none=>exact absurd e h
 | some o=>rw [s b o e];exact fun z=>nomatch z
theorem Step.refl{G H:Hp}(s:Same G H):Step G H G H:=⟨Same.refl _,Same.refl _,s,fun _ _ h=>.inl h⟩
theorem Step.trans{G H G1 H1 G2 H2:Hp}(a:Step G H G1 H1)(b:Step G1 H1 G2 H2):Step G H G2 H2 :=
 ⟨a.g.trans b.g,a.h.trans b.h,b.gh,fun c hc hg=>by
  rcases a.new c hc hg with z | z
  ·rcases b.new c (aC3 a.h hc) z with y | ⟨xs,y⟩
   ·exact .inl y
   ·cases e:H c with
    | none=>exact absurd e hc
    | some o =>
     rw [a.h _ _ e] at y
     exact .inr ⟨xs,y⟩
  ·exact .inr z⟩
theorem Step.put{G H:Hp}{a:Addr}{o:HO}(s:Same G H)(e:H a=none):Step G H (upd G a o) (upd H a o) :=
 ⟨Same.upd (Same.refl _) (s.free e) o,Same.upd (Same.refl _) e o,fun b u q=>by
  by_cases z:b=a
  ·subst z;rw [cJ] at q ⊢;exact q
  ·rw [bY z] at q ⊢;exact s b u q,fun b hb hg=>by
  have z:b≠a:=fun z=>hb (z▸e)
  rw [bY z];exact .inl hg⟩
theorem Step.lay{G H:Hp}{a:Addr}{o:HO}(s:Same G H)(e:H a=none):Step G H G (upd H a o) :=
 ⟨Same.refl _,Same.upd (Same.refl _) e o,Same.upd s e o,fun _ _ h=>.inl h⟩
def EOk(K:aV9)(W:Addr->Option Nat)(Hs G H:Hp)(v:V):Ev->Prop
 | .p d=>Rep K G v d
 | .f d=>∃ a o,v=.ref a/\Hs a=none/\G a=none/\H a=some o/\Cont K G o d
 | .b d=>∃ a i o,v=.ref a/\W a=some i/\H a=some o/\Cont K G o d
 | .x C=>∃ e,v=.ref e/\G e=some (aPg e (.ref C))
theorem EOk.step{K:aV9}{W:Addr->Option Nat}{Hs Hs' G H G' H':Hp}{v:V}{r:Ev}(h:EOk K W Hs G H v r.c)(s:Step G H G' H'):EOk K W Hs' G' H' v r.c:=by
 cases r with
 | p d=>exact Rep.mono s.g h
 | f d=>exact Rep.mono s.g h
 | b d =>
  obtain ⟨a,i,o,h1,h2,h3,h4⟩:=h
  exact ⟨a,i,o,h1,h2,s.h _ _ h3,h4.mono s.g⟩
 | x C =>
  obtain ⟨e,h1,h2⟩:=h
  exact ⟨e,h1,s.g _ _ h2⟩
theorem EOk.c{K:aV9}{W:Addr->Option Nat}{G H G1 H1:Hp}{v:V}{r:Ev}(s:Step G H G1 H1)(h:EOk K W H G1 H1 v r):∃ G2,Step G H G2 H1/\EOk K W H G2 H1 v r.c:=by
 cases r with
 | p d=>exact ⟨G1,s,h⟩
 | b d=>exact ⟨G1,s,h⟩
 | x d=>exact ⟨G1,s,h⟩
 | f d =>
  obtain ⟨a,o,rfl,h1,h2,h3,h4⟩:=h
  refine ⟨upd G1 a o,⟨s.g.trans (Same.upd (Same.refl _) h2 o),s.h,fun b u q=>?_,fun b hb hg=>?_⟩,(h4.mono (Same.upd (Same.refl _) h2 o)).rep cJ⟩
  ·by_cases z:b=a
   ·subst z;rw [cJ] at q;rw [h3];exact q
   ·rw [bY z] at q;exact s.gh b u q
  ·have z:b≠a:=fun z=>hb (z▸h1)
   rw [bY z];exact s.new b hb hg
structure SimH(B G0 G:Hp)(W:Addr->Option Nat)(H:Hp):Prop where
 gh:Same G H
 bh:Same B H
 g0:Same G0 G
 gb:∀ b,G b≠none->G0 b≠none\/B b=none\/∃ xs,B b=some (.tup xs)
 wf:∀ a i,W a=some i->G a=none/\B a=none/\∃ o,H a=some o/\∀ xs,o≠.tup xs
theorem SimH.step{B G0 G H G' H':Hp}{W:Addr->Option Nat}(s:SimH B G0 G W H)(t:Step G H G' H'):SimH B G0 G' W H':=by
 refine ⟨t.gh,s.bh.trans t.h,s.g0.trans t.g,fun b hb=>?_,fun a i e=>?_⟩
 ·by_cases z:G b=none
  ·refine .inr ?_
   by_cases y:H b=none
   ·exact .inl (s.bh.free y)
   ·rcases t.new b y z with q | ⟨xs,q⟩
    ·exact absurd q hb
    ·cases e:B b with
     | none=>exact .inl rfl
     | some o=>rw [s.bh _ _ e] at q;exact .inr ⟨xs,q⟩
  ·exact s.gb b z
 ·obtain ⟨h1,h2,o,h3,h4⟩:=s.wf a i e
  exact ⟨t.off h3 h4 h1,h2,o,t.h _ _ h3,h4⟩
theorem Cont.mut{K:aV9}{G:Hp}{o:HO}{d:D}(h:Cont K G o d):∀ xs,o≠.tup xs:=by
 intro xs z
 subst z
 cases h
def Slot(K:aV9)(W:Addr->Option Nat)(G H:Hp)(i:Nat)(v:V):L->Prop
 | .p d=>Rep K G v d
 | .o d=>∃ a o,v=.ref a/\W a=some i/\H a=some o/\Cont K G o d
 | .x C=>∃ e,v=.ref e/\G e=some (aPg e (.ref C))
 | .h a=>v=.ref a
def SimS(K:aV9)(W:Addr->Option Nat)(G H:Hp)(σ:L2.St)(en:En):Prop:=σ.length=en.length/\∀ i l,en[i]? = some (some l)->∃ v,σ[i]? = some (some v)/\Slot K W G H i v l
theorem Slot.step{K:aV9}{W:Addr->Option Nat}{G H G' H':Hp}{i:Nat}{v:V}{l:L}(h:Slot K W G H i v l)(s:Step G H G' H'):Slot K W G' H' i v l:=by
 cases l with
 | p d=>exact Rep.mono s.g h
 | o d =>
  obtain ⟨a,o,h1,h2,h3,h4⟩:=h
  exact ⟨a,o,h1,h2,s.h _ _ h3,h4.mono s.g⟩
 | x C =>
  obtain ⟨e,h1,h2⟩:=h
  exact ⟨e,h1,s.g _ _ h2⟩
 | h a=>exact h
theorem SimS.step{K:aV9}{W:Addr->Option Nat}{G H G' H':Hp}{σ:L2.St}{en:En}(h:SimS K W G H σ en)(s:Step G H G' H'):SimS K W G' H' σ en :=
 ⟨h.1,fun i l e=>let ⟨v,e1,e2⟩:=h.2 i l e;⟨v,e1,e2.step s⟩⟩
def PostE(K:aV9)(W:Addr->Option Nat)(G H:Hp)(Q:VK)(r:Ev):Prop:=∀ G' H' v,Step G H G' H'->EOk K W H G' H' v r->Q v H'
def PostB(G H:Hp)(Q:Bool->Hp->Prop)(b:Bool):Prop:=∀ G' H',Step G H G' H'->Q b H'
def EOks(K:aV9)(W:Addr->Option Nat)(Hs G H:Hp):List V->List Ev->Prop
 | [],[]=>True
 | v :: vs,r :: rs=>EOk K W Hs G H v r/\EOks K W Hs G H vs rs
 | _,_=>False
def aJ9(K:aV9)(W:Addr->Option Nat)(G H:Hp)(Q:List V->Hp->Prop)(rs:List Ev):Prop:=∀ G' H' vs,Step G H G' H'->EOks K W H G' H' vs rs->Q vs H'
def PostX(E:XK)(G H:Hp)(C:Addr):Prop:=∀ G' H',Step G H G' H'->E (.ref C) none H'
theorem PostE.step{K:aV9}{W:Addr->Option Nat}{G H G' H':Hp}{Q:VK}{r:Ev}(h:PostE K W G H Q r)(s:Step G H G' H'):PostE K W G' H' Q r:=fun G2 H2 v s2 e=>h G2 H2 v (s.trans s2) (by
 cases r with
 | p d=>exact e
 | b d=>exact e
 | x d=>exact e
 | f d =>
  obtain ⟨a,o,h1,h2,h3,h4,h5⟩:=e
  exact ⟨a,o,h1,s.h.free h2,h3,h4,h5⟩)
theorem PostX.step{E:XK}{G H G' H':Hp}{C:Addr}(h:PostX E G H C)(s:Step G H G' H'):PostX E G' H' C:=fun G2 H2 s2=>h G2 H2 (s.trans s2)
theorem PostB.step{G H G' H':Hp}{Q:Bool->Hp->Prop}{b:Bool}(h:PostB G H Q b)(s:Step G H G' H'):PostB G' H' Q b:=fun G2 H2 s2=>h G2 H2 (s.trans s2)
def tE(K:aV9)(E:L2.St->XK)(f:En->Res Ev):TE:=fun σ H Q=>∃ B G0 G W en,SimH B G0 G W H/\SimS K W G H σ en/\wpR (f en) (PostE K W G H Q) (PostX (E σ) G H)
def DE(X:Cx)(E:L2.St->XK)(e:Expr)(f:En->Res Ev):Prop:=PE X e (tE X.K E f)
theorem DE.out{X:Cx}{E:L2.St->XK}{e:Expr}{f:En->Res Ev}(h:DE X E e f):∃ t,PE X e t/\∀ B G0 G W H σ en Q,SimH B G0 G W H->SimS X.K W G H σ en->wpR (f en) (PostE X.K W G H Q) (PostX (E σ) G H)->t σ H Q :=
 ⟨_,h,fun B G0 G W H σ en Q h1 h2 h3=>⟨B,G0,G,W,en,h1,h2,h3⟩⟩
theorem DE.in{X:Cx}{E:L2.St->XK}{e:Expr}{f:En->Res Ev}(h:∃ t,PE X e t/\∀ B G0 G W H σ en Q,SimH B G0 G W H->SimS X.K W G H σ en->wpR (f en) (PostE X.K W G H Q) (PostX (E σ) G H)->t σ H Q):DE X E e f :=
 fun pins s σ H Q I ⟨B,G0,G,W,en,h1,h2,h3⟩=>let ⟨_,p,m⟩:=h;p pins s σ H Q I (m B G0 G W H σ en Q h1 h2 h3)
def tT(K:aV9)(E:L2.St->XK)(f:En->Res Bool):TT:=fun σ H Q=>∃ B G0 G W en,SimH B G0 G W H/\SimS K W G H σ en/\wpR (f en) (PostB G H Q) (PostX (E σ) G H)
def tA(K:aV9)(E:L2.St->XK)(f:En->Res (List Ev)):TA:=fun σ H Q=>∃ B G0 G W en,SimH B G0 G W H/\SimS K W G H σ en/\wpR (f en) (aJ9 K W G H Q) (PostX (E σ) G H)
def DT(X:Cx)(E:L2.St->XK)(e:Expr)(f:En->Res Bool):Prop:=PT X e (tT X.K E f)
def DW(X:Cx)(E:L2.St->XK)(e:Expr)(f:En->Res Bool):Prop:=PW X e (tT X.K E f)
def DA(X:Cx)(E:L2.St->XK)(es:List Expr)(f:En->Res (List Ev)):Prop:=PA X es (tA X.K E f)
section
variable {X:Cx}{E:L2.St->XK}{e:Expr}{es:List Expr}{f:En->Res Bool}{fr:En->Res (List Ev)}
theorem DT.out(h:DT X E e f):∃ t,PT X e t/\∀ B G0 G W H σ en Q,SimH B G0 G W H->SimS X.K W G H σ en->wpR (f en) (PostB G H Q) (PostX (E σ) G H)->t σ H Q :=
 ⟨_,h,fun B G0 G W H σ en Q h1 h2 h3=>⟨B,G0,G,W,en,h1,h2,h3⟩⟩
theorem DT.in(h:∃ t,PT X e t/\∀ B G0 G W H σ en Q,SimH B G0 G W H->SimS X.K W G H σ en->wpR (f en) (PostB G H Q) (PostX (E σ) G H)->t σ H Q):DT X E e f :=
 fun pins s σ H Q I ⟨B,G0,G,W,en,h1,h2,h3⟩=>let ⟨_,p,m⟩:=h;p pins s σ H Q I (m B G0 G W H σ en Q h1 h2 h3)
theorem DW.out(h:DW X E e f):∃ t,PW X e t/\∀ B G0 G W H σ en Q,SimH B G0 G W H->SimS X.K W G H σ en->wpR (f en) (PostB G H Q) (PostX (E σ) G H)->t σ H Q :=
 ⟨_,h,fun B G0 G W H σ en Q h1 h2 h3=>⟨B,G0,G,W,en,h1,h2,h3⟩⟩
theorem DW.in(h:∃ t,PW X e t/\∀ B G0 G W H σ en Q,SimH B G0 G W H->SimS X.K W G H σ en->wpR (f en) (PostB G H Q) (PostX (E σ) G H)->t σ H Q):DW X E e f :=
 fun wh pins s σ H Q I ⟨B,G0,G,W,en,h1,h2,h3⟩=>let ⟨_,p,m⟩:=h;p wh pins s σ H Q I (m B G0 G W H σ en Q h1 h2 h3)
theorem DA.out(h:DA X E es fr):∃ t,PA X es t/\∀ B G0 G W H σ en Q,SimH B G0 G W H->SimS X.K W G H σ en->wpR (fr en) (aJ9 X.K W G H Q) (PostX (E σ) G H)->t σ H Q :=
 ⟨_,h,fun B G0 G W H σ en Q h1 h2 h3=>⟨B,G0,G,W,en,h1,h2,h3⟩⟩
theorem DA.in(h:∃ t,PA X es t/\∀ B G0 G W H σ en Q,SimH B G0 G W H->SimS X.K W G H σ en->wpR (fr en) (aJ9 X.K W G H Q) (PostX (E σ) G H)->t σ H Q):DA X E es fr :=
 fun pos pins s σ H Q I ⟨B,G0,G,W,en,h1,h2,h3⟩=>let ⟨_,p,m⟩:=h;p pos pins s σ H Q I (m B G0 G W H σ en Q h1 h2 h3)
end
theorem DW.t{X:Cx}{E:L2.St->XK}{e:Expr}{f:En->Res Bool}(h:DW X E e f):DT X E e f:=h _
section
variable {X:Cx}{E:L2.St->XK}{a b c e:Expr}{es:List Expr}{fa fb:En->Res Ev}{fr:En->Res (List Ev)}{pos:Pos}
theorem DE.go{K:aV9}{W:Addr->Option Nat}{G H:Hp}{EE:XK}{Q:VK}{r:Res Ev}{k:Ev->Res Ev}{Q':VK}(hw:wpR (r.bind k) (PostE K W G H Q) (PostX EE G H))
  (h:∀ (x:Ev) G1 H1 v,Step G H G1 H1->EOk K W H G1 H1 v x.c->wpR (k x) (PostE K W G1 H1 Q) (PostX EE G1 H1)->Q' v H1):wpR r (PostE K W G H Q') (PostX EE G H):=by
 rw [cK] at hw
 refine bT hw (fun x hx G1 H1 v s e=>?_) fun C h=>h
 obtain ⟨G2,s2,e2⟩:=e.c s
 exact h x G2 H1 v s2 e2 (bT hx (fun r h=>h.step s2) fun C h=>h.step s2)
theorem DE.goB{K:aV9}{W:Addr->Option Nat}{G H:Hp}{EE:XK}{Q:Bool->Hp->Prop}{r:Res Ev}{k:Ev->Res Bool}{Q':VK}(hw:wpR (r.bind k) (PostB G H Q) (PostX EE G H))
  (h:∀ (x:Ev) G1 H1 v,Step G H G1 H1->EOk K W H G1 H1 v x.c->wpR (k x) (PostB G1 H1 Q) (PostX EE G1 H1)->Q' v H1):wpR r (PostE K W G H Q') (PostX EE G H):=by
 rw [cK] at hw
 refine bT hw (fun x hx G1 H1 v s e=>?_) fun C h=>h
 obtain ⟨G2,s2,e2⟩:=e.c s
 exact h x G2 H1 v s2 e2 (bT hx (fun r h=>h.step s2) fun C h=>h.step s2)
def OpM(K:aV9)(r:R2)(op:Ev->Ev->Res Ev):Prop:=∀ (W:Addr->Option Nat) (G H:Hp) (v u:V) (x y:Ev) (Q:VK),Same G H->EOk K W H G H v x.c->EOk K W H G H u y.c->wpR (op x.c y.c) (PostE K W G H Q) (fun _=>False)->r v u H Q
def aE(op:Ev->Ev->Res Ev)(fa fb:En->Res Ev):En->Res Ev:=fun en=>(fa en).bind fun x=>(fb en).bind fun y=>op x.c y.c
def NoX(op:Ev->Ev->Res Ev):Prop:=∀ x y C,op x y≠.exc C
theorem noX{α:Type}{r:Res α}{Q:α->Prop}{E E':Addr->Prop}(h:wpR r Q E)(n:∀ C,r≠.exc C):wpR r Q E':=by
 cases r with
 | ok a=>exact h
 | exc C=>exact absurd rfl (n C)
 | bad=>exact h
theorem vR{ta tb:TE}{r:R2}{op:Ev->Ev->Res Ev}(ma:∀ B G0 G W H σ en Q,SimH B G0 G W H->SimS X.K W G H σ en->wpR (fa en) (PostE X.K W G H Q) (PostX (E σ) G H)->ta σ H Q)
  (mb:∀ B G0 G W H σ en Q,SimH B G0 G W H->SimS X.K W G H σ en->wpR (fb en) (PostE X.K W G H Q) (PostX (E σ) G H)->tb σ H Q) (hm:OpM X.K r op) (hn:NoX op) :
  ∀ B G0 G W H σ en Q,SimH B G0 G W H->SimS X.K W G H σ en->wpR (aE op fa fb en) (PostE X.K W G H Q) (PostX (E σ) G H)->tOp r ta tb σ H Q:=by
 intro B G0 G W H σ en Q hh hs hw
 refine ma B G0 G W H σ en _ hh hs (DE.go hw fun x G1 H1 v s1 e1 h1=>?_)
 refine mb B G0 G1 W H1 σ en _ (hh.step s1) (hs.step s1) (DE.go h1 fun y G2 H2 u s2 e2 h2=>?_)
 exact hm W G2 H2 v u x y Q s2.gh (e1.step s2) (by cases y<;>exact e2) (noX h2 (hn _ _))
theorem aJ{op:Operator}{r:R2}{f:Ev->Ev->Res Ev}(ho:OpR X (binaryOp op) r)(hm:OpM X.K r f)(hn:NoX f)(ha:DE X E a fa)(hb:DE X E b fb):DE X E (.BinOp a op b pos) (aE f fa fb):=by
 obtain ⟨ta,pa,ma⟩:=ha.out
 obtain ⟨tb,pb,mb⟩:=hb.out
 refine DE.in ?_
 exact ⟨_,aTb ho pa pb,vR ma mb hm hn⟩
theorem aAh{op:CmpOp}{r:R2}{f:Ev->Ev->Res Ev}(ho:OpR X (compareOp op) r)(hm:OpM X.K r f)(hn:NoX f)(ha:DE X E a fa)(hb:DE X E b fb)(hk:behindInMarks op b=false):DE X E (.Compare a [op] [b] pos) (aE f fa fb):=by
 obtain ⟨ta,pa,ma⟩:=ha.out
 obtain ⟨tb,pb,mb⟩:=hb.out
 refine DE.in ?_
 exact ⟨_,aO3 ho pa pb hk,vR ma mb hm hn⟩
def dA(r:Ev):Res Bool:=match r with
 | .p (.bool b)=>.ok b
 | _=>.bad
def bP(f:En->Res Ev):En->Res Bool:=fun en=>(f en).bind dA
theorem lK{t:TE}(m:∀ B G0 G W H σ en Q,SimH B G0 G W H->SimS X.K W G H σ en->wpR (fa en) (PostE X.K W G H Q) (PostX (E σ) G H)->t σ H Q) :
  ∀ B G0 G W H σ en Q,SimH B G0 G W H->SimS X.K W G H σ en->wpR (bP fa en) (PostB G H Q) (PostX (E σ) G H)->t σ H fun x H1=>∃ k,x=.bl k/\Q k H1:=by
 intro B G0 G W H σ en Q hh hs hw
 refine m B G0 G W H σ en _ hh hs (DE.goB hw fun x G1 H1 v s1 e1 h1=>?_)
 cases x with
 | p d =>
  cases d with
  | bool k=>cases e1;exact ⟨k,rfl,h1 G1 H1 (Step.refl s1.gh)⟩
  | _=>exact False.elim h1
 | _=>exact False.elim h1
theorem dD{op:CmpOp}{r:R2}{f:Ev->Ev->Res Ev}(ho:OpR X (compareOp op) r)(hm:OpM X.K r f)(hn:NoX f)(ha:DE X E a fa)(hb:DE X E b fb)(hk:behindInMarks op b=false):DT X E (.Compare a [op] [b] pos) (bP (aE f fa fb)):=by
 obtain ⟨ta,pa,ma⟩:=ha.out
 obtain ⟨tb,pb,mb⟩:=hb.out
 refine DT.in ?_
 exact ⟨_,aN0 ho pa pb hk,lK (vR ma mb hm hn)⟩
theorem kJ(h:DE X E e fa)(he:∀ whole,isTrue e X.env whole=(do let v <- whole;standAt e.pos;holding [v] (truthy v)):=by intro _;rfl):DT X E e (bP fa):=by
 obtain ⟨t,p,m⟩:=h.out
 refine DT.in ?_
 exact ⟨_,aQ4 p he,lK m⟩
def aD(i:Nat):En->Res Ev:=fun en=>match en[i]? with
 | some (some (.p d))=>.ok (.p d)
 | some (some (.o d))=>.ok (.b d)
 | some (some (.x C))=>.ok (.x C)
 | _=>.bad
theorem aSe{i:Nat}{x:Str}(hN:X.N[i]? = some x)(hv:Vis X.env.scope x)(hd:(x == ("__debug__" : Str))=false:=by decide)(hcd:(x == ("__classdict__" : Str))=false:=by decide):DE X E (.Name x pos) (aD i):=by
 refine DE.in ?_
 refine ⟨_,aKu hN hv hd hcd,fun B G0 G W H σ en Q hh hs hw=>?_⟩
 unfold aD at hw
 split at hw
 ·rename_i d e
  obtain ⟨v,e1,e2⟩:=hs.2 i _ e
  exact ⟨v,e1,hw G H v (Step.refl hh.gh) e2⟩
 ·rename_i d e
  obtain ⟨v,e1,a,o,e2,e3,e4,e5⟩:=hs.2 i _ e
  exact ⟨v,e1,hw G H v (Step.refl hh.gh) ⟨a,i,o,e2,e3,e4,e5⟩⟩
 ·rename_i C e
  obtain ⟨v,e1,e2⟩:=hs.2 i _ e
  exact ⟨v,e1,hw G H v (Step.refl hh.gh) e2⟩
 ·exact hw.elim
def mC(d:D):En->Res Ev:=fun _=>.ok (.p d)
theorem jW{v:V}{d:D}(h:∀ G,Rep X.K G v d):∀ B G0 G W H σ en Q,SimH B G0 G W H->SimS X.K W G H σ en->wpR (mC d en) (PostE X.K W G H Q) (PostX (E σ) G H)->tC v σ H Q :=
 fun B G0 G W H σ en Q hh hs hw=>hw G H v (Step.refl hh.gh) (h G)
theorem aC{i j}:DE X E (.Constant (.int i) j pos) (mC (.int i)):=DE.in ⟨_,aSm,jW fun _=>.int i⟩
theorem w5{b j}:DE X E (.Constant (.bool b) j pos) (mC (.bool b)):=DE.in ⟨_,aSy,jW fun _=>.bl b⟩
theorem aQ0{j}:DE X E (.Constant .none j pos) (mC .none):=DE.in ⟨_,aQs,jW fun _=>.non⟩
theorem zQ{x j}:DE X E (.Constant (.str x) j pos) (mC (.str x)):=DE.in ⟨_,aSf,jW fun _=>.str x⟩
theorem aA3{x:Str}{i:Int}{t:Tok}(hg:Gl X x)(hm:X.mg x=some (.int i t))(hd:(x == ("__debug__" : Str))=false:=by decide):DE X E (.Name x pos) (mC (.int i)):=DE.in ⟨_,aOc (v:=.int i) hg hm ⟨t,rfl⟩ hd,jW fun _=>.int i⟩
variable {ga gb:En->Res Bool}{rest:List Expr}
def aC2(f g:En->Res Bool):En->Res Bool:=fun en=>(f en).bind fun c=>if c=true then g en else .ok false
def mOr(f g:En->Res Bool):En->Res Bool:=fun en=>(f en).bind fun c=>if c=true then .ok true else g en
def oO(f:En->Res Bool):En->Res Bool:=fun en=>(f en).bind fun c=>.ok (!c)
theorem aGf(ha:DT X E a ga):DW X E (.BoolOp .And [a] pos) ga:=let ⟨t,p,m⟩:=ha.out;DW.in ⟨t,aNj p,m⟩
theorem tH(ha:DT X E a ga):DW X E (.BoolOp .Or [a] pos) ga:=let ⟨t,p,m⟩:=ha.out;DW.in ⟨t,aP5 p,m⟩
theorem aLe(ha:DT X E a ga)(hb:DW X E (.BoolOp .And (b :: rest) pos) gb):DW X E (.BoolOp .And (a :: b :: rest) pos) (aC2 ga gb):=by
 obtain ⟨ta,pa,ma⟩:=ha.out
 obtain ⟨tb,pb,mb⟩:=hb.out
 refine DW.in ?_
 refine ⟨_,aQy pa pb,fun B G0 G W H σ en Q hh hs hw=>ma B G0 G W H σ en _ hh hs ?_⟩
 have hw:wpR ((ga en).bind _) _ _:=hw
 rw [cK] at hw
 refine bT hw (fun c hc G1 H1 s=>?_) fun C h=>h
 cases c with
 | true=>exact mb B G0 G1 W H1 σ en Q (hh.step s) (hs.step s) (bT hc (fun _ h=>h.step s) fun _ h=>h.step s)
 | false=>exact hc G1 H1 s
theorem yA(ha:DT X E a ga)(hb:DW X E (.BoolOp .Or (b :: rest) pos) gb):DW X E (.BoolOp .Or (a :: b :: rest) pos) (mOr ga gb):=by
 obtain ⟨ta,pa,ma⟩:=ha.out
 obtain ⟨tb,pb,mb⟩:=hb.out
 refine DW.in ?_
 refine ⟨_,aTa pa pb,fun B G0 G W H σ en Q hh hs hw=>ma B G0 G W H σ en _ hh hs ?_⟩
 have hw:wpR ((ga en).bind _) _ _:=hw
 rw [cK] at hw
 refine bT hw (fun c hc G1 H1 s=>?_) fun C h=>h
 cases c with
 | false=>exact mb B G0 G1 W H1 σ en Q (hh.step s) (hs.step s) (bT hc (fun _ h=>h.step s) fun _ h=>h.step s)
 | true=>exact hc G1 H1 s
theorem qO(ha:DT X E a ga):DT X E (.UnaryOp .Not a pos) (oO ga):=by
 obtain ⟨ta,pa,ma⟩:=ha.out
 refine DT.in ?_
 refine ⟨_,aPl pa,fun B G0 G W H σ en Q hh hs hw=>ma B G0 G W H σ en _ hh hs ?_⟩
 have hw:wpR ((ga en).bind _) _ _:=hw
 rw [cK] at hw
 exact bT hw (fun c hc=>hc) fun C h=>h
def uZ(f g:En->Res Ev):En->Res Ev:=fun en=>(f en).bind fun c=>match c with
 | .p (.bool true)=>g en
 | .p (.bool false)=>.ok (.p (.bool false))
 | _=>.bad
def aJv(f g:En->Res Ev):En->Res Ev:=fun en=>(f en).bind fun c=>match c with
 | .p (.bool false)=>g en
 | .p (.bool true)=>.ok (.p (.bool true))
 | _=>.bad
def vA(f:En->Res Ev):En->Res Ev:=fun en=>(f en).bind fun c=>match c with
 | .p (.bool k)=>.ok (.p (.bool (!k)))
 | _=>.bad
theorem aKq{op}(h:DE X E a fa):DE X E (.BoolOp op [a] pos) fa:=let ⟨t,p,m⟩:=h.out;DE.in ⟨t,aPn p,m⟩
theorem aRh(ha:DE X E a fa)(hb:DE X E (.BoolOp .And (b :: rest) pos) fb):DE X E (.BoolOp .And (a :: b :: rest) pos) (uZ fa fb):=by
 obtain ⟨ta,pa,ma⟩:=ha.out
 obtain ⟨tb,pb,mb⟩:=hb.out
 refine DE.in ?_
 refine ⟨_,aRy pa pb,fun B G0 G W H σ en Q hh hs hw=>ma B G0 G W H σ en _ hh hs (DE.go hw fun x G1 H1 v s1 e1 h1=>?_)⟩
 cases x with
 | p d =>
  cases d with
  | bool k =>
   cases e1
   cases k with
   | true=>exact ⟨true,rfl,mb B G0 G1 W H1 σ en Q (hh.step s1) (hs.step s1) h1⟩
   | false=>exact ⟨false,rfl,h1 G1 H1 _ (Step.refl s1.gh) (.bl false)⟩
  | _=>exact False.elim h1
 | _=>exact False.elim h1
theorem aTc(ha:DE X E a fa)(hb:DE X E (.BoolOp .Or (b :: rest) pos) fb):DE X E (.BoolOp .Or (a :: b :: rest) pos) (aJv fa fb):=by
 obtain ⟨ta,pa,ma⟩:=ha.out
 obtain ⟨tb,pb,mb⟩:=hb.out
 refine DE.in ?_
 refine ⟨_,aTn pa pb,fun B G0 G W H σ en Q hh hs hw=>ma B G0 G W H σ en _ hh hs (DE.go hw fun x G1 H1 v s1 e1 h1=>?_)⟩
 cases x with
 | p d =>
  cases d with
  | bool k =>
   cases e1
   cases k with
   | false=>exact ⟨false,rfl,mb B G0 G1 W H1 σ en Q (hh.step s1) (hs.step s1) h1⟩
   | true=>exact ⟨true,rfl,h1 G1 H1 _ (Step.refl s1.gh) (.bl true)⟩
  | _=>exact False.elim h1
 | _=>exact False.elim h1
theorem aSh(ha:DE X E a fa):DE X E (.UnaryOp .Not a pos) (vA fa):=by
 obtain ⟨ta,pa,ma⟩:=ha.out
 refine DE.in ?_
 refine ⟨_,aR3 pa,fun B G0 G W H σ en Q hh hs hw=>ma B G0 G W H σ en _ hh hs (DE.go hw fun x G1 H1 v s1 e1 h1=>?_)⟩
 cases x with
 | p d =>
  cases d with
  | bool k =>
   cases e1
   exact ⟨k,rfl,h1 G1 H1 _ (Step.refl s1.gh) (.bl _)⟩
  | _=>exact False.elim h1
 | _=>exact False.elim h1
def aM:En->Res (List Ev):=fun _=>.ok []
def aB(f:En->Res Ev)(g:En->Res (List Ev)):En->Res (List Ev):=fun en=>(f en).bind fun x=>(g en).bind fun xs=>.ok (x.c :: xs)
theorem aI:DA X E [] aM:=DA.in ⟨_,sX,fun B G0 G W H σ en Q hh hs hw=>hw G H [] (Step.refl hh.gh) trivial⟩
theorem EOk.cc{K:aV9}{W:Addr->Option Nat}{Hs Hs' G H:Hp}{v:V}{r:Ev}(h:EOk K W Hs G H v r.c):EOk K W Hs' G H v r.c:=by
 cases r<;>exact h
theorem aA(ha:DE X E e fa)(hr:DA X E es fr)(hst:starEach (e :: es) X.env=(false,eval e X.env) :: starEach es X.env:=by rfl):DA X E (e :: es) (aB fa fr):=by
 obtain ⟨ta,pa,ma⟩:=ha.out
 obtain ⟨tr,pr,mr⟩:=hr.out
 refine DA.in ?_
 refine ⟨_,l9 pa pr hst,fun B G0 G W H σ en Q hh hs hw=>ma B G0 G W H σ en _ hh hs ?_⟩
 have hw:wpR ((fa en).bind _) _ _:=hw
 rw [cK] at hw
 refine bT hw (fun x hx G1 H1 v s e1=>?_) fun C h=>h
 obtain ⟨G2,s2,e2⟩:=e1.c s
 refine mr B G0 G2 W H1 σ en _ (hh.step s2) (hs.step s2) ?_
 rw [cK] at hx
 refine bT hx (fun xs hxs G3 H3 vs s3 e3=>?_) fun C h=>h.step s2
 refine hxs G3 H3 (v :: vs) (s2.trans s3) ⟨e2.step s3,?_⟩
 clear hxs hx hw
 induction xs generalizing vs with
 | nil=>cases vs<;>exact e3
 | cons y ys ih =>
  cases vs with
  | nil=>exact e3
  | cons u us =>
   refine ⟨?_,ih us e3.2⟩
   have z:=e3.1
   cases y with
   | p d=>exact z
   | b d=>exact z
   | x d=>exact z
   | f d =>
    obtain ⟨a,o,h1,h2,h3⟩:=z
    exact ⟨a,o,h1,s2.h.free h2,h3⟩
end
inductive Out where
 | nx (en:En)
 | rt (l:L)
 | bk (en:En)
 | ct (en:En)
 | ex (C:Addr) (en:En)
abbrev MS:=En->Option Out
def aO1(K:aV9)(B G H:Hp)(v:V):L->Prop
 | .p d=>Rep K G v d
 | .o d=>∃ a o,v=.ref a/\G a=none/\B a=none/\H a=some o/\Cont K G o d
 | .x C=>∃ e,v=.ref e/\G e=some (aPg e (.ref C))
 | .h _=>False
def PostS(K:aV9)(B G0:Hp)(E:L2.St->XK)(Dn:Ends):Out->Prop
 | .nx en=>∀ G W H σ,SimH B G0 G W H->SimS K W G H σ en->Dn.nx σ H
 | .bk en=>∀ G W H σ,SimH B G0 G W H->SimS K W G H σ en->Dn.bk σ H
 | .ct en=>∀ G W H σ,SimH B G0 G W H->SimS K W G H σ en->Dn.ct σ H
 | .rt l=>∀ G W H v,SimH B G0 G W H->aO1 K B G H v l->Dn.rt v H
 | .ex C en=>∀ G W H σ,SimH B G0 G W H->SimS K W G H σ en->E σ (.ref C) none H
def wpO(o:Option Out)(P:Out->Prop):Prop:=match o with
 | some r=>P r
 | none=>False
def tS(K:aV9)(E:L2.St->XK)(f:MS):TS:=fun Dn σ H=>∃ B G0 G W en,SimH B G0 G W H/\SimS K W G H σ en/\wpO (f en) (PostS K B G0 E Dn)
def DS(X:Cx)(E:L2.St->XK)(st:Stmt)(f:MS):Prop:=PS X st (tS X.K E f)
def DSs(X:Cx)(E:L2.St->XK)(st:List Stmt)(f:MS):Prop:=PSs X st (tS X.K E f)
section
variable {X:Cx}{E:L2.St->XK}{st:Stmt}{sts:List Stmt}{f g:MS}{fe:En->Res Ev}{fc:En->Res Bool}{e c:Expr}{pos:Pos}
theorem DS.in(h:∃ t,PS X st t/\∀ B G0 G W H σ en Dn,SimH B G0 G W H->SimS X.K W G H σ en->wpO (f en) (PostS X.K B G0 E Dn)->t Dn σ H):DS X E st f :=
 fun pins s σ H Dn I ⟨B,G0,G,W,en,h1,h2,h3⟩=>let ⟨_,p,m⟩:=h;p pins s σ H Dn I (m B G0 G W H σ en Dn h1 h2 h3)
theorem DSs.in(h:∃ t,PSs X sts t/\∀ B G0 G W H σ en Dn,SimH B G0 G W H->SimS X.K W G H σ en->wpO (f en) (PostS X.K B G0 E Dn)->t Dn σ H):DSs X E sts f :=
 fun pins s σ H Dn I ⟨B,G0,G,W,en,h1,h2,h3⟩=>let ⟨_,p,m⟩:=h;p pins s σ H Dn I (m B G0 G W H σ en Dn h1 h2 h3)
theorem DS.out(h:DS X E st f):∃ t,PS X st t/\∀ B G0 G W H σ en Dn,SimH B G0 G W H->SimS X.K W G H σ en->wpO (f en) (PostS X.K B G0 E Dn)->t Dn σ H :=
 ⟨_,h,fun B G0 G W H σ en Dn h1 h2 h3=>⟨B,G0,G,W,en,h1,h2,h3⟩⟩
theorem DSs.out(h:DSs X E sts f):∃ t,PSs X sts t/\∀ B G0 G W H σ en Dn,SimH B G0 G W H->SimS X.K W G H σ en->wpO (f en) (PostS X.K B G0 E Dn)->t Dn σ H :=
 ⟨_,h,fun B G0 G W H σ en Dn h1 h2 h3=>⟨B,G0,G,W,en,h1,h2,h3⟩⟩
def cO:MS:=fun en=>some (.nx en)
def bH(f g:MS):MS:=fun en=>match f en with
 | some (.nx e)=>g e
 | r=>r
theorem cA:DSs X E [] cO:=DSs.in ⟨_,aO5,fun B G0 G W H σ en Dn hh hs hw=>hw G W H σ hh hs⟩
theorem aN(h:DS X E st f):DSs X E [st] f:=let ⟨t,p,m⟩:=h.out;DSs.in ⟨t,aOt p,m⟩
theorem aG(h1:DS X E st f)(h2:DSs X E sts g):DSs X E (st :: sts) (bH f g):=by
 obtain ⟨t,p,m⟩:=h1.out
 obtain ⟨u,q,n⟩:=h2.out
 refine DSs.in ⟨_,aJl p q,fun B G0 G W H σ en Dn hh hs hw=>m B G0 G W H σ en _ hh hs ?_⟩
 unfold bH at hw
 cases ef:f en with
 | none=>rw [ef] at hw;exact hw
 | some r =>
  rw [ef] at hw
  cases r with
  | nx e=>exact fun G1 W1 H1 σ1 hh1 hs1=>n B G0 G1 W1 H1 σ1 e Dn hh1 hs1 hw
  | rt l=>exact hw
  | bk e=>exact hw
  | ct e=>exact hw
  | ex C e=>exact hw
theorem SimS.set{K:aV9}{W:Addr->Option Nat}{G H:Hp}{σ:L2.St}{en:En}{i:Nat}{v:V}{l:L}(h:SimS K W G H σ en)(hl:Slot K W G H i v l):SimS K W G H (σ.set i (some v)) (en.set i (some l)):=by
 refine ⟨by rw [aZz,aZz];exact h.1,fun j m e=>?_⟩
 rw [bA1] at e
 rw [bA1]
 by_cases hj:i=j
 ·subst hj
  rw [aWm rfl] at e
  split at e
  ·rename_i hlt
   cases e
   rw [aWm rfl,aWm (by rw [h.1];exact hlt)]
   exact ⟨v,rfl,hl⟩
  ·cases e
 ·rw [aWn hj] at e ⊢
  exact h.2 j m e
def owner(W:Addr->Option Nat)(a:Addr)(i:Nat):Addr->Option Nat:=fun b=>if b=a then some i else W b
theorem aJe{K:aV9}{B G0 G H:Hp}{W:Addr->Option Nat}{σ:L2.St}{en:En}{i:Nat}{a:Addr}{o:HO}{d:D}(hh:SimH B G0 G W H)(hs:SimS K W G H σ en)(hW:W a=none)(hG:G a=none)(hB:B a=none)(hH:H a=some o)(hc:Cont K G o d) :
  SimH B G0 G (owner W a i) H/\SimS K (owner W a i) G H (σ.set i (some (.ref a))) (en.set i (some (.o d))):=by
 refine ⟨⟨hh.gh,hh.bh,hh.g0,hh.gb,fun b j e=>?_⟩,SimS.set ⟨hs.1,fun j l e=>?_⟩ ⟨a,o,rfl,aWm rfl,hH,hc⟩⟩
 ·unfold owner at e
  split at e
  ·rename_i z
   subst z
   exact ⟨hG,hB,o,hH,hc.mut⟩
  ·exact hh.wf b j e
 ·obtain ⟨v,e1,e2⟩:=hs.2 j l e
  refine ⟨v,e1,?_⟩
  cases l with
  | p d=>exact e2
  | x C=>exact e2
  | h a=>exact e2
  | o d =>
   obtain ⟨b,ob,h1,h2,h3,h4⟩:=e2
   refine ⟨b,ob,h1,?_,h3,h4⟩
   unfold owner
   rw [aWn (fun z=>by rw [z,hW] at h2;cases h2)]
   exact h2
def cG(i:Nat)(fe:En->Res Ev):MS:=fun en=>match fe en with
 | .ok (.p d)=>some (.nx (en.set i (some (.p d))))
 | .ok (.f d)=>some (.nx (en.set i (some (.o d))))
 | .ok (.x C)=>some (.nx (en.set i (some (.x C))))
 | .ok (.b _)=>none
 | .exc C=>some (.ex C en)
 | .bad=>none
theorem SimH.lone{B G0 G H:Hp}{W:Addr->Option Nat}(hh:SimH B G0 G W H){a:Addr}(h:H a=none):W a=none:=by
 cases e:W a with
 | none=>rfl
 | some i =>
  obtain ⟨_,_,o,q,_⟩:=hh.wf a i e
  rw [h] at q;cases q
theorem aBe{te:TE}{i:Nat}(m:∀ B G0 G W H σ en Q,SimH B G0 G W H->SimS X.K W G H σ en->wpR (fe en) (PostE X.K W G H Q) (PostX (E σ) G H)->te σ H Q) :
  ∀ B G0 G W H σ en Dn,SimH B G0 G W H->SimS X.K W G H σ en->wpO (cG i fe en) (PostS X.K B G0 E Dn)->te σ H fun x H1=>Dn.nx (σ.set i (some x)) H1:=by
 intro B G0 G W H σ en Dn hh hs hw
 refine m B G0 G W H σ en _ hh hs ?_
 unfold cG at hw
 cases ef:fe en with
 | bad=>rw [ef] at hw;exact hw
 | exc C=>rw [ef] at hw;exact fun G1 H1 s=>hw G1 W H1 σ (hh.step s) (hs.step s)
 | ok r =>
  rw [ef] at hw
  cases r with
  | b d=>exact hw.elim
  | p d=>exact fun G1 H1 v s e=>hw G1 W H1 _ (hh.step s) ((hs.step s).set e)
  | x C=>exact fun G1 H1 v s e=>hw G1 W H1 _ (hh.step s) ((hs.step s).set e)
  | f d =>
   rintro G1 H1 v s ⟨a,o,rfl,h1,h2,h3,h4⟩
   obtain ⟨q1,q2⟩:=aJe (i:=i) (hh.step s) (hs.step s) (hh.lone h1) h2 (hh.bh.free h1) h3 h4
   exact hw G1 _ H1 _ q1 q2
theorem aV{i:Nat}{x:Str}{pos':Pos}(hN:X.N.Nodup)(hi:X.N[i]? = some x)(hx:Loc X.env.scope x)(he:DE X E e fe)(hs:swapsWith e (some (.Name x pos')) pos.line X.env=pure false:=by rfl)(hf:X.fn x=true\/X.env.scope.names.lookup x=some .local:=by first | exact .inl rfl | exact .inr rfl | assumption) :
  DS X E (.Assign [.Name x pos'] e pos) (cG i fe):=by
 obtain ⟨t,p,m⟩:=he.out
 exact DS.in ⟨_,aQ8 hN hi hx p hs hf,aBe m⟩
def aDs:Ev->L
 | .p d=>.p d
 | .f d=>.o d
 | .b d=>.o d
 | .x C=>.x C
def dS(fe:En->Res Ev):MS:=fun en=>match fe en with
 | .ok r=>some (.rt (aDs r))
 | .exc C=>some (.ex C en)
 | .bad=>none
theorem bC(he:DE X E e fe):DS X E (.Return (some e) pos) (dS fe):=by
 obtain ⟨t,p,m⟩:=he.out
 refine DS.in ⟨_,aSb p,fun B G0 G W H σ en Dn hh hs hw=>m B G0 G W H σ en _ hh hs ?_⟩
 unfold dS at hw
 cases ef:fe en with
 | bad=>rw [ef] at hw;exact hw
 | exc C=>rw [ef] at hw;exact fun G1 H1 s=>hw G1 W H1 σ (hh.step s) (hs.step s)
 | ok r =>
  rw [ef] at hw
  intro G1 H1 v s e
  refine hw G1 W H1 v (hh.step s) ?_
  cases r with
  | p d=>exact e
  | x C=>exact e
  | f d =>
   obtain ⟨a,o,h0,h1,h2,h3,h4⟩:=e
   exact ⟨a,o,h0,h2,hh.bh.free h1,h3,h4⟩
  | b d =>
   obtain ⟨a,i,o,h0,h1,h3,h4⟩:=e
   have z:=(hh.step s).wf a i h1
   exact ⟨a,o,h0,z.1,z.2.1,h3,h4⟩
def fM(c:En->Res Bool)(f g:MS):MS:=fun en=>match c en with
 | .ok k=>if k=true then f en else g en
 | .exc C=>some (.ex C en)
 | .bad=>none
theorem eX{A B:List Stmt}(hc:DT X E c fc)(ha:DSs X E A f)(hb:DSs X E B g):DS X E (.If c A B pos) (fM fc f g):=by
 obtain ⟨tc,pc,mc⟩:=hc.out
 obtain ⟨t,p,m⟩:=ha.out
 obtain ⟨u,q,n⟩:=hb.out
 refine DS.in ⟨_,aTv pc p q,fun B G0 G W H σ en Dn hh hs hw=>mc B G0 G W H σ en _ hh hs ?_⟩
 unfold fM at hw
 cases ef:fc en with
 | bad=>rw [ef] at hw;exact hw
 | exc C=>rw [ef] at hw;exact fun G1 H1 s=>hw G1 W H1 σ (hh.step s) (hs.step s)
 | ok k =>
  rw [ef] at hw
  intro G1 H1 s
  cases k with
  | true=>exact m B G0 G1 W H1 σ en Dn (hh.step s) (hs.step s) hw
  | false=>exact n B G0 G1 W H1 σ en Dn (hh.step s) (hs.step s) hw
def frz(i:Nat)(en:En):En:=match en[i]? with
 | some (some (.o d))=>en.set i (some (.p d))
 | _=>en
theorem aQv{K:aV9}{B G0 G H:Hp}{W:Addr->Option Nat}{σ:L2.St}{en:En}(i:Nat)(hh:SimH B G0 G W H)(hs:SimS K W G H σ en):∃ G' W',SimH B G0 G' W' H/\SimS K W' G' H σ (frz i en):=by
 unfold frz
 split
 ·rename_i d e
  obtain ⟨v,e1,a,o,rfl,e2,e3,e4⟩:=hs.2 i _ e
  obtain ⟨w1,w2,w3⟩:=hh.wf a i e2
  have sg:Same G (upd G a o):=Same.upd (Same.refl _) w1 o
  refine ⟨upd G a o,fun b=>if b=a then none else W b,⟨fun b u q=>?_,hh.bh,hh.g0.trans sg,fun b hb=>?_,fun b j e=>?_⟩,by rw [aZz];exact hs.1,fun j l e5=>?_⟩
  ·by_cases z:b=a
   ·subst z;rw [cJ] at q;rw [e3];exact q
   ·rw [bY z] at q;exact hh.gh b u q
  ·by_cases z:b=a
   ·subst z;exact .inr (.inl w2)
   ·rw [bY z] at hb;exact hh.gb b hb
  ·split at e
   ·cases e
   ·rename_i z
    rw [bY z];exact hh.wf b j e
  ·rw [bA1] at e5
   by_cases hj:i=j
   ·subst hj
    rw [aWm rfl] at e5
    split at e5
    ·cases e5
     exact ⟨_,e1,(e4.mono sg).rep cJ⟩
    ·cases e5
   ·rw [aWn hj] at e5
    obtain ⟨v,f1,f2⟩:=hs.2 j l e5
    refine ⟨v,f1,?_⟩
    cases l with
    | p d=>exact f2.mono sg
    | x C=>obtain ⟨ea,g1,g2⟩:=f2;exact ⟨ea,g1,sg _ _ g2⟩
    | h a=>exact f2
    | o d =>
     obtain ⟨b,ob,g1,g2,g3,g4⟩:=f2
     refine ⟨b,ob,g1,?_,g3,g4.mono sg⟩
     show (if b=a then none else W b)=some j
     rw [aWn (fun z=>by rw [z,e2] at g2;exact hj (aWx g2))]
     exact g2
 ·exact ⟨G,W,hh,hs⟩
theorem gC(i:Nat)(h:DSs X E sts f):DSs X E sts (fun en=>f (frz i en)):=by
 obtain ⟨t,p,m⟩:=h.out
 refine DSs.in ⟨t,p,fun B G0 G W H σ en Dn hh hs hw=>?_⟩
 obtain ⟨G',W',h1,h2⟩:=aQv i hh hs
 exact m B G0 G' W' H σ _ Dn h1 h2 hw
end
def mWh(c:En->Res Bool)(f:MS):Nat->MS
 | 0,_=>none
 | n+1,en=>match c en with
  | .bad=>none
  | .exc C=>some (.ex C en)
  | .ok false=>some (.nx en)
  | .ok true=>match f en with
   | some (.nx e)=>mWh c f n e
   | some (.ct e)=>mWh c f n e
   | some (.bk e)=>some (.nx e)
   | r=>r
theorem uK{c:En->Res Bool}{f:MS}:∀ {n:Nat} {en:En} {r:Out},mWh c f n en=some r->mWh c f (n+1) en=some r
 | 0,_,_,h=>by cases h
 | n+1,en,r,h=>by
  unfold mWh at h ⊢
  cases ec:c en with
  | bad=>rw [ec] at h;exact h
  | exc C=>rw [ec] at h;exact h
  | ok k =>
   rw [ec] at h
   cases k with
   | false=>exact h
   | true =>
    dsimp only at h ⊢
    cases ef:f en with
    | none=>rw [ef] at h;exact h
    | some o =>
     rw [ef] at h
     cases o with
     | nx e=>exact uK (n:=n) h
     | ct e=>exact uK (n:=n) h
     | bk e=>exact h
     | rt l=>exact h
     | ex C e=>exact h
theorem aLf{c:En->Res Bool}{f:MS}{n m:Nat}{en:En}{r:Out}(h:mWh c f n en=some r)(l:n<=m):mWh c f m en=some r:=by
 induction l with
 | refl=>exact h
 | step _ ih=>exact uK ih
open Classical in
noncomputable def mT(c:En->Res Bool)(f:MS):MS:=fun en=>if h:∃ n r,mWh c f n en=some r then mWh c f h.choose en else none
theorem qN{c:En->Res Bool}{f:MS}{n:Nat}{en:En}{r:Out}(h:mWh c f n en=some r):mT c f en=some r:=by
 unfold mT
 have hx:∃ n r,mWh c f n en=some r:=⟨n,r,h⟩
 rw [dif_pos hx]
 obtain ⟨r',h'⟩:=hx.choose_spec
 rcases Nat.le_total n hx.choose with l | l
 ·exact aLf h l
 ·have:=aLf h' l
  rw [h] at this
  rw [h'];exact this.symm
theorem zG{c:En->Res Bool}{f:MS}{en:En}{P:Out->Prop}(h:wpO (mT c f en) P):∃ n,wpO (mWh c f n en) P:=by
 unfold mT at h
 split at h
 ·exact ⟨_,h⟩
 ·exact h.elim
section
variable {X:Cx}{E:L2.St->XK}{st:Stmt}{sts:List Stmt}{f g:MS}{fe:En->Res Ev}{fc:En->Res Bool}{e c:Expr}{pos:Pos}
theorem pJ(hp:PassesOwn (model X.prog X.w) X.A X.env X.xe)(hc:DT X E c fc)(hb:DSs X E sts f):DS X E (.While c sts [] pos) (mT fc f):=by
 obtain ⟨tc,pc,mc⟩:=hc.out
 obtain ⟨t,p,m⟩:=hb.out
 refine DS.in ⟨_,aIj hp pc p,fun B G0 G W H σ en Dn hh hs hw=>?_⟩
 obtain ⟨n0,hw⟩:=zG hw
 refine ⟨fun n σ H=>∃ G W en,SimH B G0 G W H/\SimS X.K W G H σ en/\wpO (mWh fc f n en) (PostS X.K B G0 E Dn),⟨n0,G,W,en,hh,hs,hw⟩,?_⟩
 rintro n σ H ⟨G,W,en,hh,hs,hw⟩
 cases n with
 | zero=>exact hw.elim
 | succ n =>
  refine mc B G0 G W H σ en _ hh hs ?_
  unfold mWh at hw
  cases ec:fc en with
  | bad=>rw [ec] at hw;exact hw
  | exc C=>rw [ec] at hw;exact fun G1 H1 s=>hw G1 W H1 σ (hh.step s) (hs.step s)
  | ok k =>
   rw [ec] at hw
   intro G1 H1 s
   cases k with
   | false=>exact hw G1 W H1 σ (hh.step s) (hs.step s)
   | true =>
    refine ⟨fun σ' H'=>∃ G W en,SimH B G0 G W H'/\SimS X.K W G H' σ' en/\wpO (mWh fc f n en) (PostS X.K B G0 E Dn),fun σ' H' q=>⟨n,bBe n,q⟩,?_⟩
    refine m B G0 G1 W H1 σ en _ (hh.step s) (hs.step s) ?_
    dsimp only at hw
    cases ef:f en with
    | none=>rw [ef] at hw;exact hw
    | some o =>
     rw [ef] at hw
     cases o with
     | nx e=>exact fun G2 W2 H2 σ2 h2 s2=>⟨G2,W2,e,h2,s2,hw⟩
     | ct e=>exact fun G2 W2 H2 σ2 h2 s2=>⟨G2,W2,e,h2,s2,hw⟩
     | bk e=>exact hw
     | rt l=>exact hw
     | ex C e=>exact hw
end
def aB3(K:aV9)(ds:List D)(G1:Hp)(J:It):Prop:=∀ G H,Same G1 G->Same G H ->
 (∀ i d,ds[i]? = some d->J.go i H/\∀ v H',J.yld i H v H'->∃ G',Step G H G' H'/\Rep K G' v d)/\J.stop ds.length H
def tI(K:aV9)(E:L2.St->XK)(f:En->Res (List D)):TI:=fun σ H R=>∃ B G0 G W en,SimH B G0 G W H/\SimS K W G H σ en/\wpR (f en) (fun ds=>∀ G' H' J,Step G H G' H'->aB3 K ds G' J->R J H') (PostX (E σ) G H)
def DI(X:Cx)(E:L2.St->XK)(tg e:Expr)(f:En->Res (List D)):Prop:=PI X tg e (tI X.K E f)
def Kept(ks:List Nat)(σ σ':L2.St):Prop:=σ'.length=σ.length/\∀ j,j∉ks->σ'[j]? = σ[j]?
def tG(K:aV9)(ks:List Nat)(f:D->En->Option En):TG:=fun v σ H Q=>∃ G W en d en',Same G H/\SimS K W G H σ en/\Rep K G v d/\f d en=some en'/\∀ σ',SimS K W G H σ' en'->Kept ks σ σ'->Q σ' H
def tGs(K:aV9)(ks:List Nat)(f:List D->En->Option En):TGs:=fun vs σ H Q=>∃ G W en ds en',Same G H/\SimS K W G H σ en/\Reps K G vs ds/\f ds en=some en'/\∀ σ',SimS K W G H σ' en'->Kept ks σ σ'->Q σ' H
def DG(X:Cx)(tg:Expr)(ks:List Nat)(f:D->En->Option En):Prop:=PG X tg (tG X.K ks f)
def DGs(X:Cx)(tg:List Expr)(ks:List Nat)(f:List D->En->Option En):Prop:=PGs X tg (tGs X.K ks f)
theorem Kept.trans{ks ls:List Nat}{σ σ1 σ2:L2.St}(a:Kept ks σ σ1)(b:Kept ls σ1 σ2):Kept (ks++ls) σ σ2 :=
 ⟨b.1.trans a.1,fun j hj=>(b.2 j fun z=>hj (aW1 _ z)).trans (a.2 j fun z=>hj (bAc _ z))⟩
def aR(i:Nat):D->En->Option En:=fun d en=>some (en.set i (some (.p d)))
def nW:List D->En->Option En:=fun ds en=>match ds with
 | []=>some en
 | _=>none
def fF(f:D->En->Option En)(g:List D->En->Option En):List D->En->Option En:=fun ds en=>match ds with
 | []=>none
 | d :: r=>match f d en with
  | none=>none
  | some e=>g r e
def nY(n:Nat)(f:List D->En->Option En):D->En->Option En:=fun d en=>match d with
 | .tuple ds=>if ds.length=n then f ds en else none
 | _=>none
section
variable {X:Cx}{E:L2.St->XK}{pos:Pos}
theorem DI.in{tg e:Expr}{f:En->Res (List D)}(h:∃ t,PI X tg e t/\∀ B G0 G W H σ en R,SimH B G0 G W H->SimS X.K W G H σ en->wpR (f en) (fun ds=>∀ G' H' J,Step G H G' H'->aB3 X.K ds G' J->R J H') (PostX (E σ) G H)->t σ H R):DI X E tg e f :=
 fun pins s σ H R I ⟨B,G0,G,W,en,h1,h2,h3⟩=>let ⟨_,p,m⟩:=h;p pins s σ H R I (m B G0 G W H σ en R h1 h2 h3)
theorem bV{i:Nat}{x:Str}(hN:X.N.Nodup)(hi:X.N[i]? = some x)(hx:Loc X.env.scope x)(hf:X.fn x=true\/X.env.scope.names.lookup x=some .local:=by first | exact .inl rfl | exact .inr rfl | assumption):DG X (.Name x pos) [i] (aR i):=by
 intro pins s σ H v u Q I r ⟨G,W,en,d,en',h1,h2,h3,h4,h5⟩
 refine aDh hN hi hx hf pins s σ H v u Q I r ?_
 cases h4
 exact h5 _ (h2.set h3) ⟨aZz ..,fun j hj=>bBi (fun z=>hj (by rw [z];exact .head _))⟩
theorem u5:DGs X [] [] nW:=by
 intro pins s σ H vs us Q I r ⟨G,W,en,ds,en',h1,h2,h3,h4,h5⟩
 refine aO0 pins s σ H vs us Q I r ?_
 unfold nW at h4
 split at h4
 ·cases h4;cases h3;exact ⟨rfl,h5 _ h2 ⟨rfl,fun _ _=>rfl⟩⟩
 ·cases h4
theorem jG{e:Expr}{es:List Expr}{ks ls:List Nat}{f:D->En->Option En}{g:List D->En->Option En}(h1:DG X e ks f)(h2:DGs X es ls g)
  (hs:(assignEach (e :: es) X.env).map (·.2)=assign e X.env :: (assignEach es X.env).map (·.2):=by rfl):DGs X (e :: es) (ks++ls) (fF f g):=by
 intro pins s σ H vs us Q I r ⟨G,W,en,ds,en',k1,k2,k3,k4,k5⟩
 refine aJn h1 h2 hs pins s σ H vs us Q I r ?_
 unfold fF at k4
 cases k3 with
 | nil=>cases k4
 | @cons x xs d ds hx hr =>
  dsimp only at k4
  split at k4
  ·cases k4
  ·rename_i e1 q1
   exact ⟨x,xs,rfl,G,W,en,d,e1,k1,k2,hx,q1,fun σ' hσ hk=>⟨G,W,e1,ds,en',k1,hσ,hr,k4,fun σ2 q1 q2=>k5 σ2 q1 (hk.trans q2)⟩⟩
theorem aAp{es:List Expr}{k:Nat}{ks:List Nat}{f:List D->En->Option En}{n:Nat}(hc:X.calm=true)(h:DGs X es ks f)(hn:(assignEach es X.env).length=n:=by rfl)(hst:(assignEach es X.env).findIdx? (·.1)=none:=by rfl):DG X (.Tuple es k pos) ks (nY n f):=by
 intro pins s σ H v u Q I r ⟨G,W,en,d,en',k1,k2,k3,k4,k5⟩
 refine aPw hc h hn hst pins s σ H v u Q I r ?_
 unfold nY at k4
 split at k4
 ·rename_i ds
  split at k4
  ·rename_i hl
   cases k3 with
   | @tup a xs _ ha hr=>exact ⟨a,xs,rfl,SqT.of (k1 _ _ ha),by rw [hr.length];exact hl,G,W,en,ds,en',k1,k2,hr,k4,k5⟩
  ·cases k4
 ·cases k4
def aNt(g:D->En->Option En)(fe:En->Res Ev):MS:=fun en=>match fe en with
 | .ok r=>match r.c with
  | .p d=>match g d en with
   | some e=>some (.nx e)
   | none=>none
  | _=>none
 | .exc C=>some (.ex C en)
 | .bad=>none
theorem aLj{tg e:Expr}{ks:List Nat}{g:D->En->Option En}{fe:En->Res Ev}(he:DE X E e fe)(hg:DG X tg ks g)(hs:swapsWithSole [tg] e pos.line X.env=pure false:=by rfl)(hw:swappedStores [tg] e X.env=pure none:=by rfl)
  (h1:(assignEach [tg] X.env).map (·.2)=[assign tg X.env]:=by rfl):DS X E (.Assign [tg] e pos) (aNt g fe):=by
 obtain ⟨t,p,m⟩:=he.out
 refine DS.in ⟨_,aLx p hg hs hw h1,fun B G0 G W H σ en Dn hh hs hw=>m B G0 G W H σ en _ hh hs ?_⟩
 unfold aNt at hw
 cases ef:fe en with
 | bad=>rw [ef] at hw;exact hw
 | exc C=>rw [ef] at hw;exact fun G1 H1 s=>hw G1 W H1 σ (hh.step s) (hs.step s)
 | ok r =>
  rw [ef] at hw
  intro G1 H1 v s e
  obtain ⟨G2,s2,e2⟩:=e.c s
  dsimp only at hw
  cases er:r.c with
  | p d =>
   rw [er] at hw e2
   dsimp only at hw
   cases eg:g d en with
   | none=>rw [eg] at hw;exact hw.elim
   | some e' =>
    rw [eg] at hw
    exact ⟨G2,W,en,d,e',s2.gh,hs.step s2,e2,eg,fun σ' hσ _=>hw G2 W H1 σ' (hh.step s2) hσ⟩
  | f d=>rw [er] at hw;exact hw.elim
  | b d=>rw [er] at hw;exact hw.elim
  | x C=>rw [er] at hw;exact hw.elim
def gO(tg:D->En->Option En)(f:MS):List D->MS
 | [],en=>some (.nx en)
 | d :: ds,en=>match tg d en with
  | none=>none
  | some e1=>match f e1 with
   | some (.nx e2)=>gO tg f ds e2
   | some (.ct e2)=>gO tg f ds e2
   | some (.bk e2)=>some (.nx e2)
   | r=>r
def xH(fi:En->Res (List D))(tg:D->En->Option En)(f:MS):MS:=fun en=>match fi en with
 | .ok ds=>gO tg f ds en
 | .exc C=>some (.ex C en)
 | .bad=>none
theorem SimH.lower{B G0 G1 G H H1:Hp}{W W1:Addr->Option Nat}(h:SimH B G1 G W H)(h1:SimH B G0 G1 W1 H1):SimH B G0 G W H :=
 ⟨h.gh,h.bh,h1.g0.trans h.g0,fun b hb=>(h.gb b hb).elim (fun z=>h1.gb b z) .inr,h.wf⟩
theorem SimH.raise{B G0 G H:Hp}{W:Addr->Option Nat}(h:SimH B G0 G W H):SimH B G G W H:=⟨h.gh,h.bh,Same.refl _,fun _ hb=>.inl hb,h.wf⟩
theorem PostS.lower{K:aV9}{B G0 G1 H1:Hp}{W1:Addr->Option Nat}{Dn:Ends}{r:Out}(h:PostS K B G0 E Dn r)(h1:SimH B G0 G1 W1 H1):PostS K B G1 E Dn r:=by
 cases r with
 | nx en=>exact fun G W H σ a b=>h G W H σ (a.lower h1) b
 | bk en=>exact fun G W H σ a b=>h G W H σ (a.lower h1) b
 | ct en=>exact fun G W H σ a b=>h G W H σ (a.lower h1) b
 | rt l=>exact fun G W H σ a b=>h G W H σ (a.lower h1) b
 | ex C en=>exact fun G W H σ a b=>h G W H σ (a.lower h1) b
theorem lD{tg iter:Expr}{body:List Stmt}{fi:En->Res (List D)}{ks:List Nat}{g:D->En->Option En}{f:MS}(hp:PassesOwn (model X.prog X.w) X.A X.env X.xe)(hc:X.calm=true)(hi:DI X E tg iter fi)(hg:DG X tg ks g)(hb:DSs X E body f)
  (hs:∀ x,foldedSetIterable iter X.env x=pure x:=by intro _;rfl):DS X E (.For tg iter body [] pos) (xH fi g f):=by
 obtain ⟨t,p,m⟩:=hb.out
 refine DS.in ⟨_,aRt hp hc hi hg p hs,fun B G0 G W H σ en Dn hh hs hw=>⟨B,G0,G,W,en,hh,hs,?_⟩⟩
 unfold xH at hw
 cases ef:fi en with
 | bad=>rw [ef] at hw;exact hw
 | exc C=>rw [ef] at hw;exact fun G1 H1 s=>hw G1 W H1 σ (hh.step s) (hs.step s)
 | ok ds =>
  rw [ef] at hw
  intro G1 H1 J s1 hJ
  have hh1:=hh.step s1
  refine ⟨fun i n σ H=>n=ds.length - i/\i<=ds.length/\∃ G W en,SimH B G1 G W H/\SimS X.K W G H σ en/\wpO (gO g f (ds.drop i) en) (PostS X.K B G0 E Dn),
   ⟨ds.length,rfl,aXo _,G1,W,en,hh1.raise,hs.step s1,hw⟩,?_⟩
  rintro i n σ H ⟨rfl,hi,G,W,en,hh,hs,hw⟩
  obtain ⟨j1,j2⟩:=hJ G H hh.g0 hh.gh
  by_cases hlt:i < ds.length
  ·refine .inr ?_
   obtain ⟨jg,jy⟩:=j1 i ds[i] (aWd hlt)
   rw [bB4 hlt] at hw
   unfold gO at hw
   refine ⟨jg,fun σ' H'=>∃ G W en,SimH B G1 G W H'/\SimS X.K W G H' σ' en/\wpO (gO g f (ds.drop (i+1)) en) (PostS X.K B G0 E Dn),fun σ' H' q=>⟨ds.length - (i+1),by omega,rfl,hlt,q⟩,fun v H' hy=>?_⟩
   obtain ⟨G2,s2,rv⟩:=jy v H' hy
   cases eg:g ds[i] en with
   | none=>rw [eg] at hw;exact hw.elim
   | some e1 =>
    rw [eg] at hw
    dsimp only at hw
    refine ⟨G2,W,en,ds[i],e1,s2.gh,hs.step s2,rv,eg,fun σ' hσ _=>?_⟩
    refine m B G1 G2 W H' σ' e1 _ (hh.step s2) hσ ?_
    cases ef2:f e1 with
    | none=>rw [ef2] at hw;exact hw
    | some o =>
     rw [ef2] at hw
     cases o with
     | nx e=>exact fun G2 W2 H2 σ2 h2 s2=>⟨G2,W2,e,h2,s2,hw⟩
     | ct e=>exact fun G2 W2 H2 σ2 h2 s2=>⟨G2,W2,e,h2,s2,hw⟩
     | bk e=>exact PostS.lower (E:=E) (Dn:=Dn) (r:=.nx e) hw hh1
     | rt l=>exact PostS.lower (E:=E) (Dn:=Dn) (r:=.rt l) hw hh1
     | ex C e=>exact PostS.lower (E:=E) (Dn:=Dn) (r:=.ex C e) hw hh1
  ·have e:i=ds.length:=by omega
   subst e
   rw [List.drop_length] at hw
   exact .inl ⟨j2,hw G W H σ (hh.lower hh1) hs⟩
def aG7(r:Ev):Res (List D):=match r with
 | .p (.list ds)=>.ok ds
 | _=>.bad
def gH(fe:En->Res Ev):En->Res (List D):=fun en=>(fe en).bind fun r=>aG7 r.c
theorem dC{tg e:Expr}{fe:En->Res Ev}(he:DE X E e fe):DI X E tg e (gH fe):=by
 obtain ⟨t,p,m⟩:=he.out
 refine DI.in ⟨_,aO7 p,fun B G0 G W H σ en R hh hs hw=>m B G0 G W H σ en _ hh hs ?_⟩
 have hw:wpR ((fe en).bind _) _ _:=hw
 rw [cK] at hw
 refine bT hw (fun r hr G1 H1 v s e=>?_) fun C h=>h
 obtain ⟨G2,s2,e2⟩:=e.c s
 cases er:r.c with
 | p d =>
  rw [er] at hr e2
  cases d with
  | list ds =>
   cases e2 with
   | @lst a xs _ ha hrs =>
    refine ⟨a,rfl,⟨xs,s2.gh.seq (.inl ha)⟩,hr G2 H1 _ s2 fun G3 H3 k1 k2=>⟨fun i d ed=>?_,xs,(k1.trans k2).seq (.inl ha),bA6 hrs.length⟩⟩
    obtain ⟨x,ex,rx⟩:=hrs.get' ed
    refine ⟨⟨xs,x,(k1.trans k2).seq (.inl ha),ex⟩,fun v H' hy=>?_⟩
    obtain ⟨rfl,hy⟩:=hy
    have:=hy xs ((k1.trans k2).seq (.inl ha))
    rw [ex] at this
    cases this
    exact ⟨G3,Step.refl k2,rx.mono k1⟩
  | _=>exact False.elim hr
 | f d=>rw [er] at hr;exact False.elim hr
 | b d=>rw [er] at hr;exact False.elim hr
 | x C=>rw [er] at hr;exact False.elim hr
def vY(lo:Int)(n:Nat):List D:=(List.range n).map fun (k:Nat)=>PyData.int (lo+(k:Int))
def sA(rs:List Ev):Res (List D):=match rs with
 | [.p (.int j)]=>if -(2 ^ 62)<=j/\j < 2 ^ 62 then .ok (vY 0 j.toNat) else .bad
 | _=>.bad
theorem aCm(K:aV9)(lo:Int)(n:Nat)(G1:Hp):aB3 K (vY lo n) G1 (Itr lo n):=fun G H _ k2=>by
 refine ⟨fun i d ed=>?_,by show n<=_;unfold vY;rw [aWb,aXp];exact aWl _⟩
 unfold vY at ed
 rw [aWu] at ed
 by_cases hi:i < n
 ·rw [aZb hi] at ed
  cases ed
  refine ⟨hi,fun v H' hy=>?_⟩
  obtain ⟨rfl,rfl⟩:=hy
  exact ⟨G,Step.refl k2,.int _⟩
 ·rw [aW9 (by rw [aXp];omega)] at ed
  cases ed
def tF(r:List Ev->Res (List D))(fr:En->Res (List Ev)):En->Res (List D):=fun en=>(fr en).bind r
theorem xF{tg a:Expr}{fr:En->Res (List Ev)}{p:Pos}(hg:Gl X "range")(hm:X.mg "range" = none)(ha:DA X E [a] fr)(hs:starEach [a] X.env=[(false,eval a X.env)]:=by rfl):DI X E tg (.Call (.Name "range" p) [a] [] pos) (tF sA fr):=by
 obtain ⟨t,q,m⟩:=ha.out
 refine DI.in ⟨_,aGb hg hm q hs,fun B G0 G W H σ en R hh hs hw=>m B G0 G W H σ en _ hh hs ?_⟩
 have hw:wpR ((fr en).bind _) _ _:=hw
 rw [cK] at hw
 refine bT hw (fun rs hr G1 H1 vs s e=>?_) fun C h=>h
 unfold sA at hr
 split at hr
 ·rename_i j
  split at hr
  ·rename_i hj
   match vs,e with
   | [v],⟨e1,_⟩ =>
    cases e1
    exact ⟨j,rfl,hj.1,hj.2,hr G1 H1 _ s (aCm _ _ _ _)⟩
  ·exact False.elim hr
 ·exact False.elim hr
end
def lB:Ev->Option L
 | .p d=>some (.p d)
 | .x C=>some (.x C)
 | .b _=>none
 | .f _=>none
def aA2:Ev->Option L
 | .p d=>some (.p d)
 | .b d=>some (.p d)
 | .x _=>none
 | .f _=>none
def dY(g:Ev->Option L):List Ev->Option (List L)
 | []=>some []
 | r :: rs=>match g r with
  | none=>none
  | some l=>match dY g rs with
   | none=>none
   | some ls=>some (l :: ls)
def lS:L->Ev
 | .p d=>.p d
 | .o d=>.f d
 | .x C=>.x C
 | .h a=>.x a
mutual
def lfD:D->Bool
 | .list _=>false
 | .dict _=>false
 | .tuple ds=>lfA ds
 | _=>true
def lfA:List D->Bool
 | []=>true
 | d :: ds=>lfD d && lfA ds
end
def lfP:List (D×D)->Bool
 | []=>true
 | p :: r=>lfD p.2 && lfP r
def zC:L->Bool
 | .p d=>lfD d
 | .o (.list ds)=>lfA ds
 | .o (.dict kvs)=>lfP kvs
 | _=>false
def fC(n:Nat)(m:List L->Res L)(rs:List Ev):Res Ev:=match dY lB rs with
 | some ls=>if ls.length=n then (m ls).bind fun l=>.ok (lS l) else .bad
 | none=>match dY aA2 rs with
  | some ls=>if ls.length=n then (m ls).bind fun l=>if zC l=true then .ok (lS l) else .bad else .bad
  | none=>.bad
def aP(n:Nat)(m:List L->Res L)(fr:En->Res (List Ev)):En->Res Ev:=fun en=>(fr en).bind (fC n m)
def aUb(K:aV9)(G:Hp)(v:V):L->Prop
 | .p d=>Rep K G v d
 | .o _=>False
 | .x C=>∃ e,v=.ref e/\G e=some (aPg e (.ref C))
 | .h _=>False
def ArgsOk(K:aV9)(G:Hp):List V->List L->Prop
 | [],[]=>True
 | v :: vs,l :: ls=>aUb K G v l/\ArgsOk K G vs ls
 | _,_=>False
theorem ArgsOk.length{K:aV9}{G:Hp}:∀ {vs:List V} {ls:List L},ArgsOk K G vs ls->vs.length=ls.length
 | [],[],_=>rfl
 | _ :: _,_ :: _,h=>by rw [aWc,aWc,ArgsOk.length h.2]
def spM(K:aV9)(n:Nat)(m:List L->Res L):Sp:=fun vs H Q E=>vs.length=n/\∃ G ls,Same G H/\ArgsOk K G vs ls /\
 wpR (m ls) (fun l=>∀ G' H' v,Step G H G' H'->aO1 K H G' H' v l->Q v H') (fun C=>∀ G' H',Step G H G' H'->E (.ref C) none H')
theorem aFj{K:aV9}{W:Addr->Option Nat}{Hs G H:Hp}:∀ {rs:List Ev} {ls:List L} {vs:List V},dY lB rs=some ls->EOks K W Hs G H vs rs->ArgsOk K G vs ls
 | [],_,[],h,_=>by cases h;exact trivial
 | [],_,_ :: _,_,e=>e.elim
 | _ :: _,_,[],_,e=>e.elim
 | r :: rs,ls,v :: vs,h,e=>by
  unfold dY at h
  cases r with
  | p d =>
   cases er:dY lB rs with
   | none=>rw [er] at h;cases h
   | some ls'=>rw [er] at h;cases h;exact ⟨e.1,aFj er e.2⟩
  | x C =>
   cases er:dY lB rs with
   | none=>rw [er] at h;cases h
   | some ls'=>rw [er] at h;cases h;exact ⟨e.1,aFj er e.2⟩
  | b d=>cases h
  | f d=>cases h
def both(W:Addr->Option Nat)(G H:Hp):Hp:=fun b=>match W b with
 | some _=>H b
 | none=>G b
theorem qZ{W:Addr->Option Nat}{B G0 G H:Hp}(hh:SimH B G0 G W H):Same G (both W G H)/\Same (both W G H) H:=by
 refine ⟨fun b o e=>?_,fun b o e=>?_⟩
 ·unfold both
  cases ew:W b with
  | none=>exact e
  | some i=>rw [(hh.wf b i ew).1] at e;cases e
 ·unfold both at e
  cases ew:W b with
  | none=>rw [ew] at e;exact hh.gh b o e
  | some i=>rw [ew] at e;exact e
theorem aE5{K:aV9}{W:Addr->Option Nat}{Hs B G0 G H:Hp}(hh:SimH B G0 G W H):∀ {rs:List Ev} {ls:List L} {vs:List V},dY aA2 rs=some ls->EOks K W Hs G H vs rs->ArgsOk K (both W G H) vs ls
 | [],_,[],h,_=>by cases h;exact trivial
 | [],_,_ :: _,_,e=>e.elim
 | _ :: _,_,[],_,e=>e.elim
 | r :: rs,ls,v :: vs,h,e=>by
  unfold dY at h
  cases r with
  | p d =>
   cases er:dY aA2 rs with
   | none=>rw [er] at h;cases h
   | some ls'=>rw [er] at h;cases h;exact ⟨Rep.mono (qZ hh).1 e.1,aE5 hh er e.2⟩
  | b d =>
   cases er:dY aA2 rs with
   | none=>rw [er] at h;cases h
   | some ls' =>
    rw [er] at h;cases h
    refine ⟨?_,aE5 hh er e.2⟩
    obtain ⟨a,i,o,rfl,h1,h2,h3⟩:=e.1
    exact (h3.mono (qZ hh).1).rep (by unfold both;rw [h1];exact h2)
  | x d=>cases h
  | f d=>cases h
mutual
theorem aBi{K:aV9}{G G':Hp}(k:∀ b xs,G b=some (.tup xs)->G' b=some (.tup xs)):∀ {v:V} {d:D},lfD d=true->Rep K G v d->Rep K G' v d
 | _,_,_,.non=>.non
 | _,_,_,.bl b=>.bl b
 | _,_,_,.int i=>.int i
 | _,_,_,.str x=>.str x
 | _,_,hf,.tup h r=>.tup (k _ _ h) (yT k (by unfold lfD at hf;exact hf) r)
 | _,_,hf,.lst _ _=>by unfold lfD at hf;cases hf
 | _,_,hf,.dT _ _=>by unfold lfD at hf;cases hf
 | _,_,hf,.dK _ _=>by unfold lfD at hf;cases hf
theorem yT{K:aV9}{G G':Hp}(k:∀ b xs,G b=some (.tup xs)->G' b=some (.tup xs)):∀ {vs:List V} {ds:List D},lfA ds=true->Reps K G vs ds->Reps K G' vs ds
 | _,_,_,.nil=>.nil
 | _,_,hf,.cons h r=>by
  unfold lfA at hf
  have hf:=aXf.mp hf
  exact .cons (aBi k hf.1 h) (yT k hf.2 r)
end
theorem aFq{K:aV9}{G G':Hp}(k:∀ b xs,G b=some (.tup xs)->G' b=some (.tup xs)):∀ {kv:List (List Key×V)} {kvs:List (D×D)},lfP kvs=true->RepT K G kv kvs->RepT K G' kv kvs
 | _,_,_,.nil=>.nil
 | _,_,hf,.cons h r=>by
  unfold lfP at hf
  have hf:=aXf.mp hf
  exact .cons (aBi k hf.1 h) (aFq k hf.2 r)
theorem aC5{K:aV9}{G G':Hp}(k:∀ b xs,G b=some (.tup xs)->G' b=some (.tup xs)):∀ {kv:List (Key×V)} {kvs:List (D×D)},lfP kvs=true->RepK K G kv kvs->RepK K G' kv kvs
 | _,_,_,.nil=>.nil
 | _,_,hf,.cons h r=>by
  unfold lfP at hf
  have hf:=aXf.mp hf
  exact .cons (aBi k hf.1 h) (aC5 k hf.2 r)
def r0(W:Addr->Option Nat)(G:Hp):Hp:=fun b=>match W b with
 | some _=>none
 | none=>G b
theorem aH1{K:aV9}{W:Addr->Option Nat}{H1 G H Hs:Hp}{v:V}{l:L}(hf:zC l=true)(hH:Hs=Hs)(hs:∀ b,H1 b=none->Hs b=none)(k:∀ b xs,G b=some (.tup xs)->r0 W G b=some (.tup xs))(h:aO1 K H1 G H v l):EOk K W Hs (r0 W G) H v (lS l):=by
 have n0:∀ b,G b=none->r0 W G b=none:=fun b e=>by
  unfold r0
  cases W b with
  | none=>exact e
  | some _=>rfl
 cases l with
 | x C=>cases hf
 | h a=>cases hf
 | p d=>exact aBi k hf h
 | o d =>
  obtain ⟨a,o,rfl,h1,h2,h3,h4⟩:=h
  refine ⟨a,o,rfl,hs _ h2,n0 _ h1,h3,?_⟩
  cases h4 with
  | lst r=>exact .lst (yT k hf r)
  | dT r=>exact .dT (aFq k hf r)
  | dK r=>exact .dK (aC5 k (by unfold zC at hf;unfold lfP at hf;exact (aXf.mp hf).2) r)
theorem aEh{K:aV9}{W:Addr->Option Nat}{B G0 G H G1 H1:Hp}{n:Nat}{m:List L->Res L}{rs:List Ev}{vs:List V}{Q:VK}{EE:XK}(hh:SimH B G0 G W H)(s:Step G H G1 H1)(e:EOks K W H G1 H1 vs rs)
  (hr:wpR (fC n m rs) (PostE K W G H Q) (PostX EE G H)):spM K n m vs H1 Q EE:=by
 unfold fC at hr
 split at hr
 ·rename_i ls el
  split at hr
  ·rename_i hn
   have ha:=aFj el e
   refine ⟨by rw [ha.length];exact hn,G1,ls,s.gh,ha,?_⟩
   rw [cK] at hr
   refine bT hr (fun l hl G2 H2 v s2 rv=>hl G2 H2 v (s.trans s2) ?_) fun C h G2 H2 s2=>h G2 H2 (s.trans s2)
   cases l with
   | p d=>exact rv
   | x C=>exact rv
   | h a=>exact rv.elim
   | o d =>
    obtain ⟨a,o,h1,h2,h3,h4,h5⟩:=rv
    exact ⟨a,o,h1,s.h.free h3,h2,h4,h5⟩
  ·exact hr.elim
 ·split at hr
  ·rename_i ls el
   split at hr
   ·rename_i hn
    have hh1:=hh.step s
    have ha:=aE5 hh1 el e
    obtain ⟨k1,k2⟩:=qZ hh1
    refine ⟨by rw [ha.length];exact hn,both W G1 H1,ls,k2,ha,?_⟩
    rw [cK] at hr
    refine bT hr (fun l hl G2 H2 v s2 rv=>?_) fun C h G2 H2 s2=>h G1 H2 (s.trans ⟨Same.refl _,s2.h,s.gh.trans s2.h,fun _ _ q=>.inl q⟩)
    split at hl
    ·rename_i hf
     have kt:∀ b xs,G2 b=some (.tup xs)->r0 W G2 b=some (.tup xs):=fun b xs eb=>by
      unfold r0
      cases ew:W b with
      | none=>exact eb
      | some i =>
       obtain ⟨_,_,o,e1,e2⟩:=hh1.wf b i ew
       have e3:=s2.gh _ _ eb
       rw [s2.h _ _ e1] at e3
       exact absurd (aWx e3) (e2 xs)
     refine hl (r0 W G2) H2 v ⟨fun b o eb=>?_,s.h.trans s2.h,fun b o eb=>?_,fun b hb hg=>?_⟩ (aH1 hf rfl (fun b e=>s.h.free e) kt rv)
     ·have e1:=s.g _ _ eb
      unfold r0
      cases ew:W b with
      | none=>exact s2.g _ _ (k1 _ _ e1)
      | some i=>rw [(hh1.wf b i ew).1] at e1;cases e1
     ·unfold r0 at eb
      cases ew:W b with
      | none=>rw [ew] at eb;exact s2.gh _ _ eb
      | some i=>rw [ew] at eb;cases eb
     ·unfold r0
      cases ew:W b with
      | some i=>exact .inl rfl
      | none =>
       rcases s.new b hb hg with z | z
       ·have z2:both W G1 H1 b=none:=by unfold both;rw [ew];exact z
        rcases s2.new b (aC3 s.h hb) z2 with y | ⟨xs,y⟩
        ·exact .inl y
        ·cases e:H b with
         | none=>exact absurd e hb
         | some o=>rw [s.h _ _ e] at y;exact .inr ⟨xs,y⟩
       ·exact .inr z
    ·exact hl.elim
   ·exact hr.elim
  ·exact hr.elim
section
variable {X:Cx}{E:L2.St->XK}{k:Nat}{f:Addr}{fd:FuncData}{ps:List Str}{x:Str}{p pos:Pos}{e:Expr}{es:List Expr}{fr:En->Res (List Ev)}{n:Nat}{m:List L->Res L}
theorem aN9(F:FnOk X.prog X.w X.K X.mg X.base (CXr X.prog X.w) k f fd ps (spM X.K n m))(hr:Room k X.A)(hg:Gl X x)(hm:X.mg x=some (.ref f))(hk:PySem.W.keepIn X.K (.ref f)=true)(hb:Binds X.K fd ps [])(hx:qE (CXr X.prog X.w) X E)
  (ha:DA X E (e :: es) fr) (hdb:(x == ("__debug__" : Str))=false:=by decide) (he:starEach (e :: es) X.env=(false,eval e X.env) :: starEach es X.env:=by rfl) (hpl:(backTo pos (starEach es X.env)).any (·.1)=false:=by rfl) :
  DE X E (.Call (.Name x p) (e :: es) [] pos) (aP n m fr):=by
 obtain ⟨t,q,mm⟩:=ha.out
 refine DE.in ⟨_,aIw F hr hg hm hk hb hx q hdb he hpl,fun B G0 G W H σ en Q hh hs hw=>mm B G0 G W H σ en _ hh hs ?_⟩
 have hw:wpR ((fr en).bind _) _ _:=hw
 rw [cK] at hw
 exact bT hw (fun rs hr G1 H1 vs s e=>aEh hh s e hr) fun C h=>h
def oV(K:aV9)(r:List V->Hp->VK->Prop)(f:List Ev->Res Ev):Prop:=∀ (W:Addr->Option Nat) (Hs G H:Hp) (vs:List V) (rs:List Ev) (Q:VK),Same G H->EOks K W Hs G H vs rs->wpR (f rs) (PostE K W G H Q) (fun _=>False)->r vs H Q
def aCy(f:List Ev->Res Ev):Prop:=∀ rs C,f rs≠.exc C
def aH(f:List Ev->Res Ev)(fr:En->Res (List Ev)):En->Res Ev:=fun en=>(fr en).bind f
theorem sO{r:List V->Hp->VK->Prop}{f:List Ev->Res Ev}{t:TA}(hm:oV X.K r f)(hn:aCy f)(mm:∀ B G0 G W H σ en Q,SimH B G0 G W H->SimS X.K W G H σ en->wpR (fr en) (aJ9 X.K W G H Q) (PostX (E σ) G H)->t σ H Q) :
  ∀ B G0 G W H σ en Q,SimH B G0 G W H->SimS X.K W G H σ en->wpR (aH f fr en) (PostE X.K W G H Q) (PostX (E σ) G H)->tCB r t σ H Q:=by
 intro B G0 G W H σ en Q hh hs hw
 refine mm B G0 G W H σ en _ hh hs ?_
 have hw:wpR ((fr en).bind _) _ _:=hw
 rw [cK] at hw
 exact bT hw (fun rs hr G1 H1 vs s e=>hm W H G1 H1 vs rs Q s.gh e (noX (bT hr (fun _ h=>h.step s) fun _ h=>h) (hn rs))) fun C h=>h
theorem bJ{id:String}{r:List V->Hp->VK->Prop}{f:List Ev->Res Ev}(hc:mF X (.builtin id) r)(hM:oV X.K r f)(hn:aCy f)(hg:Gl X x)(hm:X.mg x=none)(hv:bootBuiltins x=some (.builtin id))(ha:DA X E (e :: es) fr)(hnn:x≠"__name__":=by decide)(hdb:(x == ("__debug__" : Str))=false:=by decide)
  (he:starEach (e :: es) X.env=(false,eval e X.env) :: starEach es X.env:=by rfl) (hpl:(backTo pos (starEach es X.env)).any (·.1)=false:=by rfl):DE X E (.Call (.Name x p) (e :: es) [] pos) (aH f fr):=by
 obtain ⟨t,q,mm⟩:=ha.out
 exact DE.in ⟨_,aB6 hc hg hm hv q hnn hdb he hpl,sO hM hn mm⟩
theorem pT{T:String}{r:List V->Hp->VK->Prop}{f:List Ev->Res Ev}(hc:mF X (.type T) r)(hM:oV X.K r f)(hn:aCy f)(hg:Gl X x)(hm:X.mg x=none)(hv:bootBuiltins x=some (.type T))(ha:DA X E (e :: es) fr)(hnn:x≠"__name__":=by decide)(hdb:(x == ("__debug__" : Str))=false:=by decide)
  (he:starEach (e :: es) X.env=(false,eval e X.env) :: starEach es X.env:=by rfl) (hpl:(backTo pos (starEach es X.env)).any (·.1)=false:=by rfl):DE X E (.Call (.Name x p) (e :: es) [] pos) (aH f fr):=by
 obtain ⟨t,q,mm⟩:=ha.out
 exact DE.in ⟨_,aGw hc hg hm hv q hnn hdb he hpl,sO hM hn mm⟩
end
def bK(n:Nat)(ls:List L):En:=ls.map some++List.replicate (n - ls.length) none
def fG(n:Nat)(f:MS)(ls:List L):Res L:=match f (bK n ls) with
 | some (.nx _)=>.ok (.p .none)
 | some (.rt l)=>.ok l
 | some (.ex C _)=>.exc C
 | _=>.bad
theorem sR{K:aV9}{W:Addr->Option Nat}{G H:Hp}:∀ {vs:List V} {ls:List L} (i:Nat) (l:L),ArgsOk K G vs ls->ls[i]? = some l->∃ v,vs[i]? = some v/\∀ j,Slot K W G H j v l
 | [],[],_,_,_,e=>by simp at e
 | v :: vs,l :: ls,0,m,h,e=>by
  simp at e;subst e
  refine ⟨v,rfl,fun j=>?_⟩
  have z:=h.1
  cases l with
  | p d=>exact z
  | x C=>exact z
  | h a=>exact z.elim
  | o d=>exact z.elim
 | v :: vs,l :: ls,i+1,m,h,e=>by
  have:=sR (W:=W) (H:=H) i m h.2 (by simpa using e)
  simpa using this
theorem aHa{K:aV9}{W:Addr->Option Nat}{G H:Hp}{N:List Str}{vs:List V}{ls:List L}(h:ArgsOk K G vs ls):SimS K W G H (L2.start N vs) (bK N.length ls):=by
 have hl:=h.length
 refine ⟨by unfold L2.start bK;simp [hl],fun i l e=>?_⟩
 unfold bK at e
 by_cases hi:i < ls.length
 ·rw [aXl (by rw [aWb];exact hi),aWu] at e
  cases e2:ls[i]? with
  | none=>rw [e2] at e;cases e
  | some l' =>
   rw [e2] at e
   cases e
   obtain ⟨v,e3,e4⟩:=sR (W:=W) (H:=H) i l h e2
   refine ⟨v,?_,e4 i⟩
   unfold L2.start
   rw [aXl (by rw [aWb,hl];exact hi),aWu,e3]
   rfl
 ·rw [aW6 (by rw [aWb];omega),aY4] at e
  split at e<;>cases e
theorem y7{G H G' H':Hp}{W:Addr->Option Nat}(h:SimH H G G' W H'):Step G H G' H':=⟨h.g0,h.bh,h.gh,fun b hb hg=>by
 cases e:G' b with
 | none=>exact .inl rfl
 | some o =>
  rcases h.gb b (by rw [e];exact fun z=>nomatch z) with z | z | z
  ·exact absurd hg z
  ·exact absurd z hb
  ·exact .inr z⟩
theorem aFb{K:aV9}{N:List Str}{n:Nat}{m:List L->Res L}{fm:MS}{vs:List V}{H:Hp}{Q:VK}{E:XK}(h:spM K n m vs H Q E)(hm:∀ ls,m ls=.bad\/fG N.length fm ls=m ls) :
  tS K (fun _=>E) fm { nx:=fun _ H'=>Q .non H',rt:=Q } (L2.start N vs) H:=by
 obtain ⟨hl,G,ls,gh,ha,hw⟩:=h
 refine ⟨H,G,G,fun _=>none,bK N.length ls,⟨gh,Same.refl _,Same.refl _,fun _ hb=>.inl hb,fun a i e=>nomatch e⟩,aHa ha,?_⟩
 rcases hm ls with e | e
 ·rw [e] at hw;exact hw.elim
 ·rw [<- e] at hw
  unfold fG at hw
  cases ef:fm (bK N.length ls) with
  | none=>rw [ef] at hw;exact hw
  | some o =>
   rw [ef] at hw
   cases o with
   | nx en=>exact fun G' W' H' σ' h1 _=>hw G' H' .non (y7 h1) .non
   | rt l=>exact fun G' W' H' v h1 h2=>hw G' H' v (y7 h1) h2
   | bk en=>exact hw.elim
   | ct en=>exact hw.elim
   | ex C en=>exact fun G' W' H' σ' h1 _=>hw G' H' (y7 h1)
section
variable {P:Program}{w:World}{K:aV9}{mg:Str->Option Value}{base:Heap}
theorem bL{N:List Str}{qual:Str}{scope:Scope}{f:Addr}{cd:Value}{A:Around}{outer:List Env}{s:Shared}{H:Hp}{E:XK}:qE (CXr P w) (uO (CXr P w) P w K mg base N qual scope f cd A outer s H E) (fun _=>E) :=
 fun pins σ H s e s' I h=>aTz pins σ H s e s' I h
theorem sF{X:Cx}:qE (CXr P w) X (fun _=>E0):=fun _ _ _ _ _ _ _ ⟨_,_,_,_,_,_,_,z⟩=>z.elim
theorem fnM{x qual:Str}{st:Stmt}{f:Addr}{fd:FuncData}{N ps:List Str}{k n:Nat}{m:List L->Res L}(F:Fun K x qual st f fd)(S:a9 N ps (aT st))(hn:n=ps.length)
  (hbody:∀ (cdv:Value) (A:Around) (outer:List Env) (s:Shared) (H:Hp) (E:XK),Room k (A.deeper (envOfC qual (aT st) s.heap.objs.size f cdv)) ->
   ∃ fm,DSs (uO (CXr P w) P w K mg base N qual (aT st) f cdv A outer s H E) (fun _=>E) (iS st) fm/\∀ ls,m ls=.bad\/fG N.length fm ls=m ls):FnOk P w K mg base (CXr P w) (k+1) f fd ps (spM K n m):=by
 refine F.okX S (fun vs H Q E h=>?_) (fun cdv A outer s H vs Q E hr h=>?_)
 ·rw [<- hn];exact h.1
 ·obtain ⟨fm,hd,hm⟩:=hbody cdv A outer s H E hr
  exact ⟨_,hd,aFb h hm⟩
end
def jU(C:Addr)(fr:En->Res (List Ev)):MS:=fun en=>match fr en with
 | .ok rs=>if rs.length<=1000 then some (.ex C en) else none
 | .exc C=>some (.ex C en)
 | .bad=>none
theorem EOks.length{K:aV9}{W:Addr->Option Nat}{Hs G H:Hp}:∀ {vs:List V} {rs:List Ev},EOks K W Hs G H vs rs->vs.length=rs.length
 | [],[],_=>rfl
 | [],_ :: _,h=>h.elim
 | _ :: _,[],h=>h.elim
 | _ :: _,_ :: _,h=>by rw [aWc,aWc,EOks.length h.2]
section
variable {X:Cx}
theorem pL{E:XK}{x:Str}{e₀:Expr}{rest:List Expr}{fr:En->Res (List Ev)}{C:Addr}{bm:List Value}{B newId initId:String}{np cpos pos:Pos}(hx:aDl X E)(hc:X.calm=true)(hg:Gl X x)(O:OwnCls x C bm newId X.mg X.base)
  (FB:ExcBaseFacts B newId initId bm) (ha:DA X (fun _=>E) (e₀ :: rest) fr) (hdb:(x == ("__debug__" : Str))=false:=by decide)
  (he:starEach (e₀ :: rest) X.env=(false,eval e₀ X.env) :: starEach rest X.env:=by rfl) (hpl:(backTo cpos (starEach rest X.env)).any (·.1)=false:=by rfl) :
  DS X (fun _=>E) (.Raise (some (.Call (.Name x np) (e₀ :: rest) [] cpos)) none pos) (jU C fr):=by
 obtain ⟨t,q,m⟩:=ha.out
 refine DS.in ⟨_,aIe hx hc hg O FB q hdb he hpl,fun B G0 G W H σ en Dn hh hs hw=>m B G0 G W H σ en _ hh hs ?_⟩
 unfold jU at hw
 cases ef:fr en with
 | bad=>rw [ef] at hw;exact hw
 | exc C=>rw [ef] at hw;exact fun G1 H1 s=>hw G1 W H1 σ (hh.step s) (hs.step s)
 | ok rs =>
  rw [ef] at hw
  intro G1 H1 vs s e
  dsimp only at hw
  split at hw
  ·rename_i hl
   exact ⟨by rw [e.length];exact aXk hl (by decide),hw G1 W H1 σ (hh.step s) (hs.step s)⟩
  ·exact hw.elim
end
def kO:List Ev->Option (List D)
 | []=>some []
 | r :: rs=>match r with
  | .p d=>match kO rs with
   | some ds=>some (d :: ds)
   | none=>none
  | _=>none
theorem qF{K:aV9}{W:Addr->Option Nat}{Hs G H:Hp}:∀ {rs:List Ev} {ds:List D} {vs:List V},kO rs=some ds->EOks K W Hs G H vs rs->Reps K G vs ds
 | [],_,[],h,_=>by cases h;exact .nil
 | [],_,_ :: _,_,e=>e.elim
 | _ :: _,_,[],_,e=>e.elim
 | r :: rs,ds,v :: vs,h,e=>by
  unfold kO at h
  cases r with
  | p d =>
   dsimp only at h
   cases er:kO rs with
   | none=>rw [er] at h;cases h
   | some ds'=>rw [er] at h;cases h;exact .cons e.1 (qF er e.2)
  | x C=>cases h
  | b d=>cases h
  | f d=>cases h
def bD(rs:List Ev):Res Ev:=match kO rs with
 | some ds=>if ds.length<=1000 then .ok (.p (.tuple ds)) else .bad
 | none=>.bad
def kP(rs:List Ev):Res Ev:=match kO rs with
 | some ds=>if ds.length<=1000 then .ok (.f (.list ds)) else .bad
 | none=>.bad
section
variable {X:Cx}{E:L2.St->XK}{es:List Expr}{fr:En->Res (List Ev)}{pos:Pos}
theorem cC{x1}(h:DA X E es fr):DE X E (.Tuple es x1 pos) (aH bD fr):=by
 obtain ⟨t,q,m⟩:=h.out
 refine DE.in ⟨_,aSq q,fun B G0 G W H σ en Q hh hs hw=>m B G0 G W H σ en _ hh hs ?_⟩
 have hw:wpR ((fr en).bind _) _ _:=hw
 rw [cK] at hw
 refine bT hw (fun rs hr G1 H1 vs s e=>?_) fun C h=>h
 unfold bD at hr
 split at hr
 ·rename_i ds el
  have rp:=qF el e
  split at hr
  ·rename_i hl
   refine ⟨by rw [rp.length];exact aXk hl (by decide),fun p hp=>?_⟩
   have st:=Step.put (o:=.tup vs) s.gh hp
   exact hr _ _ _ (s.trans st) (.tup cJ (rp.mono st.g))
  ·exact False.elim hr
 ·exact False.elim hr
theorem s9(h:DA X E es fr):DE X E (.List es pos) (aH kP fr):=by
 obtain ⟨t,q,m⟩:=h.out
 refine DE.in ⟨_,aR2 q,fun B G0 G W H σ en Q hh hs hw=>m B G0 G W H σ en _ hh hs ?_⟩
 have hw:wpR ((fr en).bind _) _ _:=hw
 rw [cK] at hw
 refine bT hw (fun rs hr G1 H1 vs s e=>?_) fun C h=>h
 unfold kP at hr
 split at hr
 ·rename_i ds el
  have rp:=qF el e
  split at hr
  ·rename_i hl
   refine ⟨by rw [rp.length];exact aXk hl (by decide),fun p hp=>?_⟩
   have st:=Step.lay (o:=.lst vs) s.gh hp
   exact hr _ _ _ (s.trans st) ⟨p,_,rfl,s.h.free hp,s.gh.free hp,cJ,.lst rp⟩
  ·exact False.elim hr
 ·exact False.elim hr
end
def mX(g:D->Option (Option D)):List D->Option (List D)
 | []=>some []
 | d :: ds=>match g d with
  | none=>none
  | some o=>match mX g ds with
   | none=>none
   | some r=>some (match o with
    | some y=>y :: r
    | none=>r)
def xJ(o:Option (Option L)):Option L:=match o with
 | some (some (.p d))=>some (.p d)
 | some (some (.x C))=>some (.x C)
 | _=>none
def o9(js:List Nat)(en:En):En:=js.map fun j=>xJ en[j]?
def fK:En->Res Bool:=fun _=>.ok true
def aZ(n:Nat)(js:List Nat)(tg:D->En->Option En)(ft:En->Res Bool)(fe:En->Res Ev)(en:En)(d:D):Option (Option D):=match tg d (List.replicate n none++o9 js en) with
 | none=>none
 | some e=>match ft e with
  | .ok true=>match fe e with
   | .ok r=>match r.c with
    | .p y=>some (some y)
    | _=>none
   | _=>none
  | .ok false=>some none
  | _=>none
def yG(g:D->Option (Option D))(ds:List D):Res Ev:=if ds.length<=100000 then match mX g ds with
  | some r=>.ok (.f (.list r))
  | none=>.bad
 else .bad
def dW(n:Nat)(js:List Nat)(fi:En->Res (List D))(tg:D->En->Option En)(ft:En->Res Bool)(fe:En->Res Ev):En->Res Ev:=fun en=>(fi en).bind fun ds=>yG (aZ n js tg ft fe en) ds
def DTs(X:Cx)(ifs:List Expr)(f:En->Res Bool):Prop:=PTs X ifs (tT X.K (fun _=>E0) f)
theorem aVb{G H:Hp}(h:Same G H):SimH H G G (fun _=>none) H:=⟨h,Same.refl _,Same.refl _,fun _ hb=>.inl hb,fun a i e=>nomatch e⟩
theorem aKf{K:aV9}{W:Addr->Option Nat}{G H:Hp}{σ:L2.St}{en:En}(n:Nat)(js:List Nat)(h:SimS K W G H σ en):SimS K (fun _=>none) G H (List.replicate n none++aAl js σ) (List.replicate n none++o9 js en):=by
 refine ⟨by unfold aAl o9;simp,fun i l e=>?_⟩
 by_cases hi:i < n
 ·rw [aXl (by rw [aW8];exact hi),aY4] at e
  split at e<;>cases e
 ·rw [aW6 (by rw [aW8];omega),aW8] at e ⊢
  unfold o9 at e
  unfold aAl
  rw [aWu] at e ⊢
  cases ej:js[i - n]? with
  | none=>rw [ej] at e;cases e
  | some j =>
   rw [ej] at e
   have e':xJ en[j]? = some l:=aWx e
   unfold xJ at e'
   split at e'
   ·rename_i d q
    cases e'
    obtain ⟨v,h1,h2⟩:=h.2 j _ q
    exact ⟨v,by show some ((σ[j]?).getD none)=_;rw [h1];rfl,h2⟩
   ·rename_i d q
    cases e'
    obtain ⟨v,h1,h2⟩:=h.2 j _ q
    exact ⟨v,by show some ((σ[j]?).getD none)=_;rw [h1];rfl,h2⟩
   ·cases e'
section
variable {X:Cx}{E:L2.St->XK}{pos:Pos}
theorem fJ:DTs X [] fK:=fun pins s σ H Q I ⟨B,G0,G,W,en,h1,h2,h3⟩=>aNz pins s σ H Q I (h3 G H (Step.refl h1.gh))
theorem y6{c:Expr}{f:En->Res Bool}(h:DT X (fun _=>E0) c f):DTs X [c] f:=aM9 h
theorem aAd{elt iter tg:Expr}{scope:Scope}{ifs:List Expr}{n:Nat}{js ks:List Nat}{fi:En->Res (List D)}{g:D->En->Option En}{ft:En->Res Bool}{fe:En->Res Ev}{xs ys:List Str}{cl:List (Str×Addr)}(hc:X.calm=true)(hi:DI X E tg iter fi)
  (hcl:aOu X scope cl) (hcap:sG X scope cl ys js) (hcell:∀ y∈scope.names,y.2≠.cell) (hkind:scope.kind=.function) (hnames:∀ y∈scope.names,y.2=.local->scope.names.lookup y.1=some .local) (hn:xs.length=n) (hks:∀ j∈ks,j < n)
  (hg:∀ C s₀ H₀ ex pn,DG (cR X scope cl C (xs++ys) s₀ H₀ ex pn) tg ks g) (ht:∀ C s₀ H₀ ex pn,DTs (cR X scope cl C (xs++ys) s₀ H₀ ex pn) ifs ft) (hb:∀ C s₀ H₀ ex pn,DE (cR X scope cl C (xs++ys) s₀ H₀ ex pn) (fun _=>E0) elt fe)
  : ∀ B G0 G W H σ en Q,SimH B G0 G W H->SimS X.K W G H σ en->wpR (dW n js fi g ft fe en) (PostE X.K W G H Q) (PostX (E σ) G H)->zV (tI X.K E fi) (tG X.K ks g) (tT X.K (fun _=>E0) ft) (tE X.K (fun _=>E0) fe) xs.length js σ H Q:=by
 subst hn
 refine fun B G0 G W H σ en Q hh hs hw=>⟨B,G0,G,W,en,hh,hs,?_⟩
 have hw:wpR ((fi en).bind _) _ _:=hw
 rw [cK] at hw
 refine bT hw (fun ds hds G1 H1 J s1 hJ D hD=>?_) fun C h=>h
 unfold yG at hds
 split at hds
 case isFalse=>exact hds.elim
 rename_i hlen
 split at hds
 case h_2=>exact hds.elim
 rename_i r em
 have gD:G1 D=none:=s1.gh.free hD
 have aUj:∀ {G2 H2:Hp} {y:List V},Step G1 H1 G2 H2->G2 D=none->Step G1 H1 G2 (upd H2 D (.lst y)):=fun st hg2=>by
  refine ⟨st.g,fun b o e=>?_,fun b o e=>?_,st.new⟩
  ·rw [bY (eB e hD)];exact st.h b o e
  ·rw [bY (eB e hg2)];exact st.gh b o e
 refine ⟨ds.length,fun i ys H2=>i<=ds.length/\ys.length<=i/\∃ G2 rs rest,Step G1 H1 G2 H2/\G2 D=none/\H2 D=some (.lst ys)/\Reps X.K G2 ys rs/\mX (aZ xs.length js g ft fe en) (ds.drop i)=some rest/\rs++rest=r,
  ⟨aXo _,aXo _,G1,[],r,Step.lay s1.gh hD,gD,cJ,.nil,em,rfl⟩,?_⟩
 rintro i zs H2 ⟨hi,hzl,G2,rs,rest,st,g2,h2,rp,em2,er⟩
 obtain ⟨j1,j2⟩:=hJ G2 H2 st.g st.gh
 by_cases hlt:i < ds.length
 ·refine .inr ⟨hlt,?_⟩
  obtain ⟨jg,jy⟩:=j1 i ds[i] (aWd hlt)
  refine ⟨jg,fun v H3 hy=>?_⟩
  obtain ⟨G3,s3,rv⟩:=jy v H3 hy
  rw [bB4 hlt] at em2
  unfold mX at em2
  cases ec:aZ xs.length js g ft fe en ds[i] with
  | none=>rw [ec] at em2;cases em2
  | some o =>
   rw [ec] at em2
   dsimp only at em2
   cases em3:mX (aZ xs.length js g ft fe en) (ds.drop (i+1)) with
   | none=>rw [em3] at em2;cases em2
   | some rest' =>
    rw [em3] at em2
    have em2:=aWx em2
    unfold aZ at ec
    split at ec
    ·cases ec
    ·rename_i e eg
     have in3:=aKf xs.length js (hs.step ((s1.trans st).trans s3))
     refine ⟨G3,fun _=>none,_,ds[i],e,s3.gh,in3,rv,eg,fun σ' hσ hk=>⟨⟨?_,?_⟩,?_⟩⟩
     ·rw [hk.1];unfold aAl;simp
     ·refine aYv fun j=>?_
      rw [aZx,hk.2 (xs.length+j) fun z=>absurd (hks _ z) (by omega),aW6 (by rw [aW8];omega),aW8]
      congr 1
      omega
     ·refine ⟨_,_,G3,fun _=>none,e,aVb s3.gh,hσ,?_⟩
      cases et:ft e with
      | bad=>rw [et] at ec;cases ec
      | exc C=>rw [et] at ec;cases ec
      | ok k =>
       rw [et] at ec
       intro G5 H5 s5
       cases k with
       | false =>
        cases ec
        rw [aWn aXq]
        have s25:=s3.trans s5
        exact ⟨hlt,Nat.le_succ_of_le hzl,G5,rs,rest',st.trans s25,s25.off h2 (fun xs z=>nomatch z) g2,s25.h _ _ h2,rp.mono s25.g,em3,by rw [<- er,<- em2]⟩
       | true =>
        rw [aWm rfl]
        refine ⟨_,_,G5,fun _=>none,e,aVb s5.gh,hσ.step s5,?_⟩
        dsimp only at ec
        cases ee:fe e with
        | bad=>rw [ee] at ec;cases ec
        | exc C=>rw [ee] at ec;cases ec
        | ok q =>
         rw [ee] at ec
         intro G6 H6 y s6 ey
         obtain ⟨G7,s7,e7⟩:=EOk.c s6 ey
         dsimp only at ec
         split at ec
         ·rename_i y' eq
          cases ec
          rw [eq] at e7
          have s27:=(s3.trans s5).trans s7
          have g7:=s27.off h2 (fun xs z=>nomatch z) g2
          refine ⟨s27.h _ _ h2,aZh (aXk hzl (aXk hi hlen)) (by decide),hlt,by rw [aWq];exact bCo hzl,G7,rs++[y'],rest',aUj (st.trans s27) g7,g7,cJ,(rp.mono s27.g).append (.cons e7 .nil),em3,?_⟩
          rw [<- er,<- em2,aY9]
          rfl
         ·cases ec
 ·have e:i=ds.length:=by omega
  subst e
  rw [List.drop_length] at em2
  cases em2
  rw [aYk] at er
  subst er
  exact .inl ⟨j2,hds G2 H2 _ (s1.trans st) ⟨D,_,rfl,s1.h.free hD,g2,h2,.lst rp⟩⟩
theorem eM{elt iter tg:Expr}{scope:Scope}{ifs:List Expr}{n:Nat}{js ks:List Nat}{fi:En->Res (List D)}{g:D->En->Option En}{ft:En->Res Bool}{fe:En->Res Ev}{xs ys:List Str}{cl:List (Str×Addr)}(hc:X.calm=true)(hi:DI X E tg iter fi)
  (hcl:aOu X scope cl) (hcap:sG X scope cl ys js) (hcell:∀ y∈scope.names,y.2≠.cell) (hkind:scope.kind=.function) (hnames:∀ y∈scope.names,y.2=.local->scope.names.lookup y.1=some .local) (hn:xs.length=n) (hks:∀ j∈ks,j < n)
  (hg:∀ C s₀ H₀ ex pn,DG (cR X scope cl C (xs++ys) s₀ H₀ ex pn) tg ks g) (ht:∀ C s₀ H₀ ex pn,DTs (cR X scope cl C (xs++ys) s₀ H₀ ex pn) ifs ft) (hb:∀ C s₀ H₀ ex pn,DE (cR X scope cl C (xs++ys) s₀ H₀ ex pn) (fun _=>E0) elt fe)
  (hs:∀ x,foldedSetIterable iter X.env x=pure x:=by intro _;rfl):DE X E (.ListComp elt [⟨tg,iter,ifs,0⟩] scope pos) (dW n js fi g ft fe) :=
 DE.in ⟨_,aIp (xs:=xs) (g:=tG X.K ks g) (tt:=tT X.K (fun _=>E0) ft) (te:=tE X.K (fun _=>E0) fe) hc hi hcl hcap hcell hkind hnames hg ht hb hs,aAd hc hi hcl hcap hcell hkind hnames hn hks hg ht hb⟩
theorem aO9{i:Nat}{y:Str}{py spos:Pos}(hN:X.N.Nodup)(hiN:X.N[i]? = some y)(hx:Loc X.env.scope y){elt iter tg:Expr}{scope:Scope}{ifs:List Expr}{n:Nat}{js ks:List Nat}{fi:En->Res (List D)}{g:D->En->Option En}{ft:En->Res Bool}{fe:En->Res Ev}{xs ys:List Str}{cl:List (Str×Addr)}(hc:X.calm=true)(hi:DI X E tg iter fi)
  (hcl:aOu X scope cl) (hcap:sG X scope cl ys js) (hcell:∀ y∈scope.names,y.2≠.cell) (hkind:scope.kind=.function) (hnames:∀ y∈scope.names,y.2=.local->scope.names.lookup y.1=some .local) (hn:xs.length=n) (hks:∀ j∈ks,j < n)
  (hg:∀ C s₀ H₀ ex pn,DG (cR X scope cl C (xs++ys) s₀ H₀ ex pn) tg ks g) (ht:∀ C s₀ H₀ ex pn,DTs (cR X scope cl C (xs++ys) s₀ H₀ ex pn) ifs ft) (hb:∀ C s₀ H₀ ex pn,DE (cR X scope cl C (xs++ys) s₀ H₀ ex pn) (fun _=>E0) elt fe)
  (hsw:swapsWith (.ListComp elt [⟨tg,iter,ifs,0⟩] scope pos) (some (.Name y py)) spos.line X.env=pure true:=by rfl) (hs:∀ x,foldedSetIterable iter X.env x=pure x:=by intro _;rfl)
  (hf:X.fn y=true\/X.env.scope.names.lookup y=some .local:=by first | exact .inl rfl | exact .inr rfl | assumption):DS X E (.Assign [.Name y py] (.ListComp elt [⟨tg,iter,ifs,0⟩] scope pos) spos) (cG i (dW n js fi g ft fe)) :=
 DS.in ⟨_,aIz (xs:=xs) (g:=tG X.K ks g) (tt:=tT X.K (fun _=>E0) ft) (te:=tE X.K (fun _=>E0) fe) hN hiN hx hc hi hcl hcap hcell hkind hnames hg ht hb hsw hs hf,aBe (aAd hc hi hcl hcap hcell hkind hnames hn hks hg ht hb)⟩
end
section
variable {X:Cx}{K:aV9}
def rOr(r r':R2):R2:=fun x y H Q=>r x y H Q\/r' x y H Q
theorem OpR.or'{f:Value->Value->Sem Value}{r r':R2}(h:OpR X f r)(h':OpR X f r'):OpR X f (rOr r r'):=OpR.or h h'
def aRk:R2:=fun x y H Q=>∃ l b xs zs,x=.ref l/\y=.ref b/\Rd H l (.lst xs)/\Rd H b (.lst zs)/\xs.length+zs.length<=sizeLine/\∀ p,H p=none->Q (.ref p) (upd H p (.lst (xs++zs)))
theorem aL7:OpR X (binaryOp .Add) aRk:=by
 intro pins s σ H x y v u Q I rx ry h
 obtain ⟨l,b,xs,zs,rfl,rfl,hH,hB,hz,q⟩:=h
 cases rx
 cases ry
 obtain ⟨z,its,n,r,e⟩:=hH.ok I.hok
 obtain ⟨z2,its2,n2,r2,e2⟩:=hB.ok I.hok
 have hl:=r.length
 have hl2:=r2.length
 refine PySem.P.add_list e e2 ?_ (by rw [aWk,aWk];omega)
 have ea:its.toArray++its2.toArray=(its++its2).toArray:=by simp
 rw [ea]
 exact ⟨.ref _,_,I.lnew (t':=s.toks) (r.append r2) (by rw [aWq];omega),rfl,q _ I.fresh⟩
def aPa:R2:=fun x y H Q=>∃ i j,x=.str i/\y=.str j/\i.length+j.length<=sizeLine/\Q (.str (i++j)) H
def eZ:Ev->Option (List D)
 | .p (.list ds)=>some ds
 | .b (.list ds)=>some ds
 | _=>none
theorem oM{W:Addr->Option Nat}{Hs G H:Hp}{v:V}{r:Ev}{ds:List D}(gh:Same G H)(h:EOk K W Hs G H v r)(e:eZ r=some ds):∃ a xs,v=.ref a/\Rd H a (.lst xs)/\Reps K G xs ds:=by
 cases r with
 | p d =>
  cases d with
  | list es =>
   cases e
   cases h with
   | @lst a xs _ h1 h2=>exact ⟨a,xs,rfl,iT gh h1,h2⟩
  | _=>cases e
 | b d =>
  cases d with
  | list es =>
   cases e
   obtain ⟨a,i,o,rfl,h1,h2,h3⟩:=h
   cases h3 with
   | @lst xs _ h4=>exact ⟨a,xs,rfl,.inl h2,h4⟩
  | _=>cases e
 | f d=>cases e
 | x C=>cases e
def dat:Ev->Option D
 | .p d=>some d
 | .b d=>some d
 | _=>none
theorem EOk.read{W:Addr->Option Nat}{Hs G H:Hp}{v:V}{r:Ev}{d:D}(gh:Same G H)(h:EOk K W Hs G H v r)(e:dat r=some d):Rep K H v d:=by
 cases r with
 | p d=>cases e;exact Rep.mono gh h
 | b d =>
  cases e
  obtain ⟨a,i,o,rfl,h1,h2,h3⟩:=h
  exact (h3.mono gh).rep h2
 | f d=>cases e
 | x C=>cases e
open Classical in
noncomputable def vW(C:Int->Int->Prop)(g:Int->Int->D)(x y:Ev):Res Ev:=match x,y with
 | .p (.int i),.p (.int j)=>if C i j then .ok (.p (g i j)) else .bad
 | _,_=>.bad
def gN(g:Int->Int->D)(x y:Ev):Res Ev:=match x,y with
 | .p (.int i),.p (.int j)=>.ok (.p (g i j))
 | _,_=>.bad
theorem aF{C:Int->Int->Prop}{g:Int->Int->D}:NoX (vW C g):=by
 intro x y A h
 unfold vW at h
 split at h
 ·split at h<;>cases h
 ·cases h
theorem aS{g:Int->Int->D}:NoX (gN g):=by
 intro x y A h
 unfold gN at h
 split at h<;>cases h
theorem aAu{C:Int->Int->Prop}{g:Int->Int->D}{gv:Int->Int->V}(hg:∀ G i j,Rep K G (gv i j) (g i j)):OpM K (rI C gv) (vW C g):=by
 intro W G H v u x y Q gh hx hy hw
 unfold vW at hw
 split at hw
 ·rename_i i j e1 e2
  rw [e1] at hx;rw [e2] at hy
  cases hx;cases hy
  split at hw
  ·rename_i hc
   exact ⟨i,j,rfl,rfl,hc,hw G H _ (Step.refl gh) (hg G i j)⟩
  ·exact hw.elim
 ·exact hw.elim
theorem aF1{g:Int->Int->D}{gv:Int->Int->V}(hg:∀ G i j,Rep K G (gv i j) (g i j)):OpM K (rI0 gv) (gN g):=by
 intro W G H v u x y Q gh hx hy hw
 unfold gN at hw
 split at hw
 ·rename_i i j e1 e2
  rw [e1] at hx;rw [e2] at hy
  cases hx;cases hy
  exact ⟨i,j,rfl,rfl,hw G H _ (Step.refl gh) (hg G i j)⟩
 ·exact hw.elim
noncomputable abbrev dF:Ev->Ev->Res Ev:=vW CMulW fun i j=>.int (i*j)
noncomputable abbrev cB:Ev->Ev->Res Ev:=vW iG fun i j=>.int (i.fdiv j)
noncomputable abbrev cP:Ev->Ev->Res Ev:=vW (fun _ j=>j≠0) fun i j=>.int (i.fmod j)
noncomputable abbrev sE:Ev->Ev->Res Ev:=vW aK8 fun i j=>.int (i ^ j.toNat)
abbrev gI:Ev->Ev->Res Ev:=gN fun i j=>.int (i - j)
abbrev ltE:Ev->Ev->Res Ev:=gN fun i j=>.bool (decide (i < j))
abbrev leE:Ev->Ev->Res Ev:=gN fun i j=>.bool (decide (i<=j))
abbrev gtE:Ev->Ev->Res Ev:=gN fun i j=>.bool (decide (j < i))
theorem a7:OpM K (rI CMulW fun i j=>.int (i*j)) dF:=aAu fun _ _ _=>.int _
theorem bZ:OpM K (rI iG fun i j=>.int (i.fdiv j)) cB:=aAu fun _ _ _=>.int _
theorem bG:OpM K (rI (fun _ j=>j≠0) fun i j=>.int (i.fmod j)) cP:=aAu fun _ _ _=>.int _
theorem nA:OpM K (rI aK8 fun i j=>.int (i ^ j.toNat)) sE:=aAu fun _ _ _=>.int _
theorem cZ:OpM K (rI0 fun i j=>.int (i - j)) gI:=aF1 fun _ _ _=>.int _
def eJ(x y:Ev):Res Ev:=match x,y with
 | .p (.int i),.p (.int j)=>.ok (.p (.int (i+j)))
 | .p (.str i),.p (.str j)=>if i.length+j.length<=100000 then .ok (.p (.str (i++j))) else .bad
 | x,y=>match eZ x,eZ y with
  | some ds,some es=>if ds.length+es.length<=100000 then .ok (.f (.list (ds++es))) else .bad
  | _,_=>.bad
theorem bR:NoX eJ:=by
 intro x y A h
 unfold eJ at h
 split at h
 ·cases h
 ·split at h<;>cases h
 ·split at h
  ·split at h<;>cases h
  ·cases h
abbrev aSl:R2:=rOr (rI0 fun i j=>.int (i+j)) (rOr aPa aRk)
theorem bM:OpR X (binaryOp .Add) aSl:=OpR.or' aQf (OpR.or' aCo aL7)
theorem cN:OpM K aSl eJ:=by
 intro W G H v u x y Q gh hx hy hw
 unfold eJ at hw
 split at hw
 ·rename_i i j e1 e2
  rw [e1] at hx;rw [e2] at hy
  cases hx;cases hy
  exact .inl ⟨i,j,rfl,rfl,hw G H _ (Step.refl gh) (.int _)⟩
 ·rename_i i j e1 e2
  rw [e1] at hx;rw [e2] at hy
  cases hx;cases hy
  split at hw
  ·rename_i hl
   exact .inr (.inl ⟨i,j,rfl,rfl,aXk hl (by decide),hw G H _ (Step.refl gh) (.str _)⟩)
  ·exact hw.elim
 ·split at hw
  ·rename_i ds es e1 e2
   obtain ⟨a,xs,rfl,h1,h2⟩:=oM gh hx e1
   obtain ⟨b,ys,rfl,h3,h4⟩:=oM gh hy e2
   split at hw
   ·rename_i hl
    refine .inr (.inr ⟨a,b,xs,ys,rfl,rfl,h1,h3,by rw [h2.length,h4.length];exact aXk hl (by decide),fun p hp=>?_⟩)
    exact hw _ _ _ (Step.lay gh hp) ⟨p,_,rfl,hp,gh.free hp,cJ,.lst (h2.append h4)⟩
   ·exact hw.elim
  ·exact hw.elim
theorem hX{p:Int->Int->Bool}:OpM K (rI0 fun i j=>.bl (p i j)) (gN fun i j=>.bool (p i j)):=aF1 fun _ _ _=>.bl _
mutual
theorem Rep.reads{P:Program}{w:World}{H:Hp}{h:Heap}(ok:HOk P w H h):∀ {v:V} {d:D},Rep K H v d->d.canLay0=true->∀ {u:Value},RelV v u->∃ as,Reads h u d as
 | _,_,.non,_,_,e=>by cases e;exact ⟨_,Reads.none⟩
 | _,_,.bl b,_,_,e=>by cases e;exact ⟨_,Reads.bool b⟩
 | _,_,.int i,_,_,⟨t,e⟩=>by subst e;exact ⟨_,Reads.int i t⟩
 | _,_,.str i,_,_,⟨t,e⟩=>by subst e;exact ⟨_,Reads.str i t⟩
 | _,_,.tup hh r,hc,_,e=>by
  have e:_=Value.ref _:=e
  subst e
  obtain ⟨_,its,rv,o,ho,hcl,n,hd⟩:=(show ObjOk P w H h _ _ from ok _ _ hh)
  obtain ⟨as,q⟩:=Reps.reads ok r (by simpa [PyData.canLay0] using hc) rv
  exact ⟨as,reads_tuple_at ho hcl hd (by simpa using q)⟩
 | _,_,.lst hh r,hc,_,e=>by
  have e:_=Value.ref _:=e
  subst e
  obtain ⟨_,its,n,rv,ho⟩:=hh.ok ok
  obtain ⟨as,q⟩:=Reps.reads ok r (by simpa [PyData.canLay0] using hc) rv
  exact ⟨_,reads_list_at ho rfl rfl (by simpa using q)⟩
 | _,_,.dT _ _,hc,_,_=>by simp [PyData.canLay0] at hc
 | _,_,.dK _ _,hc,_,_=>by simp [PyData.canLay0] at hc
theorem Reps.reads{P:Program}{w:World}{H:Hp}{h:Heap}(ok:HOk P w H h):∀ {vs:List V} {ds:List D},Reps K H vs ds->PyData.canLayAll0 ds=true->∀ {us:List Value},Vals vs us->∃ as,ReadsAll h us ds as
 | _,_,.nil,_,_,.nil=>⟨_,ReadsAll.nil⟩
 | _,_,.cons hd r,hc,_,.cons rv rt=>by
  simp only [PyData.canLayAll0,bCp] at hc
  obtain ⟨as,q⟩:=Rep.reads ok hd hc.1 rv
  obtain ⟨bs,p⟩:=Reps.reads ok r hc.2 rt
  exact ⟨_,ReadsAll.cons q p⟩
end
def aS7(K:aV9)(ng:Bool):R2:=fun x y H Q=>∃ d e,Rep K H x d/\Rep K H y e/\SeqAt.shaped d=true/\SeqAt.shaped e=true/\Q (.bl (if ng then !PyData.eqv d e else PyData.eqv d e)) H
theorem iX{K:aV9}(hu:X.A.units+64 < cLine):OpR X (compareOp .Eq) (aS7 K false):=by
 intro pins s σ H x y v u Q I rx ry h
 obtain ⟨d,e,h1,h2,o1,o2,q⟩:=h
 obtain ⟨as,r1⟩:=h1.reads I.hok (aXf.mp o1).1 rx
 obtain ⟨bs,r2⟩:=h2.reads I.hok (aXf.mp o2).1 ry
 exact eq_dataH r1 r2 o1 o2 hu ⟨.bl _,H,I,rfl,q⟩
theorem aGk{K:aV9}(hu:X.A.units+64 < cLine):OpR X (compareOp .NotEq) (aS7 K true):=by
 intro pins s σ H x y v u Q I rx ry h
 obtain ⟨d,e,h1,h2,o1,o2,q⟩:=h
 obtain ⟨as,r1⟩:=h1.reads I.hok (aXf.mp o1).1 rx
 obtain ⟨bs,r2⟩:=h2.reads I.hok (aXf.mp o2).1 ry
 exact ne_dataH r1 r2 o1 o2 hu ⟨.bl _,H,I,rfl,q⟩
def eqE(ng:Bool)(x y:Ev):Res Ev:=match dat x,dat y with
 | some d,some e=>if SeqAt.shaped d=true/\SeqAt.shaped e=true then .ok (.p (.bool (if ng then !PyData.eqv d e else PyData.eqv d e))) else .bad
 | _,_=>.bad
theorem iC{ng:Bool}:NoX (eqE ng):=by
 intro x y A h
 unfold eqE at h
 split at h
 ·split at h<;>cases h
 ·cases h
theorem kZ{ng:Bool}:OpM K (aS7 K ng) (eqE ng):=by
 intro W G H v u x y Q gh hx hy hw
 unfold eqE at hw
 split at hw
 ·rename_i d e e1 e2
  split at hw
  ·rename_i hs
   exact ⟨d,e,hx.read gh e1,hy.read gh e2,hs.1,hs.2,hw G H _ (Step.refl gh) (.bl _)⟩
  ·exact hw.elim
 ·exact hw.elim
def aCz(ng:Bool)(x:Ev):Res Ev:=match x with
 | .p .none=>.ok (.p (.bool (!ng)))
 | .p _=>.ok (.p (.bool ng))
 | .b _=>.ok (.p (.bool ng))
 | _=>.bad
def mUn(op:Ev->Res Ev)(fa:En->Res Ev):En->Res Ev:=fun en=>(fa en).bind fun x=>op x.c
variable {E:L2.St->XK}{a b:Expr}{fa fb:En->Res Ev}{pos:Pos}
theorem uS{ng:Bool}{W:Addr->Option Nat}{G H:Hp}{v:V}{x:Ev}{Q:VK}(gh:Same G H)(hx:EOk K W H G H v x.c){EE:XK}(hw:wpR (aCz ng x.c) (PostE K W G H Q) (PostX EE G H)):Q (.bl (if ng then !decide (v=.non) else decide (v=.non))) H:=by
 unfold aCz at hw
 split at hw
 ·rename_i e
  rw [e] at hx
  cases hx
  have z:=hw G H _ (Step.refl gh) (.bl _)
  cases ng<;>exact z
 ·rename_i d e e2
  rw [e2] at hx
  have nv:v≠.non:=by
   intro z
   subst z
   have hx:Rep K G V.non d:=hx
   cases hx
   exact e rfl
  have z:=hw G H _ (Step.refl gh) (.bl _)
  rw [aW0 nv]
  cases ng<;>exact z
 ·rename_i d e
  rw [e] at hx
  obtain ⟨a,i,o,rfl,h1⟩:=hx
  have z:=hw G H _ (Step.refl gh) (.bl _)
  cases ng<;>exact z
 ·exact hw.elim
theorem aSa{j pos'}(ha:DE X E a fa):DE X E (.Compare a [.Is] [.Constant .none j pos'] pos) (mUn (aCz false) fa):=by
 obtain ⟨t,p,m⟩:=ha.out
 refine DE.in ⟨_,aQo (aLw p),fun B G0 G W H σ en Q hh hs hw=>m B G0 G W H σ en _ hh hs (DE.go hw fun x G1 H1 v s1 e1 h1=>?_)⟩
 exact uS (ng:=false) s1.gh e1.cc h1
theorem aP7{j pos'}(ha:DE X E a fa):DT X E (.Compare a [.Is] [.Constant .none j pos'] pos) (bP (mUn (aCz false) fa)):=by
 obtain ⟨t,p,m⟩:=ha.out
 refine DT.in ⟨_,aBj (aLw p),fun B G0 G W H σ en Q hh hs hw=>?_⟩
 have k:=(aSa (pos:=pos) (j:=j) (pos':=pos') ha)
 refine lK (t:=aU5 t) (fa:=mUn (aCz false) fa) (E:=E) (X:=X) (fun B G0 G W H σ en Q hh hs hw=>m B G0 G W H σ en _ hh hs (DE.go hw fun x G1 H1 v s1 e1 h1=>uS (ng:=false) s1.gh e1.cc h1)) B G0 G W H σ en Q hh hs hw
theorem aOb{j pos'}(ha:DE X E a fa):DT X E (.Compare a [.IsNot] [.Constant .none j pos'] pos) (bP (mUn (aCz true) fa)):=by
 obtain ⟨t,p,m⟩:=ha.out
 refine DT.in ⟨_,aBj (aNh p),fun B G0 G W H σ en Q hh hs hw=>?_⟩
 refine lK (t:=aPt t) (fa:=mUn (aCz true) fa) (E:=E) (X:=X) (fun B G0 G W H σ en Q hh hs hw=>m B G0 G W H σ en _ hh hs (DE.go hw fun x G1 H1 v s1 e1 h1=>uS (ng:=true) s1.gh e1.cc h1)) B G0 G W H σ en Q hh hs hw
def mP(x:Ev):Res Ev:=match x with
 | .p (.int i)=>.ok (.p (.int (-i)))
 | _=>.bad
theorem kW(ha:DE X E a fa):DE X E (.UnaryOp .USub a pos) (mUn mP fa):=by
 obtain ⟨t,p,m⟩:=ha.out
 refine DE.in ⟨_,aTp aQ7 p,fun B G0 G W H σ en Q hh hs hw=>m B G0 G W H σ en _ hh hs (DE.go hw fun x G1 H1 v s1 e1 h1=>?_)⟩
 unfold mP at h1
 split at h1
 ·rename_i i e
  rw [e] at e1
  cases e1
  exact ⟨i,rfl,h1 G1 H1 _ (Step.refl s1.gh) (.int _)⟩
 ·exact h1.elim
def fH:Ev->Option (List D)
 | .p (.list ds)=>some ds
 | .b (.list ds)=>some ds
 | .p (.tuple ds)=>some ds
 | _=>none
def ixE(x y:Ev):Res Ev:=match y with
 | .p (.int i)=>match fH x with
  | some ds=>match atI ds i with
   | some d=>.ok (.p d)
   | none=>.bad
  | none=>.bad
 | _=>.bad
theorem aP1:NoX ixE:=by
 intro x y A h
 unfold ixE at h
 split at h
 ·split at h
  ·split at h<;>cases h
  ·cases h
 ·cases h
theorem zF{G:Hp}{xs:List V}{ds:List D}{i:Int}{d:D}(r:Reps K G xs ds)(h:atI ds i=some d):∃ x,atI xs i=some x/\Rep K G x d:=by
 unfold atI at h ⊢
 rw [r.length]
 cases e:ixN ds.length i with
 | none=>rw [e] at h;cases h
 | some j =>
  rw [e] at h
  exact r.get' h
def aVf(K:aV9):R2:=fun x y H Q=>aVg K x y H Q\/aVc K x y H Q
theorem aVl:IxR X (aVf X.K):=ix_list.or aQk
theorem aTi:OpM K (aVf K) ixE:=by
 intro W G H v u x y Q gh hx hy hw
 unfold ixE at hw
 split at hw
 ·rename_i i ey
  rw [ey] at hy
  cases hy
  split at hw
  ·rename_i ds ed
   split at hw
   ·rename_i d ea
    cases ex:x.c with
    | p dd =>
     rw [ex] at ed hx
     cases dd with
     | list es =>
      cases ed
      cases hx with
      | @lst a xs _ h1 h2 =>
       obtain ⟨z,h3,h4⟩:=zF h2 ea
       exact .inl ⟨a,xs,i,z,rfl,rfl,.inl (iT gh h1),h3,hw G H _ (Step.refl gh) h4⟩
     | tuple es =>
      cases ed
      cases hx with
      | @tup a xs _ h1 h2 =>
       obtain ⟨z,h3,h4⟩:=zF h2 ea
       exact .inr ⟨a,xs,i,z,rfl,rfl,SqT.of (gh _ _ h1),h3,hw G H _ (Step.refl gh) h4⟩
     | _=>cases ed
    | b dd =>
     rw [ex] at ed hx
     cases dd with
     | list es =>
      cases ed
      obtain ⟨a,k,o,rfl,h1,h2,h3⟩:=hx
      cases h3 with
      | @lst xs _ h4 =>
       obtain ⟨z,h5,h6⟩:=zF h4 ea
       exact .inl ⟨a,xs,i,z,rfl,rfl,.inl (.inl h2),h5,hw G H _ (Step.refl gh) h6⟩
     | _=>cases ed
    | f dd=>rw [ex] at ed;cases ed
    | x C=>rw [ex] at ed;cases ed
   ·exact hw.elim
  ·exact hw.elim
 ·exact hw.elim
theorem aO(ha:DE X E a fa)(hb:DE X E b fb)(hs:aFg b):DE X E (.Subscript a b pos) (aE ixE fa fb):=by
 obtain ⟨ta,pa,ma⟩:=ha.out
 obtain ⟨tb,pb,mb⟩:=hb.out
 exact DE.in ⟨_,aU0 aVl pa pb hs,vR ma mb aTi aP1⟩
def eU(rs:List Ev):Res Ev:=match rs with
 | [x]=>match fH x with
  | some ds=>.ok (.p (.int ds.length))
  | none=>.bad
 | _=>.bad
theorem eK:aCy eU:=by
 intro rs C h
 unfold eU at h
 split at h
 ·split at h<;>cases h
 ·cases h
theorem gJ:oV K (fun xs H Q=>∃ p ys,xs=[.ref p]/\(SqL K H p ys\/SqT K H p ys)/\Q (.int ys.length) H) eU:=by
 intro W Hs G H vs rs Q gh he hw
 unfold eU at hw
 split at hw
 ·rename_i x
  match vs,he with
  | [v],⟨h1,_⟩ =>
   split at hw
   ·rename_i ds ed
    cases x with
    | p dd =>
     cases dd with
     | list es =>
      cases ed
      cases h1 with
      | @lst a xs _ k1 k2=>exact ⟨a,xs,rfl,.inl (.inl (iT gh k1)),by rw [k2.length];exact hw G H _ (Step.refl gh) (.int _)⟩
     | tuple es =>
      cases ed
      cases h1 with
      | @tup a xs _ k1 k2=>exact ⟨a,xs,rfl,.inr (SqT.of (gh _ _ k1)),by rw [k2.length];exact hw G H _ (Step.refl gh) (.int _)⟩
     | _=>cases ed
    | b dd =>
     cases dd with
     | list es =>
      cases ed
      obtain ⟨a,k,o,rfl,k1,k2,k3⟩:=h1
      cases k3 with
      | @lst xs _ k4=>exact ⟨a,xs,rfl,.inl (.inl (.inl k2)),by rw [k4.length];exact hw G H _ (Step.refl gh) (.int _)⟩
     | _=>cases ed
    | f dd=>cases ed
    | x C=>cases ed
   ·exact hw.elim
 ·exact hw.elim
def aKr(rs:List Ev):Res Ev:=match rs with
 | [.p (.int i)]=>.ok (.p (.int (if i < 0 then -i else i)))
 | _=>.bad
theorem uR:aCy aKr:=by
 intro rs C h
 unfold aKr at h
 split at h<;>cases h
theorem aAc:oV K (fun xs H Q=>∃ i,xs=[.int i]/\Q (.int (if i < 0 then -i else i)) H) aKr:=by
 intro W Hs G H vs rs Q gh he hw
 unfold aKr at hw
 split at hw
 ·rename_i i
  match vs,he with
  | [v],⟨h1,_⟩=>cases h1;exact ⟨i,rfl,hw G H _ (Step.refl gh) (.int _)⟩
 ·exact hw.elim
def aOl(f:Int->Int->Int)(rs:List Ev):Res Ev:=match rs with
 | [.p (.int i),.p (.int j)]=>.ok (.p (.int (f i j)))
 | _=>.bad
theorem aMg{f:Int->Int->Int}:aCy (aOl f):=by
 intro rs C h
 unfold aOl at h
 split at h<;>cases h
theorem aSi{f:Int->Int->Int}:oV K (fun xs H Q=>∃ i j,xs=[.int i,.int j]/\Q (.int (f i j)) H) (aOl f):=by
 intro W Hs G H vs rs Q gh he hw
 unfold aOl at hw
 split at hw
 ·rename_i i j
  match vs,he with
  | [v,u],⟨h1,h2,_⟩=>cases h1;cases h2;exact ⟨i,j,rfl,hw G H _ (Step.refl gh) (.int _)⟩
 ·exact hw.elim
def aN1(f:Int->Int->Int)(rs:List Ev):Res Ev:=match rs with
 | [.p (.tuple [.int i,.int j])]=>.ok (.p (.int (f i j)))
 | _=>.bad
theorem aFl{f:Int->Int->Int}:aCy (aN1 f):=by
 intro rs C h
 unfold aN1 at h
 split at h<;>cases h
theorem aKv{f:Int->Int->Int}:oV K (xU K f) (aN1 f):=by
 intro W Hs G H vs rs Q gh he hw
 unfold aN1 at hw
 split at hw
 ·rename_i i j
  match vs,he with
  | [v],⟨h1,_⟩ =>
   cases h1 with
   | @tup a xs _ k1 k2 =>
    cases k2 with
    | cons r1 k2 =>
     cases k2 with
     | cons r2 k2 =>
      cases k2
      cases r1
      cases r2
      exact ⟨a,i,j,rfl,SqT.of (gh _ _ k1),hw G H _ (Step.refl gh) (.int _)⟩
 ·exact hw.elim
def yM:List D->Option (List Bool)
 | []=>some []
 | .bool b :: ds=>match yM ds with
  | some bs=>some (b :: bs)
  | none=>none
 | _=>none
theorem zT{G:Hp}:∀ {ds:List D} {bs:List Bool} {xs:List V},yM ds=some bs->Reps K G xs ds->xs=bs.map V.bl
 | [],_,_,h,.nil=>by cases h;rfl
 | d :: ds,bs,_,h,.cons r t=>by
  cases d with
  | bool b =>
   unfold yM at h
   cases e:yM ds with
   | none=>rw [e] at h;cases h
   | some bs' =>
    rw [e] at h
    cases h
    cases r
    rw [zT e t]
    rfl
  | _=>cases h
def aLt(rs:List Ev):Res Ev:=match rs with
 | [x]=>match eZ x with
  | some ds=>match yM ds with
   | some bs=>.ok (.p (.bool (bs.any id)))
   | none=>.bad
  | none=>.bad
 | _=>.bad
theorem aNx:aCy aLt:=by
 intro rs C h
 unfold aLt at h
 split at h
 ·split at h
  ·split at h<;>cases h
  ·cases h
 ·cases h
theorem aSj:oV K (aU9 K) aLt:=by
 intro W Hs G H vs rs Q gh he hw
 unfold aLt at hw
 split at hw
 ·rename_i x
  match vs,he with
  | [v],⟨h1,_⟩ =>
   split at hw
   ·rename_i ds ed
    obtain ⟨a,xs,rfl,k1,k2⟩:=oM gh h1 ed
    split at hw
    ·rename_i bs eb
     have:=zT eb k2
     subst this
     exact ⟨a,bs,rfl,.inl k1,hw G H _ (Step.refl gh) (.bl _)⟩
    ·exact hw.elim
   ·exact hw.elim
 ·exact hw.elim
def listE(rs:List Ev):Res Ev:=match rs with
 | [x]=>match fH x with
  | some ds=>.ok (.f (.list ds))
  | none=>.bad
 | _=>.bad
theorem vQ:aCy listE:=by
 intro rs C h
 unfold listE at h
 split at h
 ·split at h<;>cases h
 ·cases h
theorem zJ:oV K (fun xs H Q=>∃ p ys,xs=[.ref p]/\(SqL K H p ys\/SqT K H p ys)/\∀ l,H l=none->Q (.ref l) (upd H l (.lst ys))) listE:=by
 intro W Hs G H vs rs Q gh he hw
 unfold listE at hw
 split at hw
 ·rename_i x
  match vs,he with
  | [v],⟨h1,_⟩ =>
   split at hw
   ·rename_i ds ed
    have fin:∀ {xs:List V},Reps K G xs ds->∀ l,H l=none->Q (.ref l) (upd H l (.lst xs)):=fun r l hl =>
     hw _ _ _ (Step.lay gh hl) ⟨l,_,rfl,hl,gh.free hl,cJ,.lst r⟩
    cases x with
    | p dd =>
     cases dd with
     | list es =>
      cases ed
      cases h1 with
      | @lst a xs _ k1 k2=>exact ⟨a,xs,rfl,.inl (.inl (iT gh k1)),fin k2⟩
     | tuple es =>
      cases ed
      cases h1 with
      | @tup a xs _ k1 k2=>exact ⟨a,xs,rfl,.inr (SqT.of (gh _ _ k1)),fin k2⟩
     | _=>cases ed
    | b dd =>
     cases dd with
     | list es =>
      cases ed
      obtain ⟨a,k,o,rfl,k1,k2,k3⟩:=h1
      cases k3 with
      | @lst xs _ k4=>exact ⟨a,xs,rfl,.inl (.inl (.inl k2)),fin k4⟩
     | _=>cases ed
    | f dd=>cases ed
    | x C=>cases ed
   ·exact hw.elim
 ·exact hw.elim
def tyD:D->String
 | .none=>"NoneType"
 | .bool _=>"bool"
 | .int _=>"int"
 | .str _=>"str"
 | .list _=>"list"
 | .tuple _=>"tuple"
 | .dict _=>"dict"
def aCq(K:aV9)(c:Value)(x:Ev):Res Ev:=match dat x with
 | some d=>match PySem.W.kitOne K (.type (tyD d)) c with
  | some b=>.ok (.p (.bool b))
  | none=>.bad
 | none=>.bad
theorem aQn{H:Hp}{v:V}{d:D}(h:Rep K H v d):aBf K H v (.type (tyD d)):=by
 cases h with
 | non=>exact .non
 | bl b=>exact .bl b
 | int i=>exact .int i
 | str i=>exact .str i
 | tup h _=>exact .tup h
 | lst h _ =>
  rcases h with h | ⟨o,h⟩
  ·exact .lst h
  ·exact .frz h
 | dT h _=>exact .dT h
 | dK h _=>exact .dK h
theorem aB1{e c:Expr}{v:V}{cv:Value}{p:Pos}(hg:Gl X "isinstance")(hm:X.mg "isinstance" = none)(hv:(∃ n,v=.ty n)\/∃ a,v=.ref a)(hr:RelV v cv)(he:DE X E e fa)(hc:PE X c (tC v))
  (h1:starEach [e,c] X.env=(false,eval e X.env) :: starEach [c] X.env:=by rfl) (h2:(backTo pos (starEach [c] X.env)).any (·.1)=false:=by rfl) (h3:starEach [c] X.env=(false,eval c X.env) :: starEach [] X.env:=by rfl) :
  DE X E (.Call (.Name "isinstance" p) [e,c] [] pos) (mUn (aCq X.K cv) fa):=by
 obtain ⟨t,q,m⟩:=he.out
 refine DE.in ⟨_,aQi hg hm q hc h1 h2 h3,fun B G0 G W H σ en Q hh hs hw=>m B G0 G W H σ en _ hh hs (DE.go hw fun x G1 H1 u s1 e1 k1=>?_)⟩
 unfold aCq at k1
 split at k1
 ·rename_i d ed
  split at k1
  ·rename_i b eb
   exact ⟨u,v,.type (tyD d),cv,b,rfl,hv,.plain (aQn (EOk.read s1.gh e1 ed)),hr,eb,k1 G1 H1 _ (Step.refl s1.gh) (.bl _)⟩
  ·exact k1.elim
 ·exact k1.elim
end
section
variable {P:Program}{w:World}{K:aV9}{mg:Str->Option Value}{base:Heap}
structure Def(K:aV9)(mg:Str->Option Value)(x:Str)(ps:List Str)(st:Stmt):Prop where
 ex:∃ f fd,Fun K x x st f fd/\Binds K fd ps []/\PySem.W.keepIn K (.ref f)=true/\mg x=some (.ref f)
structure Cal(P:Program)(w:World)(K:aV9)(mg:Str->Option Value)(base:Heap)(k:Nat)(x:Str)(n:Nat)(m:List L->Res L):Prop where
 ex:∃ f fd ps,FnOk P w K mg base (CXr P w) k f fd ps (spM K n m)/\Binds K fd ps []/\PySem.W.keepIn K (.ref f)=true/\mg x=some (.ref f)
theorem jP{x:Str}{st:Stmt}{N ps:List Str}{k n:Nat}{m:List L->Res L}(Df:Def K mg x ps st)(S:a9 N ps (aT st))(hn:n=ps.length)
  (hbody:∀ (f:Addr) (cdv:Value) (A:Around) (outer:List Env) (s:Shared) (H:Hp) (E:XK),Room k (A.deeper (envOfC x (aT st) s.heap.objs.size f cdv)) ->
   ∃ fm,DSs (uO (CXr P w) P w K mg base N x (aT st) f cdv A outer s H E) (fun _=>E) (iS st) fm/\∀ ls,m ls=.bad\/fG N.length fm ls=m ls):Cal P w K mg base (k+1) x n m:=by
 obtain ⟨f,fd,F,b,kp,h⟩:=Df.ex
 exact ⟨f,fd,ps,fnM F S hn fun cdv A outer s H E hr=>hbody f cdv A outer s H E hr,b,kp,h⟩
end
section
variable {X:Cx}{E:L2.St->XK}{k j:Nat}{x:Str}{p pos:Pos}{e:Expr}{es:List Expr}{fr:En->Res (List Ev)}{n:Nat}{m:List L->Res L}
theorem aK(c:Cal X.prog X.w X.K X.mg X.base j x n m)(hr:Room k X.A)(hx:qE (CXr X.prog X.w) X E)(ha:DA X E (e :: es) fr)(hg:Gl X x:=by rfl)(hjk:j<=k:=by decide)(hdb:(x == ("__debug__" : Str))=false:=by decide)
  (he:starEach (e :: es) X.env=(false,eval e X.env) :: starEach es X.env:=by rfl) (hpl:(backTo pos (starEach es X.env)).any (·.1)=false:=by rfl) :
  DE X E (.Call (.Name x p) (e :: es) [] pos) (aP n m fr):=by
 obtain ⟨f,fd,ps,F,b,kp,h⟩:=c.ex
 exact aN9 (F.mono hjk) hr hg h kp b hx ha hdb he hpl
theorem dv(i:Nat)(hN:X.N[i]? = some x:=by rfl)(hv:Vis X.env.scope x:=by first | exact Or.inl rfl | exact Or.inr (Or.inl rfl) | exact Or.inr (Or.inr rfl))(hd:(x == ("__debug__" : Str))=false:=by decide)(hcd:(x == ("__classdict__" : Str))=false:=by decide) :
  DE X E (.Name x pos) (aD i):=aSe hN hv hd hcd
theorem u64{A:Around}(hr:Room k A):A.units+64 < cLine:=by have:=hr.un;omega
theorem u1{A:Around}(hr:Room k A):A.units+1 < cLine:=by have:=hr.un;omega
theorem bQ{scope:Scope}{cl:List (Str×Addr)}:sG X scope cl [] []:=⟨rfl,fun i y j h _=>by simp at h⟩
theorem bB{scope:Scope}{cl:List (Str×Addr)}{y:Str}{ys:List Str}{j:Nat}{js:List Nat}(h:X.N[j]? = some y/\(X.env.kindOf y=some .cell\/X.env.kindOf y=some .free)/\((relabel scope X.env).names.lookup y=some .cell\/(relabel scope X.env).names.lookup y=some .free)/\(X.env.cells.lookup y).isSome=true/\cl.lookup y=X.env.cells.lookup y)
  (t:sG X scope cl ys js):sG X scope cl (y :: ys) (j :: js) :=
 ⟨by rw [aWc,aWc,t.len],fun i z q e1 e2=>by
  cases i with
  | zero=>simp at e1 e2;subst e1 e2;exact h
  | succ i=>exact t.at_ i z q (by simpa using e1) (by simpa using e2)⟩
theorem kF{scope:Scope}{cl:List (Str×Addr)}{ys:List Str}{js:List Nat}(clos:closureFor scope X.env=pure cl)(sub:∀ q∈cl,X.env.cells.lookup q.1=some q.2)(cap:sG X scope cl ys js)(hcell:∀ y∈scope.names,y.2≠.cell)(hfree:∀ q∈scope.names,q.2=.free->q.1∈ys):aOu X scope cl:=by
 refine ⟨clos,fun y c h=>sub _ (aYe h),fun y hy=>?_⟩
 have hm:y∈ys:=by
  rcases hy with hy | hy
  ·have m:=aYe hy
   obtain ⟨⟨n0,k0⟩,m0,e0⟩:=aWg.mp m
   dsimp only at e0
   split at e0
   ·rename_i z
    injection e0 with e1 e2
    subst e1
    have:k0=.free:=by
     cases k0<;>simp at z ⊢
    exact hfree _ m0 this
   ·injection e0 with e1 e2
    exact absurd e2 (hcell _ m0)
  ·have m:=aYe hy
   obtain ⟨⟨n0,k0⟩,m0,e0⟩:=aWg.mp m
   dsimp only at e0
   split at e0
   ·injection e0 with e1 e2
    cases e2
   ·injection e0 with e1 e2
    subst e1
    exact hfree _ m0 e2
 obtain ⟨i,hi,e⟩:=aY3.mp hm
 have hj:i < js.length:=by rw [<- cap.len];exact hi
 obtain ⟨_,_,_,h4,h5⟩:=cap.at_ i y js[i] (by rw [aWd hi,e]) (aWd hj)
 rw [h5]
 exact aXt.mp h4
theorem lL{K:aV9}{B G0 G H:Hp}{W:Addr->Option Nat}{σ:L2.St}{en:En}{i:Nat}{a:Addr}{o':HO}{d':D}(hh:SimH B G0 G W H)(hs:SimS K W G H σ en)(hW:W a=some i)(hv:σ[i]? = some (some (.ref a)))(hc:Cont K G o' d') :
  SimH B G0 G W (upd H a o')/\SimS K W G (upd H a o') σ (en.set i (some (.o d'))):=by
 obtain ⟨g1,g2,g3⟩:=hh.wf a i hW
 refine ⟨⟨fun b o e=>?_,fun b o e=>?_,hh.g0,hh.gb,fun b j e=>?_⟩,by rw [aZz];exact hs.1,fun j l e=>?_⟩
 ·rw [bY (eB e g1)];exact hh.gh b o e
 ·rw [bY (eB e g2)];exact hh.bh b o e
 ·obtain ⟨k1,k2,o,k3,k4⟩:=hh.wf b j e
  refine ⟨k1,k2,?_⟩
  by_cases z:b=a
  ·rw [z,cJ];exact ⟨_,rfl,hc.mut⟩
  ·rw [bY z];exact ⟨o,k3,k4⟩
 ·rw [bA1] at e
  by_cases hj:i=j
  ·subst hj
   rw [aWm rfl] at e
   split at e
   ·cases e
    exact ⟨_,hv,a,o',rfl,hW,cJ,hc⟩
   ·cases e
  ·rw [aWn hj] at e
   obtain ⟨v,e1,e2⟩:=hs.2 j l e
   refine ⟨v,e1,?_⟩
   cases l with
   | p d=>exact e2
   | x C=>exact e2
   | h a=>exact e2
   | o d =>
    obtain ⟨b,ob,h1,h2,h3,h4⟩:=e2
    refine ⟨b,ob,h1,h2,?_,h4⟩
    rw [bY (fun z=>by rw [z,hW] at h2;exact hj (aWx h2))]
    exact h3
def mD(i:Nat)(fe:En->Res Ev):MS:=fun en=>match en[i]? with
 | some (some (.o (.list ds)))=>match fe en with
  | .ok r=>match r.c with
   | .p d=>if ds.length<=100000 then some (.nx (en.set i (some (.o (.list (ds++[d])))))) else none
   | _=>none
  | .exc C=>some (.ex C en)
  | .bad=>none
 | _=>none
theorem qW{i:Nat}{fe:En->Res Ev}{st:Stmt}(he:DE X E e fe)(hp:∀ t,PE X e t->PS X st (aDx (tBM X.K "list" aFr (aLc i) (aOq t aT5)))):DS X E st (mD i fe):=by
 obtain ⟨t,q,mm⟩:=he.out
 refine DS.in ⟨_,hp t q,fun B G0 G W H σ en Dn hh hs hw=>?_⟩
 unfold mD at hw
 split at hw
 ·rename_i ds ei
  obtain ⟨v,e1,a,o,rfl,e2,e3,e4⟩:=hs.2 i _ ei
  cases e4 with
  | @lst xs _ rp =>
  refine ⟨_,e1,.inl ⟨rfl,_,SqL.of e3⟩,mm B G0 G W H σ en _ hh hs ?_⟩
  cases ef:fe en with
  | bad=>rw [ef] at hw;exact hw
  | exc C=>rw [ef] at hw;exact fun G1 H1 s=>hw G1 W H1 σ (hh.step s) (hs.step s)
  | ok r =>
   rw [ef] at hw
   intro G1 H1 y s ey
   obtain ⟨G2,s2,ey2⟩:=ey.c s
   dsimp only at hw
   cases er:r.c with
   | p d =>
    rw [er] at hw ey2
    dsimp only at hw
    split at hw
    ·rename_i hl
     have hx:=s2.h _ _ e3
     refine ⟨a,xs,y,rfl,rfl,hx,aZh (by rw [rp.length];exact hl) (by decide),?_⟩
     obtain ⟨w1,w2⟩:=lL (o':=.lst (xs++[y])) (d':=.list (ds++[d])) (hh.step s2) (hs.step s2) e2 e1 (.lst ((rp.mono s2.g).append (.cons ey2 .nil)))
     exact hw _ _ _ _ w1 w2
    ·exact hw.elim
   | f d=>rw [er] at hw;exact hw.elim
   | b d=>rw [er] at hw;exact hw.elim
   | x C=>rw [er] at hw;exact hw.elim
 ·exact hw.elim
end
section
variable {X:Cx}{K:aV9}{E:L2.St->XK}{a b:Expr}{fa fb:En->Res Ev}{pos:Pos}
def aK7:D->Option Key
 | .int i=>some (.inl i)
 | .str x=>some (.inr x)
 | _=>none
def yE:List D->Option (List Key)
 | []=>some []
 | d :: ds=>match aK7 d with
  | none=>none
  | some k=>match yE ds with
   | none=>none
   | some ks=>some (k :: ks)
def aPk:D->Option (List Key)
 | .tuple ds=>yE ds
 | _=>none
theorem uP{d:D}{k:Key}(h:aK7 d=some k):d=kD k:=by
 cases d<;>first | (cases h;rfl) | cases h
theorem xX(k:Key):aK7 (kD k)=some k:=by cases k<;>rfl
theorem aAi:∀ {ds:List D} {ks:List Key},yE ds=some ks->ds=ks.map kD
 | [],_,h=>by cases h;rfl
 | d :: ds,ks,h=>by
  unfold yE at h
  cases e:aK7 d with
  | none=>rw [e] at h;cases h
  | some k =>
   rw [e] at h
   cases e2:yE ds with
   | none=>rw [e2] at h;cases h
   | some ks' =>
    rw [e2] at h
    cases h
    rw [uP e,aAi e2]
    rfl
theorem zW:∀ ks:List Key,yE (ks.map kD)=some ks
 | []=>rfl
 | k :: ks=>by
  show (match aK7 (kD k) with | none=>none | some k=>match yE (ks.map kD) with | none=>none | some ks=>some (k :: ks))=_
  rw [xX,zW ks]
theorem zD{d:D}{ks:List Key}(h:aPk d=some ks):d=tkD ks:=by
 cases d with
 | tuple ds=>unfold tkD;rw [<- aAi h]
 | _=>cases h
theorem aBb(ks:List Key):aPk (tkD ks)=some ks:=zW ks
theorem aHk{k k':List Key}(h:tkD k=tkD k'):k=k':=by
 have:=aBb k
 rw [h,aBb] at this
 exact (aWx this).symm
theorem aKl{k k':Key}(h:kD k=kD k'):k=k':=by
 have:=xX k
 rw [h,xX] at this
 exact (aWx this).symm
theorem aEm{G:Hp}:∀ {ks:List Key} {xs:List V},Reps K G xs (ks.map kD)->xs=ks.map kV
 | [],_,.nil=>rfl
 | k :: ks,_,.cons r t=>by
  rw [aEm t]
  cases k with
  | inl i=>cases r;rfl
  | inr x=>cases r;rfl
theorem aLn{G:Hp}{v:V}{d:D}{ks:List Key}(h:Rep K G v d)(e:aPk d=some ks):∃ b,v=.ref b/\G b=some (.tup (ks.map kV)):=by
 have:=zD e
 subst this
 cases h with
 | @tup b xs _ h1 h2 =>
  rw [aEm h2] at h1
  exact ⟨b,rfl,h1⟩
theorem aEi{G:Hp}{v:V}{d:D}{k:Key}(h:Rep K G v d)(e:aK7 d=some k):v=kV k:=by
 have:=uP e
 subst this
 cases k with
 | inl i=>cases h;rfl
 | inr x=>cases h;rfl
open Classical in
noncomputable def aBu:List (D×D)->D->Option D
 | [],_=>none
 | p :: r,k=>if p.1=k then some p.2 else aBu r k
open Classical in
noncomputable def aLs(k v:D):List (D×D)->List (D×D)
 | []=>[]
 | p :: r=>(if p.1=k then (p.1,v) else p) :: aLs k v r
open Classical in
noncomputable def aHo(kvs:List (D×D))(k v:D):List (D×D):=if (aBu kvs k).isSome=true then aLs k v kvs else kvs++[(k,v)]
theorem aTu{G:Hp}(ks:List Key):∀ {kv:List (List Key×V)} {kvs:List (D×D)},RepT K G kv kvs->(aBu kvs (tkD ks)=none/\vX kv ks=none)\/∃ d v,aBu kvs (tkD ks)=some d/\vX kv ks=some v/\Rep K G v d
 | _,_,.nil=>.inl ⟨rfl,rfl⟩
 | _,_,.cons (k:=k) (x:=x) (d:=d) r t=>by
  by_cases e:k=ks
  ·subst e
   refine .inr ⟨d,x,?_,mY (p:=(k,x)) rfl,r⟩
   unfold aBu
   rw [aWm rfl]
  ·have e2:tkD k≠tkD ks:=fun z=>e (aHk z)
   unfold aBu
   rw [aWn e2,mZ (p:=(k,x)) e]
   exact aTu ks t
theorem aTt{G:Hp}(ks:Key):∀ {kv:List (Key×V)} {kvs:List (D×D)},RepK K G kv kvs->(aBu kvs (kD ks)=none/\vX kv ks=none)\/∃ d v,aBu kvs (kD ks)=some d/\vX kv ks=some v/\Rep K G v d
 | _,_,.nil=>.inl ⟨rfl,rfl⟩
 | _,_,.cons (k:=k) (x:=x) (d:=d) r t=>by
  by_cases e:k=ks
  ·subst e
   refine .inr ⟨d,x,?_,mY (p:=(k,x)) rfl,r⟩
   unfold aBu
   rw [aWm rfl]
  ·have e2:kD k≠kD ks:=fun z=>e (aKl z)
   unfold aBu
   rw [aWn e2,mZ (p:=(k,x)) e]
   exact aTt ks t
theorem aUf{G:Hp}{ks:List Key}{v:V}{d:D}(h:Rep K G v d):∀ {kv:List (List Key×V)} {kvs:List (D×D)},RepT K G kv kvs->RepT K G (kv.map fun p=>if p.1=ks then (p.1,v) else p) (aLs (tkD ks) d kvs)
 | _,_,.nil=>.nil
 | _,_,.cons (k:=k) (x:=x) (d:=d0) r t=>by
  unfold aLs
  rw [aWo]
  by_cases e:k=ks
  ·subst e
   rw [aWm rfl,aWm rfl]
   exact .cons h (aUf h t)
  ·have e2:tkD k≠tkD ks:=fun z=>e (aHk z)
   rw [aWn e,aWn e2]
   exact .cons r (aUf h t)
theorem aUl{G:Hp}{ks:Key}{v:V}{d:D}(h:Rep K G v d):∀ {kv:List (Key×V)} {kvs:List (D×D)},RepK K G kv kvs->RepK K G (kv.map fun p=>if p.1=ks then (p.1,v) else p) (aLs (kD ks) d kvs)
 | _,_,.nil=>.nil
 | _,_,.cons (k:=k) (x:=x) (d:=d0) r t=>by
  unfold aLs
  rw [aWo]
  by_cases e:k=ks
  ·subst e
   rw [aWm rfl,aWm rfl]
   exact .cons h (aUl h t)
  ·have e2:kD k≠kD ks:=fun z=>e (aKl z)
   rw [aWn e,aWn e2]
   exact .cons r (aUl h t)
theorem RepT.app{G:Hp}:∀ {kv kv':List (List Key×V)} {kvs kvs':List (D×D)},RepT K G kv kvs->RepT K G kv' kvs'->RepT K G (kv++kv') (kvs++kvs')
 | _,_,_,_,.nil,r=>r
 | _,_,_,_,.cons h t,r=>.cons h (RepT.app t r)
theorem RepK.app{G:Hp}:∀ {kv kv':List (Key×V)} {kvs kvs':List (D×D)},RepK K G kv kvs->RepK K G kv' kvs'->RepK K G (kv++kv') (kvs++kvs')
 | _,_,_,_,.nil,r=>r
 | _,_,_,_,.cons h t,r=>.cons h (RepK.app t r)
theorem RepT.len{G:Hp}:∀ {kv:List (List Key×V)} {kvs:List (D×D)},RepT K G kv kvs->kv.length=kvs.length
 | _,_,.nil=>rfl
 | _,_,.cons _ r=>by rw [aWc,aWc,RepT.len r]
theorem RepK.len{G:Hp}:∀ {kv:List (Key×V)} {kvs:List (D×D)},RepK K G kv kvs->kv.length=kvs.length
 | _,_,.nil=>rfl
 | _,_,.cons _ r=>by rw [aWc,aWc,RepK.len r]
theorem aV5{G:Hp}{ks:List Key}{v:V}{d:D}(h:Rep K G v d){kv:List (List Key×V)}{kvs:List (D×D)}(r:RepT K G kv kvs):RepT K G (putK kv ks v) (aHo kvs (tkD ks) d):=by
 unfold putK aHo
 rw [pM]
 rcases aTu ks r with ⟨e1,e2⟩ | ⟨d0,v0,e1,e2,_⟩
 ·rw [e1,e2,aWn (by simp),aWn (by simp)]
  exact r.app (.cons h .nil)
 ·rw [e1,e2,aWm (show (some v0).isSome=true from rfl),aWm (show (some d0).isSome=true from rfl)]
  exact aUf h r
theorem aTr{G:Hp}{ks:Key}{v:V}{d:D}(h:Rep K G v d){kv:List (Key×V)}{kvs:List (D×D)}(r:RepK K G kv kvs):RepK K G (putK kv ks v) (aHo kvs (kD ks) d):=by
 unfold putK aHo
 rw [pM]
 rcases aTt ks r with ⟨e1,e2⟩ | ⟨d0,v0,e1,e2,_⟩
 ·rw [e1,e2,aWn (by simp),aWn (by simp)]
  exact r.app (.cons h .nil)
 ·rw [e1,e2,aWm (show (some v0).isSome=true from rfl),aWm (show (some d0).isSome=true from rfl)]
  exact aUl h r
def dsp(kvs:List (D×D)):Bool×List (D×D):=match kvs with
 | (.none,.none) :: r=>(true,r)
 | r=>(false,r)
theorem aNe{G:Hp}{kv:List (List Key×V)}{kvs:List (D×D)}(r:RepT K G kv kvs):dsp kvs=(false,kvs):=by
 cases r with
 | nil=>rfl
 | cons _ _=>rfl
def j8:Ev->Option (List (D×D))
 | .p (.dict kvs)=>some kvs
 | .b (.dict kvs)=>some kvs
 | _=>none
noncomputable def wJ(kvs:List (D×D))(k:D):Option (Option D):=match dsp kvs with
 | (true,r)=>if (aK7 k).isSome=true then some (aBu r k) else none
 | (false,r)=>if (aPk k).isSome=true then some (aBu r k) else none
theorem aAs{W:Addr->Option Nat}{Hs G H:Hp}{v:V}{r:Ev}{kvs:List (D×D)}(gh:Same G H)(h:EOk K W Hs G H v r)(e:j8 r=some kvs) :
  ∃ a,v=.ref a/\((∃ kv,H a=some (.dT kv)/\RepT K G kv kvs)\/∃ kv r,kvs=(.none,.none) :: r/\H a=some (.dK kv)/\RepK K G kv r):=by
 cases r with
 | p d =>
  cases d with
  | dict es =>
   cases e
   cases h with
   | @dT a kv _ h1 h2=>exact ⟨a,rfl,.inl ⟨kv,gh _ _ h1,h2⟩⟩
   | @dK a kv r h1 h2=>exact ⟨a,rfl,.inr ⟨kv,r,rfl,gh _ _ h1,h2⟩⟩
  | _=>cases e
 | b d =>
  cases d with
  | dict es =>
   cases e
   obtain ⟨a,i,o,rfl,h1,h2,h3⟩:=h
   cases h3 with
   | @dT kv _ h4=>exact ⟨a,rfl,.inl ⟨kv,h2,h4⟩⟩
   | @dK kv r h4=>exact ⟨a,rfl,.inr ⟨kv,r,rfl,h2,h4⟩⟩
  | _=>cases e
 | f d=>cases e
 | x C=>cases e
def aTd(K:aV9)(G:Hp):Option D->Option V->Prop
 | none,w=>w=none
 | some d,w=>∃ x,w=some x/\Rep K G x d
theorem aFs{W:Addr->Option Nat}{Hs Hs' G H:Hp}{v u:V}{r:Ev}{k:D}{kvs:List (D×D)}{o:Option D}(gh:Same G H)(h:EOk K W Hs G H v r)(e:j8 r=some kvs)(hk:Rep K G u k)(el:wJ kvs k=some o) :
  ∃ a w,v=.ref a/\DGet H a u w/\aTd K G o w:=by
 obtain ⟨a,rfl,hh⟩:=aAs gh h e
 rcases hh with ⟨kv,h1,h2⟩ | ⟨kv,r,rfl,h1,h2⟩
 ·unfold wJ at el
  rw [aNe h2] at el
  dsimp only at el
  split at el
  ·rename_i z
   obtain ⟨ks,ek⟩:=aXt.mp z
   obtain ⟨b,rfl,hb⟩:=aLn hk ek
   have:=zD ek
   subst this
   cases el
   refine ⟨a,vX kv ks,rfl,.t h1 (gh _ _ hb),?_⟩
   rcases aTu ks h2 with ⟨e1,e2⟩ | ⟨d0,v0,e1,e2,e3⟩
   ·rw [e1,e2];exact rfl
   ·rw [e1,e2];exact ⟨v0,rfl,e3⟩
  ·cases el
 ·unfold wJ at el
  dsimp only [dsp] at el
  split at el
  ·rename_i z
   obtain ⟨ks,ek⟩:=aXt.mp z
   have hb:=aEi hk ek
   subst hb
   have:=uP ek
   subst this
   cases el
   refine ⟨a,vX kv ks,rfl,.k h1,?_⟩
   rcases aTt ks h2 with ⟨e1,e2⟩ | ⟨d0,v0,e1,e2,e3⟩
   ·rw [e1,e2];exact rfl
   ·rw [e1,e2];exact ⟨v0,rfl,e3⟩
  ·cases el
noncomputable def jL(x y:Ev):Res Ev:=match y with
 | .p k=>match j8 x with
  | some kvs=>match wJ kvs k with
   | some (some d)=>.ok (.p d)
   | _=>.bad
  | none=>.bad
 | _=>.bad
noncomputable def xD(ng:Bool)(y x:Ev):Res Ev:=match y with
 | .p k=>match j8 x with
  | some kvs=>match wJ kvs k with
   | some o=>.ok (.p (.bool (if ng then !o.isSome else o.isSome)))
   | none=>.bad
  | none=>.bad
 | _=>.bad
theorem n8(hu:X.A.units+1 < cLine)(ha:DE X E a fa)(hb:DE X E b fb)(hs:aUt b):DE X E (.Subscript a b pos) (aE jL fa fb):=by
 obtain ⟨ta,pa,ma⟩:=ha.out
 obtain ⟨tb,pb,mb⟩:=hb.out
 refine DE.in ⟨_,aNl hu pa pb hs,fun B G0 G W H σ en Q hh hs hw=>ma B G0 G W H σ en _ hh hs (DE.go hw fun x G1 H1 v s1 e1 h1=>?_)⟩
 refine mb B G0 G1 W H1 σ en _ (hh.step s1) (hs.step s1) (DE.go h1 fun y G2 H2 u s2 e2 h2=>?_)
 unfold jL at h2
 split at h2
 ·rename_i k ey
  rw [ey] at e2
  split at h2
  ·rename_i kvs ed
   split at h2
   ·rename_i d el
    obtain ⟨a,w,rfl,hg,x,rfl,hx⟩:=aFs (Hs':=H1) s2.gh (e1.step (Hs':=H1) s2) ed e2 el
    exact ⟨a,x,rfl,hg,h2 G2 H2 _ (Step.refl s2.gh) hx⟩
   ·exact h2.elim
  ·exact h2.elim
 ·exact h2.elim
theorem aBw{ta tb:TE}{ng:Bool}(ma:∀ B G0 G W H σ en Q,SimH B G0 G W H->SimS X.K W G H σ en->wpR (fa en) (PostE X.K W G H Q) (PostX (E σ) G H)->ta σ H Q)
  (mb:∀ B G0 G W H σ en Q,SimH B G0 G W H->SimS X.K W G H σ en->wpR (fb en) (PostE X.K W G H Q) (PostX (E σ) G H)->tb σ H Q) :
  ∀ B G0 G W H σ en Q,SimH B G0 G W H->SimS X.K W G H σ en->wpR (aE (xD ng) fa fb en) (PostE X.K W G H Q) (PostX (E σ) G H) ->
   ta σ H fun y H1=>tb σ H1 fun x H2=>∃ a o,x=.ref a/\DGet H2 a y o/\Q (.bl (if ng then !o.isSome else o.isSome)) H2:=by
 intro B G0 G W H σ en Q hh hs hw
 refine ma B G0 G W H σ en _ hh hs (DE.go hw fun y G1 H1 u s1 e1 h1=>?_)
 refine mb B G0 G1 W H1 σ en _ (hh.step s1) (hs.step s1) (DE.go h1 fun x G2 H2 v s2 e2 h2=>?_)
 have e1':=e1.step (Hs':=H1) s2
 unfold xD at h2
 split at h2
 ·rename_i k ey
  rw [ey] at e1'
  split at h2
  ·rename_i kvs ed
   split at h2
   ·rename_i o el
    obtain ⟨a,w,rfl,hg,hx⟩:=aFs (Hs':=H1) s2.gh e2 ed e1' el
    refine ⟨a,w,rfl,hg,?_⟩
    have z:=h2 G2 H2 _ (Step.refl s2.gh) (.bl _)
    cases o with
    | none=>rw [show w=none from hx];exact z
    | some d=>obtain ⟨x',rfl,_⟩:=hx;exact z
   ·exact h2.elim
  ·exact h2.elim
 ·exact h2.elim
theorem aPz(hu:X.A.units+1 < cLine)(ha:DE X E a fa)(hb:DE X E b fb)(hk:behindInMarks .In b=false:=by with_unfolding_all rfl):DT X E (.Compare a [.In] [b] pos) (bP (aE (xD false) fa fb)):=by
 obtain ⟨ta,pa,ma⟩:=ha.out
 obtain ⟨tb,pb,mb⟩:=hb.out
 exact DT.in ⟨_,aBj (aRf hu pa pb) hk,lK (t:=aVa ta tb) (aBw (ng:=false) ma mb)⟩
theorem wY(hu:X.A.units+1 < cLine)(ha:DE X E a fa)(hb:DE X E b fb)(hk:behindInMarks .NotIn b=false:=by with_unfolding_all rfl):DT X E (.Compare a [.NotIn] [b] pos) (bP (aE (xD true) fa fb)):=by
 obtain ⟨ta,pa,ma⟩:=ha.out
 obtain ⟨tb,pb,mb⟩:=hb.out
 exact DT.in ⟨_,aBj (aGm hu pa pb) hk,lK (t:=aEr ta tb) (aBw (ng:=true) ma mb)⟩
def mDT:En->Res Ev:=fun _=>.ok (.f (.dict []))
theorem nL:DE X E (.Dict [] [] pos) mDT :=
 DE.in ⟨_,aJ2,fun B G0 G W H σ en Q hh hs hw p hp=>hw _ _ _ (Step.lay hh.gh hp) ⟨p,_,rfl,hp,hh.gh.free hp,cJ,.dT .nil⟩⟩
noncomputable def aCt(kvs:List (D×D))(k v:D):Option (List (D×D)):=match dsp kvs with
 | (true,r)=>if (aK7 k).isSome=true/\r.length<=100000 then some ((.none,.none) :: aHo r k v) else none
 | (false,r)=>if (aPk k).isSome=true/\r.length<=100000 then some (aHo r k v) else none
noncomputable def kR(i:Nat)(fk fv:En->Res Ev):MS:=fun en=>match en[i]? with
 | some (some (.o (.dict kvs)))=>match fv en with
  | .exc C=>some (.ex C en)
  | .bad=>none
  | .ok rv=>match fk en with
   | .exc C=>some (.ex C en)
   | .bad=>none
   | .ok rk=>match rv.c with
    | .p v=>match rk.c with
     | .p k=>match aCt kvs k v with
      | some kvs'=>some (.nx (en.set i (some (.o (.dict kvs')))))
      | none=>none
     | _=>none
    | _=>none
 | _=>none
theorem n6{i:Nat}{x:Str}{pos' np:Pos}{ek ev:Expr}{fk fv:En->Res Ev}(hu:X.A.units+1 < cLine)(hd:PE X (.Name x np) (aLc i))(hk:DE X E ek fk)(hv:DE X E ev fv)(hs:swapsWith ev (some (.Subscript (.Name x np) ek pos')) pos.line X.env=pure false) :
  DS X E (.Assign [.Subscript (.Name x np) ek pos'] ev pos) (kR i fk fv):=by
 obtain ⟨tk,pk,mk⟩:=hk.out
 obtain ⟨tv,pv',mv⟩:=hv.out
 refine DS.in ⟨_,aM3 hu hd pk pv' hs,fun B G0 G W H σ en Dn hh hs hw=>mv B G0 G W H σ en _ hh hs ?_⟩
 unfold kR at hw
 split at hw
 ·rename_i kvs ei
  obtain ⟨v0,f1,a,o,rfl,f2,f3,f4⟩:=hs.2 i _ ei
  cases ev':fv en with
  | bad=>rw [ev'] at hw;exact hw
  | exc C=>rw [ev'] at hw;exact fun G1 H1 s=>hw G1 W H1 σ (hh.step s) (hs.step s)
  | ok rv =>
   rw [ev'] at hw
   intro G1 H1 v s1 e1
   obtain ⟨G2,s2,e2⟩:=e1.c s1
   dsimp only at hw
   refine ⟨_,f1,mk B G0 G2 W H1 σ en _ (hh.step s2) (hs.step s2) ?_⟩
   cases ek':fk en with
   | bad=>rw [ek'] at hw;exact hw
   | exc C=>rw [ek'] at hw;exact fun G3 H3 s=>hw G3 W H3 σ ((hh.step s2).step s) ((hs.step s2).step s)
   | ok rk =>
    rw [ek'] at hw
    intro G3 H3 u s3 e3
    obtain ⟨G4,s4,e4⟩:=e3.c s3
    have e2':=e2.step (Hs':=H1) s4
    have s24:=s2.trans s4
    dsimp only at hw
    split at hw
    ·rename_i vd erv
     rw [erv] at e2'
     split at hw
     ·rename_i kd erk
      rw [erk] at e4
      split at hw
      ·rename_i kvs' ep
       have hx:=s24.h _ _ f3
       refine ⟨a,?_⟩
       unfold aCt at ep
       have f5:=f4.mono s24.g
       cases f5 with
       | @dT kv _ rT =>
        rw [aNe rT] at ep
        dsimp only at ep
        split at ep
        ·rename_i hz
         cases ep
         obtain ⟨ks,ek⟩:=aXt.mp hz.1
         obtain ⟨b,rfl,hb⟩:=aLn e4 ek
         have:=zD ek
         subst this
         obtain ⟨w1,w2⟩:=lL (o':=.dT (putK kv ks v)) (d':=.dict (aHo kvs (tkD ks) vd)) (hh.step s24) (hs.step s24) f2 f1 (.dT (aV5 e2' rT))
         exact ⟨_,rfl,.t hx (s4.gh _ _ hb) (aZh (by rw [rT.len];exact hz.2) (by decide)),hw _ _ _ _ w1 w2⟩
        ·cases ep
       | @dK kv r rK =>
        dsimp only [dsp] at ep
        split at ep
        ·rename_i hz
         cases ep
         obtain ⟨ks,ek⟩:=aXt.mp hz.1
         have hb:=aEi e4 ek
         subst hb
         have:=uP ek
         subst this
         obtain ⟨w1,w2⟩:=lL (o':=.dK (putK kv ks v)) (d':=.dict ((.none,.none) :: aHo r (kD ks) vd)) (hh.step s24) (hs.step s24) f2 f1 (.dK (aTr e2' rK))
         exact ⟨_,rfl,.k hx (aZh (by rw [rK.len];exact hz.2) (by decide)),hw _ _ _ _ w1 w2⟩
        ·cases ep
      ·exact hw.elim
     ·exact hw.elim
    ·exact hw.elim
 ·exact hw.elim
def o3(rs:List Ev):Res Ev:=match rs with
 | [x]=>match j8 x with
  | some kvs=>.ok (.p (.int ((dsp kvs).2.length:Nat)))
  | none=>.bad
 | _=>.bad
theorem aBg:aCy o3:=by
 intro rs C h
 unfold o3 at h
 split at h
 ·split at h<;>cases h
 ·cases h
def aE9(i:Nat)(fk fv:En->Res Ev):MS:=fun en=>match en[i]? with
 | some (some (.o (.list ds)))=>match fv en with
  | .exc C=>some (.ex C en)
  | .bad=>none
  | .ok rv=>match fk en with
   | .exc C=>some (.ex C en)
   | .bad=>none
   | .ok rk=>match rv.c with
    | .p v=>match rk.c with
     | .p (.int k)=>match ixN ds.length k with
      | some j=>some (.nx (en.set i (some (.o (.list (ds.set j v))))))
      | none=>none
     | _=>none
    | _=>none
 | _=>none
theorem aL4{i:Nat}{ek ev:Expr}{fk fv:En->Res Ev}{st:Stmt}(hk:DE X E ek fk)(hv:DE X E ev fv)(hp:∀ tk tv,PE X ek tk->PE X ev tv->PS X st (aSs tv (aVd (aLc i) tk aRn))):DS X E st (aE9 i fk fv):=by
 obtain ⟨tk,pk,mk⟩:=hk.out
 obtain ⟨tv,pv',mv⟩:=hv.out
 refine DS.in ⟨_,hp tk tv pk pv',fun B G0 G W H σ en Dn hh hs hw=>mv B G0 G W H σ en _ hh hs ?_⟩
 unfold aE9 at hw
 split at hw
 ·rename_i ds ei
  obtain ⟨v0,f1,a,o,rfl,f2,f3,f4⟩:=hs.2 i _ ei
  cases f4 with
  | @lst xs _ rp =>
  cases ev':fv en with
  | bad=>rw [ev'] at hw;exact hw
  | exc C=>rw [ev'] at hw;exact fun G1 H1 s=>hw G1 W H1 σ (hh.step s) (hs.step s)
  | ok rv =>
   rw [ev'] at hw
   intro G1 H1 v s1 e1
   obtain ⟨G2,s2,e2⟩:=e1.c s1
   dsimp only at hw
   refine ⟨_,f1,mk B G0 G2 W H1 σ en _ (hh.step s2) (hs.step s2) ?_⟩
   cases ek':fk en with
   | bad=>rw [ek'] at hw;exact hw
   | exc C=>rw [ek'] at hw;exact fun G3 H3 s=>hw G3 W H3 σ ((hh.step s2).step s) ((hs.step s2).step s)
   | ok rk =>
    rw [ek'] at hw
    intro G3 H3 u s3 e3
    obtain ⟨G4,s4,e4⟩:=e3.c s3
    have e2':=e2.step (Hs':=H1) s4
    have s24:=s2.trans s4
    dsimp only at hw
    split at hw
    ·rename_i vd erv
     rw [erv] at e2'
     split at hw
     ·rename_i k erk
      rw [erk] at e4
      cases e4
      split at hw
      ·rename_i j ej
       obtain ⟨w1,w2⟩:=lL (o':=.lst (xs.set j v)) (d':=.list (ds.set j vd)) (hh.step s24) (hs.step s24) f2 f1 (.lst ((rp.mono s24.g).set e2' j))
       exact ⟨a,xs,k,j,rfl,rfl,s24.h _ _ f3,by rw [rp.length];exact ej,hw _ _ _ _ w1 w2⟩
      ·exact hw.elim
     ·exact hw.elim
    ·exact hw.elim
 ·exact hw.elim
end
end M
namespace SRT
open PySem PySem.W PyProof.Rows
structure Ord(lt:Nat->Nat->Bool):Prop where
 as:∀ i j,lt i j=true->lt j i=false
 tr:∀ i j k,lt j i=false->lt k j=false->lt k i=false
section
variable {lt:Nat->Nat->Bool}{n:Nat}{cmp:Nat->Nat->(Bool->Shared->Prop)->Shared->Prop}{s:Shared}
def le(lt:Nat->Nat->Bool)(a b:Nat):Prop:=lt b a=false
theorem Ord.rf(o:Ord lt)(i:Nat):le lt i i:=by
 cases e:lt i i with
 | false=>exact e
 | true=>have:=o.as i i e;rw [e] at this;cases this
theorem Ord.tot(o:Ord lt){i j:Nat}(h:lt i j=true):le lt i j:=o.as i j h
def Pt(p:Array Nat)(i:Nat):Nat:=p.getD i 0
def Sd(lt:Nat->Nat->Bool)(p:Array Nat)(m:Nat):Prop:=∀ i j,i<=j->j < m->le lt (Pt p i) (Pt p j)
def NI(lt:Nat->Nat->Bool)(p:Array Nat)(m:Nat):Prop:=∀ i j,i<=j->j < m->le lt (Pt p j) (Pt p i)
def Pm(n:Nat)(p:Array Nat):Prop:=p.Perm (List.range n).toArray
theorem Pm.size{p:Array Nat}(h:Pm n p):p.size=n:=by
 have:=h.size_eq
 simpa using this
theorem Pm.bd{p:Array Nat}(h:Pm n p)(hn:0 < n)(i:Nat):Pt p i < n:=by
 unfold Pt
 by_cases hi:i < p.size
 ·have e:p.getD i 0=p[i]:=by simp [Array.getD,hi]
  rw [e]
  have:p[i]∈(List.range n).toArray:=h.mem_iff.mp (Array.getElem_mem hi)
  simpa using this
 ·have e:p.getD i 0=0:=by simp [Array.getD,hi]
  rw [e];exact hn
theorem aGv{p q:Array Nat}{i j:Nat}(h:p[i]? = q[j]?):Pt p i=Pt q j:=by
 unfold Pt
 rw [aXu,aXu,h]
theorem xA{p:Array Nat}(h:Pm n p)(i j:Nat):Pm n (kas_rev p i j):=(mirror_perm _ _ _ _).trans h
theorem xE{p:Array Nat}{i j:Nat}(hj:j<=p.size)(k:Nat):Pt (kas_rev p i j) k=if i<=k/\k < j then Pt p (i+j - 1 - k) else Pt p k:=by
 have e:=getElem?_mirror_all (xs:=p) (i:=i) hj k
 split
 ·rename_i h
  rw [aWm h] at e
  exact aGv e
 ·rename_i h
  rw [aWn h] at e
  exact aGv e
variable (hc:∀ i j C,i < n->j < n->C (lt i j) s->cmp i j C s)(hn:0 < n)(o:Ord lt)
include hc hn
theorem aEs{Q:Nat->Shared->Prop}{p:Array Nat}(hp:Pm n p):∀ (f a:Nat),(∀ m,a<=m->m<=a+f->(∀ k,a<=k->k < m->le lt (Pt p (k - 1)) (Pt p k))->(m < a+f->lt (Pt p m) (Pt p (m - 1))=true)->Q m s) ->
  (kas_asc p f a).kasWp cmp Q s
 | 0,a,h=>h a (aWl _) (aWl _) (fun k h1 h2=>absurd h2 (by omega)) (fun h=>absurd h (by omega))
 | f+1,a,h=>by
  refine hc _ _ _ (hp.bd hn _) (hp.bd hn _) ?_
  show KasT.kasWp cmp (if lt (Pt p a) (Pt p (a - 1))=true then .ret a else kas_asc p f (a+1)) Q s
  cases e:lt (Pt p a) (Pt p (a - 1)) with
  | true =>
   rw [aWm rfl]
   exact h a (aWl _) (by omega) (fun k h1 h2=>absurd h2 (by omega)) fun _=>e
  | false =>
   rw [aWn aXq]
   refine aEs hp f (a+1) fun m h1 h2 h3 h4=>h m (by omega) (by omega) (fun k k1 k2=>?_) fun z=>h4 (by omega)
   by_cases ek:k=a
   ·subst ek;exact e
   ·exact h3 k (by omega) k2
include o
omit hc hn in
theorem aRi{p:Array Nat}{a m:Nat}(h1:1<=a)(hs:Sd lt p a)(hk:∀ k,a<=k->k < m->le lt (Pt p (k - 1)) (Pt p k)):Sd lt p m:=by
 intro i j hij hj
 induction j with
 | zero =>
  have:i=0:=by omega
  subst this
  exact o.rf _
 | succ j ih =>
  by_cases e:i=j+1
  ·subst e;exact o.rf _
  ·have ih:=ih (by omega) (by omega)
   by_cases hja:j+1 < a
   ·exact hs i (j+1) hij hja
   ·have:=hk (j+1) (by omega) hj
    exact o.tr _ _ _ ih this
omit hc hn in
theorem aRb{p:Array Nat}{m:Nat}(hm:m<=p.size)(h:NI lt p m):Sd lt (kas_rev p 0 m) m:=by
 intro i j hij hj
 rw [xE hm,xE hm,aWm ⟨aXo _,by omega⟩,aWm ⟨aXo _,hj⟩]
 exact h _ _ (by omega) (by omega)
theorem aDa{Q:Nat×Array Nat->Shared->Prop}{p:Array Nat}{a r:Nat}(hp:Pm n p)(h1:1<=a)(ha:a<=r)(hr:r<=n)(hni:NI lt p a)(h:∀ m q,1<=m->m<=r->Pm n q->Sd lt q m->Q (m,q) s):(kas_tail3 a r p).kasWp cmp Q s:=by
 unfold kas_tail3
 rw [bAt]
 have hz:a<=p.size:=by rw [hp.size];omega
 refine aEs hc hn (xA hp 0 a) _ _ fun m h2 h3 h4 _=>?_
 exact h m _ (by omega) (by omega) (xA hp 0 a) (aRi o h1 (aRb o hz hni) h4)
omit hc hn in
theorem rev_eq{p:Array Nat}{i j:Nat}(hj:j<=p.size)(he:∀ a b,i<=a->a < j->i<=b->b < j->le lt (Pt p a) (Pt p b))(k:Nat):le lt (Pt (kas_rev p i j) k) (Pt p k)/\le lt (Pt p k) (Pt (kas_rev p i j) k):=by
 rw [xE hj]
 split
 ·rename_i h
  exact ⟨he _ _ (by omega) (by omega) h.1 h.2,he _ _ h.1 h.2 (by omega) (by omega)⟩
 ·exact ⟨o.rf _,o.rf _⟩
omit hc hn in
theorem qL{p:Array Nat}{i j m:Nat}(hj:j<=p.size)(he:∀ a b,i<=a->a < j->i<=b->b < j->le lt (Pt p a) (Pt p b))(h:NI lt p m):NI lt (kas_rev p i j) m:=fun a b hab hb =>
 o.tr _ _ _ (rev_eq o hj he b).1 (o.tr _ _ _ (h a b hab hb) (rev_eq o hj he a).2)
theorem vO{Q:Array Nat×Nat×Nat->Shared->Prop}{r:Nat}(hr:r<=n):∀ (f:Nat) (p:Array Nat) (a q:Nat),Pm n p->a+f<=r->q+1<=a->NI lt p a->(∀ x y,a - (q+1)<=x->x < a->a - (q+1)<=y->y < a->le lt (Pt p x) (Pt p y)) ->
  (∀ p' a' q',Pm n p'->a<=a'->a'<=r->q'+1<=a'->NI lt p' a'->(∀ x y,a' - (q'+1)<=x->x < a'->a' - (q'+1)<=y->y < a'->le lt (Pt p' x) (Pt p' y))->Q (p',a',q') s)->(kas_desc f p a q).kasWp cmp Q s
 | 0,p,a,q,hp,hf,hq,hni,he,h=>h p a q hp (aWl _) (by omega) hq hni he
 | f+1,p,a,q,hp,hf,hq,hni,he,h=>by
  have hz:a<=p.size:=by rw [hp.size];omega
  refine hc _ _ _ (hp.bd hn _) (hp.bd hn _) ?_
  show KasT.kasWp cmp (if lt (Pt p a) (Pt p (a - 1))=true then (if q > 0 then kas_desc f (kas_rev p (a - (q+1)) a) (a+1) 0 else kas_desc f p (a+1) 0)
   else .ask (Pt p (a - 1)) (Pt p a) fun d=>if d=true then .ret (p,a,q) else kas_desc f p (a+1) (q+1)) Q s
  have grow:∀ {p':Array Nat},NI lt p' a->le lt (Pt p' a) (Pt p' (a - 1))->NI lt p' (a+1):=fun {p'} h1 h2 i j hij hj=>by
   by_cases e:j=a
   ·subst e
    by_cases e2:i=j
    ·subst e2;exact o.rf _
    ·exact o.tr _ _ _ h2 (h1 i (j - 1) (by omega) (by omega))
   ·exact h1 i j hij (by omega)
  cases e:lt (Pt p a) (Pt p (a - 1)) with
  | true =>
   rw [aWm rfl]
   by_cases hq0:q > 0
   ·rw [aWm hq0]
    have n1:=qL o hz he hni
    have e1:Pt (kas_rev p (a - (q+1)) a) a=Pt p a:=by rw [xE hz,aWn (by omega)]
    have le1:le lt (Pt (kas_rev p (a - (q+1)) a) a) (Pt (kas_rev p (a - (q+1)) a) (a - 1)):=by
     rw [e1]
     exact o.tr _ _ _ (o.tot e) (rev_eq o hz he (a - 1)).2
    refine vO hr f _ (a+1) 0 (xA hp _ _) (by omega) (by omega) (grow n1 le1) (fun x y h1 h2 h3 h4=>?_) fun p' a' q' k1 k2 k3 k4 k5 k6=>h p' a' q' k1 (by omega) k3 k4 k5 k6
    have:x=y:=by omega
    subst this;exact o.rf _
   ·rw [aWn hq0]
    refine vO hr f _ (a+1) 0 hp (by omega) (by omega) (grow hni (o.tot e)) (fun x y h1 h2 h3 h4=>?_) fun p' a' q' k1 k2 k3 k4 k5 k6=>h p' a' q' k1 (by omega) k3 k4 k5 k6
    have:x=y:=by omega
    subst this;exact o.rf _
  | false =>
   rw [aWn aXq]
   refine hc _ _ _ (hp.bd hn _) (hp.bd hn _) ?_
   show KasT.kasWp cmp (if lt (Pt p (a - 1)) (Pt p a)=true then .ret (p,a,q) else kas_desc f p (a+1) (q+1)) Q s
   cases e2:lt (Pt p (a - 1)) (Pt p a) with
   | true =>
    rw [aWm rfl]
    exact h p a q hp (aWl _) (by omega) hq hni he
   | false =>
    rw [aWn aXq]
    have eq1:le lt (Pt p (a - 1)) (Pt p a):=e
    have eq2:le lt (Pt p a) (Pt p (a - 1)):=e2
    refine vO hr f p (a+1) (q+1) hp (by omega) (by omega) (grow hni eq2) (fun x y h1 h2 h3 h4=>?_) fun p' a' q' k1 k2 k3 k4 k5 k6=>h p' a' q' k1 (by omega) k3 k4 k5 k6
    by_cases hx:x=a
    ·subst hx
     by_cases hy:y=x
     ·subst hy;exact o.rf _
     ·exact o.tr _ _ _ eq2 (he _ _ (by omega) (by omega) (by omega) (by omega))
    ·by_cases hy:y=a
     ·subst hy
      exact o.tr _ _ _ (he _ (y - 1) (by omega) (by omega) (by omega) (by omega)) eq1
     ·exact he _ _ (by omega) (by omega) (by omega) (by omega)
theorem qS{Q:Nat×Array Nat->Shared->Prop}{p:Array Nat}{a r:Nat}(hp:Pm n p)(h1:1<=a)(ha:a+1<=r)(hr:r<=n)(hni:NI lt p (a+1))(h:∀ m q,1<=m->m<=r->Pm n q->Sd lt q m->Q (m,q) s):(kas_descPart a r p).kasWp cmp Q s:=by
 unfold kas_descPart
 rw [bAt]
 refine vO hc hn o hr _ p (a+1) 0 hp (by omega) (by omega) hni (fun x y h1 h2 h3 h4=>?_) fun p' a' q' k1 k2 k3 k4 k5 k6=>?_
 ·have:x=y:=by omega
  subst this;exact o.rf _
 ·have hz:a'<=p'.size:=by rw [k1.size];omega
  show KasT.kasWp cmp (if q' > 0 then kas_tail3 a' r (kas_rev p' (a' - (q'+1)) a') else kas_tail3 a' r p') Q s
  by_cases hq:q' > 0
  ·rw [aWm hq]
   exact aDa hc hn o (xA k1 _ _) (by omega) k3 hr (qL o hz k6 k5) h
  ·rw [aWn hq]
   exact aDa hc hn o k1 (by omega) k3 hr k5 h
theorem aIv{Q:Nat×Array Nat->Shared->Prop}{p:Array Nat}{r:Nat}(hp:Pm n p)(h1:1<=r)(hr:r<=n)(h:∀ m q,1<=m->m<=r->Pm n q->Sd lt q m->Q (m,q) s):(kas_count r p).kasWp cmp Q s:=by
 unfold kas_count
 rw [bAt]
 have s1:Sd lt p 1:=fun i j hij hj=>by
  have:i=j:=by omega
  subst this;exact o.rf _
 refine aEs hc hn hp _ _ fun m h2 h3 h4 h5=>?_
 have sm:=aRi o (aWl 1) s1 h4
 show KasT.kasWp cmp (if (m == r)=true then .ret (m,p) else if m > 1 then .ask (Pt p 0) (Pt p (m - 1)) fun c=>if c=true then .ret (m,p) else kas_descPart m r (kas_rev p 0 m) else kas_descPart m r p) Q s
 by_cases em:m=r
 ·rw [aWm (by simp [em])]
  exact h m p h2 (by omega) hp sm
 ·rw [aWn (by simp [em])]
  have hlt:=h5 (by omega)
  have hz:m<=p.size:=by rw [hp.size];omega
  by_cases hm:m > 1
  ·rw [aWm hm]
   refine hc _ _ _ (hp.bd hn _) (hp.bd hn _) ?_
   show KasT.kasWp cmp (if lt (Pt p 0) (Pt p (m - 1))=true then .ret (m,p) else kas_descPart m r (kas_rev p 0 m)) Q s
   cases e:lt (Pt p 0) (Pt p (m - 1)) with
   | true=>rw [aWm rfl];exact h m p h2 (by omega) hp sm
   | false =>
    rw [aWn aXq]
    have e:le lt (Pt p (m - 1)) (Pt p 0):=e
    have he:∀ a b,0<=a->a < m->0<=b->b < m->le lt (Pt p a) (Pt p b):=fun a b _ ha _ hb =>
     o.tr _ _ _ (sm a (m - 1) (by omega) (by omega)) (o.tr _ _ _ e (sm 0 b (by omega) hb))
    have nm:NI lt p m:=fun i j hij hj=>he j i (by omega) hj (by omega) (by omega)
    have n2:=qL o hz he nm
    have em1:Pt (kas_rev p 0 m) m=Pt p m:=by rw [xE hz,aWn (by omega)]
    refine qS hc hn o (xA hp 0 m) (by omega) (by omega) hr (fun i j hij hj=>?_) h
    by_cases ej:j=m
    ·subst ej
     by_cases ei:i=j
     ·subst ei;exact o.rf _
     ·rw [em1]
      refine o.tr _ _ _ (o.tot hlt) (o.tr _ _ _ (rev_eq o hz he (j - 1)).2 ?_)
      exact n2 i (j - 1) (by omega) (by omega)
    ·exact n2 i j hij (by omega)
  ·rw [aWn hm]
   have e1:m=1:=by omega
   subst e1
   refine qS hc hn o hp (aWl 1) (by omega) hr (fun i j hij hj=>?_) h
   by_cases ei:i=j
   ·subst ei;exact o.rf _
   ·have:i=0/\j=1:=by omega
    obtain ⟨rfl,rfl⟩:=this
    exact o.tot hlt
theorem vD{Q:Nat->Shared->Prop}{p:Array Nat}{k:Nat}(hp:Pm n p)(hs:Sd lt p k):∀ (f l r:Nat),l<=r->r<=k->r - l<=f->(∀ i,i < l->le lt (Pt p i) (Pt p k))->(∀ i,r<=i->i < k->lt (Pt p k) (Pt p i)=true) ->
  (∀ m,m<=k->(∀ i,i < m->le lt (Pt p i) (Pt p k))->(∀ i,m<=i->i < k->lt (Pt p k) (Pt p i)=true)->Q m s)->(kas_place p k f l r).kasWp cmp Q s
 | 0,l,r,h1,h2,h3,h4,h5,h=>by
  have:l=r:=by omega
  subst this
  exact h l h2 h4 h5
 | f+1,l,r,h1,h2,h3,h4,h5,h=>by
  unfold kas_place
  by_cases e:l ≥ r
  ·rw [aWm e]
   have:l=r:=by omega
   subst this
   exact h l h2 h4 h5
  ·rw [aWn e]
   refine hc _ _ _ (hp.bd hn _) (hp.bd hn _) ?_
   show KasT.kasWp cmp (if lt (Pt p k) (Pt p ((l+r) / 2))=true then kas_place p k f l ((l+r) / 2) else kas_place p k f ((l+r) / 2+1) r) Q s
   cases ec:lt (Pt p k) (Pt p ((l+r) / 2)) with
   | true =>
    rw [aWm rfl]
    refine vD hp hs f l ((l+r) / 2) (by omega) (by omega) (by omega) h4 (fun i i1 i2=>?_) h
    cases ei:lt (Pt p k) (Pt p i) with
    | true=>rfl
    | false =>
     have:=o.tr _ _ _ (hs ((l+r) / 2) i i1 i2) ei
     rw [ec] at this;cases this
   | false =>
    rw [aWn aXq]
    refine vD hp hs f ((l+r) / 2+1) r (by omega) h2 (by omega) (fun i i1=>?_) h5 h
    exact o.tr _ _ _ (hs i ((l+r) / 2) (by omega) (by omega)) ec
omit hc hn in
theorem aLh{p:Array Nat}{k l:Nat}(hk:k < p.size)(hl:l<=k)(i:Nat):Pt (bubble p k (k - l)) i=if i=l then Pt p k else if l < i/\i<=k then Pt p (i - 1) else Pt p i:=by
 have e:=getElem?_bubble hk (k - l) (by omega) i
 have e1:k - (k - l)=l:=by omega
 rw [e1] at e
 repeat' split
 ·rename_i h;rw [aWm h] at e;exact aGv e
 ·rename_i h h2;rw [aWn h,aWm h2] at e;exact aGv e
 ·rename_i h h2;rw [aWn h,aWn h2] at e;exact aGv e
theorem aK5{Q:Array Nat->Shared->Prop}:∀ (f:Nat) (p:Array Nat) (k:Nat),Pm n p->k+f<=n->Sd lt p k->(∀ q,Pm n q->Sd lt q (k+f)->Q q s)->(kas_bin f p k).kasWp cmp Q s
 | 0,p,k,hp,_,hs,h=>h p hp hs
 | f+1,p,k,hp,hk,hs,h=>by
  unfold kas_bin
  rw [bAt]
  have hz:k < p.size:=by rw [hp.size];omega
  refine vD hc hn o hp hs k 0 k (aXo _) (aWl _) (by omega) (fun i h=>absurd h (by omega)) (fun i h1 h2=>absurd h2 (by omega)) fun l hl h1 h2=>?_
  refine aK5 f _ (k+1) ((bubble_perm _ _ _).trans hp) (by omega) (fun i j hij hj=>?_) fun q q1 q2=>h q q1 (by rw [show k+(f+1)=k+1+f by omega];exact q2)
  rw [aLh o hz hl,aLh o hz hl]
  by_cases ei:i=l
  ·rw [aWm ei]
   by_cases ej:j=l
   ·rw [aWm ej];exact o.rf _
   ·rw [aWn ej,aWm ⟨by omega,by omega⟩]
    exact o.tot (h2 (j - 1) (by omega) (by omega))
  ·rw [aWn ei]
   by_cases ej:j=l
   ·rw [aWm ej,aWn (by omega)]
    exact h1 i (by omega)
   ·rw [aWn ej]
    by_cases hi:l < i/\i<=k
    ·rw [aWm hi,aWm ⟨by omega,by omega⟩]
     exact hs _ _ (by omega) (by omega)
    ·rw [aWn hi]
     by_cases hj2:l < j/\j<=k
     ·rw [aWm hj2]
      exact hs _ _ (by omega) (by omega)
     ·rw [aWn hj2]
      exact hs _ _ (by omega) (by omega)
theorem aNb{Q:Array Nat->Shared->Prop}(h:∀ q,Pm n q->Sd lt q n->Q q s):(kas_sort n).kasWp cmp Q s:=by
 unfold kas_sort
 rw [bAt]
 refine aIv hc hn o (Array.Perm.refl _) hn (aWl n) fun m q h1 h2 h3 h4=>?_
 show KasT.kasWp cmp (if m < n then kas_bin (n - max m 1) q (max m 1) else .ret q) Q s
 have em:max m 1=m:=by omega
 by_cases e:m < n
 ·rw [aWm e,em]
  refine aK5 hc hn o _ _ _ h3 (by omega) h4 fun q' k1 k2=>h q' k1 (by rw [show m+(n - m)=n by omega] at k2;exact k2)
 ·rw [aWn e]
  have:m=n:=by omega
  subst this
  exact h q h3 h4
end
end SRT
namespace SRT
open PySem PySem.W PyProof.Rows L2
def TupI(h:Heap)(v:Value)(ns:List Int):Prop:=∃ t o xs c,v=.ref t/\h.get? t=some o/\o.cls=.type "tuple"/\o.data=.seq xs c/\IntsAre xs.toList ns
theorem TupI.at{h h':Heap}{v:Value}{ns:List Int}(x:TupI h v ns)(k:∀ t o,v=.ref t->h.get? t=some o->h'.get? t=some o):TupI h' v ns :=
 let ⟨t,o,xs,c,e,ho,r⟩:=x;⟨t,o,xs,c,e,k t o e ho,r⟩
theorem u9:∀ {vs:List Value} {ns:List Int},IntsAre vs ns->vs.length=ns.length
 | _,_,.nil=>rfl
 | _,_,.cons _ _ r=>by rw [aWc,aWc,u9 r]
theorem aG5:∀ a b:List Int,HT.lexLt a b=true->HT.lexLt b a=false
 | [],[],h=>by cases h
 | [],_ :: _,_=>rfl
 | _ :: _,[],h=>by cases h
 | x :: a,y :: b,h=>by
  rw [HT.fB] at h ⊢
  by_cases e:x=y
  ·rw [aWm e] at h;rw [aWm e.symm];exact aG5 a b h
  ·rw [aWn e] at h;rw [aWn (bB2 e)]
   have:=aZo h
   exact aW0 (by omega)
theorem aFv:∀ a b c:List Int,HT.lexLt b a=false->HT.lexLt c b=false->HT.lexLt c a=false
 | [],_,[],_,_=>rfl
 | [],b,_ :: _,_,_=>rfl
 | _ :: _,[],_,h,_=>by cases h
 | x :: a,y :: b,[],_,h=>by cases h
 | x :: a,y :: b,z :: c,h1,h2=>by
  rw [HT.fB] at h1 h2 ⊢
  by_cases e1:y=x
  ·subst e1
   rw [aWm rfl] at h1
   by_cases e2:z=y
   ·subst e2
    rw [aWm rfl] at h2 ⊢
    exact aFv a b c h1 h2
   ·rw [aWn e2] at h2 ⊢
    exact h2
  ·rw [aWn e1] at h1
   have q1:=aYl h1
   by_cases e2:z=y
   ·subst e2
    rw [aWn e1]
    exact h1
   ·rw [aWn e2] at h2
    have q2:=aYl h2
    have e3:z≠x:=by omega
    rw [aWn e3]
    exact aW0 (by omega)
theorem aL2:∀ a b:List Int,HT.lexLt a b=false->HT.lexLt b a=false->a=b
 | [],[],_,_=>rfl
 | [],_ :: _,h,_=>by cases h
 | _ :: _,[],_,h=>by cases h
 | x :: a,y :: b,h1,h2=>by
  rw [HT.fB] at h1 h2
  by_cases e:x=y
  ·subst e
   rw [aWm rfl] at h1 h2
   rw [aL2 a b h1 h2]
  ·rw [aWn e] at h1;rw [aWn (bB2 e)] at h2
   have q1:=aYl h1
   have q2:=aYl h2
   omega
theorem aGh(ks:List (List Int)):Ord fun i j=>HT.lexLt (ks.getD i []) (ks.getD j []):=⟨fun _ _=>aG5 _ _,fun _ _ _=>aFv _ _ _⟩
section
variable {prog:Program}{w:World}{A:Around}{E:Value->Shared->Prop}{s:Shared}
theorem aLm{b fin:Bool}{Q:Bool->Shared->Prop}:∀ {us ws:List Value} {ns ms:List Int} (i:Nat),IntsAre us ns->IntsAre ws ms->(fin=decide (ns.length < ms.length))->Q (HT.lexLt ns ms) s->KatLex prog w A b fin Q (us.zip ws) i s
 | _,_,[],[],i,.nil,.nil,hf,q=>by
  rw [hf];exact q
 | _,_,[],m :: ms,i,.nil,.cons _ _ _,hf,q=>by
  rw [hf]
  show Q (decide (0 < ms.length+1)) s
  rw [aXg (bA9 _)]
  exact q
 | _,_,n :: ns,[],i,.cons _ _ _,.nil,hf,q=>by
  rw [hf]
  show Q (decide (ns.length+1 < 0)) s
  rw [aW0 (bAu _)]
  exact q
 | _,_,n :: ns,m :: ms,i,.cons _ t hi,.cons _ u hj,hf,q=>by
  rw [HT.fB] at q
  refine kat_cons (wpAny_eqBool_int ?_)
  by_cases e:n=m
  ·rw [aWm e] at q
   rw [show (n == m)=true by simp [e]]
   exact kat_yes (aLm (i+1) hi hj (by rw [hf];simp) q)
  ·rw [aWn e] at q
   rw [show (n == m)=false by simp [e]]
   refine kat_no ?_
   cases eb:(b && i == 0) with
   | true=>exact oneLt_int q
   | false=>exact kat_one _ _ (lt_int q)
theorem aJg{x y:Value}{ns ms:List Int}{Q:Bool->Shared->Prop}(b:Bool)(hx:TupI s.heap x ns)(hy:TupI s.heap y ms)(q:Q (HT.lexLt ns ms) s):wpAny (model prog w) A (keyLt' (tuples' b) x y) Q E s:=by
 obtain ⟨t,o,xs,c,rfl,ho,hc,hd,hi⟩:=hx
 obtain ⟨t2,o2,xs2,c2,rfl,ho2,hc2,hd2,hi2⟩:=hy
 refine kat_lt ho hd ho2 hd2 (aLm 0 hi hi2 ?_ q)
 have e1:=u9 hi
 have e2:=u9 hi2
 rw [aWr] at e1 e2
 rw [e1,e2]
def TupsI(h:Heap)(vs:List Value)(ks:List (List Int)):Prop:=vs.length=ks.length/\∀ (i:Nat) (v:Value) (k:List Int),vs[i]? = some v->ks[i]? = some k->TupI h v k/\k≠[]
theorem TupsI.cons{h:Heap}{v:Value}{vs:List Value}{ks:List (List Int)}(x:TupsI h (v :: vs) ks):∃ k r,ks=k :: r/\TupI h v k/\k≠[]/\TupsI h vs r:=by
 obtain ⟨hl,ha⟩:=x
 cases ks with
 | nil=>simp at hl
 | cons k r =>
  obtain ⟨h1,h2⟩:=ha 0 v k rfl rfl
  exact ⟨k,r,rfl,h1,h2,by simpa using hl,fun i v k e1 e2=>ha (i+1) v k (by simpa using e1) (by simpa using e2)⟩
theorem aU4{h:Heap}:∀ {vs:List Value} {ks:List (List Int)},TupsI h vs ks->∃ fs,KatTups h vs fs/\fs.length=vs.length/\∀ f∈fs,∃ i t,f=Value.int i t
 | [],_,_=>⟨[],KatTups.nil,rfl,fun _ z=>nomatch z⟩
 | v :: vs,ks,x=>by
  obtain ⟨k,r,rfl,⟨t,o,xs,c,rfl,ho,hc,hd,hi⟩,hk,hr⟩:=x.cons
  obtain ⟨fs,h1,h2,h3⟩:=aU4 hr
  cases k with
  | nil=>exact absurd rfl hk
  | cons n k =>
   cases hx:xs.toList with
   | nil=>rw [hx] at hi;cases hi
   | cons y ys =>
    rw [hx] at hi
    cases hi with
    | cons _ tt _ =>
     refine ⟨.int n tt :: fs,KatTups.cons ho hc hd ?_ h1,by simp [h2],fun f hf=>?_⟩
     ·have:xs.toList[0]? = some (Value.int n tt):=by rw [hx];rfl
      simpa using this
     ·rcases aWh.mp hf with rfl | hf
      ·exact ⟨n,tt,rfl⟩
      ·exact h3 f hf
theorem range_getD(vs:List Value):((List.range vs.length).map fun i=>vs.getD i Value.none)=vs:=by
 refine aYv fun i=>?_
 rw [aWu]
 by_cases hi:i < vs.length
 ·rw [aZb hi]
  simp [hi]
 ·rw [aW9 (by rw [aXp];omega),aW9 (by omega)]
  rfl
theorem uW{a:Addr}{vs:List Value}{n:Nat}{ks:List (List Int)}{P:PySem.Fin->Shared->Prop}(ho:s.heap.get? a=some (seqObj "list" vs.toArray n))(ht:TupsI s.heap vs ks)(hna:∀ v∈vs,v≠.ref a)(h64:vs.length < 64)
  (h:∀ q:Array Nat,Pm vs.length q->Sd (fun i j=>HT.lexLt (ks.getD i []) (ks.getD j [])) q vs.length->P (.done (.ret .none)) { s with heap:=sortedHeap s.heap a vs (q.toList.map fun i=>vs.getD i Value.none).toArray }) :
  wpAny (model prog w) A (Builtin.«list.sort» ⟨[.ref a],[]⟩) P E s:=by
 rw [list_sort_plain]
 have ha:a < s.heap.objs.size:=aWi ho
 refine aWa (listItems_at ho rfl ?_)
 refine aWa (listUpdate_at ho rfl ?_ (by rw [aWk,aY0];omega) (aXo _))
 obtain ⟨e1,ho1⟩:∃ e1,(s.heap.update a (Obj.mapSeq fun _=>(#[]:Array Value))).get? a=some (seqObj "list" #[] e1):=⟨_,get?_update_seq ho (fun _=>#[])⟩
 refine aWa (seqEpoch_at ho1 rfl ?_)
 refine aWa (wpAny_newTuple ?_ (by show vs.length<=_;rw [aY0];omega))
 refine aWa (wpAny_newList ?_ (aXo _))
 refine aYj ?_
 have keep:∀ b o,b≠a->s.heap.get? b=some o->(((s.heap.update a (Obj.mapSeq fun _=>(#[]:Array Value))).push (seqObj "tuple" vs.toArray 0)).push (seqObj "list" #[] 0)).get? b=some o:=fun b o hb e=>by
  refine aWf _ (aWf _ ?_)
  rw [bBu _ _ _ _ hb]
  exact e
 have ho6:(((s.heap.update a (Obj.mapSeq fun _=>(#[]:Array Value))).push (seqObj "tuple" vs.toArray 0)).push (seqObj "list" #[] 0)).get? a=some (seqObj "list" #[] e1):=aWf _ (aWf _ ho1)
 show wpAny (model prog w) A _ P E { s with heap:=((s.heap.update a (Obj.mapSeq fun _=>(#[]:Array Value))).push (seqObj "tuple" vs.toArray 0)).push (seqObj "list" #[] 0) }
 dsimp only
 by_cases h2:vs.toArray.size < 2
 ·rw [aWm h2,aWm h2]
  refine aWa (aWe ?_)
  rw [StateT.run_pure]
  refine aWa (aWe ?_)
  dsimp only
  have e0:(arrOf (SortSt.mk' general' (vs.toArray.zip vs.toArray) #[] 7 none)).map (·.2)=((List.range vs.length).toArray.toList.map fun i=>vs.getD i Value.none).toArray:=by
   show (vs.toArray.zip vs.toArray).map (·.2)=_
   rw [aYw,range_getD]
   apply Array.toList_inj.mp
   simp [List.map_snd_zip]
  rw [e0]
  refine aWa (seqEpoch_at ho6 rfl ?_)
  refine aWa (listUpdate_at ho6 rfl ?_ (aXo _) (by rw [aYw,range_getD,aWk,aY0];omega))
  simp only [bne_self_eq_false,aW5,aYt]
  refine aWe (h (List.range vs.length).toArray (Array.Perm.refl _) fun i j hij hj=>?_)
  have:i=j:=by rw [aWk] at h2;omega
  subst this
  exact (aGh ks).rf _
 ·rw [aWn h2,aWn h2]
  have h2':2<=vs.length:=by rw [aWk] at h2;omega
  have ht6:TupsI (((s.heap.update a (Obj.mapSeq fun _=>(#[]:Array Value))).push (seqObj "tuple" vs.toArray 0)).push (seqObj "list" #[] 0)) vs ks:=⟨ht.1,fun i v k q1 q2=>by
   obtain ⟨z1,z2⟩:=ht.2 i v k q1 q2
   exact ⟨z1.at fun t o ev et=>keep t o (fun z=>hna v (aY2 q1) (by rw [ev,z])) et,z2⟩⟩
  obtain ⟨fs,f1,f2,f3⟩:=aU4 ht6
  refine aWa (kat_kind (T:=.type "int") f1 (by rw [f2];omega) (fun v hv=>?_) rfl ?_)
  ·obtain ⟨i,t,rfl⟩:=f3 v hv
   exact .now
  refine aWa (aX6 (kat_run (κ:=tuples' (Value.type "int" != Value.type "tuple")) (ks:=vs) (Q:=fun st' s'=>∃ p:Array Nat,s'={ s with heap:=((s.heap.update a (Obj.mapSeq fun _=>(#[]:Array Value))).push (seqObj "tuple" vs.toArray 0)).push (seqObj "list" #[] 0) }/\p.size=vs.length/\arrOf st'=p.map (kas_item (vs.toArray.zip vs.toArray))/\failedOf st'=none/\Pm vs.length p/\Sd (fun i j=>HT.lexLt (ks.getD i []) (ks.getD j [])) p vs.length)
   (G:=fun p s'=>s'={ s with heap:=((s.heap.update a (Obj.mapSeq fun _=>(#[]:Array Value))).push (seqObj "tuple" vs.toArray 0)).push (seqObj "list" #[] 0) }/\Pm vs.length p/\Sd (fun i j=>HT.lexLt (ks.getD i []) (ks.getD j [])) p vs.length)
   rfl h2' h64 (fun p st' s' a1 a2 a3 a4=>⟨p,a4.1,a1,a2,a3,a4.2⟩) (aNb (n:=vs.length) (lt:=fun i j=>HT.lexLt (ks.getD i []) (ks.getD j [])) (fun i j C hi hj hC=>?_) (by omega) (aGh ks) fun q q1 q2=>⟨rfl,q1,q2⟩)) ?_ fun _ _ e=>e)
  ·unfold kas_ask
   have hi':vs[i]? = some vs[i]:=aWd hi
   have hj':vs[j]? = some vs[j]:=aWd hj
   have ki:i < ks.length:=by rw [<- ht.1];exact hi
   have kj:j < ks.length:=by rw [<- ht.1];exact hj
   have di:vs.getD i Value.none=vs[i]:=by simp [hi]
   have dj:vs.getD j Value.none=vs[j]:=by simp [hj]
   have ei:ks.getD i []=ks[i]:=by simp [ki]
   have ej:ks.getD j []=ks[j]:=by simp [kj]
   rw [di,dj]
   rw [ei,ej] at hC
   exact aJg _ (ht6.2 i _ _ hi' (aWd ki)).1 (ht6.2 j _ _ hj' (aWd kj)).1 hC
  ·rintro ⟨⟨⟩,st'⟩ s' ⟨p,rfl,hp,har,hf,hpm,hsd⟩
   dsimp only
   have hout:=kat_snds (ks:=vs) (vs:=vs) rfl har
   have hsz:(List.toArray (p.toList.map fun i=>vs.getD i Value.none)).size=vs.length:=by rw [aWk,aWb,aWr,hp]
   rw [hout]
   refine aWa (seqEpoch_at ho6 rfl ?_)
   refine aWa (listUpdate_at ho6 rfl ?_ (aXo _) (aXk (bA6 hsz) (by rw [aY0];omega)))
   rw [hf]
   simp only [bne_self_eq_false,aW5,aYt]
   exact aWe (h p hpm hsd)
theorem yN{h:Heap}{a:Addr}{vs:List Value}{out:Array Value}{b:Addr}{o:Obj}(hb:b≠a)(e:h.get? b=some o):(sortedHeap h a vs out).get? b=some o:=by
 unfold sortedHeap
 rw [bBu _ _ _ _ hb]
 refine aWf _ (aWf _ ?_)
 rw [bBu _ _ _ _ hb]
 exact e
theorem x9{h:Heap}{a:Addr}{vs:List Value}{n:Nat}{out:Array Value}(e:h.get? a=some (seqObj "list" vs.toArray n)):∃ c,(sortedHeap h a vs out).get? a=some (seqObj "list" out c):=by
 obtain ⟨e1,ho1⟩:∃ e1,(h.update a (Obj.mapSeq fun _=>(#[]:Array Value))).get? a=some (seqObj "list" #[] e1):=⟨_,get?_update_seq e (fun _=>#[])⟩
 exact ⟨_,get?_update_seq (aWf _ (aWf _ ho1)) fun _=>out⟩
theorem sU{r:Addr}{Q:Value->Shared->Prop}{Ok:List Value->Prop}(hcol:∀ R:List Value->Shared->Prop,(∀ h' tk vs,(∀ b o,s.heap.get? b=some o->h'.get? b=some o)->Ok vs->R vs { s with heap:=h',toks:=tk })->wpAny (model prog w) A.in1 (collect (.ref r)) R E s)
  (ks:List (List Int)) (hok:∀ vs,Ok vs->TupsI s.heap vs ks/\vs.length < 64)
  (h:∀ (h' hf:Heap) (tk c:Nat) (vs:List Value) (q:Array Nat),(∀ b o,s.heap.get? b=some o->h'.get? b=some o)->(∀ b o,h'.get? b=some o->hf.get? b=some o)->Ok vs->Pm vs.length q->Sd (fun i j=>HT.lexLt (ks.getD i []) (ks.getD j [])) q vs.length ->
   hf.get? h'.objs.size=some (seqObj "list" (q.toList.map fun i=>vs.getD i Value.none).toArray c)->Q (.ref h'.objs.size) { s with heap:=hf,toks:=tk }) :
  wpAny (model prog w) A (call (.builtin "sorted") [.ref r]) Q E s:=by
 refine Calls.call_function_entry kind_sorted plain_sorted entry_sorted (args_sorted1 _) ?_
 unfold Builtin.«sorted»
 refine aWa (m:=checkCount "sorted" 1 1 _) (aWe ?_)
 refine aWa (hcol _ fun h' tk vs keep ov=>?_)
 obtain ⟨ht,h64⟩:=hok vs ov
 refine aWa (wpAny_newList ?_ (by rw [aY0];omega))
 have hoL:(h'.push (seqObj "list" vs.toArray 0)).get? h'.objs.size=some (seqObj "list" vs.toArray 0):=aWw _ rfl
 have keep2:∀ b o,s.heap.get? b=some o->(h'.push (seqObj "list" vs.toArray 0)).get? b=some o:=fun b o e=>aWf _ (keep b o e)
 have lt:∀ b o,s.heap.get? b=some o->b≠h'.objs.size:=fun b o e=>aW2 (aWi (keep b o e))
 have tat:∀ v∈vs,∃ t o,v=.ref t/\s.heap.get? t=some o:=fun v hv=>by
  obtain ⟨i,hi,e⟩:=aY3.mp hv
  have ki:i < ks.length:=by rw [<- ht.1];exact hi
  obtain ⟨⟨t,o,_,_,e1,e2,_⟩,_⟩:=ht.2 i v ks[i] (by rw [aWd hi,e]) (aWd ki)
  exact ⟨t,o,e1,e2⟩
 have ht2:TupsI (h'.push (seqObj "list" vs.toArray 0)) vs ks:=⟨ht.1,fun i v k q1 q2=>let ⟨z1,z2⟩:=ht.2 i v k q1 q2;⟨z1.at fun t o _ et=>keep2 t o et,z2⟩⟩
 refine aWa (aYj (aYr slot_list_sort ⟨_,hoL,rfl⟩ entry_list_sort (uW (s:={ s with heap:=h'.push (seqObj "list" vs.toArray 0),toks:=tk }) hoL ht2 (fun v hv z=>?_) h64 fun q a1 a2=>⟨_,rfl,?_⟩) (args_list_sort _)))
 ·obtain ⟨t,o,e1,e2⟩:=tat v hv
  rw [e1] at z
  injection z with z
  exact lt t o e2 z
 ·obtain ⟨c,hc⟩:=x9 (out:=(q.toList.map fun i=>vs.getD i Value.none).toArray) hoL
  exact aWe ⟨_,rfl,h h' _ tk c vs q keep (fun b o e=>yN (aW2 (aWi e)) (aWf _ e)) ov a1 a2 hc⟩
def aKx(H:Hp)(ts:List V)(ks:List (List Int)):Prop:=ts.length=ks.length/\∀ (i:Nat) (t:V) (k:List Int),ts[i]? = some t->ks[i]? = some k->(∃ b,t=.ref b/\H b=some (.tup (k.map V.int)))/\k≠[]
end
theorem v7{P:Program}{w:World}{H:Hp}{h:Heap}{ts:List V}{ks:List (List Int)}{vs:List Value}(ok:HOk P w H h)(r:aKx H ts ks)(v:Vals ts vs):TupsI h vs ks:=by
 have hl:=v.length
 refine ⟨by rw [<- hl];exact r.1,fun i u k e1 e2=>?_⟩
 have hi:i < ts.length:=by
  have:=(aXa.mp e1).1
  omega
 obtain ⟨⟨b,eb,hb⟩,hk⟩:=r.2 i ts[i] k (aWd hi) e2
 obtain ⟨u',e3,ru⟩:=v.get (i:=i) (x:=ts[i]) (aWd hi)
 rw [e1] at e3
 cases e3
 rw [eb] at ru
 cases (show u=Value.ref b from ru)
 obtain ⟨_,its,rv,o,ho,hc,n,hd⟩:=(show ObjOk P w H h b (.tup (k.map V.int)) from ok b _ hb)
 exact ⟨⟨b,o,_,n,rfl,ho,hc,hd,by rw [aYw];exact intsAre_of rv⟩,hk⟩
def aIr(ks:List (List Int)):Nat->Nat->Bool:=fun i j=>HT.lexLt (ks.getD i []) (ks.getD j [])
theorem xN{ts:List V}{vs:List Value}(v:Vals ts vs):∀ (l:List Nat),(∀ i∈l,i < ts.length)->Vals (l.map fun i=>ts.getD i .non) (l.map fun i=>vs.getD i Value.none)
 | [],_=>.nil
 | i :: l,h=>by
  have hi:=h i (.head _)
  obtain ⟨u,e,r⟩:=v.get (i:=i) (x:=ts[i]) (aWd hi)
  have e1:ts.getD i .non=ts[i]:=by simp [hi]
  have e2:vs.getD i Value.none=u:=by simp [e]
  refine .cons ?_ (xN v l fun j hj=>h j (.tail _ hj))
  show RelV (ts.getD i .non) (vs.getD i Value.none)
  rw [e1,e2];exact r
theorem Paired.get{α β:Type}{F:α->β->Prop}:∀ {l₁:List α} {l₂:List β} {i:Nat} {a:α},Paired F l₁ l₂->l₁[i]? = some a->∃ b,l₂[i]? = some b/\F a b
 | _,_,_,_,.nil,e=>by simp at e
 | _,_,0,_,.cons h _,e=>by simp at e;subst e;exact ⟨_,rfl,h⟩
 | _,_,i+1,_,.cons _ r,e=>by
  have:=Paired.get (i:=i) r (by simpa using e)
  simpa using this
theorem w4{κ:Type}:∀ l:List (κ×Addr×Value),Vals (l.map fun x=>V.ref x.2.1) (l.map fun x=>Value.ref x.2.1)
 | []=>.nil
 | _ :: l=>.cons rfl (w4 l)
section
variable {X:Cx}
theorem aBz{pins:List (Addr×Obj)}{σ:L2.St}{H:Hp}{s:Shared}{Q:VK}{ts:List V}{vs:List Value}{h' hf:Heap}{tk c:Nat}{q:Array Nat}(I:Inv X pins σ H s)(v:Vals ts vs)(h64:vs.length < 64)(k1:∀ b o,s.heap.get? b=some o->h'.get? b=some o)(k2:∀ b o,h'.get? b=some o->hf.get? b=some o)(hp:Pm vs.length q)
  (hc:hf.get? h'.objs.size=some (seqObj "list" (q.toList.map fun i=>vs.getD i Value.none).toArray c)) (hq:∀ D,H D=none->Q (.ref D) (upd H D (.lst (q.toList.map fun i=>ts.getD i .non)))):EP X pins σ Q (.ref h'.objs.size) { s with heap:=hf,toks:=tk }:=by
 have I1:Inv X pins σ H { s with heap:=h',toks:=tk }:=I.kept (t':=tk) k1
 have hb:∀ i∈q.toList,i < ts.length:=fun i hi=>by
  have:i∈(List.range vs.length).toArray:=hp.mem_iff.mp (aXz.mp hi)
  rw [v.length]
  simpa using this
 have hl:q.toList.length=vs.length:=by rw [aWr];exact hp.size
 refine ⟨.ref h'.objs.size,_,I1.laid (a:=h'.objs.size) (o:=.lst (q.toList.map fun i=>ts.getD i .non)) (t':=tk) k2 (aWl _) ⟨?_,_,c,xN v _ hb,hc⟩,rfl,hq _ (I1.hok.fresh (aWl _))⟩
 rw [aWb,hl,aY0]
 omega
def aKj:List V->Hp->VK->Prop:=fun xs H Q=>∃ a kv ks,xs=[.ref a]/\H a=some (.dT kv)/\kv.map (·.1)=ks.map (List.map Sum.inl)/\(∀ k∈ks,k≠[])/\kv.length < 64 /\
 ∀ ts D q,aKx H ts ks->H D=none->Pm ts.length q->Sd (aIr ks) q ts.length->Q (.ref D) (upd H D (.lst (q.toList.map fun i=>ts.getD i .non)))
theorem nQ(hcm:X.calm=true):mF X (.builtin "sorted") aKj:=by
 intro pins s σ H xs us Q I r h
 obtain ⟨a,kv,ks,rfl,ha,hk,hne,h64,q⟩:=h
 obtain ⟨u,rfl,ru⟩:=vals1 r
 cases (show u=Value.ref a from ru)
 obtain ⟨hz,hsys,es0,rel,o,es,ep,h1,h2,h3,h4,h5⟩:=(show ObjOk X.prog X.w H s.heap a (.dT kv) from I.hok a _ ha)
 have hraw:RawD s.heap a es ep:=⟨o,h1,h2,h3⟩
 have len1:kv.length=es0.length:=rel.length
 have len2:es.size=es0.length:=by rw [<- aWr,h4,aWb]
 have len3:ks.length=kv.length:=by
  have:=aZu List.length hk
  simpa using this.symm
 have hts:aKx H (es0.map fun x=>V.ref x.2.1) ks:=by
  refine ⟨by rw [aWb];omega,fun i t k e1 e2=>?_⟩
  rw [aWu] at e1
  cases ex:es0[i]? with
  | none=>rw [ex] at e1;cases e1
  | some x =>
   rw [ex] at e1
   cases e1
   have hi:i < kv.length:=by rw [len1];exact (aXa.mp ex).1
   obtain ⟨y,ey,hy1,hy2,_⟩:=Paired.get rel (aWd hi)
   rw [ex] at ey
   cases ey
   refine ⟨⟨x.2.1,rfl,?_⟩,hne k (aY2 e2)⟩
   have hkk:(kv.map (·.1))[i]? = (ks.map (List.map Sum.inl))[i]?:=by rw [hk]
   rw [aWu,aWu,aWd hi,e2] at hkk
   have hkk:kv[i].1=k.map Sum.inl:=aWx hkk
   rw [hkk,aXm] at hy2
   exact hy2
 have hvs:∀ vs:List Value,vs.length=es.size->(∀ (j:Nat) v,vs[j]? = some v->∃ e,es[j]? = some e/\v=e.key)->Vals (es0.map fun x=>V.ref x.2.1) vs:=fun vs hl hv=>by
  have ev:vs=es0.map fun x=>Value.ref x.2.1:=by
   refine aYv fun i=>?_
   rw [aWu]
   by_cases hi:i < vs.length
   ·have hi2:i < es0.length:=by omega
    obtain ⟨e,e1,e2⟩:=hv i vs[i] (aWd hi)
    have e3:es.toList[i]? = some e:=by simpa using e1
    rw [h4,aWu,aWd hi2] at e3
    have e3:=aWx e3
    rw [aWd hi,aWd hi2,e2,<- e3]
    rfl
   ·rw [aW9 (by omega),aW9 (by omega)]
    rfl
  rw [ev]
  exact w4 _
 refine sU (Ok:=fun vs=>vs.length=es.size/\∀ (j:Nat) v,vs[j]? = some v->∃ e,es[j]? = some e/\v=e.key) (fun R hR=>?_) ks (fun vs e=>⟨v7 I.hok hts (hvs vs e.1 e.2),by omega⟩) fun h' hf tk c vs q' k1 k2 e p1 p2 hc=>?_
 ·refine kdu_collect (A:=X.A.in1) (aNk (prog:=X.prog) (w:=X.w) (ep:=ep) (es:=es) hsys) (I.ok.hd hcm) hraw (by omega) fun h' tk acc hk hacc=>hR h' tk _ hk ⟨by rw [aWr];exact hacc.1,fun j v e=>hacc.2 j v (by simpa using e)⟩
 ·have rv:=hvs vs e.1 e.2
  have hlen:=rv.length
  exact aBz I rv (by omega) k1 k2 p1 hc fun D hD=>q _ D q' hts hD (hlen▸p1) (hlen▸p2)
end
end SRT
namespace M
open PySem PySem.Spec PyProof.Rows L2 SRT
def oG(k:List Int):D:=.tuple (k.map .int)
def yR:List D->Option (List Int)
 | []=>some []
 | .int i :: ds=>match yR ds with
  | some r=>some (i :: r)
  | none=>none
 | _=>none
def aFe:D->Option (List Int)
 | .tuple ds=>yR ds
 | _=>none
def vI:List D->Option (List (List Int))
 | []=>some []
 | d :: ds=>match aFe d with
  | none=>none
  | some k=>match vI ds with
   | none=>none
   | some ks=>some (k :: ks)
theorem aA9:∀ {ds:List D} {k:List Int},yR ds=some k->ds=k.map .int
 | [],_,h=>by cases h;rfl
 | d :: ds,k,h=>by
  cases d with
  | int i =>
   unfold yR at h
   cases e:yR ds with
   | none=>rw [e] at h;cases h
   | some r=>rw [e] at h;cases h;rw [aA9 e];rfl
  | _=>cases h
theorem wW:∀ k:List Int,yR (k.map .int)=some k
 | []=>rfl
 | i :: k=>by
  show (match yR (k.map .int) with | some r=>some (i :: r) | none=>none)=_
  rw [wW k]
theorem aE3(k:List Int):aFe (oG k)=some k:=wW k
theorem aHy{d:D}{k:List Int}(h:aFe d=some k):d=oG k:=by
 cases d with
 | tuple ds=>unfold oG;rw [<- aA9 h]
 | _=>cases h
theorem tZ:∀ {ds:List D} {ks:List (List Int)},vI ds=some ks->ds=ks.map oG
 | [],_,h=>by cases h;rfl
 | d :: ds,ks,h=>by
  unfold vI at h
  cases e:aFe d with
  | none=>rw [e] at h;cases h
  | some k =>
   rw [e] at h
   cases e2:vI ds with
   | none=>rw [e2] at h;cases h
   | some ks'=>rw [e2] at h;cases h;rw [aHy e,tZ e2];rfl
theorem rO:∀ ks:List (List Int),vI (ks.map oG)=some ks
 | []=>rfl
 | k :: ks=>by
  show (match aFe (oG k) with | none=>none | some k=>match vI (ks.map oG) with | none=>none | some ks=>some (k :: ks))=_
  rw [aE3,rO ks]
def aOs(k:List Int):List (List Int)->List (List Int)
 | []=>[k]
 | x :: r=>if HT.lexLt k x=true then k :: x :: r else x :: aOs k r
def gM:List (List Int)->List (List Int)
 | []=>[]
 | k :: ks=>aOs k (gM ks)
def leK(a b:List Int):Prop:=HT.lexLt b a=false
theorem pR(k:List Int):∀ l,(aOs k l).Perm (k :: l)
 | []=>.refl _
 | x :: r=>by
  unfold aOs
  split
  ·exact .refl _
  ·exact ((pR k r).cons x).trans (List.Perm.swap k x r)
theorem cQ:∀ l,(gM l).Perm l
 | []=>.refl _
 | k :: ks=>(pR k _).trans ((cQ ks).cons k)
theorem aJt{k y:List Int}{l:List (List Int)}(h:y∈aOs k l):y=k\/y∈l:=by
 have:=(pR k l).mem_iff.mp h
 exact aWh.mp this
theorem rH(k:List Int):∀ l,l.Pairwise leK->(aOs k l).Pairwise leK
 | [],_=>bCi _ _
 | x :: r,h=>by
  unfold aOs
  obtain ⟨h1,h2⟩:=aYa.mp h
  split
  ·rename_i e
   have e1:=aG5 _ _ e
   exact aYa.mpr ⟨fun y hy=>by
    rcases aWh.mp hy with rfl | hy
    ·exact e1
    ·exact aFv _ _ _ e1 (h1 y hy),h⟩
  ·rename_i e
   refine aYa.mpr ⟨fun y hy=>?_,rH k r h2⟩
   rcases aJt hy with rfl | hy
   ·exact Bool.eq_false_iff.mpr e
   ·exact h1 y hy
theorem fU:∀ l,(gM l).Pairwise leK
 | []=>.nil
 | k :: ks=>rH k _ (fU ks)
theorem mM:∀ {a b:List (List Int)},a.Perm b->a.Pairwise leK->b.Pairwise leK->a=b
 | [],b,p,_,_=>(List.Perm.nil_eq p)
 | x :: a,[],p,_,_=>absurd p.length_eq (by simp)
 | x :: a,y :: b,p,ha,hb=>by
  obtain ⟨a1,a2⟩:=aYa.mp ha
  obtain ⟨b1,b2⟩:=aYa.mp hb
  have hx:x∈y :: b:=p.mem_iff.mp (.head _)
  have hy:y∈x :: a:=p.mem_iff.mpr (.head _)
  have e:x=y:=by
   rcases aWh.mp hx with e | hx
   ·exact e
   ·rcases aWh.mp hy with e | hy
    ·exact e.symm
    ·exact aL2 _ _ (b1 x hx) (a1 y hy)
  subst e
  rw [mM (List.Perm.cons_inv p) a2 b2]
theorem picked{ks:List (List Int)}{q:Array Nat}{n:Nat}(hn:n=ks.length)(hp:Pm n q)(hs:Sd (aIr ks) q n):(q.toList.map fun i=>ks.getD i [])=gM ks:=by
 subst hn
 have e0:((List.range ks.length).map fun i=>ks.getD i [])=ks:=by
  refine aYv fun i=>?_
  rw [aWu]
  by_cases hi:i < ks.length
  ·rw [aZb hi];simp [hi]
  ·rw [aW9 (by rw [aXp];omega),aW9 (by omega)];rfl
 have p1:q.toList.Perm (List.range ks.length):=by
  have:=hp.toList
  simpa using this
 have p2:(q.toList.map fun i=>ks.getD i []).Perm ks:=by
  have:=p1.map (fun i=>ks.getD i [])
  rwa [e0] at this
 refine mM (p2.trans (cQ ks).symm) ?_ (fU ks)
 rw [bAd]
 intro i j hi hj hij
 rw [aWb] at hi hj
 rw [List.getElem_map,List.getElem_map]
 have sz:q.toList.length=ks.length:=by rw [aWr];exact hp.size
 have:=hs i j (aZr hij) (by omega)
 unfold SRT.le aIr Pt at this
 have e1:q.getD i 0=q.toList[i]:=by
  have:i < q.size:=by rw [<- aWr];exact hi
  simp [Array.getD,this]
 have e2:q.getD j 0=q.toList[j]:=by
  have:j < q.size:=by rw [<- aWr];exact hj
  simp [Array.getD,this]
 rw [e1,e2] at this
 exact this
section
variable {X:Cx}{K:aV9}
theorem aI1{G:Hp}{v:V}{k:List Int}(h:Rep K G v (oG k)):∃ b,v=.ref b/\G b=some (.tup (k.map V.int)):=by
 cases h with
 | @tup b xs _ h1 h2 =>
  refine ⟨b,rfl,?_⟩
  have:xs=k.map V.int:=by
   clear h1
   induction k generalizing xs with
   | nil=>cases h2;rfl
   | cons i k ih =>
    cases h2 with
    | cons r t=>cases r;rw [ih t];rfl
  rw [<- this];exact h1
theorem zY{G:Hp}{b:Addr}{k:List Int}(h:G b=some (.tup (k.map V.int))):Rep K G (.ref b) (oG k):=by
 refine .tup h ?_
 clear h
 induction k with
 | nil=>exact .nil
 | cons i k ih=>exact .cons (.int i) ih
theorem aG6{G H:Hp}(gh:Same G H):∀ {ts:List V} {ks:List (List Int)},Reps K G ts (ks.map oG)->(∀ k∈ks,k≠[])->aKx H ts ks:=by
 intro ts ks r hne
 refine ⟨by rw [r.length,aWb],fun i t k e1 e2=>?_⟩
 obtain ⟨d,e3,rd⟩:=r.get e1
 rw [aWu,e2] at e3
 cases e3
 obtain ⟨b,rfl,hb⟩:=aI1 rd
 exact ⟨⟨b,rfl,gh _ _ hb⟩,hne k (aY2 e2)⟩
theorem pQ{G:Hp}{ts:List V}{ks:List (List Int)}(h:∀ (i:Nat),i < ks.length->Rep K G (ts.getD i .non) (oG (ks.getD i []))):∀ l:List Nat,(∀ i∈l,i < ks.length)->Reps K G (l.map fun i=>ts.getD i .non) ((l.map fun i=>ks.getD i []).map oG)
 | [],_=>.nil
 | i :: l,hl=>.cons (h i (hl i (.head _))) (pQ h l fun j hj=>hl j (.tail _ hj))
theorem aSd{n:Nat}{q:Array Nat}(hp:Pm n q):∀ i∈q.toList,i < n:=fun i hi=>by
 have:i∈(List.range n).toArray:=hp.mem_iff.mp (aXz.mp hi)
 simpa using this
theorem aGd{ks:List (List Int)}(h:(ks.all fun k=>!k.isEmpty)=true):∀ k∈ks,k≠[]:=fun k hk z=>by
 have:=aZs.mp h k hk
 rw [z] at this
 cases this
def wt(G H:Hp):Hp:=fun b=>match G b with
 | some o=>some o
 | none=>match H b with
  | some (.tup xs)=>some (.tup xs)
  | _=>none
theorem aN2{G H:Hp}:Same G (wt G H):=fun b o e=>by unfold wt;rw [e]
theorem aEg{G H:Hp}(gh:Same G H):Same (wt G H) H:=fun b o e=>by
 unfold wt at e
 cases eg:G b with
 | some u=>rw [eg] at e;cases e;exact gh _ _ eg
 | none =>
  rw [eg] at e
  dsimp only at e
  split at e
  ·rename_i xs eh
   cases e;exact eh
  ·cases e
theorem aLb{G H:Hp}(gh:Same G H){b:Addr}{xs:List V}(e:H b=some (.tup xs)):wt G H b=some (.tup xs):=by
 unfold wt
 cases eg:G b with
 | some u =>
  have:=gh _ _ eg
  rw [e] at this
  exact this.symm
 | none=>dsimp only;rw [e]
theorem aFc{G H:Hp}(gh:Same G H):Step G H (wt G H) H:=⟨aN2,Same.refl _,aEg gh,fun b hb hg=>by
 unfold wt
 rw [hg]
 dsimp only
 split
 ·rename_i xs eh;exact .inr ⟨xs,eh⟩
 ·exact .inl rfl⟩
def eC(rs:List Ev):Res Ev:=match rs with
 | [x]=>match j8 x with
  | some kvs=>if (dsp kvs).1=false then match vI (kvs.map (·.1)) with
    | some ks=>if (ks.all fun k=>!k.isEmpty)=true/\ks.length < 64 then .ok (.f (.list ((gM ks).map oG))) else .bad
    | none=>.bad
   else .bad
  | none=>.bad
 | _=>.bad
theorem mL:aCy eC:=by
 intro rs C h
 unfold eC at h
 split at h
 ·split at h
  ·split at h
   ·split at h
    ·split at h<;>cases h
    ·cases h
   ·cases h
  ·cases h
 ·cases h
theorem aIs{k:List Key}{n:List Int}(h:tkD k=oG n):k=n.map Sum.inl:=by
 unfold tkD oG at h
 injection h with h
 induction k generalizing n with
 | nil=>cases n with
  | nil=>rfl
  | cons _ _=>cases h
 | cons x k ih =>
  cases n with
  | nil=>cases h
  | cons y n =>
   rw [aWo,aWo] at h
   injection h with h1 h2
   cases x with
   | inl i=>cases h1;rw [ih h2];rfl
   | inr i=>cases h1
theorem xO{G:Hp}:∀ {kv:List (List Key×V)} {kvs:List (D×D)} {ks:List (List Int)},RepT K G kv kvs->kvs.map (·.1)=ks.map oG->kv.map (·.1)=ks.map (List.map Sum.inl)
 | _,_,[],.nil,_=>rfl
 | _,_,_ :: _,.nil,h=>by cases h
 | _,_,[],.cons _ _,h=>by cases h
 | _,_,k :: ks,.cons _ t,h=>by
  rw [aWo,aWo] at h
  injection h with h1 h2
  rw [aWo,aWo,xO t h2,aIs h1]
theorem oC:oV K aKj eC:=by
 intro W Hs G H vs rs Q gh he hw
 unfold eC at hw
 split at hw
 ·rename_i x
  match vs,he with
  | [v],⟨h1,_⟩ =>
   split at hw
   ·rename_i kvs ed
    obtain ⟨a,rfl,hd⟩:=aAs gh h1 ed
    split at hw
    ·rename_i hk
     rcases hd with ⟨kv,k1,k2⟩ | ⟨kv,r,rfl,k1,k2⟩
     ·split at hw
      ·rename_i ks ek
       split at hw
       ·rename_i hz
        have ek:=tZ ek
        have hne:=aGd hz.1
        have hl:kv.length=ks.length:=by rw [k2.len,<- aWb (f:=(·.1)),ek,aWb]
        refine ⟨a,kv,ks,rfl,k1,xO k2 ek,hne,by omega,fun ts D q rI hD hp hs=>?_⟩
        have hl2:ts.length=ks.length:=rI.1
        have ep:=picked hl2 hp hs
        have st:=(aFc gh).trans (Step.lay (o:=.lst (q.toList.map fun i=>ts.getD i .non)) (aEg gh) hD)
        refine hw _ _ _ st ⟨D,_,rfl,hD,(aEg gh).free hD,cJ,.lst ?_⟩
        rw [<- ep]
        refine pQ (fun i hi=>?_) _ fun i hi=>by rw [<- hl2];exact aSd hp i hi
        have hi':i < ts.length:=by omega
        obtain ⟨⟨b,eb,hb⟩,_⟩:=rI.2 i ts[i] ks[i] (aWd hi') (aWd hi)
        have e1:ts.getD i .non=ts[i]:=by simp [hi']
        have e2:ks.getD i []=ks[i]:=by simp [hi]
        rw [e1,e2,eb]
        exact zY (aLb gh hb)
       ·exact hw.elim
      ·exact hw.elim
     ·cases hk
    ·exact hw.elim
   ·exact hw.elim
 ·exact hw.elim
theorem aMi{prog:Program}{w:World}{A:Around}{E:Value->Shared->Prop}{s:Shared}{d:Addr}{es:Array DictEntry}{ep:Nat}{Q:Value->Shared->Prop}(hd:(d == sysModules)=false)(hm:RawD s.heap d es ep)(hfit:(es.size:Int) < 2 ^ 63)
  (h:Q (.int es.size (s.toks+1)) { s with toks:=s.toks+1+1 }):wpAny (model prog w) A (call (.builtin "len") [.ref d]) Q E s:=by
 refine Calls.call_function_entry kind_len plain_len entry_len (args_len1 _) ?_
 unfold Builtin.«len»
 refine aWa (m:=oneArg "len" _) (aWe ?_)
 have meets:MeetsIn prog w (Builtin.«dict.__len__» ⟨[.ref d],[]⟩) (fun _ R s=>RawD s.heap d es ep/\R (.ok (.ret (.int es.size s.toks))) { s with toks:=s.toks+1 }) :=
  .of_wp fun A R s ⟨hm,h⟩=>by
   obtain ⟨o,ho,hc,hdat⟩:=hm
   show wpAny _ _ (dictSize d >>= _) _ _ s
   unfold dictSize
   refine aWa (aWa (aZm ho hdat (aWe ?_)))
   show wpAny _ _ (Builtin.Dict.pendingCount d >>= _) _ _ s
   refine aWa (wpAny_pendingCount_other hd ?_)
   refine wpAny_ret_mkInt ?_
   rw [Nat.add_zero];exact h
 refine aWa (m:=callSpecial? (.ref d) (Str.ofString "__len__")) (aY5 (name:=Str.ofString "__len__") hm.ty F.slot_dict_len
  (call_meetsIn F.slot_dict_len hm.ty F.entry_dict_len (F.args_dict_len_1 _) meets ⟨hm,?_⟩))
 show wpAny _ _ _ _ _ { s with toks:=s.toks+1 }
 refine aWa (aYj (aWe ?_))
 refine aWa (wpAny_letGo ?_)
 show wpAny _ _ (if ((es.size:Nat):Int) < 0 then _ else _) _ _ _
 rw [aWn (by omega)]
 show wpAny _ _ (if ((es.size:Nat):Int) ≥ 2 ^ 63 then _ else _) _ _ _
 rw [aWn (by omega)]
 exact aWa (wpAny_mkInt (aWe ⟨_,rfl,h⟩))
def aSp:List V->Hp->VK->Prop:=fun xs H Q=>∃ a,xs=[.ref a]/\((∃ kv,H a=some (.dT kv)/\Q (.int kv.length) H)\/∃ kv,H a=some (.dK kv)/\Q (.int kv.length) H)
theorem sQ:mF X (.builtin "len") aSp:=by
 intro pins s σ H xs us Q I r h
 obtain ⟨a,rfl,h⟩:=h
 obtain ⟨u,rfl,ru⟩:=vals1 r
 cases (show u=Value.ref a from ru)
 rcases h with ⟨kv,ha,q⟩ | ⟨kv,ha,q⟩
 ·obtain ⟨hz,hsys,es0,rel,o,es,ep,h1,h2,h3,h4,h5⟩:=(show ObjOk X.prog X.w H s.heap a (.dT kv) from I.hok a _ ha)
  have len1:kv.length=es0.length:=rel.length
  have len2:es.size=es0.length:=by rw [<- aWr,h4,aWb]
  rw [aY0] at hz
  refine aMi hsys ⟨o,h1,h2,h3⟩ (by omega) ⟨.int kv.length,H,I.tok _,⟨s.toks+1,by rw [len2,len1]⟩,q⟩
 ·exact aTf I (.inl ha) fun t s' I'=>⟨.int kv.length,H,I',⟨t,rfl⟩,q⟩
theorem aHb:oV K aSp o3:=by
 intro W Hs G H vs rs Q gh he hw
 unfold o3 at hw
 split at hw
 ·rename_i x
  match vs,he with
  | [v],⟨h1,_⟩ =>
   split at hw
   ·rename_i kvs ed
    obtain ⟨a,rfl,hd⟩:=aAs gh h1 ed
    refine ⟨a,rfl,?_⟩
    rcases hd with ⟨kv,k1,k2⟩ | ⟨kv,r,rfl,k1,k2⟩
    ·refine .inl ⟨kv,k1,?_⟩
     rw [aNe k2] at hw
     rw [k2.len]
     exact hw G H _ (Step.refl gh) (.int _)
    ·refine .inr ⟨kv,k1,?_⟩
     rw [k2.len]
     exact hw G H _ (Step.refl gh) (.int _)
   ·exact hw.elim
 ·exact hw.elim
end
end M
namespace L2
open PySem PySem.Spec PyProof.Rows
section
variable {X:Cx}
end
end L2
namespace M
open PySem PySem.Spec PyProof.Rows L2
section
variable {X:Cx}{E:L2.St->XK}
def aJf(i:Nat)(g:List D->Option (List D)):MS:=fun en=>match en[i]? with
 | some (some (.o (.list ds)))=>match g ds with
  | some es=>some (.nx (en.set i (some (.o (.list es)))))
  | none=>none
 | _=>none
theorem aMv{i:Nat}{st:Stmt}{r:V->List V->Hp->VK->Prop}{g:List D->Option (List D)}(hp:PS X st (aDx (aUk X.K "list" r (aLc i))))
  (hg:∀ (G H:Hp) (a:Addr) (xs:List V) (ds es:List D) (Q:VK),H a=some (.lst xs)->Reps X.K G xs ds->g ds=some es->(∀ u ys,Reps X.K G ys es->Q u (upd H a (.lst ys)))->r (.ref a) [] H Q):DS X E st (aJf i g):=by
 refine DS.in ⟨_,hp,fun B G0 G W H σ en Dn hh hs hw=>?_⟩
 unfold aJf at hw
 split at hw
 ·rename_i ds ei
  obtain ⟨v,e1,a,o,rfl,e2,e3,e4⟩:=hs.2 i _ ei
  cases e4 with
  | @lst xs _ rp =>
  cases eg:g ds with
  | none=>rw [eg] at hw;exact hw.elim
  | some es =>
   rw [eg] at hw
   refine ⟨_,e1,.inl ⟨rfl,_,SqL.of e3⟩,hg G H a xs ds es _ e3 rp eg fun u ys ry=>?_⟩
   obtain ⟨w1,w2⟩:=lL (o':=.lst ys) (d':=.list es) hh hs e2 e1 (.lst ry)
   exact hw _ _ _ _ w1 w2
 ·exact hw.elim
theorem Reps.rev{K:aV9}{G:Hp}:∀ {xs:List V} {ds:List D},Reps K G xs ds->Reps K G xs.reverse ds.reverse
 | _,_,.nil=>.nil
 | _,_,.cons h r=>by
  rw [aZp,aZp]
  exact (Reps.rev r).append (.cons h .nil)
theorem Reps.dropLast{K:aV9}{G:Hp}:∀ {xs:List V} {ds:List D},Reps K G xs ds->Reps K G xs.dropLast ds.dropLast
 | _,_,.nil=>.nil
 | _,_,.cons h .nil=>.nil
 | _,_,.cons h (.cons h2 r)=>.cons h (Reps.dropLast (.cons h2 r))
def aSv(i:Nat):MS:=aJf i fun ds=>if ds=[] then none else some ds.dropLast
theorem aLz{i:Nat}{st:Stmt}(hp:PS X st (aDx (aUk X.K "list" aU2 (aLc i)))):DS X E st (aSv i) :=
 aMv hp fun G H a xs ds es Q h rp e q=>by
  split at e
  ·cases e
  ·rename_i hne
   cases e
   have hl:=rp.length
   have hx:xs≠[]:=fun z=>hne (aX8.mp (by rw [<- hl,z];rfl))
   have hpos:xs.length - 1 < xs.length:=Nat.sub_lt (aYx.mpr hx) (by decide)
   exact ⟨a,xs,_,rfl,rfl,h,aWd hpos,q _ _ rp.dropLast⟩
def cutD(ds:List D)(lo hi:Option Int):List D:=(ds.drop (HT.sIx ds.length 0 lo)).take (HT.sIx ds.length ds.length hi - HT.sIx ds.length 0 lo)
theorem Reps.cut{K:aV9}{G:Hp}{xs:List V}{ds:List D}(r:Reps K G xs ds)(lo hi:Option Int):Reps K G (aPi xs lo hi) (cutD ds lo hi):=by
 unfold aPi cutD
 rw [r.length]
 exact (r.drop _).take _
def aD4:En->Res (Option Int):=fun _=>.ok none
def mPt(fe:En->Res Ev):En->Res (Option Int):=fun en=>(fe en).bind fun x=>match x.c with
 | .p (.int i)=>.ok (some i)
 | _=>.bad
def tP(K:aV9)(E:L2.St->XK)(f:En->Res (Option Int)):TO:=fun σ H R=>∃ B G0 G W en,SimH B G0 G W H/\SimS K W G H σ en/\wpR (f en) (fun k=>∀ G' H',Step G H G' H'->R k H') (PostX (E σ) G H)
def DP(X:Cx)(E:L2.St->XK)(o:Option Expr)(f:En->Res (Option Int)):Prop:=PO X o (tP X.K E f)
theorem qC:DP X E none aD4:=fun pins s σ H R I ⟨B,G0,G,W,en,hh,hs,hw⟩=>aM7 pins s σ H R I (hw G H (Step.refl hh.gh))
theorem kA{e:Expr}{fe:En->Res Ev}(he:DE X E e fe):DP X E (some e) (mPt fe):=fun pins s σ H R I ⟨B,G0,G,W,en,hh,hs,hw⟩=>by
 obtain ⟨t,p,m⟩:=he.out
 refine aN3 p pins s σ H R I (m B G0 G W H σ en _ hh hs ?_)
 unfold mPt at hw
 rw [cK] at hw
 refine bT hw (fun x hx G1 H1 v s1 e1=>?_) fun C h=>h
 obtain ⟨G2,s2,e2⟩:=e1.c s1
 cases ex:x.c with
 | p d =>
  rw [ex] at hx e2
  cases d with
  | int i=>cases e2;exact ⟨i,rfl,hx G2 H1 s2⟩
  | _=>exact hx.elim
 | f d=>rw [ex] at hx;exact hx.elim
 | b d=>rw [ex] at hx;exact hx.elim
 | x C=>rw [ex] at hx;exact hx.elim
def mSl(fe:En->Res Ev)(fl fh:En->Res (Option Int)):En->Res Ev:=fun en=>(fe en).bind fun x=>(fl en).bind fun l=>(fh en).bind fun u=>match eZ x.c with
 | some ds=>.ok (.f (.list (cutD ds l u)))
 | none=>.bad
theorem yY{e:Expr}{lo hi:Option Expr}{fe:En->Res Ev}{fl fh:En->Res (Option Int)}{p2 pos:Pos}(he:DE X E e fe)(hl:DP X E lo fl)(hu:DP X E hi fh):DE X E (.Subscript e (.Slice lo hi none p2) pos) (mSl fe fl fh):=by
 obtain ⟨t,p,m⟩:=he.out
 refine DE.in ⟨_,aIu aL8 p hl hu,fun B G0 G W H σ en Q hh hs hw=>?_⟩
 unfold mSl at hw
 refine m B G0 G W H σ en _ hh hs (DE.go hw fun x G1 H1 v s1 e1 h1=>?_)
 refine ⟨B,G0,G1,W,en,hh.step s1,hs.step s1,?_⟩
 rw [cK] at h1
 refine bT h1 (fun l hx G2 H2 s2=>?_) fun C h=>h
 refine ⟨B,G0,G2,W,en,(hh.step s1).step s2,(hs.step s1).step s2,?_⟩
 have hx':=bT hx (fun r h=>h.step s2) (fun C h=>h.step s2)
 rw [cK] at hx'
 refine bT hx' (fun u hy G3 H3 s3=>?_) fun C h=>h
 cases ex:eZ x.c with
 | none=>rw [ex] at hy;exact hy.elim
 | some ds =>
  rw [ex] at hy
  obtain ⟨a,xs,rfl,rd,rp⟩:=oM (Hs:=H) s3.gh (e1.step (s2.trans s3)) ex
  exact ⟨a,xs,rfl,.inl rd,fun p hp=>hy _ _ _ (s3.trans (Step.lay s3.gh hp)) ⟨p,_,rfl,s3.h.free hp,s3.gh.free hp,cJ,.lst (rp.cut l u)⟩⟩
def aSr(i j:Nat)(fr:En->Res (List Ev)):MS:=fun en=>match fr en with
 | .ok rs=>match rs with
  | [.p d,.p e]=>some (.nx ((en.set i (some (.p d))).set j (some (.p e))))
  | _=>none
 | .exc C=>some (.ex C en)
 | .bad=>none
theorem aQ3{i j:Nat}{x y:Str}{a b:Expr}{fr:En->Res (List Ev)}{px py pt pos:Pos}{kt k2 pt2}(hc:X.calm=true)(hN:X.N.Nodup)(hi:X.N[i]? = some x)(hj:X.N[j]? = some y)(hij:i≠j)
  (hx:X.env.scope.names.lookup x=some .local) (hy:X.env.scope.names.lookup y=some .local) (ha:DA X E [a,b] fr)
  (hw:swappedStores [.Tuple [.Name x px,.Name y py] kt pt] (.Tuple [a,b] k2 pt2) X.env=pure (some [x,y]):=by rfl)
  (hs:swapsWithSole [.Tuple [.Name x px,.Name y py] kt pt] (.Tuple [a,b] k2 pt2) pos.line X.env=pure false:=by rfl) :
  DS X E (.Assign [.Tuple [.Name x px,.Name y py] kt pt] (.Tuple [a,b] k2 pt2) pos) (aSr i j fr):=by
 obtain ⟨t,p,m⟩:=ha.out
 refine DS.in ⟨_,aP0 hc hN hi hj hij hx hy p hw hs,fun B G0 G W H σ en Dn hh hs hw=>m B G0 G W H σ en _ hh hs ?_⟩
 unfold aSr at hw
 cases ef:fr en with
 | bad=>rw [ef] at hw;exact hw
 | exc C=>rw [ef] at hw;exact fun G1 H1 s=>hw G1 W H1 σ (hh.step s) (hs.step s)
 | ok rs =>
  rw [ef] at hw
  dsimp only at hw
  split at hw
  ·rename_i d e
   intro G1 H1 vs s ev
   match vs,ev with
   | [v,w],⟨e1,e2,_⟩=>exact ⟨v,w,rfl,hw G1 W H1 _ (hh.step s) (((hs.step s).set (i:=i) (l:=.p d) e1).set (i:=j) (l:=.p e) e2)⟩
  ·exact hw.elim
end
section
variable {K:aV9}
end
end M
namespace L2
open PySem PySem.Spec PyProof.Rows
def Itz(K:aV9)(a b:Addr):It :=
 ⟨fun i H=>∃ xs ys x y,SqL K H a xs/\xs[i]? = some x/\SqL K H b ys/\ys[i]? = some y,
   fun i H v H'=>∃ p x y,H p=none/\v=.ref p/\(∀ xs,SqL K H a xs->xs[i]? = some x)/\(∀ ys,SqL K H b ys->ys[i]? = some y)/\H'=upd H p (.tup [x,y]),
   fun i H=>∃ xs ys,SqL K H a xs/\SqL K H b ys/\(xs.length<=i\/ys.length<=i)⟩
theorem aIa{P:Program}{w:World}{K:aV9}{elts:List Expr}{x1}{tp:Pos}{l1 l2 z TI TO i1 i2:Addr}(D:ZipApart z TI TO i1 i2 l1 l2):Turn P w K (.Tuple elts x1 tp) (Itz K l1 l2) [z,TI,TO,i1,i2] z
  (fun i h=>IsZip h z TI TO Value.none/\IsPair h TI (.ref i1) (.ref i2)/\(∃ a b,IsPair h TO a b)/\h.IsListIter i1 l1 i/\h.IsListIter i2 l2 i) where
 mem:=by simp
 obj:=fun i h st b hb=>by
  obtain ⟨s1,s2,⟨_,_,s3⟩,⟨o4,q4,_,d4⟩,⟨o5,q5,_,d5⟩⟩:=st
  simp only [aWh,aX4,bBp] at hb
  rcases hb with rfl | rfl | rfl | rfl | rfl
  ·exact ⟨_,s1,fun v z=>nomatch z⟩
  ·exact ⟨_,s2,fun v z=>nomatch z⟩
  ·exact ⟨_,s3,fun v z=>nomatch z⟩
  ·exact ⟨o4,q4,fun v z=>by rw [d4] at z;cases z⟩
  ·exact ⟨o5,q5,fun v z=>by rw [d5] at z;cases z⟩
 keep:=fun i h h' st k=>by
  obtain ⟨s1,s2,⟨a,b,s3⟩,s4,s5⟩:=st
  exact ⟨k _ (by simp) _ s1,k _ (by simp) _ s2,⟨a,b,k _ (by simp) _ s3⟩,s4.at fun o q=>k _ (by simp) o q,s5.at fun o q=>k _ (by simp) o q⟩
 item:=by
  intro X hP hw hK hc i pins s σ H E I hf st hg
  subst hP hw hK
  obtain ⟨s1,s2,⟨a0,b0,s3⟩,s4,s5⟩:=st
  obtain ⟨xs,ys,x,y,hq,hx,hq2,hy⟩:=hg
  obtain ⟨its,rv,p,hz⟩:=I.list hq
  obtain ⟨its2,rv2,p2,hz2⟩:=I.list hq2
  obtain ⟨u,hu,ru⟩:=rv.get hx
  obtain ⟨u2,hu2,ru2⟩:=rv2.get hy
  have hfz:=hf z (by simp)
  have hfT:=hf TO (by simp)
  have hf1:=hf i1 (by simp)
  have hf2:=hf i2 (by simp)
  refine wpAny_pyNext_zip_item D s1 s2 s3 s4 s5 p.isList p2.isList (x:=u) (y:=u2) (by simpa using hu) (by simpa using hu2) fun h₁ z1 to1 it1 it2 tt1 hz₁ hk₁=>?_
  refine ⟨_,rfl,wpAny_letOwnedTupleGo_zip z1 fun h₂ z2 hs₂=>?_⟩
  have hs₂:Heap.SameBut z h₁ h₂:=hs₂
  have hn:H s.heap.objs.size=none:=I.fresh
  have nn:∀ b o,H b=some o->b≠s.heap.objs.size:=fun b o q=>eB q hn
  have eE:z < s.heap.objs.size:=aWi s1
  have keep:∀ b o,b∉[z,TO,i1,i2]->s.heap.get? b=some o->h₂.get? b=some o:=fun b o hb q=>by
   simp only [aWh,aX4,bBp,not_or] at hb
   exact (hs₂.2 b hb.1).trans (hk₁ b o hb.1 hb.2.1 hb.2.2.1 hb.2.2.2 q)
  have trk:∀ b o,H b=some o->b∉[z,TO,i1,i2]:=fun b o q hb=>by
   have hm:b∈[z,TI,TO,i1,i2]:=by
    simp only [aWh,aX4,bBp] at hb ⊢
    rcases hb with h | h | h | h<;>simp [h]
   rw [(hf b hm).1] at q;cases q
  refine ⟨.ref s.heap.objs.size,upd H s.heap.objs.size (.tup [x,y]),?_,rfl,⟨_,x,y,hn,rfl,fun zs hz'=>by rw [I.list_inj hz' hq];exact hx,fun zs hz'=>by rw [I.list_inj hz' hq2];exact hy,rfl⟩,⟨z2,keep _ _ ?_ s2,⟨_,_,(hs₂.2 _ D.TOz).trans to1⟩,it1.at fun o q=>(hs₂.2 _ D.i1z).trans q,it2.at fun o q=>(hs₂.2 _ D.i2z).trans q⟩,fun b hb=>?_⟩
  ·refine Inv.step (X:=X) (pins:=pins) (σ:=σ) (H:=H) (s:=s) (H':=upd H s.heap.objs.size (.tup [x,y])) (h':=h₂) (g':=s.gens) (d':=s.drawn) (t':=s.toks) (ch:=[z,TO,i1,i2]) I (fun b hb=>?_) (fun b o _ _ hb q _=>keep b o hb q) (fun b o _ _ hb q _=>⟨o.slots,keep b o hb q⟩) (fun b o _ q n=>?_) (fun b o hb q=>⟨o,keep b o hb q⟩)
    (fun b ys q=>?_) (fun b o v q=>?_) (fun b ps q=>⟨#[],?_⟩) (fun m hm=>?_) (fun b v q=>?_) I.bare
   ·have hm:b∈[z,TI,TO,i1,i2]:=by
     simp only [aWh,aX4,bBp] at hb ⊢
     rcases hb with h | h | h | h<;>simp [h]
    obtain ⟨f0,f1,f2,f3,f4,f5⟩:=hf b hm
    exact ⟨f3,f1,f4,f5⟩
   ·rw [bY (aW2 (aWi q))];exact n
   ·rw [bY (nn b _ q)];exact q
   ·rw [bY (nn b _ q)];exact q
   ·rw [bY (nn b _ q),q];simp
   ·obtain ⟨o,es,ep,ho,r⟩:=hm
    refine ⟨o,es,ep,keep _ o (fun zz=>?_) ho,r⟩
    simp only [aWh,aX4,bBp] at zz
    rcases zz with h | h | h | h
    ·exact hfz.2.1 h.symm
    ·exact hfT.2.1 h.symm
    ·exact hf1.2.1 h.symm
    ·exact hf2.2.1 h.symm
   ·by_cases hb:b=s.heap.objs.size
    ·subst hb
     rw [cJ] at q
     cases q
     refine ⟨by show 2<=sizeLine;decide,[u,u2],.cons ru (.cons ru2 .nil),_,(hs₂.2 _ (bCw eE)).trans tt1,rfl,_,rfl⟩
    ·rw [bY hb] at q
     refine (I.hok b v q).stay (fun c w' hc q'=>keep c w' ?_ q') (fun c q'=>?_) fun c ys q'=>?_
     ·rcases hc with zz | zz
      ·rw [zz];exact trk b v q
      ·exact trk c _ zz
     ·rw [bY (nn c _ q')];exact q'
     ·rw [bY (nn c _ q')];exact q'
  ·simp only [aWh,aX4,bBp,not_or]
   exact ⟨D.TIz,D.TITO,D.TIi1,D.TIi2⟩
  ·have hb':=(hf b hb).1
   have:b≠s.heap.objs.size:=by
    simp only [aWh,aX4,bBp] at hb
    obtain ⟨o4,q4,_⟩:=id s4
    obtain ⟨o5,q5,_⟩:=id s5
    rcases hb with h | h | h | h | h<;>rw [h]
    ·exact aW2 eE
    ·exact aW2 (aWi s2)
    ·exact aW2 (aWi s3)
    ·exact aW2 (aWi q4)
    ·exact aW2 (aWi q5)
   rw [bY this];exact hb'
 done:=by
  intro X hP hw hK hc i pins s σ H E I hf st hg
  subst hP hw hK
  obtain ⟨s1,s2,⟨a0,b0,s3⟩,s4,s5⟩:=st
  obtain ⟨xs,ys,hq,hq2,hx⟩:=hg
  obtain ⟨its,rv,p,hz⟩:=I.list hq
  obtain ⟨its2,rv2,p2,hz2⟩:=I.list hq2
  have hl:=rv.length
  have hl2:=rv2.length
  refine wpAny_pyNext_zip_end (I.ok.hd hc) D s1 s2 s3 s4 s5 p.isList p2.isList (hx.imp (fun h=>by simp;omega) fun h=>by simp;omega) fun h' hk=>⟨rfl,?_⟩
  have keep:∀ b o,b∉[z,TO,i1,i2]->s.heap.get? b=some o->h'.get? b=some o:=fun b o hb q=>by
   simp only [aWh,aX4,bBp,not_or] at hb
   exact hk b o hb.1 hb.2.1 hb.2.2.1 hb.2.2.2 q
  have hin:∀ b,b∈[z,TO,i1,i2]->b∈[z,TI,TO,i1,i2]:=fun b hb=>by
   simp only [aWh,aX4,bBp] at hb ⊢
   rcases hb with h | h | h | h<;>simp [h]
  have trk:∀ b o,H b=some o->b∉[z,TO,i1,i2]:=fun b o q hb=>by rw [(hf b (hin b hb)).1] at q;cases q
  refine Inv.step (X:=X) (pins:=pins) (σ:=σ) (H:=H) (s:=s) (H':=H) (h':=h') (g':=s.gens) (d':=s.drawn) (t':=s.toks) (ch:=[z,TO,i1,i2]) I (fun b hb=>?_) (fun b o _ _ hb q _=>keep b o hb q) (fun b o _ _ hb q _=>⟨o.slots,keep b o hb q⟩) (fun b o _ q n=>n) (fun b o hb q=>⟨o,keep b o hb q⟩)
   (fun _ _ q=>q) (fun _ _ _ q=>q) (fun b ps q=>⟨#[],by rw [q];simp⟩) (fun m hm=>?_) (fun b v q=>?_) I.bare
  ·obtain ⟨f0,f1,f2,f3,f4,f5⟩:=hf b (hin b hb)
   exact ⟨f3,f1,f4,f5⟩
  ·obtain ⟨o,es,ep,ho,r⟩:=hm
   exact ⟨o,es,ep,keep _ o (fun zz=>(hf _ (hin _ zz)).2.1 rfl) ho,r⟩
  ·refine (I.hok b v q).stay (fun c w' hc q'=>keep c w' ?_ q') (fun _ q'=>q') fun _ _ q'=>q'
   rcases hc with zz | zz
   ·rw [zz];exact trk b v q
   ·exact trk c _ zz
 self:=fun _ _ _ _ _ st h=>wpAny_pyIter_zip st.1 h
section
variable {X:Cx}
def aV2(K:aV9)(ta:TA):TI:=fun σ H R=>ta σ H fun vs H1=>∃ a b xs ys,vs=[.ref a,.ref b]/\Rd H1 a (.lst xs)/\Rd H1 b (.lst ys)/\R (Itz K a b) H1
theorem aL9:bootBuiltins "zip" = some (.type "zip"):=by decide +kernel
theorem aQ5{a b:Expr}{ta:TA}{p pos tp:Pos}{elts:List Expr}{x1}(hg:Gl X "zip")(hm:X.mg "zip" = none)(ha:PA X [a,b] ta)(hs:starEach [a,b] X.env=[(false,eval a X.env),(false,eval b X.env)]:=by rfl)(hs2:starEach [b] X.env=[(false,eval b X.env)]:=by rfl):PI X (.Tuple elts x1 tp) (.Call (.Name "zip" p) [a,b] [] pos) (aV2 X.K ta):=by
 intro pins s σ H R I h
 refine Call_ (lW I hg hm aL9 (aXs (thn (ha pos pins s σ H _ I h) fun us s1 ⟨vs,H1,I1,r1,q1⟩=>?_) (by rw [hs,hs2]) (by rw [hs2];rfl)))
 obtain ⟨a,b,xs,ys,rfl,hr,hr2,q⟩:=q1
 obtain ⟨u,u2,rfl,ru,ru2⟩:=vals2 r1
 cases (show u=Value.ref a from ru)
 cases (show u2=Value.ref b from ru2)
 obtain ⟨_,its,n,rv,ho⟩:=hr.ok I1.hok
 obtain ⟨_,its2,n2,rv2,ho2⟩:=hr2.ok I1.hok
 refine call_zip_2 ⟨_,ho,rfl,_,rfl⟩ ⟨_,ho2,rfl,_,rfl⟩ fun h' he hp1 hp2 hit hit2 hz hk=>?_
 refine wpAny_pyIter_zip (s:={ s1 with heap:=h' }) he ?_
 refine ⟨s1.heap.objs.size+4,[s1.heap.objs.size+4,s1.heap.objs.size+2,s1.heap.objs.size+3,s1.heap.objs.size,s1.heap.objs.size+1],_,_,H1,rfl,I1.kept (t':=s1.toks) hk,aIa (zipApart_new (aWi ho) (aWi ho2)),⟨he,hp1,⟨_,_,hp2⟩,hit,hit2⟩,fun b hb=>?_,q⟩
 have hle:s1.heap.objs.size<=b:=by
  simp only [aWh,aX4,bBp] at hb
  rcases hb with h | h | h | h | h<;>rw [h]
  ·exact aYs _ _
  ·exact aYs _ _
  ·exact aYs _ _
  ·exact aWl _
  ·exact aYs _ _
 exact I1.fpOk hle (I1.hok.fresh hle)
end
end L2
namespace M
open PySem PySem.Spec PyProof.Rows L2
def aC0:List D->List D->List D
 | x :: xs,y :: ys=>.tuple [x,y] :: aC0 xs ys
 | _,_=>[]
theorem aBc:∀ (xs ys:List D) (i:Nat),(aC0 xs ys)[i]? = match xs[i]?,ys[i]? with
  | some x,some y=>some (.tuple [x,y])
  | _,_=>none
 | [],_,i=>by simp [aC0]
 | _ :: _,[],i=>by cases i<;>simp [aC0]
 | x :: xs,y :: ys,0=>by simp [aC0]
 | x :: xs,y :: ys,i+1=>by
  unfold aC0
  rw [aWp,aWp,aWp,aBc xs ys i]
theorem aAt:∀ (xs ys:List D),xs.length<=(aC0 xs ys).length\/ys.length<=(aC0 xs ys).length
 | [],_=>.inl (aXo _)
 | _ :: _,[]=>.inr (aXo _)
 | x :: xs,y :: ys=>by
  unfold aC0
  rcases aAt xs ys with h | h
  ·exact .inl (bCo h)
  ·exact .inr (bCo h)
def aRj(rs:List Ev):Res (List D):=match rs with
 | [.p (.list xs),.p (.list ys)]=>.ok (aC0 xs ys)
 | _=>.bad
theorem aP4{X:Cx}{E:L2.St->XK}{a b:Expr}{fr:En->Res (List Ev)}{p pos tp:Pos}{elts:List Expr}{x1}(hg:Gl X "zip")(hm:X.mg "zip" = none)(ha:DA X E [a,b] fr)(hs:starEach [a,b] X.env=[(false,eval a X.env),(false,eval b X.env)]:=by rfl)(hs2:starEach [b] X.env=[(false,eval b X.env)]:=by rfl) :
  DI X E (.Tuple elts x1 tp) (.Call (.Name "zip" p) [a,b] [] pos) (tF aRj fr):=by
 obtain ⟨t,q,m⟩:=ha.out
 refine DI.in ⟨_,aQ5 hg hm q hs hs2,fun B G0 G W H σ en R hh hs hw=>m B G0 G W H σ en _ hh hs ?_⟩
 have hw:wpR ((fr en).bind _) _ _:=hw
 rw [cK] at hw
 refine bT hw (fun rs hr G1 H1 vs s e=>?_) fun C h=>h
 unfold aRj at hr
 split at hr
 ·rename_i ds es
  match vs,e with
  | [v,v2],⟨e1,e2,_⟩ =>
   cases e1 with
   | @lst a xs _ h1 h2 =>
    cases e2 with
    | @lst b ys _ g1 g2 =>
     refine ⟨a,b,xs,ys,rfl,iT s.gh h1,iT s.gh g1,hr G1 H1 _ s fun G3 H3 k1 k2=>⟨fun i d ed=>?_,?_⟩⟩
     ·rw [aBc] at ed
      cases ex0:ds[i]? with
      | none=>rw [ex0] at ed;cases ed
      | some d1 =>
       cases ey0:es[i]? with
       | none=>rw [ex0,ey0] at ed;cases ed
       | some d2 =>
        rw [ex0,ey0] at ed
        cases ed
        obtain ⟨x,ex,rx⟩:=h2.get' ex0
        obtain ⟨y,ey,ry⟩:=g2.get' ey0
        have sq:SqL X.K H3 a xs:=.inl (iT (k1.trans k2) h1)
        have sq2:SqL X.K H3 b ys:=.inl (iT (k1.trans k2) g1)
        refine ⟨⟨xs,ys,x,y,sq,ex,sq2,ey⟩,fun v H' hy=>?_⟩
        obtain ⟨p,x',y',hp,rfl,hx',hy',rfl⟩:=hy
        have e1:=hx' xs sq
        have e2:=hy' ys sq2
        rw [ex] at e1
        rw [ey] at e2
        cases e1
        cases e2
        have st:=Step.put (o:=.tup [x,y]) k2 hp
        exact ⟨_,st,.tup cJ (.cons (rx.mono (k1.trans st.g)) (.cons (ry.mono (k1.trans st.g)) .nil))⟩
     ·refine ⟨xs,ys,.inl (iT (k1.trans k2) h1),.inl (iT (k1.trans k2) g1),?_⟩
      rw [h2.length,g2.length]
      exact aAt ds es
 ·exact hr.elim
end M
namespace L2
open PySem PySem.Spec PyProof.Rows
theorem aCf{prog:Program}{w:World}{A:Around}{E:Value->Shared->Prop}{s:Shared}{nm:String}{a b:Addr}{oa ob:Obj}{ea:Array DictEntry}{pa pb:Nat}{Q:Bool->Shared->Prop}
  (ma:(a == sysModules)=false) (mb:(b == sysModules)=false) (ha:s.heap.get? a=some oa) (da:oa.data=.dict ea pa) (hb:s.heap.get? b=some ob) (db:ob.data=.dict #[] pb) (q:Q (ea.size == 0) s) :
  wpAny (model prog w) A (Builtin.Dict.samePairs nm a b) Q E s:=by
 unfold Builtin.Dict.samePairs
 refine aWa ?_
 unfold Builtin.Dict.showsAll
 rw [ma]
 refine aWe ?_
 refine aWa ?_
 rw [mb]
 refine aWe ?_
 refine aWa (aZm ha da ?_)
 dsimp only
 refine aWa (aZm hb db ?_)
 by_cases h0:ea.size=0
 ·rw [h0]
  rw [h0] at q
  refine aWa (bBs ha da ?_)
  refine aWa ?_
  rw [Std.Legacy.Range.forIn_eq_forIn_range']
  simp only [Std.Legacy.Range.size]
  refine aWe ?_
  exact aWe q
 ·have:(ea.size != (#[]:Array DictEntry).size)=true:=by simp [h0]
  rw [aWm this]
  refine aWa (wpAny_rule ?_)
  refine aWe ?_
  have e:(ea.size == 0)=false:=by simp [h0]
  rw [e] at q
  exact q
theorem aEf(a b:Addr):Builtin.«dict.__eq__» ⟨[.ref a,.ref b],[]⟩=(do
   let x <- Builtin.Dict.dictSlotArgs "__eq__" ⟨[.ref a,.ref b],[]⟩
   match x with
   | (self,other)=>do
    let i <- PySem.isInstance other (Value.type "dict")
    if (!i)=true then do
     rule (toString "dict."++toString "__eq__"++toString ".not-a-dict")
     ret Value.notImplemented
    else do
     let p <- Builtin.Dict.addrOf self
     let q <- Builtin.Dict.addrOf other
     let r <- Builtin.Dict.samePairs (toString "dict."++toString "__eq__") p q
     ret (Value.bool (r == true))):=by
 unfold Builtin.«dict.__eq__»
 rfl
theorem aD6{prog:Program}{w:World}{A:Around}{E:Value->Shared->Prop}{s:Shared}{a b:Addr}{oa ob:Obj}{Q:Value->Shared->Prop}
  (ha:s.heap.get? a=some oa) (xa:oa.ExactDict) (hb:s.heap.get? b=some ob) (xb:ob.ExactDict)
  (hu:A.units < cLine) (q:wpAny (model prog w) A.in1 (Builtin.«dict.__eq__» ⟨[.ref a,.ref b],[]⟩) (fun fin s'=>∃ v,fin=Fin.done (Flow.ret v)/\v≠Value.notImplemented/\Q v s') E s):wpAny (model prog w) A (compareOp .Eq (.ref a) (.ref b)) Q E s:=by
 have t1:s.TypeIs (.ref a) "dict":=⟨oa,ha,xa.1⟩
 have t2:s.TypeIs (.ref b) "dict":=⟨ob,hb,xb.1⟩
 show wpAny (model prog w) A (richCompare .Eq (.ref a) (.ref b)) Q E s
 refine wpAny_richCompare_same_room (op:=.Eq) t1 t2 F.slot_dict_eq ?_ hu
 exact aYr F.slot_dict_eq t1 F.entry_dict_eq q (F.args_dict_eq_2 _ _)
theorem aCs{prog:Program}{w:World}{A:Around}{E:Value->Shared->Prop}{s:Shared}{a b:Addr}{n:Nat}{Q:Fin->Shared->Prop}(t1:s.TypeIs (.ref a) "dict")(t2:s.TypeIs (.ref b) "dict")
 (hs:∀ {R:Bool->Shared->Prop},R (n == 0) s->wpAny (model prog w) A (Builtin.Dict.samePairs (toString "dict."++toString "__eq__") a b) R E s) (q:Q (Fin.done (Flow.ret (.bool ((n == 0) == true)))) s):wpAny (model prog w) A (do
   let x <- Builtin.Dict.dictSlotArgs "__eq__" ⟨[.ref a,.ref b],[]⟩
   match x with
   | (self,other)=>do
    let i <- PySem.isInstance other (Value.type "dict")
    if (!i)=true then do
     rule (toString "dict."++toString "__eq__"++toString ".not-a-dict")
     ret Value.notImplemented
    else do
     let p <- Builtin.Dict.addrOf self
     let q <- Builtin.Dict.addrOf other
     let r <- Builtin.Dict.samePairs (toString "dict."++toString "__eq__") p q
     ret (Value.bool (r == true))) Q E s:=by
 refine aWa ?_
 unfold Builtin.Dict.dictSlotArgs
 refine aWa (wpAny_notOrdered_dict t1 (aWa ?_))
 unfold slotArgs
 dsimp only
 rw [aWn (by decide),aWn (by simp)]
 refine aWe ?_
 dsimp only
 refine aWe ?_
 dsimp only
 refine aWa (bAf t2 F.sub_dict_dict ?_)
 rw [aWn (by decide)]
 refine aWa ?_
 unfold Builtin.Dict.addrOf
 dsimp only
 refine aWe ?_
 refine aWa (aWe ?_)
 refine aWa (hs ?_)
 exact aWe q
theorem eq_empty{prog:Program}{w:World}{A:Around}{E:Value->Shared->Prop}{s:Shared}{a b:Addr}{oa ob:Obj}{ea:Array DictEntry}{pa pb:Nat}{Q:Value->Shared->Prop}
  (ma:(a == sysModules)=false) (mb:(b == sysModules)=false) (ha:s.heap.get? a=some oa) (xa:oa.ExactDict) (da:oa.data=.dict ea pa) (hb:s.heap.get? b=some ob) (xb:ob.ExactDict) (db:ob.data=.dict #[] pb)
  (hu:A.units < cLine) (q:Q (.bool (ea.size == 0)) s):wpAny (model prog w) A (compareOp .Eq (.ref a) (.ref b)) Q E s:=by
 refine aD6 ha xa hb xb hu ?_
 rw [aEf]
 refine aCs ⟨oa,ha,xa.1⟩ ⟨ob,hb,xb.1⟩ (n:=ea.size) (fun q=>aCf ma mb ha da hb db q) ⟨_,rfl,(fun z=>nomatch z),?_⟩
 have:(((ea.size == 0) == true))=(ea.size == 0):=by cases (ea.size == 0)<;>rfl
 rw [this]
 exact q
section
variable {X:Cx}
def aU7:R2:=fun x y H Q=>∃ a b kv,x=.ref a/\y=.ref b/\H a=some (.dT kv)/\H b=some (.dT [])/\Q (.bl (kv.isEmpty)) H
theorem aKn(hu:X.A.units < cLine):OpR X (compareOp .Eq) aU7:=by
 intro pins s σ H x y v u Q I rx ry h
 obtain ⟨a,b,kv,rfl,rfl,ha,hb,q⟩:=h
 cases rx
 cases ry
 obtain ⟨_,ma,xs,r,oa,ea,pa,h1,h2,h3,h4,h5⟩:=(show ObjOk X.prog X.w H s.heap a (.dT kv) from I.hok a _ ha)
 obtain ⟨_,mb,ys,r2,ob,eb,pb,g1,g2,g3,g4,g5⟩:=(show ObjOk X.prog X.w H s.heap b (.dT []) from I.hok b _ hb)
 cases r2
 have eb0:eb=#[]:=by
  have:eb.toList=[]:=g4
  exact Array.toList_eq_nil_iff.mp this
 subst eb0
 refine eq_empty ma mb h1 h2 h3 g1 g2 g3 hu ⟨.bl kv.isEmpty,H,I,?_,q⟩
 have hl:ea.size=kv.length:=by
  have e1:ea.toList.length=xs.length:=by rw [h4,aWb]
  rw [aWr] at e1
  rw [e1]
  exact (Paired.length r).symm
 show Value.bool _=Value.bool _
 rw [hl]
 cases kv<;>rfl
end
end L2
namespace M
open PySem PySem.Spec PyProof.Rows L2
variable {K:aV9}
def aB0(x y:Ev):Res Ev:=match j8 x,y with
 | some kvs,.p (.dict [])=>if (dsp kvs).1=false then .ok (.p (.bool kvs.isEmpty)) else .bad
 | _,_=>.bad
theorem aEu:NoX aB0:=by
 intro x y A h
 unfold aB0 at h
 split at h
 ·split at h<;>cases h
 ·cases h
theorem aK4:OpM K aU7 aB0:=by
 intro W G H v u x y Q gh hx hy hw
 unfold aB0 at hw
 split at hw
 ·rename_i kvs e1 e2
  split at hw
  ·rename_i hd
   obtain ⟨a,rfl,hh⟩:=aAs gh hx e1
   rw [e2] at hy
   have hy:Rep K G u (.dict []):=hy
   rcases hh with ⟨kv,h1,h2⟩ | ⟨kv,r,rfl,h1,h2⟩
   ·cases hy with
    | @dT b kv2 _ g1 g2 =>
     cases g2
     refine ⟨a,b,kv,rfl,rfl,h1,gh _ _ g1,?_⟩
     have e:kv.isEmpty=kvs.isEmpty:=by cases h2<;>rfl
     rw [e]
     exact hw G H _ (Step.refl gh) (.bl _)
   ·cases hd
  ·exact hw.elim
 ·exact hw.elim
end M
namespace M
open PySem PySem.Spec PyProof.Rows L2
section
variable {X:Cx}{E:L2.St->XK}{e:Expr}
def u4(i:Nat)(fe:En->Res Ev):MS:=fun en=>match en[i]? with
 | some (some (.o (.list ds)))=>match fe en with
  | .ok (.f (.list es))=>if ds.length+es.length<=100000 then some (.nx (en.set i (some (.o (.list (ds++es)))))) else none
  | .exc C=>some (.ex C en)
  | _=>none
 | _=>none
theorem aDd{i:Nat}{fe:En->Res Ev}{st:Stmt}(he:DE X E e fe)(hp:∀ t,PE X e t->PS X st (aDx (tBM X.K "list" aF2 (aLc i) (aOq t aT5)))):DS X E st (u4 i fe):=by
 obtain ⟨t,q,mm⟩:=he.out
 refine DS.in ⟨_,hp t q,fun B G0 G W H σ en Dn hh hs hw=>?_⟩
 unfold u4 at hw
 split at hw
 ·rename_i ds ei
  obtain ⟨v,e1,a,o,rfl,e2,e3,e4⟩:=hs.2 i _ ei
  cases e4 with
  | @lst xs _ rp =>
  refine ⟨_,e1,.inl ⟨rfl,_,SqL.of e3⟩,mm B G0 G W H σ en _ hh hs ?_⟩
  cases ef:fe en with
  | bad=>rw [ef] at hw;exact hw
  | exc C=>rw [ef] at hw;exact fun G1 H1 s=>hw G1 W H1 σ (hh.step s) (hs.step s)
  | ok r =>
   rw [ef] at hw
   cases r with
   | p d=>exact hw.elim
   | b d=>exact hw.elim
   | x C=>exact hw.elim
   | f d =>
    cases d with
    | list es =>
     dsimp only at hw
     split at hw
     ·rename_i hl
      rintro G1 H1 y s ⟨b,ob,rfl,k1,k2,k3,k4⟩
      cases k4 with
      | @lst zs _ rz =>
      have hx:=s.h _ _ e3
      refine ⟨a,b,xs,zs,rfl,rfl,hx,k3,aXk (by rw [rp.length,rz.length];exact hl) (by decide),?_⟩
      obtain ⟨w1,w2⟩:=lL (o':=.lst (xs++zs)) (d':=.list (ds++es)) (hh.step s) (hs.step s) e2 e1 (.lst ((rp.mono s.g).append rz))
      exact hw _ _ _ _ w1 w2
     ·exact hw.elim
    | _=>exact hw.elim
 ·exact hw.elim
end
section
variable {X:Cx}{K:aV9}
def aU3(K:aV9)(ng:Bool):R2:=fun x y H Q=>∃ d ds,Rep K H x d/\Rep K H y (.list ds)/\SeqAt.shaped d=true/\SeqAt.shaped (.list ds)=true/\(∀ z∈ds,SeqAt.noMix z d=true)/\Q (.bl (if ng then !decide (countIn d ds≠0) else decide (countIn d ds≠0))) H
theorem aMn{K:aV9}(hu:X.A.units+65 < cLine):OpR X (compareOp .NotIn) (aU3 K true):=by
 intro pins s σ H x y v u Q I rx ry h
 obtain ⟨d,ds,h1,h2,o1,o2,hm,q⟩:=h
 obtain ⟨as,r1⟩:=h1.reads I.hok (aXf.mp o1).1 rx
 obtain ⟨bs,r2⟩:=h2.reads I.hok (aXf.mp o2).1 ry
 exact notIn_list_dataH r2 r1 o2 o1 hu hm ⟨.bl _,H,I,rfl,q⟩
open Classical in
noncomputable def aHj(ng:Bool)(x y:Ev):Res Ev:=match dat x,dat y with
 | some d,some (.list ds)=>if SeqAt.shaped d=true/\SeqAt.shaped (.list ds)=true/\∀ z∈ds,SeqAt.noMix z d=true then .ok (.p (.bool (if ng then !decide (countIn d ds≠0) else decide (countIn d ds≠0)))) else .bad
 | _,_=>.bad
theorem aOf{ng:Bool}:NoX (aHj ng):=by
 intro x y A h
 unfold aHj at h
 split at h
 ·split at h<;>cases h
 ·cases h
theorem aQ9{ng:Bool}:OpM K (aU3 K ng) (aHj ng):=by
 intro W G H v u x y Q gh hx hy hw
 unfold aHj at hw
 split at hw
 ·rename_i d ds e1 e2
  split at hw
  ·rename_i hs
   exact ⟨d,ds,hx.read gh e1,hy.read gh e2,hs.1,hs.2.1,hs.2.2,hw G H _ (Step.refl gh) (.bl _)⟩
  ·exact hw.elim
 ·exact hw.elim
end
theorem u65{k:Nat}{A:Around}(hr:Room k A):A.units+65 < cLine:=by have:=hr.un;omega
end M
namespace L2
open PySem PySem.Spec PyProof.Rows
theorem aEz:typeLookup (Value.type "list_reverseiterator") (Str.ofString "__len__")=pure none:=by rfl
theorem aJ5:typeLookup (Value.type "list_reverseiterator") (Str.ofString "__length_hint__")=pure (some (Value.builtin "list_reverseiterator.__length_hint__")):=by rfl
theorem aPd:isSubtype (Value.type "list_reverseiterator") (Value.type "list_reverseiterator")=pure true:=by rfl
theorem aC7{prog:Program}{w:World}{A:Around}(hh:A.handled=none){I l:Addr}(hne:l≠I)(items:Array Value) :
  WalksS prog w A I [I,l] [I] Eq items.size (fun i v=>items[items.size - 1 - i]? = some v) (fun i s=>s.heap.IsRevIter I l ((items.size:Int) - 1 - i)/\s.heap.IsList l items) where
 sub:=fun b hb=>by rw [aXd.mp hb];exact .head _
 grefl:=fun _=>rfl
 gtrans:=fun _ _ _ h1 h2=>h1.trans h2
 frame:=fun i s h' tk st _ k=>by
  obtain ⟨⟨o,h1,h2,h3⟩,⟨p,h4,h5⟩⟩:=st
  exact ⟨⟨o,k I (.head _) o h1,h2,h3⟩,⟨p,k l (.tail _ (.head _)) p h4,h5⟩⟩
 item:=fun i s Q E hi st k=>by
  obtain ⟨st1,st2⟩:=st
  have e:((items.size:Int) - 1 - i)=((items.size - 1 - i:Nat):Int):=by omega
  rw [e] at st1
  have hx:items.size - 1 - i < items.size:=by omega
  refine wpAny_pyNext_rev_item st1 st2 (x:=items[items.size - 1 - i]) (by simp [hx]) fun h' g1 g2=>?_
  refine k _ _ (by simp [hx]) ⟨?_,?_⟩ ⟨fun b o hb q=>?_,rfl,rfl,rfl,aWl _⟩
  ·have e2:((items.size - 1 - i:Nat):Int) - 1=(items.size:Int) - 1 - ((i+1:Nat):Int):=by omega
   rw [<- e2]
   exact g1
  ·obtain ⟨p,h4,h5⟩:=st2
   exact ⟨p,(g2.2 l hne).trans h4,h5⟩
  ·exact (g2.2 b (fun z=>hb (by rw [z];exact .head _))).trans q
 done:=fun s Q E st k=>by
  obtain ⟨st1,st2⟩:=st
  have e:((items.size:Int) - 1 - (items.size:Nat)) = -1:=by omega
  rw [e] at st1
  exact wpAny_pyNext_rev_end hh st1 fun h' g=>k _ ⟨fun b o hb q=>g b o (fun z=>hb (by rw [z];exact .head _)) q,rfl,rfl,rfl,aWl _⟩
 self:=fun i s Q E st h=>wpAny_pyIter_revIter st.1 h
theorem aJy{prog:Program}{w:World}{A:Around}{E:Value->Shared->Prop}{s:Shared}{I:Addr}{Q:Bool->Shared->Prop}(t:s.TypeIs (.ref I) "list_reverseiterator")(q:Q false s):wpAny (model prog w) A (Builtin.List.listLengthHint (.ref I)) Q E s:=by
 unfold Builtin.List.listLengthHint
 refine aWa (bAr t aEz ?_)
 refine aWa (bAr t aJ5 ?_)
 refine aWa (bAf t aPd ?_)
 exact aWe q
theorem aCp{prog:Program}{w:World}{A:Around}(hh:A.in1.handled=none){s:Shared}{R:Result->Shared->Prop}{I l:Addr}{items:Array Value}(hne:l≠I)(hI:s.heap.IsRevIter I l ((items.size:Int) - 1))(hl:s.heap.IsList l items)(S:Addr)(hS1:S≠I)(hS2:S≠l)(res:Value)(c₀:Nat)
  (hS:s.heap.get? S=some { cls:=Value.type "list",data:=Data.seq #[] c₀ }) (hz:items.size<=sizeLine)
  (k:∀ (s':Shared) (acc':Array Value) (c':Nat),Moved [S,I] Eq s s'->s'.heap.get? S=some { cls:=Value.type "list",data:=Data.seq acc' c' }->ItemsOf (fun i v=>items[items.size - 1 - i]? = some v) acc' items.size->R (.ok (.ret res)) s') :
  wpAny (model prog w) A.in1 (Builtin.List.listExtendWith (.ref S) (.ref I) res) (fun fin s'=>match fin with
   | Fin.done f=>R (.ok f) s'
   | Fin.again c'=>c'.quiet=true/\codeAny (model prog w) A c' R s') (fun e s'=>R (.error e) s') s:=by
 have t:s.TypeIs (.ref I) "list_reverseiterator":=by
  obtain ⟨o,h1,h2,_⟩:=hI
  exact ⟨o,h1,h2⟩
 unfold Builtin.List.listExtendWith
 refine aWa (wpAny_typeOf t ?_)
 have e:(Builtin.List.listSameRef (.ref S) (.ref I) || Value.type "list_reverseiterator" == Value.type "list" || Value.type "list_reverseiterator" == Value.type "tuple")=false:=by
  have:(S == I)=false:=bBv hS1
  show ((S == I) || _ || _)=false
  rw [this]
  decide
 rw [e,aWn (by decide)]
 refine aWa (wpAny_pyIter_revIter hI ?_)
 refine aWa (aYj (aJy t ?_))
 refine aWe ?_
 refine ⟨plainId_quiet F.plain_extend_loop _,?_⟩
 exact codeAny_extend_loopS (aC7 hh hne items) hz S (by simp [hS1,hS2]) res items.size 0 s #[] c₀ rfl (aXo _) ⟨by simpa using hI,hl⟩ hS ⟨rfl,fun j v h=>by simp at h⟩ k
theorem uM{prog:Program}{w:World}{A:Around}{E:Value->Shared->Prop}(hh:A.in1.in1.handled=none){s:Shared}{Q:Value->Shared->Prop}{I l:Addr}{items:Array Value}(hne:l≠I)(hI:s.heap.IsRevIter I l ((items.size:Int) - 1))(hl:s.heap.IsList l items)(hz:items.size<=sizeLine)
  (k:∀ (s':Shared) (acc':Array Value) (c':Nat),(∀ b o,b≠I->s.heap.get? b=some o->s'.heap.get? b=some o)->s'.gens=s.gens->s'.drawn=s.drawn->s'.os=s.os->s'.heap.get? s.heap.objs.size=some { cls:=Value.type "list",data:=Data.seq acc' c' }->ItemsOf (fun i v=>items[items.size - 1 - i]? = some v) acc' items.size->Q (.ref s.heap.objs.size) s') :
  wpAny (model prog w) A (call (.type "list") [.ref I]) Q E s:=by
 obtain ⟨oI,hI1,hI2,hI3⟩:=id hI
 obtain ⟨ol,hl1,hl2⟩:=id hl
 have lI:I < s.heap.objs.size:=aWi hI1
 have ll:l < s.heap.objs.size:=aWi hl1
 refine callType_codes F.called_list (F.typeCall_list_1 _) F.entry_list_init (code_list_new _ ?_) ?_ (Q₁:=fun obj s₁=>obj=.ref s.heap.objs.size/\s₁={ s with heap:=s.heap.push { cls:=Value.type "list",data:=Data.seq #[] } })
 ·exact ⟨rfl,rfl⟩
 ·rintro obj s₁ ⟨rfl,rfl⟩
  have hS:(s.heap.push { cls:=Value.type "list",data:=Data.seq #[] }).get? s.heap.objs.size=some { cls:=Value.type "list",data:=Data.seq #[] }:=aWw s.heap rfl
  refine ⟨⟨_,hS,rfl⟩,F.args_list_init_2 _ _,?_⟩
  have hI':(s.heap.push { cls:=Value.type "list",data:=Data.seq #[] }).get? I=some oI:=aWf _ hI1
  have hl':(s.heap.push { cls:=Value.type "list",data:=Data.seq #[] }).get? l=some ol:=aWf _ hl1
  have u1:((s.heap.push { cls:=Value.type "list",data:=Data.seq #[] }).update s.heap.objs.size (Obj.mapSeq fun _=>#[])).get? s.heap.objs.size=some { cls:=Value.type "list",data:=Data.seq #[] }:=(aYy _ hS rfl).trans rfl
  have u2:∀ b o,b≠s.heap.objs.size->(s.heap.push { cls:=Value.type "list",data:=Data.seq #[] }).get? b=some o->((s.heap.push { cls:=Value.type "list",data:=Data.seq #[] }).update s.heap.objs.size (Obj.mapSeq fun _=>#[])).get? b=some o:=fun b o hb q=>(bAz _ _ (bB2 hb)).trans q
  refine aWa ?_
  unfold Builtin.List.listItems
  refine aWa (wpAny_seqItems hS rfl (aWe ?_))
  refine aWa (wpAny_updateSeq hS rfl ?_ (by decide) (by decide))
  refine aWa (wpAny_letGo ?_)
  refine aCp (A:=A.in1) hh hne ⟨oI,u2 I oI (aW2 lI) hI',hI2,hI3⟩ ⟨ol,u2 l ol (aW2 ll) hl',hl2⟩ s.heap.objs.size (bCw lI) (bCw ll) .none 0 u1 hz fun s' acc' c' mv g it=>?_
  exact ⟨rfl,k s' acc' c' (fun b o hb q=>mv.heap b o (by
   have:b≠s.heap.objs.size:=aW2 (aWi q)
   simp [hb,this]) (u2 b o (aW2 (aWi q)) (aWf _ q))) mv.gens.symm mv.drawn mv.os g it⟩
section
variable {X:Cx}
theorem aM6:bootBuiltins "reversed" = some (.type "reversed"):=by decide +kernel
theorem aIo:bootBuiltins "list" = some (.type "list"):=by decide +kernel
def tLR(K:aV9)(te:TE):TE:=fun σ H Q=>te σ H fun x H1=>∃ a xs,x=.ref a/\SqL K H1 a xs/\∀ l,H1 l=none->Q (.ref l) (upd H1 l (.lst xs.reverse))
theorem aH0{xs:List V}{its:List Value}(r:Vals xs its){acc:Array Value}(h:ItemsOf (fun i v=>its.toArray[its.toArray.size - 1 - i]? = some v) acc its.toArray.size):acc.toList=its.reverse:=by
 obtain ⟨h1,h2⟩:=h
 have h1:acc.size=its.length:=h1.trans (aWk ..)
 apply aYv
 intro i
 rw [aWy]
 by_cases hi:i < its.length
 ·have hx:i < acc.size:=by omega
  have this:=h2 i acc[i] (by simp [hx])
  have this:its.toArray[its.toArray.size - 1 - i]? = some acc[i]:=this
  rw [aWj hx,List.getElem?_reverse hi]
  rw [aWk,bBa] at this
  exact this.symm
 ·rw [aXr (by omega),aW9 (by rw [aX3];omega)]
theorem oR:∀ {xs:List V} {us:List Value},Vals xs us->Vals xs.reverse us.reverse
 | _,_,.nil=>.nil
 | _,_,.cons r t=>by
  rw [aZp,aZp]
  exact (oR t).append (.cons r .nil)
theorem aCk{e:Expr}{te:TE}{p1 p2 pos1 pos2:Pos}(hc:X.calm=true)(hg1:Gl X "list")(hm1:X.mg "list" = none)(hg2:Gl X "reversed")(hm2:X.mg "reversed" = none)(he:PE X e te)
  (hs1:starEach [.Call (.Name "reversed" p2) [e] [] pos2] X.env=(false,eval (.Call (.Name "reversed" p2) [e] [] pos2) X.env) :: starEach [] X.env:=by rfl) (hs2:starEach [e] X.env=(false,eval e X.env) :: starEach [] X.env:=by rfl) :
  PE X (.Call (.Name "list" p1) [.Call (.Name "reversed" p2) [e] [] pos2] [] pos1) (tLR X.K te):=by
 intro pins s σ H Q I h
 refine aYz (lW I hg1 hm1 aIo (aXs ?_ hs1 rfl))
 rw [hs1]
 show wpAny _ _ (spliced ((false,eval _ X.env) :: backTo pos1 (starEach [] X.env))) _ _ s
 refine aZv (aYz (lW I hg2 hm2 aM6 (aXs ?_ hs2 rfl)))
 rw [hs2]
 show wpAny _ _ (spliced ((false,eval _ X.env) :: backTo pos2 (starEach [] X.env))) _ _ s
 refine aZv (thn (he pins s σ H _ I h) fun u s1 ⟨x,H1,I1,r1,a,xs,ex,hq,q⟩=>aZ7 ?_)
 subst ex
 cases (show u=Value.ref a from r1)
 obtain ⟨its,rv,pl,hz⟩:=I1.list hq
 refine call_reversed_list pl.isList (aZ7 ?_)
 have hlen:=rv.length
 have kp:∀ b o,s1.heap.get? b=some o->(s1.heap.push (revObj a ((its.toArray.size:Int) - 1))).get? b=some o:=fun b o q=>aWf _ q
 have I2:Inv X pins σ H1 { s1 with heap:=s1.heap.push (revObj a ((its.toArray.size:Int) - 1)) }:=I1.kept (t':=s1.toks) kp
 have hR:(s1.heap.push (revObj a ((its.toArray.size:Int) - 1))).get? s1.heap.objs.size=some (revObj a ((its.toArray.size:Int) - 1)):=aWw _ rfl
 have hp:=I1.fpOk (aWl _) (I1.hok.fresh (aWl s1.heap.objs.size))
 obtain ⟨o,n,ho,hoc,hod,hos⟩:=pl
 have lt:a < s1.heap.objs.size:=aWi ho
 refine uM (s:={ s1 with heap:=s1.heap.push (revObj a ((its.toArray.size:Int) - 1)) }) (I:=s1.heap.objs.size) (l:=a) (items:=its.toArray) (I.ok.hd hc) (aW2 lt) ⟨_,hR,rfl,rfl⟩ ⟨o,kp a o ho,hoc,n,hos⟩ (by rw [aWk];omega) fun s' acc c' k1 k2 k3 k4 k5 k6=>?_
 have ev:=aH0 rv k6
 have hsz:(s1.heap.push (revObj a ((its.toArray.size:Int) - 1))).objs.size=s1.heap.objs.size+1:=by simp [Heap.push]
 have hH:H1 (s1.heap.objs.size+1)=none:=I2.hok.fresh (a:=s1.heap.objs.size+1) (by show (s1.heap.push _).objs.size<=_;rw [hsz];exact aWl _)
 rw [show ({ s1 with heap:=s1.heap.push (revObj a ((its.toArray.size:Int) - 1)) }:Shared).heap.objs.size=s1.heap.objs.size+1 from hsz] at k5 ⊢
 obtain ⟨f0,f1,f2,f3,f4,f5⟩:=hp
 have keep:∀ b o,b∉[s1.heap.objs.size]->(s1.heap.push (revObj a ((its.toArray.size:Int) - 1))).get? b=some o->s'.heap.get? b=some o:=fun b o hb q=>k1 b o (fun z=>hb (by rw [z];exact .head _)) q
 have trk:∀ b o,H1 b=some o->b∉[s1.heap.objs.size]:=fun b o q hb=>by rw [aXd.mp hb,f0] at q;cases q
 have nn:∀ b o,H1 b=some o->b≠s1.heap.objs.size+1:=fun b o q z=>by rw [z,hH] at q;cases q
 refine ⟨.ref (s1.heap.objs.size+1),upd H1 (s1.heap.objs.size+1) (.lst xs.reverse),?_,rfl,q _ hH⟩
 have st:=Inv.step (X:=X) (pins:=pins) (σ:=σ) (H:=H1) (s:={ s1 with heap:=s1.heap.push (revObj a ((its.toArray.size:Int) - 1)) }) (H':=upd H1 (s1.heap.objs.size+1) (.lst xs.reverse)) (h':=s'.heap) (g':=s1.gens) (d':=s1.drawn) (t':=s'.toks) (ch:=[s1.heap.objs.size]) I2 (fun b hb=>by rw [aXd.mp hb];exact ⟨f3,f1,f4,f5⟩) (fun b o _ _ hb q _=>keep b o hb q) (fun b o _ _ hb q _=>⟨o.slots,keep b o hb q⟩)
  (fun b o _ q n=>by rw [bY (fun z=>by have:=aWi q;rw [z] at this;exact absurd (show s1.heap.objs.size+1 < s1.heap.objs.size+1 by rw [<- hsz];exact hsz▸this) (aXn _))];exact n) (fun b o hb q=>⟨o,keep b o hb q⟩)
  (fun b ys q=>by rw [bY (nn b _ q)];exact q) (fun b o v q=>by rw [bY (nn b _ q)];exact q) (fun b ps q=>⟨#[],by rw [bY (nn b _ q),q];simp⟩) (fun m hm=>by
   obtain ⟨o,es,ep,ho,r⟩:=hm
   exact ⟨o,es,ep,keep _ o (fun z=>f1 (aXd.mp z).symm) ho,r⟩) (fun b v q=>by
   by_cases hb:b=s1.heap.objs.size+1
   ·subst hb
    rw [cJ] at q
    cases q
    refine ⟨by rw [aX3];exact hz,its.reverse,c',oR rv,?_⟩
    rw [k5,<- ev]
   ·rw [bY hb] at q
    refine (I2.hok b v q).stay (fun c w' hc q'=>keep c w' ?_ q') (fun c q'=>?_) fun c ys q'=>?_
    ·rcases hc with z | z
     ·rw [z];exact trk b v q
     ·exact trk c _ z
    ·rw [bY (nn c _ q')];exact q'
    ·rw [bY (nn c _ q')];exact q') I1.bare
 have es:s'={ heap:=s'.heap,gens:=s1.gens,drawn:=s1.drawn,toks:=s'.toks,os:=s1.os }:=by
  cases s'
  cases k2
  cases k3
  cases k4
  rfl
 rw [es]
 exact st
end
end L2
namespace M
open PySem PySem.Spec PyProof.Rows L2
def aHn(x:Ev):Res Ev:=match eZ x with
 | some ds=>.ok (.f (.list ds.reverse))
 | none=>.bad
theorem tK{X:Cx}{E:L2.St->XK}{e:Expr}{fe:En->Res Ev}{p1 p2 pos1 pos2:Pos}(hc:X.calm=true)(hg1:Gl X "list")(hm1:X.mg "list" = none)(hg2:Gl X "reversed")(hm2:X.mg "reversed" = none)(he:DE X E e fe)
  (hs1:starEach [.Call (.Name "reversed" p2) [e] [] pos2] X.env=(false,eval (.Call (.Name "reversed" p2) [e] [] pos2) X.env) :: starEach [] X.env:=by rfl) (hs2:starEach [e] X.env=(false,eval e X.env) :: starEach [] X.env:=by rfl) :
  DE X E (.Call (.Name "list" p1) [.Call (.Name "reversed" p2) [e] [] pos2] [] pos1) (mUn aHn fe):=by
 obtain ⟨t,q,m⟩:=he.out
 refine DE.in ⟨_,aCk hc hg1 hm1 hg2 hm2 q hs1 hs2,fun B G0 G W H σ en Q hh hs hw=>m B G0 G W H σ en _ hh hs ?_⟩
 have hw:wpR ((fe en).bind _) _ _:=hw
 rw [cK] at hw
 refine bT hw (fun r hr G1 H1 v s e=>?_) fun C h=>h
 obtain ⟨G2,s2,e2⟩:=e.c s
 unfold aHn at hr
 cases el:eZ r.c with
 | none=>rw [el] at hr;exact hr.elim
 | some ds =>
  rw [el] at hr
  obtain ⟨a,xs,rfl,h1,h2⟩:=oM s2.gh e2 el
  refine ⟨a,xs,rfl,.inl h1,fun l hl=>?_⟩
  exact hr G2 _ _ (s2.trans (Step.lay s2.gh hl)) ⟨l,_,rfl,s2.h.free hl,s2.gh.free hl,cJ,.lst h2.rev⟩
end M
namespace L2
open PySem PySem.Spec PyProof.Rows
section
variable {X:Cx}
def xS(i:Int)(is:List Int):Int:=is.foldl (fun a b=>if a < b then b else a) i
def aQh(K:aV9):List V->Hp->VK->Prop:=fun xs H Q=>∃ a i is,xs=[.ref a]/\SqL K H a ((i :: is).map V.int)/\Q (.int (xS i is)) H
theorem sI:∀ {is:List Int} {us:List Value},Vals (is.map V.int) us->∃ ts:List (Int×Tok),us=ts.map (fun p=>Value.int p.1 p.2)/\ts.map (·.1)=is
 | [],_,.nil=>⟨[],rfl,rfl⟩
 | i :: is,_,.cons r t=>by
  obtain ⟨tk,e⟩:=r
  obtain ⟨ts,e1,e2⟩:=sI t
  refine ⟨(i,tk) :: ts,?_,?_⟩
  ·rw [e,e1];rfl
  ·rw [aWo,e2]
theorem oK(f:Nat->Int):∀ k,f (argBest (fun i j=>decide (f i > f j)) k)=xS (f 0) ((List.range k).map fun j=>f (j+1))
 | 0=>rfl
 | k+1=>by
  have ih:=oK f k
  unfold xS at ih ⊢
  rw [List.range_succ,aXb,List.foldl_append,<- ih]
  show f (if decide (f (k+1) > f (argBest (fun i j=>decide (f i > f j)) k))=true then k+1 else argBest (fun i j=>decide (f i > f j)) k)=if f (argBest (fun i j=>decide (f i > f j)) k) < f (k+1) then f (k+1) else f (argBest (fun i j=>decide (f i > f j)) k)
  by_cases h:f (argBest (fun i j=>decide (f i > f j)) k) < f (k+1)
  ·rw [aWm h,aWm (aXg h)]
  ·rw [aWn h,aWn (by simpa using h)]
theorem aGy(hc:X.calm=true){K:aV9}(hK:X.K=K):mF X (.builtin "max") (aQh K):=by
 subst hK
 intro pins s σ H xs us Q I r h
 obtain ⟨a,i,is,rfl,hq,q⟩:=h
 obtain ⟨u,rfl,ru⟩:=vals1 r
 cases ru
 obtain ⟨its,rv,p,hz⟩:=I.list hq
 obtain ⟨ts,e1,e2⟩:=sI rv
 have hn:ts.length=is.length+1:=by
  have:=aZu List.length e2
  rw [aWb,aWc] at this
  exact this
 have hl:s.heap.IsList a (intItems ts.toArray):=by
  have h:=p.isList
  rw [e1] at h
  simpa [intItems] using h
 have num:∀ j,numAt ts.toArray j=((i :: is)[j]?).getD 0:=fun j=>by
  rw [<- e2]
  simp [numAt]
 refine max_intList (A:=X.A) (I.ok.hd hc) hl (by simp;omega) fun v h' tk hP hk=>⟨.int (xS i is),H,I.kept hk,?_,q⟩
 obtain ⟨t,rfl⟩:=bCg hP
 refine ⟨t,?_⟩
 rw [oK (numAt ts.toArray)]
 have e0:numAt ts.toArray 0=i:=by rw [num];rfl
 have e3:((List.range (ts.toArray.size - 1)).map fun j=>numAt ts.toArray (j+1))=is:=by
  rw [aWk,hn,Nat.add_sub_cancel]
  apply bCq
  ·simp
  ·intro j h1 h2
   simp [num,h2]
 rw [e0,e3]
end
end L2
namespace M
open PySem PySem.Spec PyProof.Rows L2
variable {K:aV9}
def intsOf:List D->Option (List Int)
 | []=>some []
 | .int b :: ds=>match intsOf ds with
  | some bs=>some (b :: bs)
  | none=>none
 | _=>none
theorem sJ:∀ is:List Int,intsOf (is.map .int)=some is
 | []=>rfl
 | i :: is=>by
  show (match intsOf (is.map .int) with | some bs=>some (i :: bs) | none=>none)=_
  rw [sJ is]
theorem wQ{G:Hp}:∀ {ds:List D} {bs:List Int} {xs:List V},intsOf ds=some bs->Reps K G xs ds->xs=bs.map V.int
 | [],_,_,h,.nil=>by cases h;rfl
 | d :: ds,bs,_,h,.cons r t=>by
  cases d with
  | int b =>
   unfold intsOf at h
   cases e:intsOf ds with
   | none=>rw [e] at h;cases h
   | some bs' =>
    rw [e] at h
    cases h
    cases r
    rw [wQ e t]
    rfl
  | _=>cases h
def aLk(rs:List Ev):Res Ev:=match rs with
 | [x]=>match eZ x with
  | some ds=>match intsOf ds with
   | some (i :: is)=>.ok (.p (.int (xS i is)))
   | _=>.bad
  | none=>.bad
 | _=>.bad
theorem aOa:aCy aLk:=by
 intro rs C h
 unfold aLk at h
 split at h
 ·split at h
  ·split at h<;>cases h
  ·cases h
 ·cases h
theorem aOr:oV K (aQh K) aLk:=by
 intro W Hs G H vs rs Q gh he hw
 unfold aLk at hw
 split at hw
 ·rename_i x
  match vs,he with
  | [v],⟨h1,_⟩ =>
   split at hw
   ·rename_i ds ed
    obtain ⟨a,xs,rfl,k1,k2⟩:=oM gh h1 ed
    split at hw
    ·rename_i i is eb
     have:=wQ eb k2
     subst this
     exact ⟨a,i,is,rfl,.inl k1,hw G H _ (Step.refl gh) (.int _)⟩
    ·exact hw.elim
   ·exact hw.elim
 ·exact hw.elim
end M
namespace L2
open PySem PySem.Spec PyProof.Rows
def aSw(lo c:Int)(n:Nat):It:=⟨fun i _=>i < n,fun i H x H'=>H'=H/\x=.int (lo+i*c),fun i _=>n<=i⟩
theorem xT{P:Program}{w:World}{K:aV9}{tg:Expr}(it:Addr)(lo c:Int)(n:Nat):Turn P w K tg (aSw lo c n) [it] it (fun i h=>IsRangeIter h it (lo+(i:Nat)*c) ((n:Int) - (i:Nat)) c) where
 mem:=by simp
 obj:=fun i h st b hb=>by
  have e:b=it:=by simpa using hb
  subst e
  exact ⟨_,st,fun v z=>by
   have z':Data.fields _=Data.cell v:=z
   cases z'⟩
 keep:=fun i h h' st k=>k it (by simp) _ st
 item:=by
  intro X hP hw hK hc i pins s σ H E I hf st hg
  subst hP hw hK
  obtain ⟨f0,f1,f2,f3,f4,f5⟩:=hf it (by simp)
  have W:=Walks.range (prog:=X.prog) (w:=X.w) (I.ok.hd hc) it lo c n
  refine W.item i s _ _ hg st fun v h' tk hv st' kk=>?_
  obtain ⟨t,rfl⟩:=hv
  have I1:Inv X pins σ H { s with heap:=h',toks:=tk }:=I.turned (fun b o hb e=>kk b o (by simpa using hb) e) f0 f1 f3 f4 f5
  exact ⟨_,rfl,aNi (s:={ s with heap:=h',toks:=tk }) (n:="range_iterator") st' rfl rfl (by decide) ⟨.int (lo+i*c),H,I1,⟨t,rfl⟩,⟨rfl,rfl⟩,st',fun b hb=>(hf b hb).1⟩⟩
 done:=by
  intro X hP hw hK hc i pins s σ H E I hf st hg
  subst hP hw hK
  obtain ⟨f0,f1,f2,f3,f4,f5⟩:=hf it (by simp)
  exact wpAny_pyNext_range_end (I.ok.hd hc) st (by have:n<=i:=hg;omega) fun h' eb=>⟨rfl,I.turned (t':=s.toks) (fun b o hb e=>eb b o hb e) f0 f1 f3 f4 f5⟩
 self:=fun _ _ _ _ _ st h=>wpAny_pyIter_rangeiter st h
section
variable {X:Cx}{tg:Expr}
def rgN(lo hi c:Int):Nat:=if lo < hi then ((hi - lo - 1) / c+1).toNat else 0
theorem aPb{lo hi c:Int}(hc:0 < c):Builtin.Range.rangeSize lo hi c=(rgN lo hi c:Int):=by
 unfold Builtin.Range.rangeSize rgN
 rw [aWm hc]
 split
 ·have:0<=(hi - lo - 1) / c:=Int.ediv_nonneg (by omega) (by omega)
  omega
 ·rfl
theorem aJ0{lo hi c:Int}(h1:-(2 ^ 30)<=lo)(h2:lo < 2 ^ 30)(h3:-(2 ^ 30)<=hi)(h4:hi < 2 ^ 30)(h5:0 < c)(h6:c < 2 ^ 30):Builtin.Range.small lo hi c=true:=by
 have hs:0<=Builtin.Range.rangeSize lo hi c/\Builtin.Range.rangeSize lo hi c < 2 ^ 32:=by
  unfold Builtin.Range.rangeSize
  rw [aWm h5]
  split
  ·have a:0<=(hi - lo - 1) / c:=Int.ediv_nonneg (by omega) (by omega)
   have b:(hi - lo - 1) / c<=hi - lo - 1:=Int.ediv_le_self _ (by omega)
   omega
  ·omega
 unfold Builtin.Range.small
 simp only [Builtin.Range.rangeFitsLong,bCp,Bool.or_eq_true,decide_eq_true_eq,bBq,h5,bAi]
 omega
theorem aF3{pins:List (Addr×Obj)}{σ:St}{H:Hp}{s:Shared}{R:It->Hp->Prop}{E:Value->Shared->Prop}{lo hi c:Int}{t u v:Tok}{tk:Nat}(I:Inv X pins σ H s)(h1:-(2 ^ 30)<=lo)(h2:lo < 2 ^ 30)(h3:-(2 ^ 30)<=hi)(h4:hi < 2 ^ 30)(h5:0 < c)(h6:c < 2 ^ 30)
  (q:R (aSw lo c (rgN lo hi c)) H):wpAny (model X.prog X.w) X.A (pyIter (.ref s.heap.objs.size)) (PIE X pins σ tg R) E { s with heap:=s.heap.push { cls:=.type "range",data:=.fields #[.int lo t,.int hi u,.int c v] },toks:=tk }:=by
 refine wpAny_pyIter_range (IsRange.new ..) (aJ0 h1 h2 h3 h4 h5 h6) ?_
 have I1:Inv X pins σ H { s with heap:=s.heap.push { cls:=.type "range",data:=.fields #[.int lo t,.int hi u,.int c v] },toks:=tk }:=I.kept fun b o e=>aWf _ e
 refine ⟨(s.heap.push { cls:=.type "range",data:=.fields #[.int lo t,.int hi u,.int c v] }).objs.size,[(s.heap.push { cls:=.type "range",data:=.fields #[.int lo t,.int hi u,.int c v] }).objs.size],_,_,H,rfl,
  I1.kept (t':=tk) fun b o e=>aWf _ e,xT _ lo c (rgN lo hi c),?_,fun b hb=>?_,q⟩
 ·have e1:lo+((0:Nat):Int)*c=lo:=by simp
  have e2:((rgN lo hi c:Nat):Int) - ((0:Nat):Int)=Builtin.Range.rangeSize lo hi c:=by rw [aPb h5];omega
  show IsRangeIter _ _ (lo+((0:Nat):Int)*c) (((rgN lo hi c:Nat):Int) - ((0:Nat):Int)) c
  rw [e1,e2]
  exact aWw _ rfl
 ·have e:b=(s.heap.push { cls:=.type "range",data:=.fields #[.int lo t,.int hi u,.int c v] }).objs.size:=by simpa using hb
  subst e
  exact I1.fpOk (aWl _) (I1.hok.fresh (aWl _))
def aT1(ta:TA):TI:=fun σ H R=>ta σ H fun vs H1=>∃ i j c:Int,vs=[.int i,.int j,.int c]/\(-(2 ^ 30)<=i/\i < 2 ^ 30/\-(2 ^ 30)<=j/\j < 2 ^ 30/\0 < c/\c < 2 ^ 30)/\R (aSw i c (rgN i j c)) H1
theorem aC9{a b d:Expr}{ta:TA}{p pos:Pos}(hg:Gl X "range")(hm:X.mg "range" = none)(ha:PA X [a,b,d] ta)(hs:starEach [a,b,d] X.env=[(false,eval a X.env),(false,eval b X.env),(false,eval d X.env)]:=by rfl)(hs2:starEach [b,d] X.env=[(false,eval b X.env),(false,eval d X.env)]:=by rfl) :
  PI X tg (.Call (.Name "range" p) [a,b,d] [] pos) (aT1 ta):=by
 intro pins s σ H R I h
 refine Call_ (lW I hg hm boot_range (aXs (thn (ha pos pins s σ H _ I h) fun us s1 ⟨vs,H1,I1,r1,q1⟩=>?_) (by rw [hs,hs2]) (by rw [hs2];rfl)))
 obtain ⟨i,j,c,e,⟨q1,q2,q3,q4,q5,q6⟩,q⟩:=q1
 subst e
 cases r1 with
 | cons r rr =>
  cases rr with
  | cons r' rr =>
   cases rr with
   | cons r'' rr =>
    cases rr
    obtain ⟨t,rfl⟩:=r
    obtain ⟨t',rfl⟩:=r'
    obtain ⟨t'',rfl⟩:=r''
    exact call_range_3 (by omega) (aF3 I1 q1 q2 q3 q4 q5 q6 q) (Or.inl (PyProof.noPylong_small (by omega)))
end
end L2
namespace M
open PySem PySem.Spec PyProof.Rows L2
def sC(lo c:Int)(n:Nat):List D:=(List.range n).map fun i:Nat=>.int (lo+(i:Int)*c)
def vE(rs:List Ev):Res (List D):=match rs with
 | [.p (.int i),.p (.int j),.p (.int c)]=>if -(2 ^ 30)<=i/\i < 2 ^ 30/\-(2 ^ 30)<=j/\j < 2 ^ 30/\0 < c/\c < 2 ^ 30 then .ok (sC i c (rgN i j c)) else .bad
 | _=>.bad
theorem yL(K:aV9)(lo c:Int)(n:Nat)(G1:Hp):aB3 K (sC lo c n) G1 (aSw lo c n):=fun G H _ k2=>by
 refine ⟨fun i d ed=>?_,by show n<=_;unfold sC;rw [aWb,aXp];exact aWl _⟩
 unfold sC at ed
 rw [aWu] at ed
 by_cases hi:i < n
 ·rw [aZb hi] at ed
  cases ed
  refine ⟨hi,fun v H' hy=>?_⟩
  obtain ⟨rfl,rfl⟩:=hy
  exact ⟨G,Step.refl k2,.int _⟩
 ·rw [aW9 (by rw [aXp];omega)] at ed
  cases ed
section
variable {X:Cx}{E:L2.St->XK}{pos:Pos}
theorem wK{tg a b d:Expr}{fr:En->Res (List Ev)}{p:Pos}(hg:Gl X "range")(hm:X.mg "range" = none)(ha:DA X E [a,b,d] fr)(hs:starEach [a,b,d] X.env=[(false,eval a X.env),(false,eval b X.env),(false,eval d X.env)]:=by rfl)(hs2:starEach [b,d] X.env=[(false,eval b X.env),(false,eval d X.env)]:=by rfl) :
  DI X E tg (.Call (.Name "range" p) [a,b,d] [] pos) (tF vE fr):=by
 obtain ⟨t,q,m⟩:=ha.out
 refine DI.in ⟨_,aC9 hg hm q hs hs2,fun B G0 G W H σ en R hh hs hw=>m B G0 G W H σ en _ hh hs ?_⟩
 have hw:wpR ((fr en).bind _) _ _:=hw
 rw [cK] at hw
 refine bT hw (fun rs hr G1 H1 vs s e=>?_) fun C h=>h
 unfold vE at hr
 split at hr
 ·rename_i i j c
  split at hr
  ·rename_i hj
   match vs,e with
   | [v,u,z],⟨e1,e2,e3,_⟩ =>
    cases e1
    cases e2
    cases e3
    exact ⟨i,j,c,rfl,hj,hr G1 H1 _ s (yL _ _ _ _ _)⟩
  ·exact False.elim hr
 ·exact False.elim hr
end
end M
namespace L2
open PySem PySem.Spec PyProof.Rows M
section
variable {X:Cx}
end
end L2
namespace M
open PySem PySem.Spec PyProof.Rows L2
variable {K:aV9}
end M
namespace L2
open PySem PySem.Spec PyProof.Rows
end L2
namespace M
open PySem PySem.Spec PyProof.Rows L2
section
variable {X:Cx}{E:L2.St->XK}
end
variable {K:aV9}
end M
namespace L2
open PySem PySem.Spec PyProof.Rows M
section
variable {X:Cx}
end
end L2
namespace M
open PySem PySem.Spec PyProof.Rows L2
variable {K:aV9}
end M
namespace L2
open PySem PySem.Spec PyProof.Rows
end L2
namespace M
open PySem PySem.Spec PyProof.Rows L2
variable {K:aV9}
end M
namespace L2
open PySem PySem.Spec PyProof.Rows M SRT
section
variable {prog:Program}{w:World}{A:Around}{E:Value->Shared->Prop}{s:Shared}
end
section
variable {X:Cx}
end
end L2
namespace M
open PySem PySem.Spec PyProof.Rows L2 SRT
variable {K:aV9}
end M
namespace L2
open PySem PySem.Spec PyProof.Rows
section
variable {X:Cx}{CX:CXT}{k:Nat}{f:Addr}{fd:FuncData}{ps:List Str}{sp:Sp}{E:St->XK}{x:Str}{p pos:Pos}
end
end L2
namespace M
open PySem PySem.Spec PyProof.Rows L2
section
variable {X:Cx}{E:L2.St->XK}{k j:Nat}{x:Str}{p pos:Pos}{n:Nat}{m:List L->Res L}
end
end M
namespace L2
open PySem PySem.Spec PyProof.Rows
section
variable {X:Cx}{pos:Pos}
end
end L2
namespace M
open PySem PySem.Spec PyProof.Rows L2
section
variable {X:Cx}{E:L2.St->XK}{pos:Pos}
end
end M
namespace L2
open PySem PySem.Spec PyProof.Rows
section
variable {X:Cx}
end
end L2
namespace M
open PySem PySem.Spec PyProof.Rows L2
section
variable {K:aV9}
end
end M
namespace L2
open PySem PySem.Spec PyProof.Rows
section
variable {X:Cx}
end
end L2
namespace M
open PySem PySem.Spec PyProof.Rows L2
end M
namespace L2
open PySem PySem.Spec PyProof.Rows
section
variable {prog:Program}{w:World}{A:Around}{E:Value->Shared->Prop}{s:Shared}
end
section
variable {X:Cx}
end
end L2
namespace M
open PySem PySem.Spec PyProof.Rows L2
section
variable {K:aV9}
end
end M
namespace L2
open PySem PySem.Spec PyProof.Rows
section
variable {X:Cx}
end
end L2
namespace M
open PySem PySem.Spec PyProof.Rows L2
variable {K:aV9}
end M
namespace L2
open PySem PySem.Spec PyProof.Rows
section
variable {X:Cx}
end
end L2
namespace M
open PySem PySem.Spec PyProof.Rows L2
section
variable {X:Cx}{E:L2.St->XK}{sts rest A:List Stmt}{st:Stmt}{fA g:MS}{fe:En->Res Ev}{fc:En->Res Bool}{e c:Expr}{pos pos2:Pos}
end
end M
namespace HS
open PySem
theorem aKs{α:Type}[DecidableEq α]:∀ {l m:List α},l.Nodup->(∀ x∈l,x∈m)->l.length<=m.length
 | [],m,_,_=>aXo _
 | x :: l,m,h,s=>by
  obtain ⟨h1,h2⟩:=aYd.mp h
  have hx:=s x (.head _)
  have q:=aKs (m:=m.erase x) h2 fun y hy=>(bBl (show y≠x from fun z=>h1 (by rw [<- z];exact hy))).mpr (s y (.tail _ hy))
  rw [bCa hx] at q
  have:=List.length_pos_of_mem hx
  rw [aWc]
  omega
def adv(mask:Nat)(p:SetTable.Probe):SetTable.Probe:=if p.more > 0 then { p with j:=p.j+1,more:=p.more - 1 } else
 { p with j:=(SetTable.leap mask p.i p.perturb).1,more:=SetTable.runEnd mask (SetTable.leap mask p.i p.perturb).1 - (SetTable.leap mask p.i p.perturb).1,i:=(SetTable.leap mask p.i p.perturb).1,perturb:=(SetTable.leap mask p.i p.perturb).2 }
def aFz(mask i p:Nat):SetTable.Probe:={ j:=i,more:=SetTable.runEnd mask i - i,i,perturb:=p,dummy:=none }
def pst(mask:Nat)(h:Int):SetTable.Probe:=aFz mask (SetTable.bits h % (mask+1)) (SetTable.bits h)
def rP(mask:Nat):Nat->SetTable.Probe->SetTable.Probe
 | 0,p=>p
 | k+1,p=>adv mask (rP mask k p)
def pth(mask:Nat)(h:Int)(k:Nat):Nat:=(rP mask k (pst mask h)).j
theorem aUd(mask:Nat)(p:SetTable.Probe):(adv mask p).dummy=p.dummy:=by
 unfold adv
 split<;>rfl
theorem aK3(mask:Nat)(p:SetTable.Probe):∀ k,(rP mask k p).dummy=p.dummy
 | 0=>rfl
 | k+1=>(aUd mask _).trans (aK3 mask p k)
theorem pI(mask:Nat)(p:SetTable.Probe)(a:Nat):∀ b,rP mask (a+b) p=rP mask b (rP mask a p)
 | 0=>rfl
 | b+1=>aZu (adv mask) (pI mask p a b)
theorem aD9(mask i p:Nat):∀ r,r<=SetTable.runEnd mask i - i->rP mask r (aFz mask i p)={ j:=i+r,more:=SetTable.runEnd mask i - i - r,i,perturb:=p,dummy:=none }
 | 0,_=>rfl
 | r+1,h=>by
  show adv mask (rP mask r (aFz mask i p))=_
  rw [aD9 mask i p r (by omega)]
  unfold adv
  rw [aWm (show SetTable.runEnd mask i - i - r > 0 by omega)]
  congr 1
theorem aLd(mask i p:Nat):rP mask (SetTable.runEnd mask i - i+1) (aFz mask i p)=aFz mask (SetTable.leap mask i p).1 (SetTable.leap mask i p).2:=by
 show adv mask (rP mask (SetTable.runEnd mask i - i) (aFz mask i p))=_
 rw [aD9 mask i p _ (aWl _)]
 unfold adv
 rw [aWn (by simp)]
 rfl
theorem aU8(mask i:Nat):SetTable.runEnd mask i - i<=9:=by unfold SetTable.runEnd;split<;>omega
def lpN(mask:Nat)(i p:Nat):Nat->Nat×Nat
 | 0=>(i,p)
 | m+1=>lpN mask (SetTable.leap mask i p).1 (SetTable.leap mask i p).2 m
theorem aF5(mask:Nat):∀ (a b i p:Nat),lpN mask i p (a+b)=lpN mask (lpN mask i p a).1 (lpN mask i p a).2 b
 | 0,b,i,p=>by rw [aYg];rfl
 | a+1,b,i,p=>by
  rw [Nat.succ_add]
  show lpN mask _ _ (a+b)=_
  rw [aF5 mask a b]
  rfl
theorem aRc(mask:Nat):∀ (m i p:Nat),(lpN mask i p m).2=p / 32 ^ m
 | 0,i,p=>by simp [lpN]
 | m+1,i,p=>by
  show (lpN mask _ (p / 32) m).2=_
  rw [aRc mask m,Nat.div_div_eq_div_mul,Nat.pow_succ,Nat.mul_comm]
theorem aR8(mask:Nat):∀ (m i p:Nat),i<=mask->(lpN mask i p m).1<=mask
 | 0,i,p,h=>h
 | m+1,i,p,_=>by
  show (lpN mask ((i*5+1+p / 32) % (mask+1)) (p / 32) m).1<=mask
  exact aR8 mask m _ _ (aZ8 (bC2 _ (bA9 _)))
theorem aBt(mask:Nat):∀ (m i p:Nat),∃ k,k<=10*m/\rP mask k (aFz mask i p)=aFz mask (lpN mask i p m).1 (lpN mask i p m).2
 | 0,i,p=>⟨0,aWl _,rfl⟩
 | m+1,i,p=>by
  have r9:=aU8 mask i
  obtain ⟨k,h1,h2⟩:=aBt mask m (SetTable.leap mask i p).1 (SetTable.leap mask i p).2
  refine ⟨(SetTable.runEnd mask i - i)+1+k,by omega,?_⟩
  rw [pI,aLd]
  exact h2
def orb(mask:Nat):Nat->Nat->List Nat
 | 0,_=>[]
 | n+1,i=>i :: orb mask n ((i*5+1) % (mask+1))
theorem aK0(mask:Nat):∀ (n i q:Nat),q∈orb mask n i->∃ m,m < n/\(lpN mask i 0 m).1=q
 | n+1,i,q,h=>by
  rcases aWh.mp h with z | z
  ·exact ⟨0,bA9 _,z.symm⟩
  ·obtain ⟨m,hm,e⟩:=aK0 mask n _ q z
   exact ⟨m+1,Nat.succ_lt_succ hm,e⟩
def MOk(mask:Nat):Prop:=mask=7\/mask=31\/mask=127
def aKt(l:List Nat):Nat:=l.foldl (fun a q=>a ||| (1 <<< q)) 0
theorem aA1:∀ (l:List Nat) (a q:Nat),(l.foldl (fun a q=>a ||| (1 <<< q)) a).testBit q=true->a.testBit q=true\/q∈l
 | [],a,q,h=>.inl h
 | x :: l,a,q,h=>by
  rcases aA1 l _ q h with z | z
  ·rw [Nat.testBit_or,Bool.or_eq_true] at z
   rcases z with z | z
   ·exact .inl z
   ·rw [Nat.one_shiftLeft,Nat.testBit_two_pow] at z
    exact .inr (by rw [<- aZo z];exact .head _)
  ·exact .inr (.tail _ z)
theorem aNu{mask:Nat}(hm:MOk mask){i q:Nat}(hi:i<=mask)(hq:q<=mask):q∈orb mask (mask+1) i:=by
 have key:∀ mask,MOk mask->(List.range (mask+1)).all (fun i=>Nat.beq (aKt (orb mask (mask+1) i)) (2 ^ (mask+1) - 1))=true:=by
  rintro _ (rfl | rfl | rfl)<;>decide +kernel
 have a:=aZs.mp (key mask hm) i (aXw.mpr (Nat.lt_succ_of_le hi))
 have a:=Nat.eq_of_beq_eq_true a
 have t:(aKt (orb mask (mask+1) i)).testBit q=true:=by
  rw [a,Nat.testBit_two_pow_sub_one]
  exact aXg (Nat.lt_succ_of_le hq)
 rcases aA1 _ 0 q t with z | z
 ·rw [Nat.zero_testBit] at z
  cases z
 ·exact z
theorem aGe(h:Int):SetTable.bits h < 2 ^ 64:=by
 unfold SetTable.bits
 omega
theorem aAn{mask:Nat}(hm:MOk mask){i p q:Nat}(hi:i<=mask)(hp:p < 2 ^ 64)(hq:q<=mask):∃ m,m<=13+mask/\(lpN mask i p m).1=q:=by
 have e2:(lpN mask i p 13).2=0:=by
  rw [aRc]
  exact Nat.div_eq_of_lt (aW7 hp (by decide))
 obtain ⟨m,h1,h2⟩:=aK0 mask _ _ _ (aNu hm (aR8 mask 13 i p hi) hq)
 refine ⟨13+m,by omega,?_⟩
 rw [aF5,e2]
 exact h2
theorem aGz{mask:Nat}(hm:MOk mask)(h:Int){q:Nat}(hq:q<=mask):∃ k,k<=10*(13+mask)/\pth mask h k=q:=by
 obtain ⟨m,m1,m2⟩:=aAn hm (aZ8 (bC2 (SetTable.bits h) (bA9 mask))) (aGe h) hq
 obtain ⟨k,k1,k2⟩:=aBt mask m (SetTable.bits h % (mask+1)) (SetTable.bits h)
 refine ⟨k,by omega,?_⟩
 show (rP mask k (aFz mask _ _)).j=q
 rw [k2]
 exact m2
theorem miss{mask:Nat}{l:List Nat}(h:l.length<=mask):∃ q,q<=mask/\q∉l:=by
 by_cases z:∀ q∈List.range (mask+1),q∈l
 ·have:=aKs List.nodup_range z
  rw [aXp] at this
  omega
 ·obtain ⟨q,hq⟩:=Classical.not_forall.mp z
  obtain ⟨h1,h2⟩:=Classical.not_imp.mp hq
  exact ⟨q,aZ8 (aXw.mp h1),h2⟩
def Ris(xs:Array Nat):Prop:=∀ (i j a b:Nat),i < j->xs[i]? = some a->xs[j]? = some b->a < b
theorem uI(xs:Array Nat)(j:Nat)(hr:Ris xs):∀ (fuel lo hi:Nat),hi - lo<=fuel->lo<=hi->hi<=xs.size->(∀ i a,i < lo->xs[i]? = some a->a < j)->(∀ i a,hi<=i->xs[i]? = some a->j<=a) ->
  SetTable.below.go xs j fuel lo hi<=xs.size/\(∀ i a,i < SetTable.below.go xs j fuel lo hi->xs[i]? = some a->a < j)/\(∀ i a,SetTable.below.go xs j fuel lo hi<=i->xs[i]? = some a->j<=a)
 | 0,lo,hi,hf,h1,h2,h3,h4=>by
  have:lo=hi:=by omega
  subst this
  exact ⟨h2,h3,h4⟩
 | fuel+1,lo,hi,hf,h1,h2,h3,h4=>by
  unfold SetTable.below.go
  by_cases z:lo < hi
  ·rw [aWm z]
   dsimp only
   have m1:lo<=(lo+hi) / 2:=by omega
   have m2:(lo+hi) / 2 < hi:=by omega
   have m3:(lo+hi) / 2 < xs.size:=by omega
   have g:xs.getD ((lo+hi) / 2) j=xs[(lo+hi) / 2]:=by simp [Array.getD,m3]
   rw [g]
   have gm:xs[(lo+hi) / 2]? = some xs[(lo+hi) / 2]:=aWj m3
   by_cases y:xs[(lo+hi) / 2] < j
   ·rw [aWm y]
    refine uI xs j hr fuel _ _ (by omega) (by omega) h2 (fun i a hi' e=>?_) h4
    rcases aYh i ((lo+hi) / 2) with w | w
    ·exact bCy (hr _ _ _ _ w e gm) y
    ·have:i=(lo+hi) / 2:=by omega
     subst this
     rw [gm] at e
     cases e
     exact y
   ·rw [aWn y]
    refine uI xs j hr fuel _ _ (by omega) (by omega) (by omega) h3 (fun i a hi' e=>?_)
    rcases aYh ((lo+hi) / 2) i with w | w
    ·have:=hr _ _ _ _ w gm e
     omega
    ·have:i=(lo+hi) / 2:=by omega
     subst this
     rw [gm] at e
     cases e
     omega
  ·rw [aWn z]
   have:lo=hi:=by omega
   subst this
   exact ⟨h2,h3,h4⟩
theorem nF{xs:Array Nat}(hr:Ris xs)(j:Nat):SetTable.below xs j<=xs.size/\(∀ i a,i < SetTable.below xs j->xs[i]? = some a->a < j)/\(∀ i a,SetTable.below xs j<=i->xs[i]? = some a->j<=a):=by
 unfold SetTable.below
 refine uI xs j hr _ _ _ (aWl _) (aXo _) (aWl _) (fun i a h=>absurd h (bAu _)) (fun i a h e=>?_)
 rw [aXr h] at e
 cases e
theorem aG9{t:SetTable}(hr:Ris t.place){j:Nat}(h:j∈t.place.toList):∃ i,t.slot j=.live i/\t.place[i]? = some j:=by
 obtain ⟨i,hi⟩:=aZj.mp h
 rw [aWy] at hi
 obtain ⟨b1,b2,b3⟩:=nF hr j
 have e:SetTable.below t.place j=i:=by
  rcases aZq (SetTable.below t.place j) i with z | z | z
  ·have hb:SetTable.below t.place j < t.place.size:=bCy z (aX9.mp hi).1
   have a:=b3 _ _ (aWl _) (aWj hb)
   have b:=hr _ _ _ _ z (aWj hb) hi
   omega
  ·exact z
  ·have:=b2 i j z hi
   omega
 refine ⟨i,?_,hi⟩
 unfold SetTable.slot
 dsimp only
 rw [e,aWm (by rw [hi];exact beq_self_eq_true _)]
theorem aHt{t:SetTable}(hd:t.dummies=#[]){j:Nat}(h:j∉t.place.toList):t.slot j=.empty:=by
 unfold SetTable.slot SetTable.has
 rw [hd]
 dsimp only
 have:(t.place[SetTable.below t.place j]? == some j)=false:=by
  rw [bAh]
  exact fun z=>h (aXz.mpr (aZ1 z))
 rw [this]
 simp
theorem jV{α:Type}(xs:Array α)(p:Nat)(x:α):(SetTable.insertAt xs p x).toList=xs.toList.take p++x :: xs.toList.drop p:=by
 unfold SetTable.insertAt
 simp
 exact List.take_of_length_le (by simp)
theorem aBv{xs:Array Nat}(h:xs.toList.Pairwise (· < ·)):Ris xs:=fun i j a b hij hi hj=>by
 rw [<- aWy] at hi hj
 obtain ⟨h1,e1⟩:=aXa.mp hi
 obtain ⟨h2,e2⟩:=aXa.mp hj
 rw [<- e1,<- e2]
 exact bAd.mp h i j h1 h2 hij
theorem aJ4{xs:Array Nat}(h:Ris xs):xs.toList.Pairwise (· < ·):=bAd.mpr fun i j h1 h2 hij=>h i j _ _ hij (by rw [<- aWy];exact aWd h1) (by rw [<- aWy];exact aWd h2)
theorem aOn{xs:Array Nat}(hr:Ris xs){j:Nat}(h:j∉xs.toList):Ris (SetTable.insertAt xs (SetTable.below xs j) j):=by
 obtain ⟨b1,b2,b3⟩:=nF hr j
 have l:=aJ4 hr
 refine aBv ?_
 rw [jV]
 have lo:∀ a∈xs.toList.take (SetTable.below xs j),a < j:=fun a ha=>by
  obtain ⟨i,hi⟩:=aZj.mp ha
  rw [bAv] at hi
  split at hi
  ·rename_i z
   rw [aWy] at hi
   exact b2 i a z hi
  ·cases hi
 have hi:∀ a∈xs.toList.drop (SetTable.below xs j),j < a:=fun a ha=>by
  obtain ⟨i,hi⟩:=aZj.mp ha
  rw [aZx,aWy] at hi
  have:=b3 _ a (aYs _ _) hi
  have ne:a≠j:=fun z=>h (z▸bBm ha)
  omega
 rw [List.pairwise_append]
 refine ⟨aZ2 (List.take_sublist _ _) l,aYa.mpr ⟨hi,aZ2 (List.drop_sublist _ _) l⟩,fun a ha b hb=>?_⟩
 rcases aWh.mp hb with z | z
 ·rw [z];exact lo a ha
 ·exact bCy (lo a ha) (hi b z)
theorem aPm{t:SetTable}(hd:t.dummies=#[])(hr:Ris t.place){f:Nat->Int}{h:Int}:∀ (n fuel k:Nat),n < fuel->(pth t.mask h (k+n)∉t.place.toList\/∃ i,t.place[i]? = some (pth t.mask h (k+n))/\f i=h) ->
  (∃ k',k<=k'/\k'<=k+n/\pth t.mask h k'∉t.place.toList/\(∀ q,k<=q->q < k'->∃ i,t.place[i]? = some (pth t.mask h q)/\f i≠h)/\SetTable.probe.go t f h fuel (rP t.mask k (pst t.mask h))=some (.empty (pth t.mask h k') none)) \/
  (∃ k' i,k<=k'/\k'<=k+n/\t.place[i]? = some (pth t.mask h k')/\f i=h/\(∀ q,k<=q->q < k'->∃ i,t.place[i]? = some (pth t.mask h q)/\f i≠h)/\SetTable.probe.go t f h fuel (rP t.mask k (pst t.mask h))=some (.candidate (pth t.mask h k') i (rP t.mask (k'+1) (pst t.mask h))))
 | n,fuel+1,k,hn,he=>by
  unfold SetTable.probe.go
  by_cases z:pth t.mask h k∈t.place.toList
  ·obtain ⟨i,s1,s2⟩:=aG9 hr z
   have s1:t.slot (rP t.mask k (pst t.mask h)).j=.live i:=s1
   rw [s1]
   dsimp only
   by_cases y:f i=h
   ·rw [aWm (by rw [bBq];exact y)]
    exact .inr ⟨k,i,aWl _,aYs _ _,s2,y,fun q h1 h2=>by omega,rfl⟩
   ·rw [aWn (by rw [bBq];exact y)]
    cases n with
    | zero =>
     rcases he with e | ⟨i',e1,e2⟩
     ·exact absurd z e
     ·have:i=i':=by
       rcases aZq i i' with w | w | w
       ·exact absurd (hr _ _ _ _ w s2 e1) (aXn _)
       ·exact w
       ·exact absurd (hr _ _ _ _ w e1 s2) (aXn _)
      rw [this] at y
      exact absurd e2 y
    | succ n =>
     have ad:t.advance (rP t.mask k (pst t.mask h))=rP t.mask (k+1) (pst t.mask h):=rfl
     rw [ad]
     have ek:k+1+n=k+(n+1):=by omega
     rcases aPm hd hr n fuel (k+1) (by omega) (by rw [ek];exact he) with ⟨k',a1,a2,a3,a4,a5⟩ | ⟨k',i',a1,a2,a3,a4,a5,a6⟩
     ·refine .inl ⟨k',by omega,by omega,a3,fun q h1 h2=>?_,a5⟩
      rcases aYh k q with w | w
      ·exact a4 q w h2
      ·have:q=k:=by omega
       rw [this];exact ⟨i,s2,y⟩
     ·refine .inr ⟨k',i',by omega,by omega,a3,a4,fun q h1 h2=>?_,a6⟩
      rcases aYh k q with w | w
      ·exact a5 q w h2
      ·have:q=k:=by omega
       rw [this];exact ⟨i,s2,y⟩
  ·have s1:t.slot (rP t.mask k (pst t.mask h)).j=.empty:=aHt hd z
   rw [s1]
   dsimp only
   rw [aK3]
   exact .inl ⟨k,aWl _,aYs _ _,z,fun q h1 h2=>by omega,rfl⟩
structure Tab(t:SetTable)(hs:List Int):Prop where
 d:t.dummies=#[]
 m:MOk t.mask
 r:Ris t.place
 s:t.place.size=hs.length
 z:hs.length<=t.mask
 p:∀ (i:Nat) h j,hs[i]? = some h->t.place[i]? = some j->∃ k,k<=10*(13+t.mask)/\pth t.mask h k=j/\∀ q,q < k->pth t.mask h q∈t.place.toList
theorem rM(t:SetTable)(j:Nat):(t.put j).1.place=SetTable.insertAt t.place (SetTable.below t.place j) j/\(t.put j).2=SetTable.below t.place j:=⟨rfl,rfl⟩
theorem aN7{t:SetTable}(hd:t.dummies=#[])(j:Nat):(t.put j).1.dummies=#[]:=by
 unfold SetTable.put
 rw [hd]
 rfl
theorem Tab.put{t:SetTable}{hs:List Int}(T:Tab t hs){h:Int}{k:Nat}(hk:k<=10*(13+t.mask))(hn:pth t.mask h k∉t.place.toList)(hp:∀ q,q < k->pth t.mask h q∈t.place.toList)(hz:hs.length+1<=t.mask) :
  Tab (t.put (pth t.mask h k)).1 (hs.take (t.put (pth t.mask h k)).2++h :: hs.drop (t.put (pth t.mask h k)).2):=by
 obtain ⟨b1,_,_⟩:=nF T.r (pth t.mask h k)
 have pl:=(rM t (pth t.mask h k)).1
 have pe:=(rM t (pth t.mask h k)).2
 have sub:∀ x∈t.place.toList,x∈(t.put (pth t.mask h k)).1.place.toList:=fun x hx=>by
  rw [pl,jV]
  rw [<- bBb (SetTable.below t.place (pth t.mask h k)) t.place.toList] at hx
  rcases aXx.mp hx with z | z
  ·exact bAc _ z
  ·exact aW1 _ (.tail _ z)
 have lt:(hs.take (t.put (pth t.mask h k)).2).length=SetTable.below t.place (pth t.mask h k):=by
  rw [pe,aYp]
  have:=T.s
  omega
 have lp:(t.place.toList.take (SetTable.below t.place (pth t.mask h k))).length=SetTable.below t.place (pth t.mask h k):=by
  rw [aYp,aWr]
  omega
 refine ⟨aN7 T.d _,T.m,by rw [pl];exact aOn T.r hn,?_,?_,fun i h' j e1 e2=>?_⟩
 ·rw [<- aWr,pl,jV,aWq,aWq,aWc,aWc,lp,lt,aZg,aZg,aWr,pe,T.s]
 ·rw [aWq,aWc,lt,aZg,pe]
  have:=T.s
  show _<=t.mask
  omega
 ·have up:∀ {h' j},(∃ k,k<=10*(13+t.mask)/\pth t.mask h' k=j/\∀ q,q < k->pth t.mask h' q∈t.place.toList)->∃ k',k'<=10*(13+t.mask)/\pth t.mask h' k'=j/\∀ q,q < k'->pth t.mask h' q∈(t.put (pth t.mask h k)).1.place.toList:=fun ⟨k',a,b,c⟩=>⟨k',a,b,fun q hq=>sub _ (c q hq)⟩
  rw [<- aWy,pl,jV] at e2
  rcases aZq i (SetTable.below t.place (pth t.mask h k)) with z | z | z
  ·rw [aXl (by rw [lt];exact z),bAv] at e1
   rw [aXl (by rw [lp];exact z),bAv] at e2
   rw [pe,aWm z] at e1
   rw [aWm z,aWy] at e2
   exact up (T.p i h' j e1 e2)
  ·rw [aW6 (by rw [lt];omega),lt,z,Nat.sub_self] at e1
   rw [aW6 (by rw [lp];omega),lp,z,Nat.sub_self] at e2
   cases e1
   cases e2
   exact ⟨k,hk,rfl,fun q hq=>sub _ (hp q hq)⟩
  ·rw [aW6 (by rw [lt];omega),lt] at e1
   rw [aW6 (by rw [lp];omega),lp] at e2
   obtain ⟨d,hd⟩:∃ d,i - SetTable.below t.place (pth t.mask h k)=d+1:=⟨i - SetTable.below t.place (pth t.mask h k) - 1,by omega⟩
   rw [hd,aWp,aZx] at e1 e2
   rw [pe] at e1
   rw [aWy] at e2
   exact up (T.p _ h' j e1 e2)
def aLv(l:List (Option Nat)):Nat:=(l.filterMap id).length
theorem aEq:∀ (l:List (Option Nat)) (j k:Nat),l[j]? = some none->aLv (l.set j (some k))=aLv l+1
 | none :: l,0,k,_=>by simp [aLv]
 | x :: l,j+1,k,h=>by
  have ih:=aEq l j k h
  cases x<;>simp_all [aLv]
theorem aKz:∀ l:List (Option Nat),aLv l < l.length->∃ q:Nat,l[q]? = some none
 | none :: l,_=>⟨0,rfl⟩
 | some x :: l,h=>by
  have h:aLv l+1 < l.length+1:=h
  obtain ⟨q,hq⟩:=aKz l (by omega)
  exact ⟨q+1,hq⟩
theorem aDp:∀ n:Nat,aLv (List.replicate n none)=0
 | 0=>rfl
 | n+1=>aDp n
def Occ(ow:Array (Option Nat))(j:Nat):Prop:=∃ y,ow[j]? = some (some y)
theorem v9{mask:Nat}{ow:Array (Option Nat)}(hs:ow.size=mask+1){h:Int}:∀ (m fuel i p b:Nat),m < fuel->i<=mask->rP mask b (pst mask h)=aFz mask i p->(∀ q,q < b->Occ ow (pth mask h q))->ow[(lpN mask i p m).1]? = some none ->
  ∃ j n,SetTable.layClean.free mask ow fuel i p=some j/\ow[j]? = some none/\n<=b+10*m/\pth mask h n=j/\∀ q,q < n->Occ ow (pth mask h q)
 | m,fuel+1,i,p,b,hk,hi,hb,hq,he=>by
  unfold SetTable.layClean.free
  have rl:SetTable.runEnd mask i<=mask/\i<=SetTable.runEnd mask i:=by unfold SetTable.runEnd;split<;>omega
  have r9:=aU8 mask i
  have gd:∀ j,(ow.getD j (some 0)).isNone=true->ow[j]? = some none:=fun j z=>by
   cases q:ow[j]? with
   | none=>rw [aXu,q] at z;cases z
   | some x=>rw [aXu,q] at z;cases x with
    | none=>rfl
    | some y=>cases z
  have go:∀ j,j<=mask->¬ ((ow.getD j (some 0)).isNone=true)->Occ ow j:=fun j hj z=>by
   have hl:j < ow.size:=by omega
   cases q:ow[j]? with
   | none=>rw [aWj hl] at q;cases q
   | some x =>
    cases x with
    | none=>rw [aXu,q] at z;exact absurd rfl z
    | some y=>exact ⟨y,q⟩
  have at':∀ r,r<=SetTable.runEnd mask i - i->pth mask h (b+r)=i+r:=fun r hr=>by
   show (rP mask (b+r) (pst mask h)).j=_
   rw [pI,hb,aD9 mask i p r hr]
  cases q:(List.range (SetTable.runEnd mask i+1 - i)).find? fun k=>(ow.getD (i+k) (some 0)).isNone with
  | some k =>
   obtain ⟨z1,as,bs,e1,e2⟩:=List.find?_eq_some_iff_append.mp q
   have hkr:k < SetTable.runEnd mask i+1 - i:=aXw.mp (List.mem_of_find?_eq_some q)
   have bef:∀ r,r < k->Occ ow (i+r):=fun r hr=>by
    refine go _ (by omega) fun w=>?_
    have hm:r∈List.range (SetTable.runEnd mask i+1 - i):=aXw.mpr (by omega)
    rw [e1] at hm
    rcases aXx.mp hm with y | y
    ·have:=e2 r y
     rw [w] at this
     cases this
    ·have srt:(as++k :: bs).Pairwise (· < ·):=by rw [<- e1];exact bCu
     have:=(List.pairwise_append.mp srt).2.1
     rcases aWh.mp y with x | x
     ·omega
     ·have:=(aYa.mp this).1 r x
      omega
   refine ⟨i+k,b+k,rfl,gd _ z1,?_,at' k (by omega),fun r hr=>?_⟩
   ·cases m with
    | zero =>
     have he:ow[i]? = some none:=he
     rcases Nat.eq_zero_or_pos k with y | y
     ·omega
     ·obtain ⟨x,hx⟩:=bef 0 y
      rw [Nat.add_zero,he] at hx
      cases hx
    | succ m=>omega
   ·rcases aYh r b with y | y
    ·exact hq r y
    ·have:=bef (r - b) (by omega)
     have a:=at' (r - b) (by omega)
     rw [show b+(r - b)=r by omega] at a
     rw [a]
     exact this
  | none =>
   dsimp only
   have all:∀ r,r<=SetTable.runEnd mask i - i->Occ ow (i+r):=fun r hr=>go _ (by omega) fun w=>by
    exact List.find?_eq_none.mp q r (aXw.mpr (by omega)) w
   cases m with
   | zero =>
    have he:ow[i]? = some none:=he
    obtain ⟨x,hx⟩:=all 0 (aXo _)
    rw [Nat.add_zero,he] at hx
    cases hx
   | succ m =>
    have hb':rP mask (b+(SetTable.runEnd mask i - i+1)) (pst mask h)=aFz mask (SetTable.leap mask i p).1 (SetTable.leap mask i p).2:=by
     rw [pI,hb,aLd]
    obtain ⟨j,n,f1,f2,f3,f4,f5⟩:=v9 hs m fuel _ _ _ (by omega) (aZ8 (bC2 _ (bA9 _))) hb' (fun r hr=>by
     rcases aYh r b with y | y
     ·exact hq r y
     ·have a:=at' (r - b) (by omega)
      rw [show b+(r - b)=r by omega] at a
      rw [a]
      exact all (r - b) (by omega)) he
    exact ⟨j,n,f1,f2,by omega,f4,f5⟩
structure Ly(mask:Nat)(ow:Array (Option Nat))(hs:List Int)(k:Nat):Prop where
 s:ow.size=mask+1
 c:aLv ow.toList=k
 v:∀ (j x:Nat),ow[j]? = some (some x)->x < k
 i:∀ (j j' x:Nat),ow[j]? = some (some x)->ow[j']? = some (some x)->j=j'
 p:∀ (j x:Nat) h,ow[j]? = some (some x)->hs[x]? = some h->∃ n,n<=10*(13+mask)/\pth mask h n=j/\∀ q,q < n->Occ ow (pth mask h q)
theorem aNa{mask:Nat}(hm:MOk mask){ow:Array (Option Nat)}{hs:List Int}{k:Nat}(o:Ly mask ow hs k)(hk:k<=mask){h:Int}(hh:hs[k]? = some h):∃ j,SetTable.layClean.free mask ow (SetTable.turns mask) (SetTable.bits h % (mask+1)) (SetTable.bits h)=some j/\Ly mask (ow.setIfInBounds j (some k)) hs (k+1):=by
 obtain ⟨q,hq⟩:=aKz ow.toList (by rw [o.c,aWr,o.s];omega)
 rw [aWy] at hq
 have q1:q<=mask:=by
  have:=(aX9.mp hq).1
  rw [o.s] at this
  omega
 have i0:SetTable.bits h % (mask+1)<=mask:=aZ8 (bC2 _ (bA9 _))
 obtain ⟨m,m1,m2⟩:=aAn hm i0 (aGe h) q1
 obtain ⟨j,n,j1,j2,j3,j4,j5⟩:=v9 (mask:=mask) o.s (h:=h) m (SetTable.turns mask) _ (SetTable.bits h) 0 (by unfold SetTable.turns;omega) i0 rfl (fun q hq=>absurd hq (bAu _)) (by rw [m2];exact hq)
 have jl:=(aX9.mp j2).1
 have get:∀ a,(ow.setIfInBounds j (some k))[a]? = if j=a then some (some k) else ow[a]?:=fun a=>by
  rw [Array.getElem?_setIfInBounds]
  split
  ·rfl
  ·rfl
 have up:∀ a,Occ ow a->Occ (ow.setIfInBounds j (some k)) a:=fun a ⟨y,hy⟩=>by
  by_cases z:j=a
  ·exact ⟨k,by rw [get,aWm z]⟩
  ·exact ⟨y,by rw [get,aWn z];exact hy⟩
 refine ⟨j,j1,by simp [o.s],?_,fun a x z=>?_,fun a a' x z z'=>?_,fun a x h' z e=>?_⟩
 ·rw [Array.toList_setIfInBounds,aEq _ _ _ (by rw [aWy];exact j2),o.c]
 ·rw [get] at z
  split at z
  ·cases z;omega
  ·have:=o.v a x z;omega
 ·rw [get] at z z'
  split at z
  ·split at z'
   ·omega
   ·cases z
    exact absurd (o.v a' k z') (aXn _)
  ·split at z'
   ·cases z'
    exact absurd (o.v a k z) (aXn _)
   ·exact o.i a a' x z z'
 ·rw [get] at z
  split at z
  ·rename_i y
   cases z
   rw [hh] at e
   cases e
   exact ⟨n,by omega,by rw [j4,y],fun q hq=>up _ (j5 q hq)⟩
  ·obtain ⟨n',a1,a2,a3⟩:=o.p a x h' z e
   exact ⟨n',a1,a2,fun q hq=>up _ (a3 q hq)⟩
theorem aGp{mask:Nat}(hm:MOk mask){hs:List Int}:∀ (l:List Int) (ow:Array (Option Nat)) (k:Nat),Ly mask ow hs k->k+l.length<=mask->(∀ i,l[i]? = hs[k+i]?)->∃ ow',l.foldl (fun acc h=>do
  let (owner,k) <- acc
  let j <- SetTable.layClean.free mask owner (SetTable.turns mask) (SetTable.bits h % (mask+1)) (SetTable.bits h)
  pure (owner.setIfInBounds j (some k),k+1)) (some (ow,k))=some (ow',k+l.length)/\Ly mask ow' hs (k+l.length)
 | [],ow,k,o,_,_=>⟨ow,rfl,o⟩
 | h :: l,ow,k,o,hk,hl=>by
  rw [aWc] at hk
  obtain ⟨j,j1,j2⟩:=aNa hm o (by omega) (h:=h) (hl 0).symm
  obtain ⟨ow',e,o'⟩:=aGp hm l _ _ j2 (by omega) (fun i=>by
   have:=hl (i+1)
   rw [show k+1+i=k+(i+1) by omega]
   exact this)
  rw [show k+1+l.length=k+(h :: l).length by rw [aWc];omega] at e o'
  refine ⟨ow',?_,o'⟩
  rw [aZ3,<- e]
  congr 1
  show (SetTable.layClean.free mask ow _ _ _).bind _=_
  rw [j1]
  rfl
theorem aT4{mask:Nat}(hm:MOk mask)(hs:Array Int)(hk:hs.size<=mask):∃ ow,SetTable.layClean mask hs=some ow/\Ly mask ow hs.toList hs.size:=by
 have o0:Ly mask (Array.replicate (mask+1) none) hs.toList 0:=by
  have no:∀ (j x:Nat),(Array.replicate (mask+1) (none:Option Nat))[j]?≠some (some x):=fun j x z=>by
   rw [Array.getElem?_replicate] at z
   split at z<;>cases z
  exact ⟨by simp,by rw [Array.toList_replicate];exact aDp _,fun j x z=>absurd z (no j x),fun j _ x z=>absurd z (no j x),fun j x _ z=>absurd z (no j x)⟩
 obtain ⟨ow,e,o⟩:=aGp hm hs.toList _ 0 o0 (by rw [aWr];omega) (fun i=>by rw [aYg])
 rw [aWr,aYg] at e o
 refine ⟨ow,?_,o⟩
 unfold SetTable.layClean
 rw [<- Array.foldl_toList]
 exact (aZu (Option.map Prod.fst) e).trans rfl
theorem wN{α β:Type}{f:α->Option β}:∀ {l:List α},(∀ x∈l,(f x).isSome=true)->(l.filterMap f).length=l.length
 | [],_=>rfl
 | x :: l,h=>by
  obtain ⟨y,hy⟩:=aXt.mp (h x (.head _))
  rw [aX1,hy]
  dsimp only
  rw [aWc,wN fun z hz=>h z (.tail _ hz),aWc]
theorem xR{α β:Type}{f:α->Option β}:∀ {l:List α} (i:Nat),(∀ x∈l,(f x).isSome=true)->(l.filterMap f)[i]? = (l[i]?).bind f
 | [],i,_=>by simp
 | x :: l,i,h=>by
  obtain ⟨y,hy⟩:=aXt.mp (h x (.head _))
  rw [aX1,hy]
  dsimp only
  cases i with
  | zero=>simp [hy]
  | succ i =>
   rw [aWp,aWp]
   exact xR i fun z hz=>h z (.tail _ hz)
theorem aHl{α:Type}(g:Nat->Option α):∀ l:List Nat,(l.filterMap fun j=>(g j).map fun x=>(j,x)).map Prod.fst=l.filter fun j=>(g j).isSome
 | []=>rfl
 | x :: l=>by
  rw [aX1,List.filter_cons]
  cases g x with
  | none=>exact aHl g l
  | some y=>exact aZu (x :: ·) (aHl g l)
theorem zI{α:Type}(g:Nat->Option α):∀ l:List Nat,(l.filterMap fun j=>(g j).map fun x=>(j,x)).length=((l.map g).filterMap id).length
 | []=>rfl
 | x :: l=>by
  rw [aX1,aWo,aX1]
  cases g x with
  | none=>exact zI g l
  | some y=>exact aZu Nat.succ (zI g l)
theorem aGn(ow:Array (Option Nat)):(List.range ow.size).map (fun j=>ow.getD j none)=ow.toList:=by
 apply bCq
 ·simp
 ·intro i h1 h2
  have:i < ow.size:=by simpa using h1
  simp [Array.getD,this]
theorem aJz{l:List Nat}{n:Nat}(nd:l.Nodup)(hl:l.length=n)(hb:∀ x∈l,x < n):l.Perm (List.range n):=by
 have key:∀ {l m:List Nat},l.Nodup->(∀ x∈l,x∈m)->m.length<=l.length->l.Perm m:=by
  intro l
  induction l with
  | nil =>
   intro m _ _ h
   have:m=[]:=aX8.mp (by simpa using h)
   rw [this]
  | cons x l ih =>
   intro m h s hl
   obtain ⟨h1,h2⟩:=aYd.mp h
   have hx:=s x (.head _)
   have q:=ih (m:=m.erase x) h2 (fun y hy=>(bBl (show y≠x from fun z=>h1 (by rw [<- z];exact hy))).mpr (s y (.tail _ hy))) (by rw [bCa hx];rw [aWc] at hl;omega)
   exact (q.cons x).trans (bBn hx).symm
 exact key nd (fun x hx=>aXw.mpr (hb x hx)) (by rw [aXp,hl];exact aWl _)
theorem aF6{t:SetTable}{hs:List Int}{wanted:Nat}(hm:MOk (SetTable.sizeAbove wanted - 1))(hk:hs.length<=SetTable.sizeAbove wanted - 1):∃ t' order,t.relaid hs.toArray wanted=some (t',order)/\t'.mask=SetTable.sizeAbove wanted - 1/\t'.led=t.led/\t'.plain=t.plain/\order.toList.Perm (List.range hs.length)/\Tab t' (order.toList.filterMap (hs[·]?)):=by
 obtain ⟨ow,e,o⟩:=aT4 hm hs.toArray (by rw [aWk];exact hk)
 rw [aWk] at o
 generalize hM:SetTable.sizeAbove wanted - 1=mask at *
 have hL:∀ y,y∈((List.range (mask+1)).filterMap fun j=>(ow.getD j none).map fun x=>(j,x))->ow[y.1]? = some (some y.2):=fun y hy=>by
  obtain ⟨j,hj,ej⟩:=bAp.mp hy
  have hj:j < ow.size:=by rw [o.s];exact aXw.mp hj
  rw [aXu,aWj hj] at ej
  cases q:ow[j] with
  | none=>rw [Option.getD_some,q] at ej;cases ej
  | some x =>
   rw [Option.getD_some,q] at ej
   cases ej
   rw [aWj hj,q]
 have ll:((List.range (mask+1)).filterMap fun j=>(ow.getD j none).map fun x=>(j,x)).length=hs.length:=by
  rw [zI,<- o.s,aGn]
  exact o.c
 have fs:=aHl (fun j=>ow.getD j none) (List.range (mask+1))
 generalize hlive:((List.range (mask+1)).filterMap fun j=>(ow.getD j none).map fun x=>(j,x))=live at *
 have ris:(live.map Prod.fst).Pairwise (· < ·):=by
  rw [fs]
  exact aZ2 List.filter_sublist bCu
 have nd:(live.map Prod.snd).Nodup:=by
  rw [List.Nodup,aZ9]
  have:=aZ9.mp ris
  refine bAk (fun {a b} ha hb w z=>?_) this
  have a1:=hL a ha
  have b1:=hL b hb
  rw [z] at a1
  have:=o.i _ _ _ a1 b1
  omega
 have hb:∀ x∈live.map Prod.snd,x < hs.length:=fun x hx=>by
  obtain ⟨y,hy,rfl⟩:=aWg.mp hx
  exact o.v _ _ (hL y hy)
 have some':∀ x∈live.map Prod.snd,(hs[x]?).isSome=true:=fun x hx=>by simp [hb x hx]
 unfold SetTable.relaid SetTable.laid
 rw [hM,e]
 refine ⟨_,_,rfl,rfl,rfl,rfl,?_,?_⟩
 ·show (List.map _ _).toArray.toList.Perm _
  rw [hlive,aYw]
  exact aJz nd (by rw [aWb,ll]) hb
 ·have e1:∀ (P:Array Nat) (Od:Array Nat),P=(live.map Prod.fst).toArray->Od=(live.map Prod.snd).toArray->Tab { mask:=mask,place:=P,dummies:=#[],finger:=t.finger,led:=t.led,moves:=t.movedTo mask,plain:=t.plain } (Od.toList.filterMap (hs[·]?)):=by
   rintro _ _ rfl rfl
   refine ⟨rfl,hm,aBv ris,?_,?_,fun i h j e1 e2=>?_⟩
   ·show (live.map Prod.fst).toArray.size=_
    rw [aWk,aWb,wN some',aWb]
   ·rw [wN some',aWb,ll]
    exact hk
   ·rw [xR i some'] at e1
    have e2:(live.map Prod.fst).toArray[i]? = some j:=e2
    rw [bBa,aWu] at e2
    rw [aWu] at e1
    cases q:live[i]? with
    | none=>rw [q] at e2;cases e2
    | some y =>
     rw [q] at e1 e2
     cases e2
     obtain ⟨n,a1,a2,a3⟩:=o.p _ _ h (hL y (aY2 q)) (by simpa using e1)
     refine ⟨n,a1,a2,fun r hr=>?_⟩
     obtain ⟨x,hx⟩:=a3 r hr
     show _∈(live.map Prod.fst).toArray.toList
     rw [aYw,fs,aYc]
     have hl:=(aX9.mp hx).1
     refine ⟨aXw.mpr (by rw [<- o.s];exact hl),?_⟩
     show (ow.getD (pth mask h r) none).isSome=true
     rw [aXu,hx]
     rfl
  exact e1 _ _ (by rw [<- hlive]) (by rw [<- hlive])
open PySem.Spec PyProof.Rows
theorem yQ{xs:Array Nat}(hr:Ris xs){i j a:Nat}(h1:xs[i]? = some a)(h2:xs[j]? = some a):i=j:=by
 rcases aZq i j with w | w | w
 ·exact absurd (hr _ _ _ _ w h1 h2) (aXn _)
 ·exact w
 ·exact absurd (hr _ _ _ _ w h2 h1) (aXn _)
section
variable {prog:Program}{w:World}{A:Around}{E:Value->Shared->Prop}{s:Shared}
abbrev IK(prog:Program)(w:World)(h:Heap)(k:List Int)(a:Addr):Prop:=IsTupleKey (intKind prog w) h k a
abbrev hK(prog:Program)(w:World)(k:List Int):Int:=tupleKeyHash (intKind prog w) k
theorem items_int{ks:List Int}{vs:List Value}(h:ItemsAre (intKind prog w) ks vs):∀ v∈vs,∃ i t,v=.int i t:=by
 induction h with
 | nil=>intro v hv;exact nomatch hv
 | @cons k v ks vs h1 _ ih =>
  intro x hx
  rcases aWh.mp hx with z | z
  ·subst z
   cases x with
   | int i t=>exact ⟨i,t,rfl⟩
   | _=>simp [intKind,Value.isInt] at h1
  ·exact ih x z
theorem aM5{k:List Int}{a:Addr}{Q:Bool->Shared->Prop}(hk:IK prog w s.heap k a)(h:Q true s):wpAny (model prog w) A (hashByValue 8 (.ref a)) Q E s:=by
 have hT:=hk.typeIs
 obtain ⟨o,items,n,ho,_,hd,hi⟩:=hk
 have bv:=items_int hi
 unfold hashByValue
 refine aWa (bAr hT F.slot_tuple_hash.lookup ?_)
 dsimp only
 refine aWa (wpAny_seqItems ho hd ?_)
 refine aWa (wpAny_forIn_array' _ (fun rest b s'=>s'=s/\b.1=none/\∀ v∈rest,∃ i t,v=Value.int i t) _ ?_ ?_ _ _ ⟨rfl,rfl,bv⟩)
 ·rintro x rest b s1 ⟨rfl,_,hx⟩
  obtain ⟨i,t,rfl⟩:=hx x (.head _)
  exact aWa (bBt (a:=true) rfl (aWe ⟨rfl,rfl,fun v hv=>hx v (.tail _ hv)⟩))
 ·rintro ⟨b1,b2⟩ s1 ⟨rfl,hb,_⟩
  cases (show b1=none from hb)
  exact aWe h
theorem aLo{k:List Int}{a:Addr}{Q:Bool->Shared->Prop}(hk:IK prog w s.heap k a)(h:Q false s):wpAny (model prog w) A (ofAClassStatement 8 (.ref a)) Q E s:=by
 have hT:=hk.typeIs
 obtain ⟨o,items,n,ho,_,hd,hi⟩:=hk
 have bv:=items_int hi
 unfold ofAClassStatement
 refine aWa (wpAny_typeOf hT ?_)
 dsimp only
 rw [aWm (by decide)]
 refine aWa (aWe ?_)
 simp only [bC5,aW5,aYt]
 refine aWa (wpAny_seqItems ho hd ?_)
 dsimp only
 refine aWa (wpAny_forIn_array' _ (fun rest b s'=>s'=s/\b.1=none/\∀ v∈rest,∃ i t,v=Value.int i t) _ ?_ ?_ _ _ ⟨rfl,rfl,bv⟩)
 ·rintro x rest b s1 ⟨rfl,_,hx⟩
  obtain ⟨i,t,rfl⟩:=hx x (.head _)
  exact aWa (bBt (a:=false) rfl (aWe ⟨rfl,rfl,fun v hv=>hx v (.tail _ hv)⟩))
 ·rintro ⟨b1,b2⟩ s1 ⟨rfl,hb,_⟩
  cases (show b1=none from hb)
  exact aWe h
theorem aNf{k:List Int}{a:Addr}{l:List Value}{Q:Bool->Shared->Prop}(hk:IK prog w s.heap k a)(hl:∀ v∈l,∃ b k',v=.ref b/\IK prog w s.heap k' b)(h:Q false s):wpAny (model prog w) A (searchCouldBeSeen (.ref a) l) Q E s:=by
 unfold searchCouldBeSeen
 refine aWa (wpAny_forIn_list _ (fun rest b s'=>s'=s/\b.1=none/\∀ v∈rest,∃ b k',v=.ref b/\IK prog w s.heap k' b) _ ?_ ?_ _ _ ⟨rfl,rfl,hl⟩)
 ·rintro x rest b s1 ⟨rfl,_,hx⟩
  obtain ⟨c,k',rfl,hc⟩:=hx x (.head _)
  have nx:wpAny (model prog w) A (pure (ForInStep.yield (none,())):Sem (ForInStep (Option Bool×Unit))) (fun r s'=>match r with | .yield b'=>s'=s1/\b'.1=none/\∀ v∈rest,∃ b k',v=.ref b/\IK prog w s1.heap k' b | .done b'=>wpAny (model prog w) A (match b'.1 with | some r=>pure r | none=>pure false) Q E s') E s1:=aWe ⟨rfl,rfl,fun v hv=>hx v (.tail _ hv)⟩
  dsimp only
  split
  ·exact nx
  ·refine aWa (wpAny_eqIsQuiet_tuple hk ?_)
   simp only [bC5,aW5,aYt]
   refine aWa (wpAny_eqIsQuiet_tuple hc ?_)
   simp only [bC5,aW5,aYt]
   refine aWa (aLo hk ?_)
   simp only [aW5,aYt]
   refine aWa (aLo hc ?_)
   simp only [aW5,aYt]
   exact nx
 ·rintro ⟨b1,b2⟩ s1 ⟨rfl,hb,_⟩
  cases (show b1=none from hb)
  exact aWe h
def Fit(mask n:Nat):Prop:=(mask=7/\n<=4)\/(mask=31/\n<=18)\/(mask=127/\n<=76)
structure SetR(prog:Program)(w:World)(h:Heap)(S:Addr)(ks:List (List Int))(o:Obj)(es:Array (Int×Value))(ep:Nat)(t:SetTable):Prop where
 g:h.get? S=some o
 x:o.ExactSet
 d:o.data=.set es ep t
 pl:t.plain=true
 ld:t.led=!w.params.followText "set-order"
 tb:Tab t (ks.map (hK prog w))
 nd:ks.Nodup
 sz:es.size=ks.length
 at':∀ (i:Nat) k,ks[i]? = some k->∃ a,es[i]? = some (hK prog w k,.ref a)/\IK prog w h k a
theorem SetR.fits{h:Heap}{S:Addr}{ks:List (List Int)}{o:Obj}{es:Array (Int×Value)}{ep:Nat}{t:SetTable}(R:SetR prog w h S ks o es ep t):t.fits es.size=true:=by
 unfold SetTable.fits SetTable.fill
 have a:=R.tb.s
 have b:=R.tb.z
 rw [aWb] at a b
 rw [R.tb.d,a,R.sz]
 simpa using b
theorem aC8{k:List Int}{a:Addr}{l:List Value}{b:Bool}{m m':Sem SetFound}{Q:SetFound->Shared->Prop}(hk:IK prog w s.heap k a)(hl:∀ v∈l,∃ b k',v=.ref b/\IK prog w s.heap k' b)(h:wpAny (model prog w) A m Q E s):wpAny (model prog w) A (if (!b)=true then (searchCouldBeSeen (.ref a) l >>= fun x=>if x=true then m' else m) else m) Q E s:=by
 split
 ·exact aWa (aNf hk hl (by rw [aWn (by decide)];exact h))
 ·exact h
theorem wH{S a:Addr}{ks:List (List Int)}{o:Obj}{es:Array (Int×Value)}{ep:Nat}{t:SetTable}{k:List Int}(R:SetR prog w s.heap S ks o es ep t)(hu:A.units < cLine)(hk:IK prog w s.heap k a){Q:SetFound->Shared->Prop}
  (q1:k∈ks->Q (.there none) s) (q2:k∉ks->∀ n,n<=10*(13+t.mask)->pth t.mask (hK prog w k) n∉t.place.toList->(∀ q,q < n->pth t.mask (hK prog w k) q∈t.place.toList)->Q (.free (pth t.mask (hK prog w k) n) false) s) :
  ∀ (n fuel k0:Nat) (stand:Option SetTable.Probe),n < fuel->k0+n<=10*(13+t.mask)->stand.getD (t.probeStart (hK prog w k))=rP t.mask k0 (pst t.mask (hK prog w k))->(∀ q,q < k0->∃ i:Nat,t.place[i]? = some (pth t.mask (hK prog w k) q)/\ks[i]?≠some k)->(pth t.mask (hK prog w k) (k0+n)∉t.place.toList\/∃ i:Nat,t.place[i]? = some (pth t.mask (hK prog w k) (k0+n))/\ks[i]? = some k) ->
  wpAny (model prog w) A (setSearchFrom S (.ref a) (hK prog w k) true fuel stand) Q E s
 | n,fuel+1,k0,stand,hn,hB,hst,hN,hD=>by
  have hf:=R.fits
  have odd:t.gaveWay=false:=by
   unfold SetTable.gaveWay
   rcases R.tb.m with z | z | z<;>rw [z]<;>rfl
  have psz:t.place.size=ks.length:=by have:=R.tb.s;rw [aWb] at this;exact this
  have inp:∀ {i j:Nat},t.place[i]? = some j->j∈t.place.toList:=fun e=>aXz.mpr (aZ1 e)
  have hash:∀ (i:Nat) x,ks[i]? = some x->(es[i]?.map (·.1)).getD 0=hK prog w x:=fun i x e=>by
   obtain ⟨b,hb,_⟩:=R.at' i x e
   rw [hb]
   rfl
  have gk:=aPm R.tb.d R.tb.r (f:=fun i=>(es[i]?.map (·.1)).getD 0) (h:=hK prog w k) n (10*SetTable.turns t.mask) k0 (by unfold SetTable.turns;omega) (hD.imp id fun ⟨i,e1,e2⟩=>⟨i,e1,hash i k e2⟩)
  unfold setSearchFrom
  refine aWa (aXv R.g R.d hf ?_)
  dsimp only
  rw [odd]
  simp only [aW5,aYt]
  generalize hg:t.probe _ (hK prog w k) _=met
  have hg:SetTable.probe.go t (fun i=>(es[i]?.map (·.1)).getD 0) (hK prog w k) (10*SetTable.turns t.mask) (stand.getD (t.probeStart (hK prog w k)))=met:=hg
  rw [hst] at hg
  rcases gk with ⟨k',a1,a2,a3,a4,a5⟩ | ⟨k',i,a1,a2,a3,a4,a5,a6⟩
  ·rw [a5] at hg
   subst hg
   dsimp only
   have occ:∀ q,q < k'->∃ i:Nat,t.place[i]? = some (pth t.mask (hK prog w k) q)/\ks[i]?≠some k:=fun q hq=>by
    rcases aYh q k0 with z | z
    ·exact hN q z
    ·obtain ⟨i,e1,e2⟩:=a4 q z hq
     exact ⟨i,e1,fun e=>e2 (hash i k e)⟩
   refine aWe (q2 (fun z=>?_) k' (by omega) a3 fun q hq=>inp (occ q hq).choose_spec.1)
   obtain ⟨i0,e0⟩:=aZj.mp z
   have il:i0 < t.place.size:=by rw [psz];exact (aXa.mp e0).1
   obtain ⟨m,_,m2,m3⟩:=R.tb.p i0 (hK prog w k) t.place[i0] (by rw [aWu,e0];rfl) (aWj il)
   have pm:t.place[i0]? = some (pth t.mask (hK prog w k) m):=by rw [m2];exact aWj il
   rcases aZq m k' with y | y | y
   ·obtain ⟨i,e1,e2⟩:=occ m y
    rw [yQ R.tb.r e1 pm] at e2
    exact e2 e0
   ·rw [y] at pm
    exact a3 (inp pm)
   ·exact a3 (m3 k' y)
  ·rw [a6] at hg
   subst hg
   dsimp only
   have il:i < ks.length:=by rw [<- psz];exact (aX9.mp a3).1
   obtain ⟨b,hb,kb⟩:=R.at' i ks[i] (aWd il)
   have sto:∀ v∈(es.filter (·.1 == hK prog w k)).toList.map (·.2),∃ b k',v=Value.ref b/\IK prog w s.heap k' b:=fun v hv=>by
    obtain ⟨e,he,rfl⟩:=aWg.mp hv
    have he:e∈es:=(Array.mem_filter.mp (aXz.mp he)).1
    obtain ⟨i5,e5⟩:=Array.mem_iff_getElem?.mp he
    have l5:i5 < ks.length:=by rw [<- R.sz];exact (aX9.mp e5).1
    obtain ⟨b5,h5,k5⟩:=R.at' i5 ks[i5] (aWd l5)
    rw [h5] at e5
    cases e5
    exact ⟨b5,_,rfl,k5⟩
   rw [hb]
   dsimp only
   refine aC8 hk sto ?_
   refine aWa (aYj ((tupleKind (intKind prog w)).eqBool hu kb hk ?_))
   refine aWa (aXv R.g R.d hf ?_)
   dsimp only
   by_cases z:ks[i]=k
   ·rw [aXg z,aWm (by decide)]
    exact aWe (q1 (z▸bBf il))
   ·rw [aW0 z,aWn (by decide)]
    have sm:t.sameMemory t.moves t.mask=some true:=by
     unfold SetTable.sameMemory
     rw [aWm (beq_self_eq_true _)]
    rw [sm]
    dsimp only
    obtain ⟨i2,s1,s2⟩:=aG9 R.tb.r (inp a3)
    rw [yQ R.tb.r s2 a3] at s1
    rw [aWm rfl,s1]
    dsimp only
    rw [hb]
    dsimp only
    have self:isSame (.ref b) (.ref b)=pure true:=by
     unfold isSame
     simp
    refine aWa (bBt self (aWa (aWe ?_)))
    rw [aWm rfl]
    dsimp only
    rw [aWn (by decide)]
    have lt:k' < k0+n:=by
     rcases aYh k' (k0+n) with y | y
     ·exact y
     ·have:k'=k0+n:=by omega
      subst this
      rcases hD with e | ⟨i3,e1,e2⟩
      ·exact absurd (inp a3) e
      ·have:=yQ R.tb.r a3 e1
       subst this
       rw [aWd il] at e2
       exact absurd (aWx e2) z
    obtain ⟨n',hn'⟩:∃ n',k'+1+n'=k0+n:=⟨k0+n - (k'+1),by omega⟩
    refine wH R hu hk q1 q2 n' fuel (k'+1) _ (by omega) (by omega) rfl (fun q hq=>?_) (by rw [hn'];exact hD)
    rcases aYh q k0 with y | y
    ·exact hN q y
    ·rcases aYh q k' with x | x
     ·obtain ⟨i4,e1,e2⟩:=a5 q y x
      exact ⟨i4,e1,fun e=>e2 (hash i4 k e)⟩
     ·have:q=k':=by omega
      subst this
      exact ⟨i,a3,by rw [aWd il];exact fun e=>z (aWx e)⟩
theorem IK.keep{h h':Heap}{k:List Int}{a:Addr}(hk:IK prog w h k a)(q:∀ o,h.get? a=some o->h'.get? a=some o):IK prog w h' k a:=by
 obtain ⟨o,items,n,ho,r⟩:=hk
 exact ⟨o,items,n,q o ho,r⟩
theorem SetR.ne{h:Heap}{S a:Addr}{ks:List (List Int)}{o:Obj}{es:Array (Int×Value)}{ep:Nat}{t:SetTable}{k:List Int}(R:SetR prog w h S ks o es ep t)(hk:IK prog w h k a):a≠S:=fun z=>by
 subst z
 obtain ⟨o',_,_,ho,hc,_⟩:=hk
 have g:=R.g
 rw [ho] at g
 cases g
 have:=R.x.1
 rw [hc] at this
 exact absurd this (by decide)
theorem aHr{h:Heap}{S:Addr}{o:Obj}{es:Array (Int×Value)}{ep:Nat}{t:SetTable}(ho:h.get? S=some o)(hd:o.data=.set es ep t)(es':Array (Int×Value))(t':SetTable) :
  (h.update S (Obj.putSet es' t')).get? S=some { o with data:=.set es' (ep+1) t' }:=by
 have:=aYy (Obj.putSet es' t') ho (by rw [putSet_of es' t' hd];rfl)
 rw [putSet_of es' t' hd] at this
 exact this
theorem SetR.write{h:Heap}{S:Addr}{ks ks':List (List Int)}{o:Obj}{es es':Array (Int×Value)}{ep:Nat}{t t':SetTable}(R:SetR prog w h S ks o es ep t)(pl:t'.plain=true)(ld:t'.led=t.led)(tb:Tab t' (ks'.map (hK prog w)))(nd:ks'.Nodup)(sz:es'.size=ks'.length)
  (at':∀ (i:Nat) k,ks'[i]? = some k->∃ a,es'[i]? = some (hK prog w k,.ref a)/\IK prog w h k a):SetR prog w (h.update S (Obj.putSet es' t')) S ks' { o with data:=.set es' (ep+1) t' } es' (ep+1) t':=by
 refine ⟨aHr R.g R.d es' t',R.x,rfl,pl,by rw [ld];exact R.ld,tb,nd,sz,fun i k e=>?_⟩
 obtain ⟨a,h1,h2⟩:=at' i k e
 refine ⟨a,h1,h2.keep fun o' ho'=>?_⟩
 rw [(aYf h S (Obj.putSet es' t')).2 a (R.ne h2)]
 exact ho'
theorem aRq{α:Type}(l:List α):(List.range l.length).filterMap (l[·]?)=l:=by
 have h:∀ x∈List.range l.length,(l[x]?).isSome=true:=fun x hx=>by simp [aXw.mp hx]
 apply aYv
 intro i
 rw [xR i h]
 by_cases z:i < l.length
 ·rw [aZb z]
  rfl
 ·rw [aW9 (by rw [aXp];omega),aW9 (by omega)]
  rfl
theorem aH8{S:Addr}{ks:List (List Int)}{o:Obj}{es:Array (Int×Value)}{ep:Nat}{t:SetTable}{wanted:Nat}{Q:Unit->Shared->Prop}(R:SetR prog w s.heap S ks o es ep t)(hm:MOk (SetTable.sizeAbove wanted - 1))(hl:SetTable.sizeAbove wanted<=128)(hn:ks.length<=SetTable.sizeAbove wanted - 1)
  (q:∀ h' ks' o' es' ep' t',Heap.SameBut S s.heap h'->ks'.Perm ks->t'.mask=SetTable.sizeAbove wanted - 1->(∀ e∈es',e∈es)->SetR prog w h' S ks' o' es' ep' t'->Q () { s with heap:=h' }):wpAny (model prog w) A (setRelay S wanted) Q E s:=by
 have hf:=R.fits
 have he:es.map (·.1)=(ks.map (hK prog w)).toArray:=by
  apply Array.toList_inj.mp
  rw [Array.toList_map,aYw]
  apply aYv
  intro i
  rw [aWu,aWu,aWy]
  by_cases z:i < ks.length
  ·obtain ⟨a,h1,_⟩:=R.at' i ks[i] (aWd z)
   rw [h1,aWd z]
   rfl
  ·rw [aXr (by rw [R.sz];omega),aW9 (by omega)]
   rfl
 obtain ⟨t',order,r1,r2,r3,r4,r5,r6⟩:=aF6 (t:=t) (hs:=ks.map (hK prog w)) (wanted:=wanted) hm (by rw [aWb];exact hn)
 rw [aWb] at r5
 have hb:∀ x∈order.toList,x < ks.length:=fun x hx=>aXw.mp (r5.mem_iff.mp hx)
 have k1:∀ x∈order.toList,(ks[x]?).isSome=true:=fun x hx=>by simp [hb x hx]
 have k2:∀ x∈order.toList,(es[x]?).isSome=true:=fun x hx=>by simp [R.sz,hb x hx]
 have ol:order.toList.length=ks.length:=by rw [r5.length_eq,aXp]
 have el:(order.filterMap (es[·]?)).size=ks.length:=by
  rw [<- aWr,bCv,wN k2,ol]
 have eh:order.toList.filterMap ((ks.map (hK prog w))[·]?)=(order.toList.filterMap (ks[·]?)).map (hK prog w):=by
  rw [List.map_filterMap]
  congr 1
  funext x
  exact aWu ..
 rw [eh] at r6
 have pm:(order.toList.filterMap (ks[·]?)).Perm ks:=by
  have:=r5.filterMap (ks[·]?)
  rw [aRq] at this
  exact this
 unfold setRelay
 refine aWa (aXv R.g R.d hf ?_)
 dsimp only
 rw [aWn (by rw [aY0];omega),he,r1]
 refine aWa ?_
 show wpAny (model prog w) A (if ((order.filterMap (es[·]?)).size != es.size)=true then (unsupported "internal:set-table-lost-an-element" >>= fun _=>pure (order.filterMap (es[·]?),t')) else pure (order.filterMap (es[·]?),t')) _ _ _
 rw [aWn (by rw [el,R.sz];simp)]
 refine aWe ?_
 dsimp only
 have nl:ks.length<=128:=by omega
 refine wpAny_storeSet_of R.g R.d ?_ (by rw [el,aY0];omega)
 refine q _ _ _ _ _ _ (aYf ..) pm r2 (fun e he=>by
  obtain ⟨x,_,hx⟩:=Array.mem_filterMap.mp he
  exact aZ1 hx) (R.write (by rw [r4];exact R.pl) r3 r6 (pm.nodup_iff.mpr R.nd) (by rw [el,wN k1,ol]) fun i k e=>?_)
 rw [xR i k1] at e
 cases ei:order.toList[i]? with
 | none=>rw [ei] at e;cases e
 | some x =>
  rw [ei] at e
  obtain ⟨a,h1,h2⟩:=R.at' x k e
  refine ⟨a,?_,h2⟩
  rw [<- aWy,bCv,xR i k2,ei]
  exact h1
def SetK(prog:Program)(w:World)(h:Heap)(S:Addr)(ks:List (List Int))(L:Addr->Prop):Prop:=∃ ks' o es ep t,ks'.Perm ks/\Fit t.mask ks'.length/\(∀ e∈es,∃ a,e.2=Value.ref a/\L a)/\SetR prog w h S ks' o es ep t
theorem aK1{α:Type}(l:List α)(p:Nat)(hp:p<=l.length)(x:α)(i:Nat):(l.take p++x :: l.drop p)[i]? = if i < p then l[i]? else if i=p then some x else l[i - 1]?:=by
 have lt:(l.take p).length=p:=by rw [aYp];omega
 by_cases z:i < p
 ·rw [aWm z,aXl (by omega),bAv,aWm z]
 ·rw [aWn z,aW6 (by omega),lt]
  by_cases y:i=p
  ·rw [aWm y,y,Nat.sub_self]
   rfl
  ·rw [aWn y]
   obtain ⟨d,hd⟩:∃ d,i - p=d+1:=⟨i - p - 1,by omega⟩
   rw [hd,aWp,aZx]
   congr 1
   omega
theorem kL{S a:Addr}{L:Addr->Prop}{ks:List (List Int)}{k:List Int}{Q:Bool->Shared->Prop}(K:SetK prog w s.heap S ks L)(hu:A.units < cLine)(hk:IK prog w s.heap k a)(aL:L a)(hz:ks.length < 76)
  (q:∀ b h',Heap.SameBut S s.heap h'->SetK prog w h' S (if k∈ks then ks else k :: ks) L->Q b { s with heap:=h' }):wpAny (model prog w) A (setAddHashed S (.ref a) (hK prog w k)) Q E s:=by
 obtain ⟨ks',o,es,ep,t,pm,ft,lo,R⟩:=K
 have ml:ks'.length=ks.length:=pm.length_eq
 have hf:=R.fits
 have psz:t.place.size=ks'.length:=by have:=R.tb.s;rw [aWb] at this;exact this
 unfold setAddHashed setAddHashedIn
 refine aYj (aWa (aXv R.g R.d hf ?_))
 dsimp only
 rw [show byScan (.ref a) es=false from rfl]
 simp only [aW5,aYt]
 refine aWa ?_
 unfold setSearch
 have m127:t.mask<=127:=by rcases R.tb.m with z | z | z<;>omega
 obtain ⟨n,nB,nD⟩:∃ n,n<=10*(13+t.mask)/\(pth t.mask (hK prog w k) (0+n)∉t.place.toList\/∃ i:Nat,t.place[i]? = some (pth t.mask (hK prog w k) (0+n))/\ks'[i]? = some k):=by
  by_cases z:k∈ks'
  ·obtain ⟨i0,e0⟩:=aZj.mp z
   have il:i0 < t.place.size:=by rw [psz];exact (aXa.mp e0).1
   obtain ⟨m,m1,m2,_⟩:=R.tb.p i0 (hK prog w k) t.place[i0] (by rw [aWu,e0];rfl) (aWj il)
   exact ⟨m,m1,.inr ⟨i0,by rw [aYg,m2];exact aWj il,e0⟩⟩
  ·obtain ⟨j,j1,j2⟩:=miss (mask:=t.mask) (l:=t.place.toList) (by rw [aWr,psz];have:=R.tb.z;rw [aWb] at this;exact this)
   obtain ⟨m,m1,m2⟩:=aGz R.tb.m (hK prog w k) j1
   exact ⟨m,m1,.inl (by rw [aYg,m2];exact j2)⟩
 refine wH R hu hk (fun z=>?_) (fun z kk hB hn hp=>?_) n 100000 0 none (by omega) (by omega) rfl (fun q hq=>absurd hq (bAu _)) nD
 ·dsimp only
  refine aWe ?_
  have:=q false s.heap (Heap.SameBut.refl S s.heap) (by rw [aWm (pm.mem_iff.mp z)];exact ⟨ks',o,es,ep,t,pm,ft,lo,R⟩)
  exact this
 ·dsimp only
  have nz:k∉ks:=fun y=>z (pm.mem_iff.mpr y)
  rw [aWn nz] at q
  refine aWa (aXv R.g R.d hf ?_)
  dsimp only
  have zm:ks'.length+1<=t.mask:=by rcases ft with y | y | y<;>omega
  have tb1:=R.tb.put (h:=hK prog w k) hB hn hp (by rw [aWb];exact zm)
  obtain ⟨b1,_,_⟩:=nF R.tb.r (pth t.mask (hK prog w k) kk)
  have pe:=(rM t (pth t.mask (hK prog w k) kk)).2
  have pl1:(t.put (pth t.mask (hK prog w k) kk)).1.plain=true:=R.pl
  have ld1:(t.put (pth t.mask (hK prog w k) kk)).1.led=t.led:=rfl
  have mk1:(t.put (pth t.mask (hK prog w k) kk)).1.mask=t.mask:=rfl
  generalize t.put (pth t.mask (hK prog w k) kk)=tp at *
  obtain ⟨t1,p⟩:=tp
  dsimp only at tb1 pe pl1 ld1 mk1 ⊢
  have hp1:p<=ks'.length:=by rw [pe];omega
  rw [<- bC6,<- List.map_drop,<- aWo,<- aXb] at tb1
  have pm1:(ks'.take p++k :: ks'.drop p).Perm (k :: ks):=by
   refine List.perm_middle.trans (List.Perm.cons k ?_)
   rw [bBb]
   exact pm
  have il:(SetTable.insertAt es p (hK prog w k,Value.ref a)).toList=es.toList.take p++(hK prog w k,Value.ref a) :: es.toList.drop p:=jV _ _ _
  have hpe:p<=es.toList.length:=by rw [aWr,R.sz];exact hp1
  have sz1:(SetTable.insertAt es p (hK prog w k,Value.ref a)).size=(ks'.take p++k :: ks'.drop p).length:=by
   rw [<- aWr,il,aWq,aWq,aWc,aWc,aYp,aYp,aZg,aZg,aWr,R.sz]
  have ln1:(ks'.take p++k :: ks'.drop p).length=ks'.length+1:=by rw [pm1.length_eq,aWc,ml]
  rw [pl1,aWm rfl]
  refine aWa (aM5 hk ?_)
  rw [aWm rfl]
  have nl:ks'.length<=76:=by omega
  refine aWa (wpAny_storeSet_of R.g R.d ?_ (by rw [sz1,ln1,aY0];omega))
  have R1:=R.write (es':=SetTable.insertAt es p (hK prog w k,Value.ref a)) pl1 ld1 tb1 (pm1.nodup_iff.mpr (aYd.mpr ⟨nz,pm.nodup_iff.mp R.nd⟩)) sz1 (fun i x e=>by
   rw [aK1 ks' p hp1 k i] at e
   rw [<- aWy,il,aK1 es.toList p hpe _ i]
   by_cases y:i < p
   ·rw [aWm y] at e ⊢
    obtain ⟨c,h1,h2⟩:=R.at' i x e
    exact ⟨c,by rw [aWy];exact h1,h2⟩
   ·rw [aWn y] at e ⊢
    by_cases y2:i=p
    ·rw [aWm y2] at e ⊢
     cases e
     exact ⟨a,rfl,hk⟩
    ·rw [aWn y2] at e ⊢
     obtain ⟨c,h1,h2⟩:=R.at' _ x e
     exact ⟨c,by rw [aWy];exact h1,h2⟩)
  have sb:=aYf s.heap S (Obj.putSet (SetTable.insertAt es p (hK prog w k,Value.ref a)) t1)
  have lo1:∀ e∈SetTable.insertAt es p (hK prog w k,Value.ref a),∃ a,e.2=Value.ref a/\L a:=fun e he=>by
   rw [<- aXz,il] at he
   rcases aXx.mp he with y | y
   ·exact lo e (aXz.mp (List.mem_of_mem_take y))
   ·rcases aWh.mp y with x | x
    ·rw [x];exact ⟨a,rfl,aL⟩
    ·exact lo e (aXz.mp (bBm x))
  generalize (SetTable.insertAt es p (hK prog w k,Value.ref a))=es1 at *
  have full:t1.tooFull=decide ((t.mask=7/\ks'.length=4)\/(t.mask=31/\ks'.length=18)):=by
   unfold SetTable.tooFull SetTable.fill
   have a1:=tb1.s
   rw [aWb,ln1] at a1
   rw [tb1.d,a1,mk1]
   rcases ft with ⟨y,x⟩ | ⟨y,x⟩ | ⟨y,x⟩<;>rw [y]<;>simp<;>omega
  rw [full]
  by_cases y:(t.mask=7/\ks'.length=4)\/(t.mask=31/\ks'.length=18)
  ·rw [aXg y,aWm (by decide),R.sz]
   have go:∀ wn,SetTable.grown (ks'.length+1)=wn->MOk (SetTable.sizeAbove wn - 1)->SetTable.sizeAbove wn<=128->ks'.length+1<=SetTable.sizeAbove wn - 1->Fit (SetTable.sizeAbove wn - 1) (ks'.length+1)->wpAny (model prog w) A (do
     setRelay S (SetTable.grown (ks'.length+1))
     pure true) Q E { s with heap:=s.heap.update S (Obj.putSet es1 t1) }:=fun wn e1 e2 e3 e4 e5=>by
    rw [e1]
    refine aWa (aH8 R1 e2 e3 (by rw [ln1];exact e4) fun h' ks2 o2 es2 ep2 t2 sb2 pm2 mk2 in2 R2=>aWe (q true h' (sb.trans sb2) ⟨ks2,o2,es2,ep2,t2,pm2.trans pm1,?_,fun e he=>lo1 e (in2 e he),R2⟩))
    rw [mk2,pm2.length_eq,ln1]
    exact e5
   rcases y with ⟨_,y⟩ | ⟨_,y⟩<;>rw [y] at go ⊢
   ·exact go 20 (by decide) (by unfold MOk;decide) (by decide) (by decide) (by unfold Fit;decide)
   ·exact go 76 (by decide) (by unfold MOk;decide) (by decide) (by decide) (by unfold Fit;decide)
  ·rw [aW0 y,aWn (by decide)]
   refine aWe (q true _ sb ⟨_,_,_,_,t1,pm1,?_,lo1,R1⟩)
   rw [mk1,ln1]
   unfold Fit at ft ⊢
   omega
theorem SetK.at{h h':Heap}{S:Addr}{L:Addr->Prop}{ks:List (List Int)}(K:SetK prog w h S ks L)(q:∀ b o,(L b\/b=S)->h.get? b=some o->h'.get? b=some o):SetK prog w h' S ks L:=by
 obtain ⟨ks',o,es,ep,t,pm,ft,lo,R⟩:=K
 refine ⟨ks',o,es,ep,t,pm,ft,lo,q _ _ (.inr rfl) R.g,R.x,R.d,R.pl,R.ld,R.tb,R.nd,R.sz,fun i k e=>?_⟩
 obtain ⟨a,h1,h2⟩:=R.at' i k e
 obtain ⟨b,e1,e2⟩:=lo _ (aZ1 h1)
 cases e1
 exact ⟨a,h1,h2.keep fun o ho=>q a o (.inl e2) ho⟩
def aC1(w:World):Obj:={ cls:=.type "set",dict:=none,data:=.set #[] 0 (.fresh 0 0 (!w.params.followText "set-order")) }
theorem SetK.new{h:Heap}{S:Addr}{L:Addr->Prop}(hS:h.get? S=some (aC1 w)):SetK prog w h S [] L:=by
 refine ⟨[],aC1 w,#[],0,.fresh 0 0 (!w.params.followText "set-order"),bB5 _,.inl ⟨rfl,aXo _⟩,fun e he=>by simp at he,hS,⟨rfl,rfl,rfl⟩,rfl,rfl,rfl,⟨rfl,.inl rfl,fun i j a b _ e=>by simp [SetTable.fresh] at e,rfl,aXo _,fun i h j e=>by simp at e⟩,List.Pairwise.nil,rfl,fun i k e=>by simp at e⟩
theorem aHg(x:Value){Q₁:Value->Shared->Prop}(h:Q₁ (.ref s.heap.objs.size) { s with heap:=s.heap.push (aC1 w) }) :
  codeAny (model prog w) A (.call (.builtin "set.__new__") ⟨[.type "set",x],[]⟩) (wants Q₁ E) s:=by
 refine codeAny_of_tree (show wpAny _ A.in1 (do checkBuiltinCall "set.__new__" ⟨[.type "set",x],[]⟩;again (.builtin "set.__new__" ⟨[.type "set",x],[]⟩)) _ _ s from ?_)
 refine aWa (bBt (F.newCall_set_1 x) (aWe ⟨plainId_quiet F.plain_set_new _,bAs F.entry_set_new ?_⟩))
 rw [bBo F.plain_set_new _]
 unfold Builtin.«set.__new__» Builtin.Frozenset.newClass
 have hsub:=sub_set_self
 obtain ⟨hp,g,d,tk,os⟩:=s
 dsimp only
 wp_walk
 refine bAg (aWe ?_)
 dsimp only
 simp only [newObj]
 exact aWa (wpAny_alloc (aWe (aWe h)))
def aE6(f:Nat->List Int):Nat->List (List Int)
 | 0=>[]
 | n+1=>if f n∈aE6 f n then aE6 f n else f n :: aE6 f n
theorem vV(f:Nat->List Int):∀ n,(aE6 f n).length<=n
 | 0=>aWl _
 | n+1=>by
  have:=vV f n
  unfold aE6
  split
  ·omega
  ·rw [aWc];omega
theorem aIq{I:Addr}{fp wr:List Addr}{G:Array GenState->Array GenState->Prop}{n:Nat}{L:Addr->Prop}{P:Nat->Value->Prop}{St:Nat->Shared->Prop}{R:Result->Shared->Prop}(W:WalksS prog w A.in1 I fp wr G n P St)(hu:A.in1.units < cLine){S:Addr}(hSf:S∉fp)(hwL:∀ b,L b->b∉S :: wr)(ky:Nat->List Int)(hb:n<=76) :
  ∀ (k i:Nat) (s:Shared),n - i=k->i<=n->St i s->SetK prog w s.heap S (aE6 ky i) L->(∀ i v,i < n->P i v->∃ a,v=.ref a/\L a/\IK prog w s.heap (ky i) a) ->
   (∀ s',Moved (S :: wr) G s s'->SetK prog w s'.heap S (aE6 ky n) L->R (.ok (.ret .none)) s') ->
   codeAny (model prog w) A (.builtin "set.update.loop" ⟨[.ref S,.ref I],[]⟩) R s:=by
 have hSw:S∉wr:=fun z=>hSf (W.sub _ z)
 have sub:∀ b∈wr,b∈S :: wr:=fun b z=>.tail _ z
 have low:∀ b,L b\/b=S->b∉wr:=fun b z y=>by
  rcases z with z | z
  ·exact hwL b z (.tail _ y)
  ·exact hSw (z▸y)
 intro k
 induction k with
 | zero =>
  intro i s hk hi st K _ q
  cases (show i=n by omega)
  refine bAs bAe ?_
  rw [bBo aY7 _]
  unfold Builtin.«set.update.loop»
  refine aWa (W.done s _ _ st fun s' mv=>?_)
  exact aWe (q s' (mv.mono sub) (K.at fun b o hb e=>mv.heap b o (low b hb) e))
 | succ k ih =>
  intro i s hk hi st K kt q
  have lt:i < n:=by omega
  refine bAs bAe ?_
  rw [bBo aY7 _]
  unfold Builtin.«set.update.loop»
  refine aWa (W.item i s _ _ lt st fun v s' hP st' mv=>?_)
  obtain ⟨a,rfl,aL,hka⟩:=kt i v lt hP
  have K':=K.at (h':=s'.heap) fun b o hb e=>mv.heap b o (low b hb) e
  have hka':=IK.keep (h':=s'.heap) hka fun o e=>mv.heap a o (low a (.inl aL)) e
  dsimp only
  refine aWa (aYj ?_)
  unfold setAdd
  refine aYj (aWa (wpAny_pyHash_tuple hu hka' ?_))
  refine kL (s:={ s' with toks:=s'.toks+((ky i).length+1) }) K' hu hka' aL (by have:=vV ky i;omega) fun b h' sb K2=>?_
  have mv2:Moved (S :: wr) G s { s' with heap:=h',toks:=s'.toks+((ky i).length+1) }:=(mv.mono sub).then_heap (aYs _ _) fun b o hb e=>by
   rw [sb.2 b (fun z=>hb (by rw [z];exact .head _))]
   exact e
  refine aWe ⟨plainId_quiet aY7 _,ih (i+1) _ (by omega) lt (W.frame _ s' _ _ st' (aYs _ _) fun b hb o e=>?_) K2 (fun j v hj hv=>?_) fun s2 m2 K3=>?_⟩
  ·rw [sb.2 b (fun z=>hSf (by rw [<- z];exact hb))]
   exact e
  ·obtain ⟨c,rfl,cL,hkc⟩:=kt j v hj hv
   exact ⟨c,rfl,cL,IK.keep hkc fun o e=>mv2.heap c o (hwL c cL) e⟩
  ·exact q s2 (Moved.trans W.gtrans mv2 m2) K3
theorem aGq{x:Value}{Q:Value->Shared->Prop}
  (h:wpAny (model prog w) A.in1.in1 (Builtin.«set.__init__» ⟨[.ref s.heap.objs.size,x],[]⟩)
   (fun fin s'=>match fin with | .done f=>wants (fun r s₂=>r=.none/\Q (.ref s.heap.objs.size) s₂) E (.ok f) s' | .again c'=>c'.quiet=true/\codeAny (model prog w) A.in1 c' (wants (fun r s₂=>r=.none/\Q (.ref s.heap.objs.size) s₂) E) s')
   (fun e s'=>wants (fun r s₂=>r=.none/\Q (.ref s.heap.objs.size) s₂) E (.error e) s') { s with heap:=s.heap.push (aC1 w) }) :
  wpAny (model prog w) A (call (.type "set") [x]) Q E s:=by
 have ft:=F.called_set
 obtain ⟨c,tl,hmro⟩:=ft.mro
 have hmade:=ft.made
 have hsub:=ft.sub
 have h1:=ft.notType
 have h2:=ft.canCreate
 have hct:=F.typeCall_set_1 x
 refine wpAny_call (codeAny_of_tree (aWe ⟨Code.quiet_builtin _ (by decide +kernel),bAs F.entry_type_call ?_⟩))
 rw [Around.under_plain (weight_type_call_type "set" [x] []) rfl]
 repeat (any_goals (first | assumption | wp_step))
 refine bBz (aHg x (E:=E) (Q₁:=fun obj s₁=>obj=.ref s.heap.objs.size/\s₁={ s with heap:=s.heap.push (aC1 w) }) ⟨rfl,rfl⟩) fun r s₁ hr=>?_
 cases r with
 | error e=>exact hr
 | ok fl =>
  cases fl with
  | ret obj =>
   obtain ⟨rfl,rfl⟩:=hr
   have hT:Shared.TypeIs { s with heap:=s.heap.push (aC1 w) } (.ref s.heap.objs.size) "set":=⟨_,aWw _ rfl,rfl⟩
   have hli:=ft.init.lookup
   have hbi:=ft.init.bind (.ref s.heap.objs.size)
   repeat (any_goals (first | assumption | wp_step))
   refine bBz (bBk ft.init.plain F.entry_set_init (check_set_init_1 hT h)) fun r₂ s₂ hr₂=>?_
   cases r₂ with
   | error e=>exact hr₂
   | ok f2 =>
    cases f2 with
    | ret u =>
     obtain ⟨rfl,hq⟩:=hr₂
     repeat (any_goals (first | assumption | wp_step))
    | _=>exact hr₂.elim
  | _=>exact hr.elim
theorem aJu{l:Addr}{items:Array Value}(hh:A.handled=none)(hu:A.units+10 < cLine)(ky:Nat->List Int)(hl:s.heap.IsList l items)(hz:items.size<=76)
  {L:Addr->Prop} (hL:∀ a,L a->a < s.heap.objs.size) (hk:∀ i v,items[i]? = some v->∃ a,v=.ref a/\L a/\IK prog w s.heap (ky i) a)
  {Q:Value->Shared->Prop} (q:∀ h' tk,SetK prog w h' s.heap.objs.size (aE6 ky items.size) L->(∀ b o,s.heap.get? b=some o->h'.get? b=some o)->s.toks<=tk->Q (.ref s.heap.objs.size) { s with heap:=h',toks:=tk }) :
  wpAny (model prog w) A (call (.type "set") [.ref l]) Q E s:=by
 refine aGq ?_
 obtain ⟨ol,hol,hcl,nl,hdl⟩:=id hl
 have hS:(s.heap.push (aC1 w)).get? s.heap.objs.size=some (aC1 w):=aWw _ rfl
 have hl1:(s.heap.push (aC1 w)).IsList l items:=⟨ol,aWf _ hol,hcl,nl,hdl⟩
 have hls:l < s.heap.objs.size:=aWi hol
 obtain ⟨ocls,odict,odata,oslots⟩:=ol
 simp only at hcl hdl
 subst hcl hdl
 have hol':(s.heap.push (aC1 w)).get? l=some { cls:=.type "list",dict:=odict,data:=.seq items nl,slots:=oslots }:=aWf _ hol
 have a1:=F.sub_list_set
 have a2:=F.sub_list_frozenset
 have a3:(Value.type "list" == Value.type "dict")=false:=by decide
 unfold aC1 at hS hol' hl1 ⊢
 unfold Builtin.«set.__init__» noKeywords Builtin.Frozenset.updateFrom
 generalize hPI:pyIter=PI
 wp_walk
 subst hPI
 refine bB6 hl1 (aWa (wpAny_runValue ?_))
 generalize hO:({ cls:=Value.type "set",data:=Data.set #[] 0 (SetTable.fresh 0 0 (!w.params.followText "set-order")) }:Obj)=O at *
 have eO:O=aC1 w:=by rw [<- hO];rfl
 have sz:(s.heap.push O).objs.size=s.heap.objs.size+1:=by rw [Heap.size_push]
 have kp:∀ b o,s.heap.get? b=some o->((s.heap.push O).push { cls:=.type "list_iterator",data:=.fields #[.ref l,.int 0 0] }).get? b=some o:=fun b o e=>aWf _ (aWf _ e)
 have nI:∀ b,b<=s.heap.objs.size->b≠(s.heap.push O).objs.size:=fun b z y=>by rw [sz] at y;omega
 refine aIq (A:=A.in1.in1) (L:=L) ((Walks.list (A:=A.in1.in1.in1) hh (s.heap.push O).objs.size l (nI l (aZr hls)) items).toS) (show A.units+1+1+1 < cLine by omega) (S:=s.heap.objs.size) (fun z=>?_) (fun b hb z=>?_) ky hz items.size 0 _ rfl (aXo _) ⟨⟨_,aWw _ rfl,rfl,rfl⟩,hl1.push _⟩ (SetK.new (by rw [<- eO];exact aWf _ hS)) (fun i v _ hv=>?_) fun s' mv T=>?_
 ·rcases aWh.mp z with z | z
  ·exact nI _ (aWl _) z
  ·rw [aXd.mp z] at hls
   exact aXn _ hls
 ·have lb:=hL b hb
  rcases aWh.mp z with z | z
  ·rw [z] at lb
   exact aXn _ lb
  ·exact nI b (aZr lb) (aXd.mp z)
 ·obtain ⟨a,rfl,la,ka⟩:=hk i v hv
  exact ⟨a,rfl,la,ka.keep fun o e=>kp a o e⟩
 ·refine aWe (aWe ⟨rfl,?_⟩)
  obtain ⟨h',g',d',tk',os'⟩:=s'
  cases (show g'=s.gens from mv.gens)
  cases (show d'=s.drawn from mv.drawn)
  cases (show os'=s.os from mv.os)
  refine q h' tk' T (fun b o e=>mv.heap b o (fun z=>?_) (kp b o e)) mv.toks
  have lb:=aWi e
  rcases aWh.mp z with z | z
  ·rw [z] at lb
   exact aXn _ lb
  ·exact nI b (aZr lb) (aXd.mp z)
end
theorem sl_next:Slot "set_iterator" "__next__" "set_iterator.__next__" :=
 .of (owner:="set_iterator") (n:="__next__") (by rw [typeLookup_type,builtinLookup_eq_fast];kernel_rfl) (by decide +kernel) (by decide +kernel) (by decide +kernel) (by first | exact .inl (by decide +kernel) | exact .inr (by decide +kernel)) (by rw [isSubtype_type];kernel_rfl)
theorem aGc:Slot "set_iterator" "__iter__" "set_iterator.__iter__" :=
 .of (owner:="set_iterator") (n:="__iter__") (by rw [typeLookup_type,builtinLookup_eq_fast];kernel_rfl) (by decide +kernel) (by decide +kernel) (by decide +kernel) (by first | exact .inl (by decide +kernel) | exact .inr (by decide +kernel)) (by rw [isSubtype_type];kernel_rfl)
theorem aKi:Manifest.owners.lookup (String.ofList ['r','o','t','a','r','e','t','i','_','t','e','s'].reverse)=some Manifest.sig_set_iterator:=by kernel_rfl
theorem aD7:entryFor table "set_iterator.__next__" = some Builtin.«set_iterator.__next__»:=entryFor_of_tree (by kernel_rfl)
theorem aNq:entryFor table "set_iterator.__iter__" = some Builtin.«dict_keyiterator.__iter__»:=entryFor_alias (id':="dict_keyiterator.__iter__") (by kernel_rfl) rfl (by decide +kernel) (by kernel_rfl)
theorem aI4:entryFor table "set.__iter__" = some Builtin.«frozenset.__iter__»:=entryFor_alias (id':="frozenset.__iter__") (by kernel_rfl) rfl (by decide +kernel) (by kernel_rfl)
theorem aDt(a:Value):argsOk "set_iterator.__next__" ⟨[a],[]⟩:=by
 unfold argsOk
 rw [signature?_of (id:="set_iterator.__next__") (n:=['_','_','t','x','e','n','_','_']) (o:=['r','o','t','a','r','e','t','i','_','t','e','s']) (by kernel_rfl) aKi]
 kernel_rfl
theorem aOp(a:Value):argsOk "set_iterator.__iter__" ⟨[a],[]⟩:=by
 unfold argsOk
 rw [signature?_of (id:="set_iterator.__iter__") (n:=['_','_','r','e','t','i','_','_']) (o:=['r','o','t','a','r','e','t','i','_','t','e','s']) (by kernel_rfl) aKi]
 kernel_rfl
theorem aE4{α:Type}(next:Nat->Nat):∀ (fuel k:Nat) (left:List α) (out:Array α),fuel=left.length->(pickOrder.go next fuel k left out).toList.Perm (out.toList++left)
 | 0,k,left,out,h=>by
  have:left=[]:=aX8.mp h.symm
  subst this
  unfold pickOrder.go
  rw [aYk]
 | fuel+1,k,left,out,h=>by
  have hl:next k % left.length < left.length:=bC2 _ (by omega)
  unfold pickOrder.go
  rw [aWd hl]
  dsimp only
  refine (aE4 next fuel (k+1) _ _ (by rw [List.length_eraseIdx_of_lt hl];omega)).trans ?_
  rw [Array.toList_push,aY9]
  refine List.Perm.append_left _ ?_
  rw [List.eraseIdx_eq_take_drop_succ]
  show (left[next k % left.length] :: (left.take (next k % left.length)++left.drop (next k % left.length+1))).Perm left
  refine (List.perm_middle (l₁:=left.take (next k % left.length))).symm.trans ?_
  rw [List.getElem_cons_drop,bBb]
theorem aHe{α:Type}(next:Nat->Nat)(xs:Array α):(pickOrder next xs).toList.Perm xs.toList:=by
 have:=aE4 next xs.size 0 xs.toList #[] (aWr ..).symm
 exact this
def aCn(w:World)(S:Addr)(ep:Nat)(es:Array (Int×Value)):Array (Int×Value):=if w.params.followText "set-order" = true then pickOrder (w.params.setOrder S ep) es else es
theorem aBa(w:World)(S:Addr)(ep:Nat)(es:Array (Int×Value)):(aCn w S ep es).toList.Perm es.toList:=by
 unfold aCn
 split
 ·exact aHe _ _
 ·exact bB5 _
theorem uB(w:World)(S:Addr)(ep:Nat)(es:Array (Int×Value)):(aCn w S ep es).size=es.size:=by
 have:=(aBa w S ep es).length_eq
 rw [aWr,aWr] at this
 exact this
def slotAt(w:World)(t:SetTable)(i:Nat):Nat:=if w.params.followText "set-order" = true then 0 else match i with
 | 0=>0
 | i+1=>t.place.getD i 0+1
def IterAt(w:World)(h:Heap)(I S:Addr)(t:SetTable)(n ep i:Nat):Prop:=∃ o,h.get? I=some o/\o.cls=.type "set_iterator"/\∃ u0 u1 u2 u3,o.data=.fields #[.int (slotAt w t i:Nat) u0,.int (i:Nat) u1,.ref S,.int (n:Nat) u2,.int (ep:Nat) u3]
structure SetW(w:World)(h:Heap)(S:Addr)(hs:List Int)(o:Obj)(es:Array (Int×Value))(ep:Nat)(t:SetTable):Prop where
 g:h.get? S=some o
 x:o.ExactSet
 d:o.data=.set es ep t
 pl:t.plain=true
 ld:t.led=!w.params.followText "set-order"
 tb:Tab t hs
 sz:es.size=hs.length
theorem SetR.w{prog:Program}{w:World}{h:Heap}{S:Addr}{ks:List (List Int)}{o:Obj}{es:Array (Int×Value)}{ep:Nat}{t:SetTable}(R:SetR prog w h S ks o es ep t):SetW w h S (ks.map (hK prog w)) o es ep t:=⟨R.g,R.x,R.d,R.pl,R.ld,R.tb,by rw [aWb];exact R.sz⟩
theorem SetW.fits{w:World}{h:Heap}{S:Addr}{hs:List Int}{o:Obj}{es:Array (Int×Value)}{ep:Nat}{t:SetTable}(R:SetW w h S hs o es ep t):t.fits es.size=true:=by
 unfold SetTable.fits SetTable.fill
 have a:=R.tb.s
 have b:=R.tb.z
 rw [R.tb.d,a,R.sz]
 simpa using b
section
variable {prog:Program}{w:World}{A:Around}{E:Value->Shared->Prop}{s:Shared}{S I:Addr}{hs:List Int}{o:Obj}{es:Array (Int×Value)}{ep:Nat}{t:SetTable}
theorem IterAt.ty{n i:Nat}(h:IterAt w s.heap I S t n ep i):s.TypeIs (.ref I) "set_iterator":=by
 obtain ⟨o,h1,h2,_⟩:=h
 exact ⟨o,h1,h2⟩
theorem SetW.ty(R:SetW w s.heap S hs o es ep t):s.TypeIs (.ref S) "set":=⟨o,R.g,R.x.1⟩
theorem aKb{Q:Value->Shared->Prop}(R:SetW w s.heap S hs o es ep t)(q:Q (.ref s.heap.objs.size) { s with heap:=s.heap.push { cls:=.type "set_iterator",data:=.fields #[rawInt 0,rawInt 0,.ref S,rawInt es.size,rawInt ep] } }):wpAny (model prog w) A (pyIter (.ref S)) Q E s:=by
 have hf:=R.fits
 refine bB8 R.ty F.slot_set_iter (aYr F.slot_set_iter R.ty aI4 ?_ (F.args_set_iter_1 _))
 unfold Builtin.«frozenset.__iter__»
 refine aWa (m:=Builtin.Frozenset.slot0 "__iter__" _) (aWe ?_)
 unfold Builtin.Frozenset.sizeOf setEntries
 refine aWa (aWa (aWa (aXv R.g R.d hf (aWe (aWe ?_)))))
 dsimp only
 unfold setDrawn
 refine aWa (aWa (aXv R.g R.d hf ?_))
 dsimp only
 unfold setsByText
 refine aWa (aWa (bAg (aWe (aWe ?_))))
 generalize hg:(!(model prog w).w.params.followText "set-order" && _)=b
 have hg:(!w.params.followText "set-order" && (!t.plain && decide (es.size > 1)))=b:=hg
 have:b=false:=by
  rw [<- hg,R.pl]
  simp
 subst this
 rw [aWn (by decide)]
 refine aWa (aWe ?_)
 unfold setEpoch
 refine aWa (aWa (aXv R.g R.d hf (aWe ?_)))
 dsimp only
 exact aWa (aYu (aWe ⟨_,rfl,_,_,⟨_,aWw _ rfl,rfl⟩,sl_next.lookup,q⟩))
theorem below_at(R:SetW w s.heap S hs o es ep t)(hb:w.params.followText "set-order" = false){i:Nat}(hi:i<=t.place.size):SetTable.below t.place (slotAt w t i)=i:=by
 obtain ⟨b1,b2,b3⟩:=nF R.tb.r (slotAt w t i)
 unfold slotAt at b1 b2 b3 ⊢
 rw [aWn (by rw [hb];decide)] at b1 b2 b3 ⊢
 cases i with
 | zero =>
  dsimp only at b1 b2 b3 ⊢
  rcases Nat.eq_zero_or_pos (SetTable.below t.place 0) with z | z
  ·exact z
  ·have:=b2 0 _ z (aWj (by omega))
   omega
 | succ i =>
  dsimp only at b1 b2 b3 ⊢
  have il:i < t.place.size:=hi
  have g:t.place.getD i 0=t.place[i]:=by simp [Array.getD,il]
  rw [g] at b1 b2 b3 ⊢
  rcases aZq (SetTable.below t.place (t.place[i]+1)) (i+1) with z | z | z
  ·have:=b3 i _ (by omega) (aWj il)
   omega
  ·exact z
  ·have l1:i+1 < t.place.size:=by omega
   have a:=b2 (i+1) _ z (aWj l1)
   have b:=R.tb.r i (i+1) _ _ (bBe _) (aWj il) (aWj l1)
   omega
theorem aFn{Q:Option (Value×Nat)->Shared->Prop}(R:SetW w s.heap S hs o es ep t){i:Nat}(hi:i<=es.size)(q:Q (((aCn w S ep es)[i]?).map fun e=>(e.2,slotAt w t (i+1))) s):wpAny (model prog w) A (setNext S (slotAt w t i) i ep) Q E s:=by
 have hf:=R.fits
 have psz:t.place.size=es.size:=by rw [R.tb.s,R.sz]
 unfold setNext
 refine aWa (aXv R.g R.d hf ?_)
 dsimp only
 unfold setsByText
 refine aWa (aWa (bAg (aWe ?_)))
 show wpAny (model prog w) A (if w.params.followText "set-order" = true then _ else _) Q E s
 cases hb:w.params.followText "set-order" with
 | true =>
  rw [aWm rfl,aWn (by simp)]
  unfold setWalk
  refine aWa (aWa (aXv R.g R.d hf ?_))
  dsimp only
  unfold setsByText
  refine aWa (aWa (bAg (aWe ?_)))
  show wpAny (model prog w) A (if w.params.followText "set-order" = true then _ else _) _ _ _
  rw [hb,aWm rfl]
  refine aWa (bAg (aWe (aWe ?_)))
  have e:aCn w S ep es=pickOrder (w.params.setOrder S ep) es:=by unfold aCn;rw [aWm hb]
  have e0:∀ i,slotAt w t i=0:=fun i=>by unfold slotAt;rw [aWm hb]
  rw [e,e0] at q
  rw [e0]
  exact q
 | false =>
  rw [aWn (by decide)]
  have e:aCn w S ep es=es:=by unfold aCn;rw [aWn (by rw [hb];decide)]
  rw [e] at q
  refine wpAny_ite_split (fun h=>?_) (fun _=>?_)
  ·have h:(!t.plain && decide (es.size > 1))=true:=h
   rw [R.pl] at h
   simp at h
  ·have led:t.led=true:=by rw [R.ld,hb];rfl
   refine aWa ?_
   show wpAny (model prog w) A (if (!t.led && !es.isEmpty)=true then unsupported "set:maker-not-led" else pure ()) _ E s
   rw [led,aWn (by simp)]
   refine aWe (aWe ?_)
   rw [below_at R hb (by rw [psz];exact hi)]
   rcases aYh i es.size with z | z
   ·have pl:i < t.place.size:=by rw [psz];exact z
    have sa:slotAt w t (i+1)=t.place[i]+1:=by
     unfold slotAt
     rw [aWn (by rw [hb];decide)]
     simp [Array.getD,pl]
    rw [aWj z,sa] at q
    rw [aWj z,aWj pl]
    exact q
   ·rw [aXr z] at q
    rw [aXr z]
    exact q
theorem aM1{Q:Option Value->Shared->Prop}{i:Nat}(hit:IterAt w s.heap I S t es.size ep i)(R:SetW w s.heap S hs o es ep t)(lt:i < es.size){x:Int×Value}(hx:(aCn w S ep es)[i]? = some x)
  (q:∀ h',IterAt w h' I S t es.size ep (i+1)->Heap.SameBut I s.heap h'->Q (some x.2) { s with heap:=h' }):wpAny (model prog w) A (pyNext (.ref I)) Q E s:=by
 have ty:=hit.ty
 have hf:=R.fits
 obtain ⟨oI,ho,hc,u0,u1,u2,u3,hd⟩:=hit
 unfold pyNext
 refine aWa (bCh (aY5 (name:=Str.ofString "__next__") ty sl_next (aYr sl_next ty aD7 ?_ (aDt _))))
 unfold Builtin.«set_iterator.__next__»
 refine aWa (m:=slotArgs "__next__" 0 _) (aWe ?_)
 refine aWa (bB3 ho hd ?_)
 dsimp only
 unfold setEntries
 refine aWa (aWa (aXv R.g R.d hf (aWe ?_)))
 dsimp only
 rw [aWn (by simp)]
 refine aWa ?_
 rw [aX7,aX7,aX7]
 refine aFn R (aZr lt) ?_
 rw [hx]
 dsimp only [Option.map]
 have g1:=aYy (Obj.mapFields (·.setIfInBounds 0 (rawInt (slotAt w t (i+1):Nat)))) ho (bA8 (aZi hd _))
 refine aWa (bA3 ho hd (by simp) ?_)
 have d1:=aZi hd (·.setIfInBounds 0 (rawInt (slotAt w t (i+1):Nat)))
 refine aWa (bA3 g1 d1 (by simp) ?_)
 have g2:=aYy (Obj.mapFields (·.setIfInBounds 1 (rawInt ((i:Int)+1)))) g1 (bA8 (aZi d1 _))
 have d2:=aZi d1 (·.setIfInBounds 1 (rawInt ((i:Int)+1)))
 refine aWe ⟨_,rfl,aWe (q _ ⟨_,g2,(bB9 ..).trans ((bB9 ..).trans hc),0,0,u2,u3,d2.trans (by simp [rawInt])⟩ ((aYf ..).trans (aYf ..)))⟩
theorem aRo{Q:Option Value->Shared->Prop}(hh:A.handled=none)(hit:IterAt w s.heap I S t es.size ep es.size)(R:SetW w s.heap S hs o es ep t)(q:∀ h',Heap.ExtBut I s.heap h'->Q none { s with heap:=h' }):wpAny (model prog w) A (pyNext (.ref I)) Q E s:=by
 have ty:=hit.ty
 have hf:=R.fits
 obtain ⟨oI,ho,hc,u0,u1,u2,u3,hd⟩:=hit
 unfold pyNext
 refine aWa (bCh (aY5 (name:=Str.ofString "__next__") ty sl_next (aYr sl_next ty aD7 ?_ (aDt _))))
 unfold Builtin.«set_iterator.__next__»
 refine aWa (m:=slotArgs "__next__" 0 _) (aWe ?_)
 refine aWa (bB3 ho hd ?_)
 dsimp only
 unfold setEntries
 refine aWa (aWa (aXv R.g R.d hf (aWe ?_)))
 dsimp only
 rw [aWn (by simp)]
 refine aWa ?_
 rw [aX7,aX7,aX7]
 refine aFn R (aWl _) ?_
 rw [aXr (by rw [uB];exact aWl _)]
 dsimp only [Option.map]
 refine aWa (m:=setField (.ref I) 2 .none) (bA3 ho hd (by simp) ?_)
 refine aWa (m:=newExc (.type "StopIteration") []) ?_
 simp only [newExc,newTuple]
 refine aWa (aYu (aWa (m:=firstArgMember _ _) (bBt (a:=Value.none) (by first | rfl | (simp only [firstArgMember];rfl)) ?_)) (by size_fits))
 refine aYu ?_ (by size_fits)
 simp only [raiseNew]
 refine aWa (wpAny_handled ?_)
 rw [show A.in1.handled=none from hh]
 refine aWa (aWe (wpAny_throw ?_))
 refine aWa (bAf (T:="StopIteration") (b:=true) ⟨_,aWw _ rfl,rfl⟩ isSubtype_stop ?_)
 exact aWe (q _ (((aYf ..).extBut.push _).push _))
theorem aKa{r:Addr}{Q:Bool->Shared->Prop}(hT:s.TypeIs (.ref r) "set")(h:Q false s):wpAny (model prog w) A (Builtin.List.listLengthHint (.ref r)) Q E s:=by
 unfold Builtin.List.listLengthHint
 refine aWa (bAr hT F.slot_set_len.lookup ?_)
 generalize hid:("set.__len__" : String)=id0
 wp_delta
 rw [show splitId id0=some ("set","__len__") from by subst hid;decide +kernel]
 subst hid
 refine aWa (bAf (T:="set") (b:=true) hT sub_set_self ?_)
 refine wpAny_ite_split (fun hab=>absurd hab (by decide)) (fun _=>?_)
 refine wpAny_ite_split (fun _=>?_) (fun hab=>absurd (by decide +kernel) hab)
 exact aWa (wpAny_typeOf hT (aWe h))
theorem aNw{Q:Value->Shared->Prop}{n i:Nat}(hit:IterAt w s.heap I S t n ep i)(h:Q (.ref I) s):wpAny (model prog w) A (pyIter (.ref I)) Q E s:=by
 refine bB8 hit.ty aGc (aYr aGc hit.ty aNq ?_ (aOp _))
 show wpAny _ _ (ret (.ref I)) _ _ s
 exact aWe ⟨_,rfl,"set_iterator",_,hit.ty,sl_next.lookup,h⟩
theorem aHd(hh:A.handled=none)(hne:S≠I) :
  Walks prog w A I [I,S] [I] es.size (fun i v=>∃ e,(aCn w S ep es)[i]? = some e/\v=e.2) (fun i h=>IterAt w h I S t es.size ep i/\∃ o,SetW w h S hs o es ep t) where
 sub:=fun b hb=>aWh.mpr (.inl (aXd.mp hb))
 frame:=fun i h h' st hk=>by
  obtain ⟨⟨oI,h1,h2,h3⟩,o,R⟩:=st
  exact ⟨⟨oI,hk I (by simp) oI h1,h2,h3⟩,o,⟨hk S (by simp) o R.g,R.x,R.d,R.pl,R.ld,R.tb,R.sz⟩⟩
 item:=fun i s Q E hi st hQ=>by
  obtain ⟨st1,o,R⟩:=st
  have ol:i < (aCn w S ep es).size:=by rw [uB];exact hi
  refine aM1 st1 R hi (aWj ol) fun h' hit' sb=>hQ _ h' s.toks ⟨_,aWj ol,rfl⟩ ⟨hit',o,⟨(sb.2 S hne).trans R.g,R.x,R.d,R.pl,R.ld,R.tb,R.sz⟩⟩ fun b o hb e=>(sb.2 b fun z=>hb (by simp [z])).trans e
 done:=fun s Q E st hQ=>by
  obtain ⟨st1,o,R⟩:=st
  exact aRo hh st1 R fun h' he'=>hQ h' s.toks fun b o hb e=>he' b o (fun z=>hb (by simp [z])) e
 self:=fun _ _ _ _ st hQ=>aNw st.1 hQ
theorem aOk:PySem.W.KdlSrc prog w "set" S S es.size (fun i v=>∃ e,(aCn w S ep es)[i]? = some e/\v=e.2) (fun h=>∃ o,SetW w h S hs o es ep t) where
 type:=fun s ⟨o,R⟩=>R.ty
 there:=fun h ⟨o,R⟩=>⟨aWi R.g,aWi R.g⟩
 keep:=fun h h' ⟨o,R⟩ hk=>⟨o,⟨hk S (.inl rfl) o R.g,R.x,R.d,R.pl,R.ld,R.tb,R.sz⟩⟩
 notList:=by decide
 notTuple:=by decide
 hint:=fun A E s Q ⟨o,R⟩ hq=>aKa R.ty hq
 iter:=fun A s hh ⟨o,R⟩=>⟨_,_,(fun E Q hq=>aKb R hq),aHd (hs:=hs) (t:=t) hh (aW2 (aWi R.g)),⟨_,aWw _ rfl,rfl,0,0,0,0,by
  have:slotAt w t 0=0:=by unfold slotAt;split<;>rfl
  rw [this]
  rfl⟩,o,⟨aWf _ R.g,R.x,R.d,R.pl,R.ld,R.tb,R.sz⟩⟩
end
end HS
namespace L2
open PySem PySem.Spec PyProof.Rows
theorem aDi{α β:Type}(f:α->β){a b:List β}(h:a.Perm b):∀ m:List α,m.map f=b->∃ l:List α,l.Perm m/\l.map f=a:=by
 induction h with
 | nil =>
  intro m e
  rw [List.map_eq_nil_iff.mp e]
  exact ⟨[],bB5 _,rfl⟩
 | cons x _ ih =>
  intro m e
  cases m with
  | nil=>cases e
  | cons y m =>
   injection e with e1 e2
   obtain ⟨l,p,q⟩:=ih m e2
   exact ⟨y :: l,p.cons y,by rw [aWo,q,e1]⟩
 | swap x y l =>
  intro m e
  match m,e with
  | p :: q :: m,e =>
   injection e with e1 e2
   injection e2 with e2 e3
   exact ⟨q :: p :: m,List.Perm.swap p q m,by rw [aWo,aWo,e1,e2,e3]⟩
 | trans _ _ ih1 ih2 =>
  intro m e
  obtain ⟨l,p,q⟩:=ih2 m e
  obtain ⟨l2,p2,q2⟩:=ih1 l q
  exact ⟨l2,p2.trans p,q2⟩
theorem vH{α:Type}[DecidableEq α]:∀ {l m:List α},l.Nodup->m.Nodup->(∀ x,x∈l↔x∈m)->l.Perm m
 | [],m,_,_,h=>by
  cases m with
  | nil=>exact bB5 _
  | cons x m=>exact absurd ((h x).mpr (.head _)) (aX4)
 | x :: l,m,h1,h2,h=>by
  obtain ⟨n1,n2⟩:=aYd.mp h1
  have hx:=(h x).mp (.head _)
  have p:=bBn hx
  refine (List.Perm.cons x (vH n2 (aZ2 (List.erase_sublist) h2) fun y=>?_)).trans p.symm
  by_cases e:y=x
  ·subst e
   constructor
   ·exact fun z=>absurd z n1
   ·exact fun z=>absurd z (by
     have:=p.nodup_iff.mp h2
     exact (aYd.mp this).1)
  ·rw [bBl e,<- h y,aWh]
   exact ⟨fun z=>.inr z,fun z=>z.resolve_left e⟩
theorem aEo{f:Nat->List Int}{k:List Int}:∀ {n:Nat},k∈HS.aE6 f n↔∃ i,i < n/\f i=k
 | 0=>⟨(fun h=>nomatch h),fun ⟨i,h,_⟩=>absurd h (bAu _)⟩
 | n+1=>by
  have ih:=aEo (f:=f) (k:=k) (n:=n)
  unfold HS.aE6
  constructor
  ·intro h
   split at h
   ·obtain ⟨i,h1,h2⟩:=ih.mp h
    exact ⟨i,bA0 h1,h2⟩
   ·rcases aWh.mp h with z | z
    ·exact ⟨n,bBe _,z.symm⟩
    ·obtain ⟨i,h1,h2⟩:=ih.mp z
     exact ⟨i,bA0 h1,h2⟩
  ·rintro ⟨i,h1,h2⟩
   rcases aYh i n with z | z
   ·have:=ih.mpr ⟨i,z,h2⟩
    split
    ·exact this
    ·exact .tail _ this
   ·have:i=n:=by omega
    subst this
    split
    ·rename_i y
     rw [<- h2];exact y
    ·rw [h2];exact .head _
section
variable {X:Cx}
def vOf(v:Value):V:=match v with
 | .ref b=>.ref b
 | _=>.non
theorem aNm:bootBuiltins "set" = some (.type "set"):=by decide +kernel
theorem aCi:bootBuiltins "sorted" = some (.builtin "sorted"):=by decide +kernel
def tSS(K:aV9)(te:TE):TE:=fun σ H Q=>te σ H fun x H1=>∃ a xs ks,x=.ref a/\SqL K H1 a xs/\SRT.aKx H1 xs ks/\ks.length < 64 /\
 ∀ ts ks2 D q,ks2.Nodup->(∀ k,k∈ks2↔k∈ks)->SRT.aKx H1 ts ks2->H1 D=none->SRT.Pm ts.length q->SRT.Sd (SRT.aIr ks2) q ts.length->Q (.ref D) (upd H1 D (.lst (q.toList.map fun i=>ts.getD i .non)))
theorem zR:∀ {xs:List V} {us:List Value},Vals xs us->∀ (i:Nat) v,us[i]? = some v->∃ x,xs[i]? = some x/\RelV x v
 | _,_,.nil,i,v,h=>by simp at h
 | _,_,.cons r t,0,v,h=>by
  simp at h
  exact ⟨_,rfl,h▸r⟩
 | _,_,.cons r t,i+1,v,h=>zR t i v h
theorem aMk{P:Program}{w:World}{H:Hp}{h:Heap}{b:Addr}{k:List Int}(ok:HOk P w H h)(e:H b=some (.tup (k.map V.int))):HS.IK P w h k b:=by
 obtain ⟨_,its,rv,o,ho,hc,n,hd⟩:=(show ObjOk P w H h b (.tup (k.map V.int)) from ok b _ e)
 refine ⟨o,its.toArray,n,ho,hc,hd,?_⟩
 rw [aYw]
 have key:∀ {ns:List Int} {vs:List Value},IntsAre vs ns->ItemsAre (intKind P w) ns vs:=by
  intro ns vs q
  induction q with
  | nil=>exact .nil
  | cons i t _ ih=>exact .cons (intKind_is _ _ _ _) ih
 exact key (intsAre_of rv)
theorem aJ6{pins:List (Addr×Obj)}{s1:Shared}{σ:St}{H1:Hp}{a:Addr}{xs:List V}{ks:List (List Int)}{A:Around}{E:Value->Shared->Prop}{Q:Value->Shared->Prop}(I1:Inv X pins σ H1 s1)(hh:A.handled=none)(hu:A.units+10 < cLine)(hq:SqL X.K H1 a xs)(hr:SRT.aKx H1 xs ks)(h64:ks.length < 64)
  (q:∀ h' tk,HS.SetK X.prog X.w h' s1.heap.objs.size (HS.aE6 (fun i=>ks.getD i []) ks.length) (fun b=>∃ k:List Int,H1 b=some (.tup (k.map V.int)))->(∀ b o,s1.heap.get? b=some o->h'.get? b=some o)->Q (.ref s1.heap.objs.size) { s1 with heap:=h',toks:=tk }) :
  wpAny (model X.prog X.w) A (call (.type "set") [.ref a]) Q E s1:=by
 obtain ⟨its,rv,pl,_⟩:=I1.list hq
 have hlen:=rv.length
 have sz:its.toArray.size=ks.length:=by rw [aWk,<- hlen,hr.1]
 refine HS.aJu (prog:=X.prog) (w:=X.w) hh hu (fun i=>ks.getD i []) pl.isList (by rw [sz];omega) (L:=fun b=>∃ k:List Int,H1 b=some (.tup (k.map V.int))) (fun b ⟨k,hb⟩=>?_) (fun i v hv=>?_) fun h' tk T kp ht=>?_
 ·obtain ⟨o,_,_,ho,_⟩:=aMk I1.hok hb
  exact aWi ho
 ·rw [bBa] at hv
  obtain ⟨x,hx,rx⟩:=zR rv i v hv
  have il:i < ks.length:=by rw [<- hr.1];exact (aXa.mp hx).1
  obtain ⟨⟨b,eb,hb⟩,_⟩:=hr.2 i x ks[i] hx (aWd il)
  subst eb
  refine ⟨b,rx,⟨_,hb⟩,?_⟩
  have:ks.getD i []=ks[i]:=by simp [List.getD,il]
  rw [this]
  exact aMk I1.hok hb
 ·rw [sz] at T
  exact q h' tk T kp
theorem aCw{e:Expr}{te:TE}{p1 p2 pos1 pos2:Pos}(hc:X.calm=true)(hu:X.A.units+64 < cLine)(hg1:Gl X "sorted")(hm1:X.mg "sorted" = none)(hg2:Gl X "set")(hm2:X.mg "set" = none)(he:PE X e te)
  (hs1:starEach [.Call (.Name "set" p2) [e] [] pos2] X.env=(false,eval (.Call (.Name "set" p2) [e] [] pos2) X.env) :: starEach [] X.env:=by rfl) (hs2:starEach [e] X.env=(false,eval e X.env) :: starEach [] X.env:=by rfl) :
  PE X (.Call (.Name "sorted" p1) [.Call (.Name "set" p2) [e] [] pos2] [] pos1) (tSS X.K te):=by
 intro pins s σ H Q I h
 refine aYz (lW I hg1 hm1 aCi (bA5 ?_ hs1 rfl))
 rw [hs1]
 show wpAny _ _ (spliced ((false,eval _ X.env) :: backTo pos1 (starEach [] X.env))) _ _ s
 refine aZv (aYz (lW I hg2 hm2 aNm (aXs ?_ hs2 rfl)))
 rw [hs2]
 show wpAny _ _ (spliced ((false,eval _ X.env) :: backTo pos2 (starEach [] X.env))) _ _ s
 refine aZv (thn (he pins s σ H _ I h) fun u s1 ⟨x,H1,I1,r1,a,xs,ks,ex,hq,hr,h64,q⟩=>aZ7 ?_)
 subst ex
 cases (show u=Value.ref a from r1)
 refine aJ6 I1 (I.ok.hd hc) (by omega) hq hr h64 fun h' tk T kp=>aZ7 ?_
 obtain ⟨ks',o,es,ep,t,pm,ft,lo,R⟩:=T
 have I2:Inv X pins σ H1 { s1 with heap:=h',toks:=tk }:=I1.kept (t':=tk) kp
 have mem:∀ k,k∈ks'↔k∈ks:=fun k=>by
  rw [pm.mem_iff,aEo]
  constructor
  ·rintro ⟨i,h1,h2⟩
   rw [<- h2]
   have:ks.getD i []=ks[i]:=by simp [List.getD,h1]
   rw [this]
   exact bBf h1
  ·intro hk
   obtain ⟨i,hi,e⟩:=aY3.mp hk
   exact ⟨i,hi,by rw [<- e];simp [List.getD,hi]⟩
 have pl:ks'.length < 64:=by
  have:=HS.vV (fun i=>ks.getD i []) ks.length
  rw [pm.length_eq]
  omega
 have hes:(es.toList.zip ks').map Prod.fst=es.toList:=by
  rw [List.map_fst_zip]
  rw [aWr,R.sz]
  exact aWl _
 obtain ⟨pr,pp,pe⟩:=aDi Prod.fst (HS.aBa X.w s1.heap.objs.size ep es) (es.toList.zip ks') hes
 have pk:(pr.map Prod.snd).Perm ks':=by
  have:=pp.map Prod.snd
  rw [List.map_snd_zip (by have:=R.sz;rw [<- aWr] at this;omega)] at this
  exact this
 have each:∀ p∈pr,∃ b,p.1.2=Value.ref b/\H1 b=some (.tup (p.2.map V.int)):=fun p hp=>by
  have hz:=pp.mem_iff.mp hp
  obtain ⟨i,hi,e⟩:=aY3.mp hz
  rw [List.getElem_zip] at e
  rw [List.length_zip] at hi
  have ik:i < ks'.length:=by omega
  obtain ⟨b,h1,h2⟩:=R.at' i ks'[i] (aWd ik)
  have ie:i < es.size:=by rw [R.sz];exact ik
  rw [aWj ie] at h1
  have h1:=aWx h1
  obtain ⟨c,e1,k2,e2⟩:=lo _ (Array.getElem_mem ie)
  rw [h1] at e1
  cases e1
  have ik2:=aMk I2.hok e2
  have:k2=ks'[i]:=ik2.inj h2
  rw [<- e]
  refine ⟨b,?_,?_⟩
  ·show (es.toList[i]).2=_
   rw [Array.getElem_toList,h1]
  ·show H1 b=some (.tup ((ks'[i]).map V.int))
   rw [<- this]
   exact e2
 have rts:SRT.aKx H1 (pr.map fun p=>vOf p.1.2) (pr.map Prod.snd):=by
  refine ⟨by rw [aWb,aWb],fun i t k e1 e2=>?_⟩
  rw [aWu] at e1 e2
  cases ep':pr[i]? with
  | none=>rw [ep'] at e1;cases e1
  | some p =>
   rw [ep'] at e1 e2
   cases e1
   cases e2
   have hp:=aY2 ep'
   obtain ⟨b,h1,h2⟩:=each p hp
   refine ⟨⟨b,by show vOf p.1.2=_;rw [h1];rfl,h2⟩,?_⟩
   have hk:p.2∈ks:=(mem _).mp (pk.mem_iff.mp (aWg.mpr ⟨p,hp,rfl⟩))
   obtain ⟨j,hj,ej⟩:=aY3.mp hk
   have xl:j < xs.length:=by rw [hr.1];exact hj
   have:=(hr.2 j xs[j] ks[j] (aWd xl) (aWd hj)).2
   rw [<- ej]
   exact this
 have rv:Vals (pr.map fun p=>vOf p.1.2) (pr.map fun p=>p.1.2):=by
  have:∀ l:List ((Int×Value)×List Int),(∀ p∈l,∃ b,p.1.2=Value.ref b/\H1 b=some (.tup (p.2.map V.int)))->Vals (l.map fun p=>vOf p.1.2) (l.map fun p=>p.1.2):=by
   intro l
   induction l with
   | nil=>exact fun _=>.nil
   | cons p l ih =>
    intro hl
    obtain ⟨b,h1,_⟩:=hl p (.head _)
    refine .cons ?_ (ih fun x hx=>hl x (.tail _ hx))
    show RelV (vOf p.1.2) p.1.2
    rw [h1]
    rfl
  exact this pr each
 have prl:pr.length=ks'.length:=by
  have:=pk.length_eq
  rw [aWb] at this
  exact this
 have ev:(HS.aCn X.w s1.heap.objs.size ep es).toList.map (·.2)=pr.map fun p=>p.1.2:=by
  rw [<- pe,aXm]
  rfl
 refine SRT.sU (s:={ s1 with heap:=h',toks:=tk }) (Ok:=fun vs=>vs=pr.map fun p=>p.1.2) (fun R0 hR=>?_) (pr.map Prod.snd) (fun vs e=>⟨e▸SRT.v7 I2.hok rts rv,by rw [e,aWb];omega⟩) fun h2 hf tk2 c vs q' k1 k2 e p1 p2 hc2=>?_
 ·refine PySem.W.kdu_collect (A:=X.A.in1) (s:={ s1 with heap:=h',toks:=tk }) (HS.aOk (prog:=X.prog) (w:=X.w) (hs:=ks'.map (HS.hK X.prog X.w)) (t:=t) (es:=es) (ep:=ep)) (I.ok.hd hc) ⟨o,R.w⟩ (by rw [R.sz,aY0];omega) fun h2 tk2 acc hk hacc=>hR h2 tk2 _ hk ?_
  rw [<- ev]
  apply aYv
  intro i
  rw [aWy,aWu,aWy]
  rcases aYh i acc.size with z | z
  ·obtain ⟨x,e1,e2⟩:=hacc.2 i acc[i] (aWj z)
   rw [aWj z,e1,e2]
   rfl
  ·rw [aXr z,aXr (by rw [HS.uB,<- hacc.1];exact z)]
   rfl
 ·have hlen:=rv.length
  subst e
  exact SRT.aBz I2 rv (by rw [aWb];omega) k1 k2 p1 hc2 fun D hD=>q _ _ D q' (pk.nodup_iff.mpr R.nd) (fun k=>by rw [pk.mem_iff];exact mem k) rts hD (hlen▸p1) (hlen▸p2)
end
end L2
namespace M
open PySem PySem.Spec PyProof.Rows L2
def ddK:List (List Int)->List (List Int)
 | []=>[]
 | k :: r=>if k∈ddK r then ddK r else k :: ddK r
theorem ddK_mem{x:List Int}:∀ {ks:List (List Int)},x∈ddK ks↔x∈ks
 | []=>Iff.rfl
 | k :: r=>by
  have ih:=ddK_mem (x:=x) (ks:=r)
  unfold ddK
  split
  ·rename_i z
   rw [ih,aWh]
   constructor
   ·exact .inr
   ·rintro (e | e)
    ·rw [e];exact ddK_mem.mp z
    ·exact e
  ·rw [aWh,aWh,ih]
theorem aA5:∀ ks:List (List Int),(ddK ks).Nodup
 | []=>List.Pairwise.nil
 | k :: r=>by
  unfold ddK
  split
  ·exact aA5 r
  ·rename_i z
   exact aYd.mpr ⟨z,aA5 r⟩
def iZ(x:Ev):Res Ev:=match eZ x with
 | some ds=>match vI ds with
  | some ks=>if (ks.all fun k=>!k.isEmpty)=true/\ks.length < 64 then .ok (.f (.list ((gM (ddK ks)).map oG))) else .bad
  | none=>.bad
 | none=>.bad
theorem aP8{ks:List (List Int)}(h:(ks.all fun k=>!k.isEmpty)=true):∀ k∈ks,k≠[]:=fun k hk z=>by
 have:=aZs.mp h k hk
 rw [z] at this
 cases this
theorem aMr{ks ks2:List (List Int)}(nd:ks2.Nodup)(hm:∀ k,k∈ks2↔k∈ks):ks2.Perm (ddK ks):=vH nd (aA5 ks) fun x=>by rw [hm,ddK_mem]
theorem sW{X:Cx}{E:L2.St->XK}{e:Expr}{fe:En->Res Ev}{p1 p2 pos1 pos2:Pos}(hc:X.calm=true)(hu:X.A.units+64 < cLine)(hg1:Gl X "sorted")(hm1:X.mg "sorted" = none)(hg2:Gl X "set")(hm2:X.mg "set" = none)(he:DE X E e fe)
  (hs1:starEach [.Call (.Name "set" p2) [e] [] pos2] X.env=(false,eval (.Call (.Name "set" p2) [e] [] pos2) X.env) :: starEach [] X.env:=by rfl) (hs2:starEach [e] X.env=(false,eval e X.env) :: starEach [] X.env:=by rfl) :
  DE X E (.Call (.Name "sorted" p1) [.Call (.Name "set" p2) [e] [] pos2] [] pos1) (mUn iZ fe):=by
 obtain ⟨t,q,m⟩:=he.out
 refine DE.in ⟨_,aCw hc hu hg1 hm1 hg2 hm2 q hs1 hs2,fun B G0 G W H σ en Q hh hs hw=>m B G0 G W H σ en _ hh hs ?_⟩
 have hw:wpR ((fe en).bind _) _ _:=hw
 rw [cK] at hw
 refine bT hw (fun r hr G1 H1 v s e=>?_) fun C h=>h
 obtain ⟨G2,s2,e2⟩:=e.c s
 unfold iZ at hr
 cases el:eZ r.c with
 | none=>rw [el] at hr;exact hr.elim
 | some ds =>
  rw [el] at hr
  dsimp only at hr
  cases ek:vI ds with
  | none=>rw [ek] at hr;exact hr.elim
  | some ks =>
   rw [ek] at hr
   dsimp only at hr
   by_cases hz:(ks.all fun k=>!k.isEmpty)=true/\ks.length < 64
   ·rw [aWm hz] at hr
    obtain ⟨a,xs,rfl,h1,h2⟩:=oM s2.gh e2 el
    cases (tZ ek)
    refine ⟨a,xs,ks,rfl,.inl h1,aG6 s2.gh h2 (aP8 hz.1),hz.2,fun ts ks2 D q nd hm rf hD hp hS=>?_⟩
    have hl:ts.length=ks2.length:=rf.1
    have pk:=picked hl hp hS
    have se:gM ks2=gM (ddK ks):=mM ((cQ ks2).trans ((aMr nd hm).trans (cQ _).symm)) (fU _) (fU _)
    have st:=(s2.trans (aFc s2.gh)).trans (Step.lay (o:=.lst (q.toList.map fun i=>ts.getD i .non)) (aEg s2.gh) hD)
    refine hr _ _ _ st ⟨D,_,rfl,s2.h.free hD,(aEg s2.gh).free hD,cJ,.lst ?_⟩
    rw [<- se,<- pk]
    refine pQ (fun i hi=>?_) _ (fun i hi=>by rw [<- hl];exact aSd hp i hi)
    have hi':i < ts.length:=by omega
    obtain ⟨⟨b,eb,hb⟩,_⟩:=rf.2 i ts[i] ks2[i] (aWd hi') (aWd hi)
    have e1:ts.getD i .non=ts[i]:=by simp [hi']
    have e2:ks2.getD i []=ks2[i]:=by simp [hi]
    rw [e1,e2,eb]
    exact zY (aLb s2.gh hb)
   ·rw [aWn hz] at hr
    exact hr.elim
end M
namespace HS
open PySem PySem.Spec PyProof.Rows
section
open PySem.SeqAt
open PySem.AutoSeq1 (wpAny_loadPart')
open PySem.MeetsSeq PySem.MeetsSeq2 PySem.MeetsSeq3
end
section
variable {prog:Program}{w:World}{A:Around}{E:Value->Shared->Prop}{s:Shared}
end
section
variable {prog:Program}{w:World}{A:Around}{R:Result->Shared->Prop}{I S:Addr}{fp wr:List Addr}{n:Nat}{P:Nat->Value->Prop}{St:Nat->Heap->Prop}{Ok:Heap->Prop}{bt:Nat->Nat->Bool}
end
section
variable {prog:Program}{w:World}{A:Around}{E:Value->Shared->Prop}{s:Shared}
end
section
variable {prog:Program}{w:World}{A:Around}{R:Result->Shared->Prop}{I S:Addr}{fp wr:List Addr}{n:Nat}{P:Nat->Value->Prop}{St:Nat->Heap->Prop}{Ok:Heap->Prop}{bt:Nat->Nat->Bool}
end
section
variable {prog:Program}{w:World}{A:Around}{E:Value->Shared->Prop}{s:Shared}
end
end HS
namespace L2
open PySem PySem.Spec PyProof.Rows
section
variable {X:Cx}
end
end L2
namespace M
open PySem PySem.Spec PyProof.Rows L2
section
variable {K:aV9}{f:List (List Int)->Nat->Nat->Bool}
end
theorem mulL{prog:Program}{w:World}{A:Around}{E:Value->Shared->Prop}{s:Shared}{l:Addr}{items:Array Value}{k:Nat}{x:Int}{u:Tok}{Q:Value->Shared->Prop}(hl:s.heap.get? l=some { cls:=.type "list",dict:=none,data:=.seq items k,slots:=#[] })(lo:-1000<=x)(hi:x<=1000)(sz:items.size<=1000)
  (h:Q (.ref s.heap.objs.size) { s with heap:=s.heap.push { cls:=.type "list",data:=.seq (List.foldl (fun a b=>a++b) #[] (List.replicate (if items.isEmpty=true then 0 else x.toNat) items)) } }):wpAny (model prog w) A (binaryOp .Mult (.ref l) (.int x u)) Q E s:=by
 have z:items.size*x.toNat<=1000*1000:=bA4 sz (by omega)
 refine wpAny_binaryOp_repeat_ref (T:="list") (U:="int") (by decide) ⟨_,hl,rfl⟩ (fun s'=>typeIs_int s' x u) noFill_list_mul F.fills_int_mul F.slot_int_rmul repeat_list F.slot_int_index.lookup ?_
 refine bC1 F.slot_int_rmul (typeIs_int s x u) F.entry_int_rmul (F.args_int_rmul_2 _ _) (int___rmul___int_list x u l items k) ⟨hl,rfl,⟨_,hl,rfl⟩,?_⟩
 exact bC1 F.slot_list_mul ⟨_,hl,rfl⟩ F.entry_list_mul (F.args_list_mul_2 _ _) (AutoListH.list___mul___list_int_3 l items k x u (by simp [Builtin.List.listFitsIndex];omega) (by omega) (by simp [Builtin.List.listTooLong,sizeLine];omega)) ⟨hl,h⟩
theorem aGi(its:List Value)(n:Nat):List.foldl (fun a b=>a++b) #[] (List.replicate (if its.toArray.isEmpty=true then 0 else n) its.toArray)=(List.replicate n its).flatten.toArray:=by
 have g:∀ (m:Nat) (acc:List Value),List.foldl (fun a b=>a++b) acc.toArray (List.replicate m its.toArray)=(acc++(List.replicate m its).flatten).toArray:=by
  intro m
  induction m with
  | zero=>intro acc;simp
  | succ m ih =>
   intro acc
   rw [aZc,aZ3,show acc.toArray++its.toArray=(acc++its).toArray by simp,ih,aZc,bAa,aY9]
 cases its with
 | nil =>
  simp
 | cons a r =>
  have:=g n []
  rw [aZd] at this
  simpa using this
theorem aAa{xs:List V}{its:List Value}(r:Vals xs its):∀ m:Nat,Vals (List.replicate m xs).flatten (List.replicate m its).flatten
 | 0=>.nil
 | m+1=>by
  rw [aZc,aZc,bAa,bAa]
  exact r.append (aAa r m)
theorem aA0{K:aV9}{G:Hp}{xs:List V}{ds:List D}(r:Reps K G xs ds):∀ m:Nat,Reps K G (List.replicate m xs).flatten (List.replicate m ds).flatten
 | 0=>.nil
 | m+1=>by
  rw [aZc,aZc,bAa,bAa]
  exact r.append (aA0 r m)
section
variable {X:Cx}{K:aV9}
def aQc:R2:=fun x y H Q=>∃ l xs n,x=.ref l/\y=.int n/\Rd H l (.lst xs)/\xs.length<=1000/\-1000<=n/\n<=1000/\∀ p,H p=none->Q (.ref p) (upd H p (.lst (List.replicate n.toNat xs).flatten))
theorem aMq:OpR X (binaryOp .Mult) aQc:=by
 intro pins s σ H x y v u Q I rx ry h
 obtain ⟨l,xs,n,rfl,rfl,hH,hz,lo,hi,q⟩:=h
 cases rx
 obtain ⟨tk,rfl⟩:=ry
 obtain ⟨z,its,k,r,e⟩:=hH.ok I.hok
 have hl:=r.length
 refine mulL e lo hi (by rw [aWk];omega) ?_
 rw [aGi]
 have z2:n.toNat*xs.length<=1000*1000:=bA4 (by omega) (by omega)
 exact ⟨.ref _,_,I.lnew (t':=s.toks) (aAa r n.toNat) (by rw [show (List.replicate n.toNat xs).flatten.length=n.toNat*xs.length by simp];exact aXk z2 (by decide)),rfl,q _ I.fresh⟩
def aLg(x y:Ev):Res Ev:=match eZ x,y with
 | some ds,.p (.int n)=>if ds.length<=1000/\-1000<=n/\n<=1000 then .ok (.f (.list (List.replicate n.toNat ds).flatten)) else .bad
 | _,_=>.bad
theorem aJp:NoX aLg:=by
 intro x y A h
 unfold aLg at h
 split at h
 ·split at h<;>cases h
 ·cases h
theorem aMs:OpM K aQc aLg:=by
 intro W G H v u x y Q gh hx hy hw
 unfold aLg at hw
 split at hw
 ·rename_i ds n e1 e2
  obtain ⟨a,xs,rfl,h1,h2⟩:=oM gh hx e1
  rw [e2] at hy
  cases hy
  split at hw
  ·rename_i hl
   refine ⟨a,xs,n,rfl,rfl,h1,by rw [h2.length];exact hl.1,hl.2.1,hl.2.2,fun p hp=>?_⟩
   exact hw _ _ _ (Step.lay gh hp) ⟨p,_,rfl,hp,gh.free hp,cJ,.lst (aA0 h2 _)⟩
  ·exact hw.elim
 ·exact hw.elim
end
end M
namespace N
open PySem PySem.Spec PyProof.Rows L2 M
def frD(x:Int×Int):D:=.tuple [.int x.1,.int x.2]
abbrev Pl:=Int×Int×(Int×Int)
def plD(p:Pl):D:=.tuple [.int p.1,.int p.2.1,frD p.2.2]
def slD(p:Int×Int):D:=.tuple [.int p.1,.int p.2]
theorem at0{α:Type}(x:α)(r:List α):atI (x :: r) 0=some x:=qQ (j:=0) rfl
theorem at1{α:Type}(x y:α)(r:List α):atI (x :: y :: r) 1=some y:=qQ (j:=1) rfl
theorem at2{α:Type}(x y z:α)(r:List α):atI (x :: y :: z :: r) 2=some z:=qQ (j:=2) rfl
theorem hU(i j:Int):PyData.eqv (.int i) (.int j)=(i == j):=by simp [PyData.eqv]
theorem iE(i:Int):SeqAt.shaped (.int i)=true:=by simp [SeqAt.shaped,PyData.canLay0,PyData.depth]
def aQ1{α:Type}(f:D->Option α):List D->Option (List α)
 | []=>some []
 | d :: r=>match f d with
  | none=>none
  | some a=>match aQ1 f r with
   | none=>none
   | some as=>some (a :: as)
theorem nC{α:Type}{f:D->Option α}{enc:α->D}(h:∀ a,f (enc a)=some a):∀ xs:List α,aQ1 f (xs.map enc)=some xs
 | []=>rfl
 | x :: xs=>by
  show (match f (enc x) with | none=>none | some a=>match aQ1 f (xs.map enc) with | none=>none | some as=>some (a :: as))=_
  rw [h x,nC h xs]
def aTh:D->Option (Int×Int)
 | .tuple [.int a,.int b]=>some (a,b)
 | _=>none
def aTj:D->Option Pl
 | .tuple [.int i,.int j,.tuple [.int a,.int b]]=>some (i,j,(a,b))
 | _=>none
theorem aBo(x:Int×Int):aTh (frD x)=some x:=rfl
theorem aAy(x:Pl):aTj (plD x)=some x:=rfl
theorem eD{α:Type}{g:D->Option (Option D)}{enc:α->D}{out:α->D}:∀ xs:List α,(∀ x∈xs,g (enc x)=some (some (out x)))->mX g (xs.map enc)=some (xs.map out)
 | [],_=>rfl
 | x :: xs,h=>by
  show (match g (enc x) with | none=>none | some o=>match mX g (xs.map enc) with | none=>none | some r=>some (match o with | some y=>y :: r | none=>r))=_
  rw [h x (.head _),eD xs fun y hy=>h y (.tail _ hy)]
  rfl
def ltF(x y:Int×Int):Bool:=decide (x.1*y.2 < y.1*x.2)
def best(b:Int×Int):List (Int×Int)->Int×Int
 | []=>b
 | x :: r=>best (if ltF b x=true then x else b) r
def FSz(n:Nat)(x:Int×Int):Prop:=Sz n x.1/\Sz n x.2
def Good(n:Nat)(x:Int×Int):Prop:=1<=x.2/\Sz n x.1/\Sz n x.2
theorem Good.fsz{n:Nat}{x:Int×Int}(h:Good n x):FSz n x:=h.2
theorem Good.mono{m n:Nat}{x:Int×Int}(h:Good m x)(l:m<=n):Good n x:=⟨h.1,h.2.1.mono l,h.2.2.mono l⟩
theorem oE{n:Nat}{t b:Int}(ht:Sz n t)(hb:Sz n b)(h0:b≠0):Good n (FR.mk t b):=⟨(FR.sD h0).1.pos,Sz.le ht (aX5 _ _),Sz.le hb (aX5 _ _)⟩
def hT(i:Int)(x:Int×Int):Int×Int:=FR.mk (i*x.1) (1*x.2)
def hP(x y:Int×Int):Int×Int:=FR.mk (x.1*y.2+y.1*x.2) (x.2*y.2)
def hgt(p:Pl)(pt:(Int×Int)×(Int×Int)):Int×Int:=hP (hP (hT p.1 pt.1) (hT p.2.1 pt.2)) p.2.2
theorem s8{m n:Nat}{i:Int}{x:Int×Int}(hi:Sz m i)(hx:Good n x):Good (m+n) (hT i x) :=
 oE (Sz.mul hi hx.2.1) (by rw [Int.one_mul];exact hx.2.2.mono (Nat.le_add_left _ _)) (by have:=hx.1;omega)
theorem tJ{m n:Nat}{x y:Int×Int}(hx:Good m x)(hy:Good n y):Good (m+n+1) (hP x y) :=
 oE (Sz.add (Sz.mul hx.2.1 hy.2.2) ((Sz.mul hy.2.1 hx.2.2).mono (by omega))) ((Sz.mul hx.2.2 hy.2.2).mono (by omega)) (fun z=>by
  rcases aYm.mp z with q | q
  ·have:=hx.1;omega
  ·have:=hy.1;omega)
theorem Good.ne{m n:Nat}{x y:Int×Int}(hx:Good m x)(hy:Good n y):x.2*y.2≠0:=fun z=>by
 rcases aYm.mp z with q | q
 ·have:=hx.1;omega
 ·have:=hy.1;omega
theorem aQz:Sz 2000 (1:Int):=by unfold Sz;exact Nat.one_lt_two_pow (by decide)
structure iD(p:Pl)(pt:(Int×Int)×(Int×Int)):Prop where
 i:Sz 100 p.1
 j:Sz 100 p.2.1
 h:Good 200 p.2.2
 x:Good 300 pt.1
 y:Good 300 pt.2
open Classical in
noncomputable def mOf{α:Type}(enc:α->List L)(P:α->Prop)(g:α->Res L)(ls:List L):Res L:=if h:∃ a,enc a=ls/\P a then g h.choose else .bad
theorem dX{α:Type}{enc:α->List L}{P:α->Prop}{g:α->Res L}(inj:∀ a b,enc a=enc b->a=b){a:α}(h:P a):mOf enc P g (enc a)=g a:=by
 have hx:∃ b,enc b=enc a/\P b:=⟨a,rfl,h⟩
 unfold mOf
 rw [dif_pos hx,inj _ _ hx.choose_spec.1]
theorem dP{α:Type}{enc:α->List L}{P:α->Prop}{g:α->Res L}{n:Nat}{f:MS}(h:∀ a,P a->fG n f (enc a)=g a):∀ ls,mOf enc P g ls=.bad\/fG n f ls=mOf enc P g ls:=by
 intro ls
 unfold mOf
 by_cases hx:∃ a,enc a=ls/\P a
 ·rw [dif_pos hx]
  exact .inr ((aZu _ hx.choose_spec.1.symm).trans (h _ hx.choose_spec.2))
 ·exact .inl (dif_neg hx)
theorem frI{a b:Int×Int}(h:frD a=frD b):a=b:=aWx (aZu aTh h)
theorem plI{a b:Pl}(h:plD a=plD b):a=b:=aWx (aZu aTj h)
theorem aRe{a b:List Pl}(h:a.map plD=b.map plD):a=b:=by
 have e:=aZu (aQ1 aTj) h
 rw [nC aAy,nC aAy] at e
 exact aWx e
theorem ptI{x y:(Int×Int)×(Int×Int)}(h:PyData.tuple [frD x.1,frD x.2]=.tuple [frD y.1,frD y.2]):x=y:=by
 injection h with h
 injection h with h1 h2
 injection h2 with h2 _
 exact aZk (frI h1) (frI h2)
def ePH(a:Pl×(Int×Int)×(Int×Int)):List L:=[.p (plD a.1),.p (.tuple [frD a.2.1,frD a.2.2])]
theorem aHi(a b:Pl×(Int×Int)×(Int×Int))(h:ePH a=ePH b):a=b:=by
 unfold ePH at h
 injection h with h1 h2
 injection h2 with h2 _
 injection h1 with h1
 injection h2 with h2
 exact aZk (plI h1) (ptI h2)
def eHA(a:List Pl×(Int×Int)×(Int×Int)):List L:=[.p (.list (a.1.map plD)),.p (.tuple [frD a.2.1,frD a.2.2])]
theorem qB(a b:List Pl×(Int×Int)×(Int×Int))(h:eHA a=eHA b):a=b:=by
 unfold eHA at h
 injection h with h1 h2
 injection h2 with h2 _
 injection h1 with h1
 injection h1 with h1
 injection h2 with h2
 exact aZk (aRe h1) (ptI h2)
theorem kN(a:D)(r:List D):ixE (.p (.tuple (a :: r))) (.p (.int 0))=.ok (.p a):=by simp [ixE,fH,at0]
theorem kQ(a b:D)(r:List D):ixE (.p (.tuple (a :: b :: r))) (.p (.int 1))=.ok (.p b):=by simp [ixE,fH,at1]
theorem wA(a b d:D)(r:List D):ixE (.p (.tuple (a :: b :: d :: r))) (.p (.int 2))=.ok (.p d):=by simp [ixE,fH,at2]
theorem lE(p:Pl):ixE (.p (plD p)) (.p (.int 0))=.ok (.p (.int p.1)):=kN _ _
theorem lG(p:Pl):ixE (.p (plD p)) (.p (.int 1))=.ok (.p (.int p.2.1)):=kQ _ _ _
theorem kM(p:Pl):ixE (.p (plD p)) (.p (.int 2))=.ok (.p (frD p.2.2)):=wA _ _ _ _
theorem oS(p:Int×Int):ixE (.p (frD p)) (.p (.int 0))=.ok (.p (.int p.1)):=kN _ _
theorem oN(p:Int×Int):ixE (.p (frD p)) (.p (.int 1))=.ok (.p (.int p.2)):=kQ _ _ _
section
variable {κ α:Type}[DecidableEq κ]
def fL:List (κ×α)->κ->Option α
 | [],_=>none
 | p :: r,k=>if p.1=k then some p.2 else fL r k
def aFx(k:κ)(v:α):List (κ×α)->List (κ×α)
 | []=>[]
 | p :: r=>(if p.1=k then (p.1,v) else p) :: aFx k v r
def nN(m:List (κ×α))(k:κ)(v:α):List (κ×α):=if (fL m k).isSome=true then aFx k v m else m++[(k,v)]
def encM(ek:κ->D)(ev:α->D)(m:List (κ×α)):List (D×D):=m.map fun p=>(ek p.1,ev p.2)
variable {ek:κ->D}{ev:α->D}(inj:∀ a b,ek a=ek b->a=b)
include inj
theorem uC(k:κ):∀ m:List (κ×α),aBu (encM ek ev m) (ek k)=(fL m k).map ev
 | []=>rfl
 | p :: r=>by
  unfold encM
  rw [aWo]
  unfold aBu fL
  by_cases e:p.1=k
  ·rw [aWm (by rw [e]),aWm e];rfl
  ·rw [aWn (fun z=>e (inj _ _ z)),aWn e]
   exact uC k r
theorem aB7(k:κ)(v:α):∀ m:List (κ×α),aLs (ek k) (ev v) (encM ek ev m)=encM ek ev (aFx k v m)
 | []=>rfl
 | p :: r=>by
  have ih:=aB7 k v r
  unfold encM at ih ⊢
  rw [aWo]
  unfold aLs aFx
  rw [aWo,ih]
  by_cases e:p.1=k
  ·rw [aWm (by rw [e]),aWm e]
  ·rw [aWn (fun z=>e (inj _ _ z)),aWn e]
theorem aJx(k:κ)(v:α)(m:List (κ×α)):aHo (encM ek ev m) (ek k) (ev v)=encM ek ev (nN m k v):=by
 unfold aHo nN
 rw [uC inj]
 cases e:fL m k with
 | none =>
  rw [aWn (by simp),aWn (by simp)]
  unfold encM
  rw [aXb]
  rfl
 | some x =>
  rw [aWm (by rfl),aWm (by rfl)]
  exact aB7 inj k v m
end
theorem kI(a b:Int×Int)(h:slD a=slD b):a=b:=by
 unfold slD at h
 injection h with h
 injection h with h1 h2
 injection h2 with h2 _
 injection h1 with h1
 injection h2 with h2
 exact aZk h1 h2
theorem rW{α:Type}{ev:α->D}(m:List ((Int×Int)×α)):dsp (encM slD ev m)=(false,encM slD ev m):=by
 cases m<;>rfl
theorem aHh(s:Int×Int):(aPk (slD s)).isSome=true:=rfl
theorem lQ{α:Type}{ev:α->D}(m:List ((Int×Int)×α))(s:Int×Int):wJ (encM slD ev m) (slD s)=some ((fL m s).map ev):=by
 unfold wJ
 rw [rW]
 dsimp only
 rw [aWm (aHh s),uC kI]
theorem uX{α:Type}{ev:α->D}(m:List ((Int×Int)×α))(s:Int×Int)(v:α)(h:m.length<=100000):aCt (encM slD ev m) (slD s) (ev v)=some (encM slD ev (nN m s v)):=by
 unfold aCt
 rw [rW]
 dsimp only
 rw [aWm ⟨aHh s,by unfold encM;rw [aWb];exact h⟩,aJx kI]
theorem uH{α κ:Type}[DecidableEq κ](k:κ)(v:α):∀ m:List (κ×α),(aFx k v m).length=m.length
 | []=>rfl
 | _ :: r=>by unfold aFx;rw [aWc,aWc,uH k v r]
theorem lM{α κ:Type}[DecidableEq κ](m:List (κ×α))(k:κ)(v:α):(nN m k v).length<=m.length+1:=by
 unfold nN
 split
 ·rw [uH];exact bCj _
 ·rw [aWq];exact aWl _
theorem wC{α κ:Type}[DecidableEq κ](k:κ)(v:α)(j:κ):∀ m:List (κ×α),fL (aFx k v m) j=if j=k then (fL m k).map (fun _=>v) else fL m j
 | []=>by unfold aFx fL;split<;>rfl
 | p :: r=>by
  have ih:=wC k v j r
  unfold aFx fL
  by_cases e:p.1=k
  ·rw [aWm e]
   by_cases e2:p.1=j
   ·have:j=k:=by rw [<- e2,e]
    rw [aWm e2,aWm this,aWm e];rfl
   ·have:j≠k:=fun z=>e2 (by rw [e,z])
    rw [aWn e2,aWn this,aWn e2]
    rw [aWn this] at ih
    exact ih
  ·rw [aWn e]
   by_cases e2:p.1=j
   ·have:j≠k:=fun z=>e (by rw [e2,z])
    rw [aWm e2,aWn this,aWm e2]
   ·rw [aWn e2,ih]
    by_cases e3:j=k
    ·rw [aWm e3,aWm e3,aWn e]
    ·rw [aWn e3,aWn e3,aWn e2]
theorem aBd{α κ:Type}[DecidableEq κ](j:κ)(l:List (κ×α)):∀ m:List (κ×α),fL (m++l) j=match fL m j with
  | some x=>some x
  | none=>fL l j
 | []=>rfl
 | p :: r=>by
  have ih:=aBd j l r
  rw [aZt]
  show (if p.1=j then some p.2 else fL (r++l) j)=match (if p.1=j then some p.2 else fL r j) with
   | some x=>some x
   | none=>fL l j
  by_cases e:p.1=j
  ·rw [aWm e,aWm e]
  ·rw [aWn e,aWn e];exact ih
theorem iV{α κ:Type}[DecidableEq κ](m:List (κ×α))(k:κ)(v:α)(j:κ):fL (nN m k v) j=if j=k then some v else fL m j:=by
 unfold nN
 cases e:fL m k with
 | none =>
  rw [aWn (by simp),aBd]
  by_cases ej:j=k
  ·subst ej;rw [e,aWm rfl];unfold fL;rw [aWm rfl]
  ·rw [aWn ej]
   cases e2:fL m j with
   | some x=>rfl
   | none=>unfold fL;rw [aWn (fun z=>ej z.symm)];rfl
 | some x =>
  rw [aWm (by rfl),wC]
  by_cases ej:j=k
  ·rw [aWm ej,aWm ej,e];rfl
  ·rw [aWn ej,aWn ej]
def slp(p:Pl):Int×Int:=(p.1,p.2.1)
def kys{α:Type}(m:List ((Int×Int)×α)):List (List Int):=m.map fun e=>[e.1.1,e.1.2]
def un2(k:List Int):Int×Int:=(k.getD 0 0,k.getD 1 0)
def aOd{α:Type}(m:List ((Int×Int)×α))(d:α)(k:List Int):α:=(fL m (un2 k)).getD d
theorem aJq{α:Type}{ev:α->D}(m:List ((Int×Int)×α)):(encM slD ev m).map (·.1)=(kys m).map oG:=by
 unfold encM kys
 rw [aXm,aXm]
 rfl
theorem aPx{α:Type}(m:List ((Int×Int)×α)):((kys m).all fun k=>!k.isEmpty)=true:=by
 unfold kys
 rw [List.all_map]
 exact aZs.mpr fun _ _=>rfl
theorem qU{α:Type}{ev:α->D}(m:List ((Int×Int)×α))(h:m.length < 64):eC [.p (.dict (encM slD ev m))]=.ok (.f (.list ((gM (kys m)).map oG))):=by
 unfold eC
 simp only [j8,rW,aJq,rO]
 rw [aWm trivial,aWm ⟨aPx m,by unfold kys;rw [aWb];exact h⟩]
theorem vC{α κ:Type}[DecidableEq κ]:∀ {m:List (κ×α)} {e:κ×α},e∈m->∃ v,fL m e.1=some v
 | p :: r,e,h=>by
  unfold fL
  by_cases q:p.1=e.1
  ·rw [aWm q];exact ⟨_,rfl⟩
  ·rw [aWn q]
   rcases aWh.mp h with z | z
   ·exact absurd (by rw [z]) q
   ·exact vC z
theorem nG{α:Type}{m:List ((Int×Int)×α)}{k:List Int}(h:k∈gM (kys m))(d:α):oG k=slD (un2 k)/\k=[(un2 k).1,(un2 k).2]/\fL m (un2 k)=some (aOd m d k):=by
 have h1:=(cQ (kys m)).mem_iff.mp h
 obtain ⟨e,he,rfl⟩:=aWg.mp h1
 obtain ⟨v,hv⟩:=vC he
 have hu:un2 [e.1.1,e.1.2]=e.1:=rfl
 refine ⟨rfl,rfl,?_⟩
 unfold aOd
 rw [hu,hv]
 rfl
theorem aFh{α:Type}(f:α->Bool):∀ xs:List α,yM (xs.map fun x=>PyData.bool (f x))=some (xs.map f)
 | []=>rfl
 | x :: xs=>by
  show (match yM (xs.map fun x=>PyData.bool (f x)) with | some bs=>some (f x :: bs) | none=>none)=_
  rw [aFh f xs]
  rfl
theorem any_map{α:Type}(f:α->Bool)(xs:List α):(xs.map f).any id=xs.any f:=by rw [List.any_map];rfl
theorem aJh{x:Int}(n:Nat)(h:x.natAbs < 2 ^ n):Sz n x:=h
theorem cm{i j:Int}{m n:Nat}(h1:Sz m i)(h2:Sz n j)(hm:m<=60000)(hn:n<=60000):CMulW i j:=⟨h1.mono hm,h2.mono hn⟩
theorem cF{a b:Int}(hb:0 < b):0<=a.fmod b/\a.fmod b < b:=by
 rw [bAb a (Int.le_of_lt hb)]
 exact ⟨bC0 a (by omega),bB0 a hb⟩
theorem aQ{f g:MS}{en e1:En}(h:f en=some (.nx e1)):bH f g en=g e1:=by unfold bH;rw [h]
theorem lV{f g:MS}{en:En}{l:L}(h:f en=some (.rt l)):bH f g en=some (.rt l):=by unfold bH;rw [h]
theorem cU{i:Nat}{fe:En->Res Ev}{en:En}{d:D}(h:fe en=.ok (.p d)):cG i fe en=some (.nx (en.set i (some (.p d)))):=by unfold cG;rw [h]
theorem iB{i:Nat}{fe:En->Res Ev}{en:En}{d:D}(h:fe en=.ok (.f d)):cG i fe en=some (.nx (en.set i (some (.o d)))):=by unfold cG;rw [h]
theorem l3{ft:En->Res Bool}{f g:MS}{en:En}(h:ft en=.ok true):fM ft f g en=f en:=by unfold fM;rw [h];rfl
theorem kH{ft:En->Res Bool}{f g:MS}{en:En}(h:ft en=.ok false):fM ft f g en=g en:=by unfold fM;rw [h];rfl
theorem b8{n:Nat}{f:MS}{ls:List L}{l:L}(h:f (bK n ls)=some (.rt l)):fG n f ls=.ok l:=by unfold fG;rw [h]
theorem aGr{α:Type}(f:α->D)(h:∀ a,PyData.canLay0 (f a)=true):∀ xs:List α,PyData.canLayAll0 (xs.map f)=true
 | []=>rfl
 | x :: xs=>by rw [aWo,PyData.canLayAll0,h x,aGr f h xs];rfl
theorem aDc{α:Type}(f:α->D)(n:Nat)(h:∀ a,PyData.depth (f a)<=n):∀ xs:List α,PyData.depthAll (xs.map f)<=n
 | []=>aXo _
 | x :: xs=>by
  rw [aWo,PyData.depthAll]
  exact Nat.max_le.mpr ⟨h x,aDc f n h xs⟩
theorem aMt{α:Type}(f:α->D)(h1:∀ a,PyData.canLay0 (f a)=true)(h2:∀ a,PyData.depth (f a)<=9)(xs:List α):SeqAt.shaped (.list (xs.map f))=true:=by
 have a:PyData.canLay0 (.list (xs.map f))=true:=by rw [PyData.canLay0];exact aGr f h1 xs
 have b:PyData.depth (.list (xs.map f))<=64:=by
  rw [PyData.depth]
  have:=aDc f 9 h2 xs
  omega
 unfold SeqAt.shaped
 rw [a,aXg b]
 rfl
theorem aAm{x y:Ev}{d:D}(h1:dat x=some d)(h2:dat y=some d)(hs:SeqAt.shaped d=true)(ng:Bool):eqE ng x y=.ok (.p (.bool (!ng))):=by
 have hc:PyData.canLay0 d=true:=by
  unfold SeqAt.shaped at hs
  exact (aXf.mp hs).1
 unfold eqE
 rw [h1,h2]
 dsimp only
 rw [aWm ⟨hs,hs⟩,SeqAt.eqv_refl d hc]
 cases ng<;>rfl
theorem sH{fi:En->Res (List D)}{tg:D->En->Option En}{f:MS}{en:En}{ds:List D}(h:fi en=.ok ds):xH fi tg f en=gO tg f ds en:=by unfold xH;rw [h]
theorem pN{α:Type}{g:D->Option (Option D)}{enc:α->D}{out:α->D}{p:α->Bool}:∀ xs:List α,(∀ x∈xs,g (enc x)=some (if p x=true then some (out x) else none))->mX g (xs.map enc)=some ((xs.filter p).map out)
 | [],_=>rfl
 | x :: xs,h=>by
  show (match g (enc x) with | none=>none | some o=>match mX g (xs.map enc) with | none=>none | some r=>some (match o with | some y=>y :: r | none=>r))=_
  rw [h x (.head _),pN xs fun y hy=>h y (.tail _ hy),List.filter_cons]
  cases p x<;>rfl
theorem aA6{α:Type}(f g:α->D):∀ xs:List α,aC0 (xs.map f) (xs.map g)=xs.map fun x=>.tuple [f x,g x]
 | []=>rfl
 | x :: xs=>by
  show PyData.tuple [f x,g x] :: aC0 (xs.map f) (xs.map g)=_
  rw [aA6 f g xs]
  rfl
theorem yO{α:Type}(f:α->D)(h:∀ a,lfD (f a)=true):∀ xs:List α,lfA (xs.map f)=true
 | []=>by simp [lfA]
 | x :: xs=>by rw [aWo];unfold lfA;rw [h x,yO f h xs];rfl
theorem aS1(x:Pl):lfD (plD x)=true:=by simp [plD,frD,lfD,lfA]
theorem aUq(x:Int×Int):lfD (slD x)=true:=by simp [slD,lfD,lfA]
theorem Sz.addM{m n:Nat}{x y:Int}(hx:Sz m x)(hy:Sz n y):Sz (max m n+1) (x+y):=Sz.add (hx.mono (Nat.le_max_left _ _)) (hy.mono (Nat.le_max_right _ _))
theorem Sz.subM{m n:Nat}{x y:Int}(hx:Sz m x)(hy:Sz n y):Sz (max m n+1) (x - y):=Sz.sub (hx.mono (Nat.le_max_left _ _)) (hy.mono (Nat.le_max_right _ _))
theorem mJ{x:Int}(h:x.natAbs < 2 ^ 4):Sz 4 x:=h
theorem zN{x:Int}(h:x.natAbs < 2 ^ 70):Sz 70 x:=h
theorem aL0{x:Int}(h:x.natAbs < 2 ^ 20):Sz 20 x:=h
theorem aKy{x:Int}(h:x.natAbs < 2 ^ 200):Sz 200 x:=h
theorem mH{n:Nat}{a b:Int}(h:0 < b)(hb:Sz n b):Sz n (a.fmod b):=by
 have:=cF (a:=a) h
 exact Sz.le hb (by omega)
theorem zL{n:Nat}{a b:Int}(ha:Sz n a):Sz n (a.fdiv b):=Sz.le ha (aX5 _ _)
theorem cm2{m n:Nat}{i j:Int}(h1:Sz m i)(h2:Sz n j)(hm:m<=60000)(hn:n<=60000):CMulW i j:=⟨h1.mono hm,h2.mono hn⟩
theorem cd2{m:Nat}{j:Int}(i:Int)(h0:j≠0)(h1:Sz m j)(hm:m<=8000):iG i j:=⟨h0,h1.mono hm⟩
theorem sV{i j:Int}(h:CMulW i j):dF (.p (.int i)) (.p (.int j))=.ok (.p (.int (i*j))):=by simp [dF,vW,h]
theorem fI{i j:Int}(h:iG i j):cB (.p (.int i)) (.p (.int j))=.ok (.p (.int (i.fdiv j))):=by simp [cB,vW,h]
theorem eP{i j:Int}(h:j≠0):cP (.p (.int i)) (.p (.int j))=.ok (.p (.int (i.fmod j))):=by simp [cP,vW,h]
theorem sP{i j:Int}(h:aK8 i j):sE (.p (.int i)) (.p (.int j))=.ok (.p (.int (i ^ j.toNat))):=by simp [sE,vW,h]
theorem kL(i j:Int):eJ (.p (.int i)) (.p (.int j))=.ok (.p (.int (i+j))):=by simp [eJ]
theorem qG(i j:Int):gI (.p (.int i)) (.p (.int j))=.ok (.p (.int (i - j))):=by simp [gI,gN]
def eII(a:Int×Int):List L:=[.p (.int a.1),.p (.int a.2)]
theorem aE1(a b:Int×Int)(h:eII a=eII b):a=b:=by
 unfold eII at h
 injection h with h1 h2
 injection h2 with h2 _
 injection h1 with h1
 injection h2 with h2
 injection h1 with h1
 injection h2 with h2
 exact aZk h1 h2
theorem aVo{a b:List (Int×Int)}(h:a.map frD=b.map frD):a=b:=by
 have e:=aZu (aQ1 aTh) h
 rw [nC aBo,nC aBo] at e
 exact aWx e
def eFs(hs:List (Int×Int)):List L:=[.p (.list (hs.map frD))]
theorem aM2(a b:List (Int×Int))(h:eFs a=eFs b):a=b:=by
 unfold eFs at h
 injection h with h _
 injection h with h
 injection h with h
 exact aVo h
def eFF(a:(Int×Int)×(Int×Int)):List L:=[.p (frD a.1),.p (frD a.2)]
theorem oB(a b:(Int×Int)×(Int×Int))(h:eFF a=eFF b):a=b:=by
 unfold eFF at h
 injection h with h1 h2
 injection h2 with h2 _
 injection h1 with h1
 injection h2 with h2
 exact aZk (frI h1) (frI h2)
abbrev Pt:=(Int×Int)×(Int×Int)
theorem qA{α β:Type}(a:α)(f:α->Res β):(Res.ok a).bind f=f a:=rfl
theorem oT{fe:En->Res Ev}{en:En}{d:D}(h:fe en=.ok (.f d)):dS fe en=some (.rt (.o d)):=by unfold dS;rw [h];rfl
theorem jY{fe:En->Res Ev}{en:En}{d:D}(h:fe en=.ok (.p d)):dS fe en=some (.rt (.p d)):=by unfold dS;rw [h];rfl
theorem jF{n:Nat}{js:List Nat}{fi:En->Res (List D)}{tg:D->En->Option En}{ft:En->Res Bool}{fe:En->Res Ev}{en:En}{ds es:List D}(h1:fi en=.ok ds)(h2:ds.length<=100000)(h3:mX (aZ n js tg ft fe en) ds=some es):dW n js fi tg ft fe en=.ok (.f (.list es)):=by
 unfold dW
 rw [h1,qA]
 unfold yG
 rw [aWm h2,h3]
theorem aBp{tg:D->En->Option En}{f:MS}(I:Nat->En->Prop):∀ (ds:List D) (k:Nat) (en:En),I k en->(∀ j d e,ds[j]? = some d->I (k+j) e->∃ e1 e2,tg d e=some e1/\f e1=some (.nx e2)/\I (k+j+1) e2)->∃ e',I (k+ds.length) e'/\gO tg f ds en=some (.nx e')
 | [],k,en,h,_=>⟨en,h,rfl⟩
 | d :: ds,k,en,h,st=>by
  obtain ⟨e1,e2,h1,h2,h3⟩:=st 0 d en rfl h
  obtain ⟨e',g1,g2⟩:=aBp I ds (k+1) e2 h3 fun j d' e hd hi=>by
   have:=st (j+1) d' e hd (by rw [show k+(j+1)=k+1+j by omega];exact hi)
   rw [show k+(j+1)+1=k+1+j+1 by omega] at this
   exact this
  refine ⟨e',by rw [show k+(d :: ds).length=k+1+ds.length by rw [aWc];omega];exact g1,?_⟩
  unfold gO
  rw [h1]
  dsimp only
  rw [h2]
  exact g2
theorem tU{α:Type}{enc:α->D}{tg:D->En->Option En}{f:MS}(I:List α->En->Prop):∀ (xs ys:List α) (en:En),I ys en->(∀ x∈xs,∀ zs e,zs.length < ys.length+xs.length->I zs e->∃ e1 e2,tg (enc x) e=some e1/\f e1=some (.nx e2)/\I (zs++[x]) e2)->∃ e',I (ys++xs) e'/\gO tg f (xs.map enc) en=some (.nx e')
 | [],ys,en,h,_=>⟨en,by rw [aYk];exact h,rfl⟩
 | x :: xs,ys,en,h,st=>by
  obtain ⟨e1,e2,h1,h2,h3⟩:=st x (.head _) ys en (by rw [aWc];omega) h
  obtain ⟨e',g1,g2⟩:=tU I xs (ys++[x]) e2 h3 fun y hy zs e hl hi=>st y (.tail _ hy) zs e (by rw [aWq] at hl;rw [aWc];simp at hl;omega) hi
  refine ⟨e',by rw [aY9] at g1;exact g1,?_⟩
  rw [aWo]
  unfold gO
  rw [h1]
  dsimp only
  rw [h2]
  exact g2
theorem aMa(lo:Int)(n j:Nat)(d:D)(h:(vY lo n)[j]? = some d):j < n/\d=.int (lo+(j:Int)):=by
 unfold vY at h
 rw [aWu,bCt] at h
 obtain ⟨a,h1,h2⟩:=h
 have q:j < n:=by
  by_cases q:j < n
  ·exact q
  ·rw [aW9 (by simp;omega)] at h1;cases h1
 rw [aZb q] at h1
 cases h1
 exact ⟨q,h2.symm⟩
end N
local macro_rules | `(tactic| walk_at "z") => `(tactic| repeat (first | assumption | apply L2.Sz.mul | apply N.Sz.addM | apply N.Sz.subM | apply L2.Sz.neg | apply N.zL | (apply N.mH; (first | decide | omega)) | exact N.mJ (by decide) | exact N.aL0 (by decide) | exact N.zN (by decide) | exact N.aKy (by decide)))
local macro_rules | `(tactic| walk_at "d") => `(tactic| first | assumption | (first | apply N.cm2 | apply N.cd2) <;> (first | decide | omega | (walk_at "z")) | decide | omega)
namespace N
open PySem PySem.Spec PyProof.Rows L2 M
def leF(x y:Int×Int):Prop:=x.1*y.2<=y.1*x.2
theorem iI(x:Int×Int):leF x x:=aYn _
theorem xK{x y:Int×Int}(h:ltF y x=false):leF x y:=by
 unfold ltF at h
 have:=aYl h
 unfold leF
 omega
theorem aLr{x y:Int×Int}(h:ltF x y=true):leF x y:=by
 unfold ltF at h
 have:=aZo h
 unfold leF
 omega
theorem hV{x y z:Int×Int}(hx:1<=x.2)(hy:1<=y.2)(hz:1<=z.2)(h1:leF x y)(h2:leF y z):leF x z:=by
 unfold leF at *
 have a:=aYb h1 (show 0<=z.2 by omega)
 have b:=aYb h2 (show 0<=x.2 by omega)
 refine bBy (a:=y.2) ?_ (by omega)
 have e1:x.1*z.2*y.2=x.1*y.2*z.2:=by ac_rfl
 have e2:z.1*x.2*y.2=z.1*y.2*x.2:=by ac_rfl
 have e3:y.1*x.2*z.2=y.1*z.2*x.2:=by ac_rfl
 omega
theorem aDk{a b d:Int}(h:d∣a*b)(g:Int.gcd a d=1):d∣b:=by
 have h1:d.natAbs∣a.natAbs*b.natAbs:=by
  rw [<- Int.natAbs_mul]
  exact Int.natAbs_dvd_natAbs.mpr h
 have c:Nat.Coprime d.natAbs a.natAbs:=by
  show Nat.gcd d.natAbs a.natAbs=1
  rw [Nat.gcd_comm]
  exact g
 exact Int.natAbs_dvd_natAbs.mp (Nat.Coprime.dvd_of_dvd_mul_left c h1)
theorem rC{x y:Int×Int}(hx:FR.Fr x)(hy:FR.Fr y)(h1:leF x y)(h2:leF y x):x=y:=by
 have e:x.1*y.2=y.1*x.2:=Int.le_antisymm h1 h2
 have p1:=hx.pos
 have p2:=hy.pos
 have d1:x.2∣y.2:=by
  have:x.2∣x.1*y.2:=⟨y.1,by rw [e];ac_rfl⟩
  exact aDk this hx.low
 have d2:y.2∣x.2:=by
  have:y.2∣y.1*x.2:=⟨x.1,by rw [<- e];ac_rfl⟩
  exact aDk this hy.low
 have eb:x.2=y.2:=Int.dvd_antisymm (by omega) (by omega) d1 d2
 have et:x.1=y.1:=by
  rw [eb] at e
  exact aZe (by omega) e
 exact aZk et eb
theorem mk_le{t b u d:Int}(hb:1<=b)(hd:1<=d)(h:t*d<=u*b):leF (FR.mk t b) (FR.mk u d):=by
 obtain ⟨f1,e1⟩:=FR.sD (t:=t) (b:=b) (by omega)
 obtain ⟨f2,e2⟩:=FR.sD (t:=u) (b:=d) (by omega)
 have a:leF (FR.mk t b) (t,b):=aZ4 e1
 have b':leF (u,d) (FR.mk u d):=aZ4 e2.symm
 have m:leF (t,b) (u,d):=h
 exact hV f1.pos hb f2.pos a (hV hb hd f2.pos m b')
theorem aO6{a h h':Int×Int}(ha:1<=a.2)(h1:1<=h.2)(h2:1<=h'.2)(h0:leF h h'):leF (hP a h) (hP a h'):=by
 unfold hP
 have pos:∀ {x y:Int},1<=x->1<=y->1<=x*y:=fun {x y} hx hy=>by
  have:=bBw (show 0 < x by omega) (show 0 < y by omega)
  omega
 refine mk_le (pos ha h1) (pos ha h2) ?_
 unfold leF at h0
 have k:=Int.mul_le_mul_of_nonneg_left h0 (show 0<=a.2*a.2 by have:=pos ha ha;omega)
 rw [bC3,bC3]
 have e1:a.1*h.2*(a.2*h'.2)=a.1*h'.2*(a.2*h.2):=by ac_rfl
 have e2:h.1*a.2*(a.2*h'.2)=a.2*a.2*(h.1*h'.2):=by ac_rfl
 have e3:h'.1*a.2*(a.2*h.2)=a.2*a.2*(h'.1*h.2):=by ac_rfl
 omega
theorem iY:∀ (xs:List (Int×Int)) (b:Int×Int),best b xs=b\/best b xs∈xs
 | [],b=>.inl rfl
 | x :: xs,b=>by
  show best (if ltF b x=true then x else b) xs=b\/best (if ltF b x=true then x else b) xs∈x :: xs
  rcases iY xs (if ltF b x=true then x else b) with h | h
  ·rw [h]
   split
   ·exact .inr (.head _)
   ·exact .inl rfl
  ·exact .inr (.tail _ h)
theorem tQ:∀ (xs:List (Int×Int)) (b:Int×Int),1<=b.2->(∀ x∈xs,1<=x.2)->leF b (best b xs)/\(∀ x∈xs,leF x (best b xs))/\1<=(best b xs).2
 | [],b,h,_=>⟨iI b,(fun _ z=>nomatch z),h⟩
 | x :: xs,b,h,hx=>by
  have hx0:=hx x (.head _)
  have hb2:1<=(if ltF b x=true then x else b).2:=by split<;>assumption
  have g:best b (x :: xs)=best (if ltF b x=true then x else b) xs:=rfl
  obtain ⟨i1,i2,i3⟩:=tQ xs (if ltF b x=true then x else b) hb2 fun y hy=>hx y (.tail _ hy)
  rw [g]
  have l1:leF b (if ltF b x=true then x else b):=by
   split
   ·rename_i z;exact aLr z
   ·exact iI b
  have l2:leF x (if ltF b x=true then x else b):=by
   split
   ·exact iI x
   ·rename_i z;exact xK (by simpa using z)
  refine ⟨hV h hb2 i3 l1 i1,fun y hy=>?_,i3⟩
  rcases aWh.mp hy with z | z
  ·rw [z];exact hV hx0 hb2 i3 l2 i1
  ·exact i2 y z
structure AF(x y:Int×Int):Prop where
 a:1<=x.2
 b:1<=y.2
 e:x.1*y.2=y.1*x.2
theorem AF.refl{x:Int×Int}(h:1<=x.2):AF x x:=⟨h,h,rfl⟩
theorem jO{x y:Int}(hx:1<=x)(hy:1<=y):1<=x*y:=by
 have:=bBw (show 0 < x by omega) (show 0 < y by omega)
 omega
theorem aMb{t b:Int}{y:Int×Int}(hb:1<=b)(hy:1<=y.2)(h:t*y.2=y.1*b):AF (FR.mk t b) y:=by
 obtain ⟨f1,e1⟩:=FR.sD (t:=t) (b:=b) (by omega)
 refine ⟨f1.pos,hy,?_⟩
 have h2:(FR.mk t b).1*y.2*b=y.1*(FR.mk t b).2*b:=by
  have e3:(FR.mk t b).1*y.2*b=(FR.mk t b).1*b*y.2:=by ac_rfl
  rw [e3,e1]
  have e4:t*(FR.mk t b).2*y.2=t*y.2*(FR.mk t b).2:=by ac_rfl
  rw [e4,h]
  ac_rfl
 exact aZe (by omega) h2
theorem aHm{i:Int}{x x':Int×Int}(h:AF x x'):AF (hT i x) (i*x'.1,x'.2):=by
 obtain ⟨a,b,e⟩:=h
 refine aMb (by omega) b ?_
 show i*x.1*x'.2=i*x'.1*(1*x.2)
 rw [bCf,e,Int.one_mul,bCf]
theorem aBy{x x' y y':Int×Int}(h:AF x x')(g:AF y y'):AF (hP x y) (x'.1*y'.2+y'.1*x'.2,x'.2*y'.2):=by
 obtain ⟨a,b,e⟩:=h
 obtain ⟨a2,b2,e2⟩:=g
 refine aMb (jO a a2) (jO b b2) ?_
 show (x.1*y.2+y.1*x.2)*(x'.2*y'.2)=(x'.1*y'.2+y'.1*x'.2)*(x.2*y.2)
 rw [bC3,bC3]
 have e3:x.1*y.2*(x'.2*y'.2)=x.1*x'.2*(y.2*y'.2):=by ac_rfl
 have e4:y.1*x.2*(x'.2*y'.2)=y.1*y'.2*(x.2*x'.2):=by ac_rfl
 rw [e3,e4,e,e2]
 have e5:x'.1*x.2*(y.2*y'.2)=x'.1*y'.2*(x.2*y.2):=by ac_rfl
 have e6:y'.1*y.2*(x.2*x'.2)=y'.1*x'.2*(x.2*y.2):=by ac_rfl
 rw [e5,e6]
theorem aOg{x x' y y':Int×Int}(h:AF x x')(g:AF y y'):ltF x y=ltF x' y':=by
 obtain ⟨a,b,e⟩:=h
 obtain ⟨a2,b2,e2⟩:=g
 unfold ltF
 have k:(y.1*x.2 - x.1*y.2)*(x'.2*y'.2)=(y'.1*x'.2 - x'.1*y'.2)*(x.2*y.2):=by
  rw [Int.sub_mul,Int.sub_mul]
  have e3:y.1*x.2*(x'.2*y'.2)=y.1*y'.2*(x.2*x'.2):=by ac_rfl
  have e4:x.1*y.2*(x'.2*y'.2)=x.1*x'.2*(y.2*y'.2):=by ac_rfl
  rw [e3,e4,e,e2]
  have e5:y'.1*y.2*(x.2*x'.2)=y'.1*x'.2*(x.2*y.2):=by ac_rfl
  have e6:x'.1*x.2*(y.2*y'.2)=x'.1*y'.2*(x.2*y.2):=by ac_rfl
  rw [e5,e6]
 have p1:=jO b b2
 have p2:=jO a a2
 have iff:0 < (y.1*x.2 - x.1*y.2)↔0 < (y'.1*x'.2 - x'.1*y'.2):=by
  constructor
  ·intro q
   have:=bBw q (show 0 < x'.2*y'.2 by omega)
   rw [k] at this
   exact bCk this (by omega)
  ·intro q
   have:=bBw q (show 0 < x.2*y.2 by omega)
   rw [<- k] at this
   exact bCk this (by omega)
 rw [decide_eq_decide]
 constructor
 ·intro q;have:=iff.mp (by omega);omega
 ·intro q;have:=iff.mpr (by omega);omega
abbrev R2:=Int×Int
abbrev R3:=Int×Int×Int
def hM(x y:Int×Int):Int×Int:=FR.mk (x.1*y.2 - y.1*x.2) (x.2*y.2)
def hO(x y:Int×Int):Int×Int:=FR.mk (x.1*y.2) (x.2*y.1)
theorem head_mem{α:Type}{xs:List α}(d:α)(h:xs≠[]):xs.headD d∈xs:=by
 cases xs with
 | nil=>exact absurd rfl h
 | cons p r=>exact .head _
def aPc(l h:R3):R2:=(l.2.1*h.1 - h.2.1*l.1,l.2.1*h.2.2 - h.2.1*l.2.2)
def aT2(rows:List R3):List R2:=(rows.filter fun r=>decide (r.2.1=0)).map fun r=>(r.1,r.2.2)
def aTg(rows:List R3):List R3:=rows.filter fun r=>decide (r.2.1 < 0)
def aT9(highs:List R3)(k:List R2)(l:R3):List R2:=if 0 < l.2.1 then k++highs.map (aPc l) else k
def elim(rows:List R3):List R2:=rows.foldl (aT9 (aTg rows)) (aT2 rows)
end N
namespace N
abbrev Q2:=Int×Int
def wD(a b c:Q2):Int:=(b.1 - a.1)*(c.2 - a.2) - (b.2 - a.2)*(c.1 - a.1)
def rZ(p:Q2):List Q2->List Q2
 | k1 :: k2 :: r=>if wD k2 k1 p<=0 then rZ p (k2 :: r) else k1 :: k2 :: r
 | s=>s
def pushS(s:List Q2)(p:Q2):List Q2:=p :: rZ p s
def dE(ps:List Q2):List Q2:=ps.foldl pushS []
theorem kE(p:Q2):∀ s:List Q2,rZ p s <:+ s
 | []=>by unfold rZ;exact bCr _
 | [a]=>by unfold rZ;exact bCr _
 | k1 :: k2 :: r=>by
  unfold rZ
  split
  ·exact (kE p (k2 :: r)).trans (List.suffix_cons _ _)
  ·exact bCr _
theorem aL5{x y a b:Int×Int}(hx:FR.Fr x)(hy:FR.Fr y)(h:AF x a)(g:AF y b)(e:a.1*b.2=b.1*a.2):x=y:=by
 have q:x.1*y.2=y.1*x.2:=by
  have e1:=h.e
  have e2:=g.e
  have p:=jO h.b g.b
  have z:x.1*y.2*(a.2*b.2)=y.1*x.2*(a.2*b.2):=by grind
  exact aZe (by omega) z
 exact rC hx hy (aZ4 q) (aZ4 q.symm)
theorem aP6{t b:Int}(h:1<=b):FR.Fr (FR.mk t b):=(FR.sD (by omega)).1
theorem pY{x y:Int×Int}(hx:1<=x.2)(hy:1<=y.2):FR.Fr (hP x y):=aP6 (jO hx hy)
theorem aG2(x y:Int×Int):hP x y=hP y x:=by
 unfold hP
 rw [Int.add_comm,Int.mul_comm x.2 y.2]
def ng(x:Int×Int):Int×Int:=hM (0,1) x
def ngP(s:Pt):Pt:=(ng s.1,ng s.2)
def upP(h:Int×Int)(p:Pl):Pl:=(p.1,p.2.1,hP p.2.2 h)
def mvP(s:Pt)(p:Pl):Pl:=(p.1,p.2.1,hgt p (ngP s))
def glP(pt s:Pt):Pt:=(hP pt.1 s.1,hP pt.2 s.2)
theorem aH6{x y:Int×Int}(h:AF x y):AF (ng x) (-y.1,y.2):=by
 have a:=h.a
 have b:=h.b
 have e:=h.e
 refine aMb (by dsimp only;omega) b ?_
 dsimp only
 grind
theorem mW{p:Pl}{pt:Pt}{a b c:Int×Int}(h1:AF pt.1 a)(h2:AF pt.2 b)(h3:AF p.2.2 c):AF (hgt p pt) ((p.1*a.1*b.2+p.2.1*b.1*a.2)*c.2+c.1*(a.2*b.2),a.2*b.2*c.2):=aBy (aBy (aHm h1) (aHm h2)) h3
theorem yX{p:Pl}{pt:Pt}(h1:1<=pt.1.2)(h2:1<=pt.2.2)(h3:1<=p.2.2.2):FR.Fr (hgt p pt):=pY (aBy (aHm (i:=p.1) (AF.refl h1)) (aHm (i:=p.2.1) (AF.refl h2))).a h3
theorem aQd{p:Pl}{s pt:Pt}(hp:1<=p.2.2.2)(h1:1<=s.1.2)(h2:1<=s.2.2)(h3:1<=pt.1.2)(h4:1<=pt.2.2):hgt (mvP s p) (glP pt s)=hgt p pt:=by
 have a1:=aH6 (AF.refl h1)
 have a2:=aH6 (AF.refl h2)
 have a3:AF (mvP s p).2.2 _:=mW (pt:=ngP s) a1 a2 (AF.refl hp)
 have g1:=aBy (AF.refl h3) (AF.refl h1)
 have g2:=aBy (AF.refl h4) (AF.refl h2)
 have l:=mW (pt:=glP pt s) (p:=mvP s p) g1 g2 a3
 have r:=mW (p:=p) (AF.refl h3) (AF.refl h4) (AF.refl hp)
 refine aL5 (yX g1.a g2.a a3.a) (yX h3 h4 hp) l r ?_
 show (_:Int)=_
 dsimp only [mvP]
 grind
structure Pp(pt:Pt):Prop where
 x:1<=pt.1.2
 y:1<=pt.2.2
def Pos(ps:List Pl):Prop:=∀ p∈ps,1<=p.2.2.2
structure IsTop(ps:List Pl)(pt:Pt)(h:Int×Int):Prop where
 at':∃ p∈ps,hgt p pt=h
 le:∀ p∈ps,leF (hgt p pt) h
theorem fR{p:Pl}{pt:Pt}(hp:1<=p.2.2.2)(g:Pp pt):FR.Fr (hgt p pt):=yX g.x g.y hp
theorem IsTop.fr{ps:List Pl}{pt:Pt}{h:Int×Int}(t:IsTop ps pt h)(hp:Pos ps)(g:Pp pt):FR.Fr h:=by
 obtain ⟨p,h1,rfl⟩:=t.at'
 exact fR (hp p h1) g
theorem IsTop.uniq{ps:List Pl}{pt:Pt}{a b:Int×Int}(hp:Pos ps)(g:Pp pt)(ha:IsTop ps pt a)(hb:IsTop ps pt b):a=b:=by
 obtain ⟨p,h1,e1⟩:=ha.at'
 obtain ⟨q,h2,e2⟩:=hb.at'
 refine rC (ha.fr hp g) (hb.fr hp g) ?_ ?_
 ·rw [<- e1];exact hb.le p h1
 ·rw [<- e2];exact ha.le q h2
theorem mS{ps:List Pl}{pt:Pt}(h0:ps≠[])(hp:Pos ps)(g:Pp pt):IsTop ps pt (best (hgt (ps.headD (0,0,(0,1))) pt) (ps.map fun q=>hgt q pt)):=by
 have hh:ps.headD (0,0,(0,1))∈ps:=head_mem _ h0
 refine ⟨?_,fun p h=>?_⟩
 ·rcases iY (ps.map fun q=>hgt q pt) (hgt (ps.headD (0,0,(0,1))) pt) with z | z
  ·exact ⟨_,hh,z.symm⟩
  ·obtain ⟨r,hr,e⟩:=aWg.mp z
   exact ⟨r,hr,e⟩
 ·exact (tQ (ps.map fun q=>hgt q pt) (hgt (ps.headD (0,0,(0,1))) pt) (fR (hp _ hh) g).pos (fun x hx=>by
   obtain ⟨r,hr,rfl⟩:=aWg.mp hx
   exact (fR (hp r hr) g).pos)).2.1 _ (aWg.mpr ⟨p,h,rfl⟩)
theorem IsTop.sub{ps qs:List Pl}{pt:Pt}{h:Int×Int}(hp:Pos ps)(g:Pp pt)(t:IsTop ps pt h)(s:∀ q∈qs,q∈ps)(c:∀ p∈ps,∃ q∈qs,leF (hgt p pt) (hgt q pt)):IsTop qs pt h:=by
 obtain ⟨p,h1,e1⟩:=t.at'
 obtain ⟨q,h2,l⟩:=c p h1
 refine ⟨⟨q,h2,?_⟩,fun r hr=>t.le r (s r hr)⟩
 rw [e1] at l
 exact rC (fR (hp q (s q h2)) g) (t.fr hp g) (t.le q (s q h2)) l
theorem aAe{p q:Pl}{pt:Pt}(g:Pp pt)(hp:1<=p.2.2.2)(hq:1<=q.2.2.2)(e1:p.1=q.1)(e2:p.2.1=q.2.1)(l:leF p.2.2 q.2.2):leF (hgt p pt) (hgt q pt):=by
 unfold hgt
 rw [e1,e2]
 exact aO6 (aBy (aHm (i:=q.1) (AF.refl g.x)) (aHm (i:=q.2.1) (AF.refl g.y))).a hp hq l
def pS(p q:Pl):Pl:=(p.1+q.1,p.2.1+q.2.1,hP p.2.2 q.2.2)
def dM(ps qs:List Pl):List Pl:=ps.flatMap fun p=>qs.map (pS p)
theorem mem_sums{ps qs:List Pl}{r:Pl}:r∈dM ps qs↔∃ p∈ps,∃ q∈qs,pS p q=r:=by
 unfold dM
 rw [List.mem_flatMap]
 constructor
 ·rintro ⟨p,hp,h⟩
  obtain ⟨q,hq,e⟩:=aWg.mp h
  exact ⟨p,hp,q,hq,e⟩
 ·rintro ⟨p,hp,q,hq,e⟩
  exact ⟨p,hp,aWg.mpr ⟨q,hq,e⟩⟩
theorem aRw{p q:Pl}(hp:1<=p.2.2.2)(hq:1<=q.2.2.2):1<=(pS p q).2.2.2:=(pY hp hq).pos
theorem aBx{p q:Pl}{pt:Pt}(g:Pp pt)(hp:1<=p.2.2.2)(hq:1<=q.2.2.2):hgt (pS p q) pt=hP (hgt p pt) (hgt q pt):=by
 have a1:=mW (p:=p) (AF.refl g.x) (AF.refl g.y) (AF.refl hp)
 have a2:=mW (p:=q) (AF.refl g.x) (AF.refl g.y) (AF.refl hq)
 have a3:AF (pS p q).2.2 _:=aBy (AF.refl hp) (AF.refl hq)
 have l:=mW (p:=pS p q) (AF.refl g.x) (AF.refl g.y) a3
 have r:=aBy a1 a2
 refine aL5 (fR (aRw hp hq) g) (pY a1.a a2.a) l r ?_
 show (_:Int)=_
 dsimp only [pS]
 grind
theorem aEd{a b a' b':Int×Int}(p1:1<=a.2)(p2:1<=b.2)(p3:1<=a'.2)(p4:1<=b'.2)(h1:leF a a')(h2:leF b b'):leF (hP a b) (hP a' b'):=by
 have l1:=aO6 p1 p2 p4 h2
 have l2:leF (hP a b') (hP a' b'):=by
  rw [aG2 a b',aG2 a' b']
  exact aO6 p4 p1 p3 h1
 exact hV (pY p1 p2).pos (pY p1 p4).pos (pY p3 p4).pos l1 l2
theorem aB5{a b a' b':Int×Int}(f1:FR.Fr a)(f2:FR.Fr b)(f3:FR.Fr a')(f4:FR.Fr b')(h1:leF a a')(h2:leF b b')(e:hP a b=hP a' b'):a=a'/\b=b':=by
 have p1:=f1.pos
 have p2:=f2.pos
 have p3:=f3.pos
 have p4:=f4.pos
 have x:=aBy (AF.refl p1) (AF.refl p2)
 have y:=aBy (AF.refl p3) (AF.refl p4)
 rw [e] at x
 have ex:=x.e
 have ey:=y.e
 have pr:=y.a
 dsimp only at ex ey
 generalize hP a' b'=r at ex ey pr
 have k:(a.1*a'.2 - a'.1*a.2)*(b.2*b'.2)+(b.1*b'.2 - b'.1*b.2)*(a.2*a'.2)=0:=by
  have z:((a.1*a'.2 - a'.1*a.2)*(b.2*b'.2)+(b.1*b'.2 - b'.1*b.2)*(a.2*a'.2))*r.2=0:=by grind
  rcases aYm.mp z with q | q
  ·exact q
  ·omega
 have P:=jO p2 p4
 have Q:=jO p1 p3
 unfold leF at h1 h2
 have n1:(a.1*a'.2 - a'.1*a.2)*(b.2*b'.2)<=0:=by
  have:=aYb (show a.1*a'.2 - a'.1*a.2<=0 by omega) (show 0<=b.2*b'.2 by omega)
  omega
 have n2:(b.1*b'.2 - b'.1*b.2)*(a.2*a'.2)<=0:=by
  have:=aYb (show b.1*b'.2 - b'.1*b.2<=0 by omega) (show 0<=a.2*a'.2 by omega)
  omega
 have z1:(a.1*a'.2 - a'.1*a.2)*(b.2*b'.2)=0:=by omega
 have z2:(b.1*b'.2 - b'.1*b.2)*(a.2*a'.2)=0:=by omega
 have w1:a.1*a'.2 - a'.1*a.2=0:=by
  rcases aYm.mp z1 with q | q
  ·exact q
  ·omega
 have w2:b.1*b'.2 - b'.1*b.2=0:=by
  rcases aYm.mp z2 with q | q
  ·exact q
  ·omega
 exact ⟨rC f1 f3 (aZ4 (by omega)) (aZ4 (by omega)),rC f2 f4 (aZ4 (by omega)) (aZ4 (by omega))⟩
theorem aAr{ps qs:List Pl}{pt:Pt}{a b:Int×Int}(g:Pp pt)(hp:Pos ps)(hq:Pos qs)(ha:IsTop ps pt a)(hb:IsTop qs pt b):IsTop (dM ps qs) pt (hP a b):=by
 obtain ⟨p,h1,e1⟩:=ha.at'
 obtain ⟨q,h2,e2⟩:=hb.at'
 refine ⟨⟨pS p q,mem_sums.mpr ⟨p,h1,q,h2,rfl⟩,by rw [aBx g (hp p h1) (hq q h2),e1,e2]⟩,fun r hr=>?_⟩
 obtain ⟨p',h3,q',h4,rfl⟩:=mem_sums.mp hr
 rw [aBx g (hp p' h3) (hq q' h4)]
 exact aEd (fR (hp p' h3) g).pos (fR (hq q' h4) g).pos (ha.fr hp g).pos (hb.fr hq g).pos (ha.le p' h3) (hb.le q' h4)
theorem aDw{ps qs:List Pl}{pt:Pt}{a b:Int×Int}(g:Pp pt)(hp:Pos ps)(hq:Pos qs)(ha:IsTop ps pt a)(hb:IsTop qs pt b){p q:Pl}(h1:p∈ps)(h2:q∈qs)(e:hgt (pS p q) pt=hP a b):hgt p pt=a/\hgt q pt=b:=by
 rw [aBx g (hp p h1) (hq q h2)] at e
 exact aB5 (fR (hp p h1) g) (fR (hq q h2) g) (ha.fr hp g) (hb.fr hq g) (ha.le p h1) (hb.le q h2) e
end N
namespace N
def ltQ(a b:Q2):Prop:=a.1 < b.1\/(a.1=b.1/\a.2 < b.2)
def pr(R:List Q2)(k d:Nat):Q2:=R.getD (if k < d then R.length+k - d else k - d) (0,0)
def rA(ps:List Q2):List Q2:=if ps.length=1 then ps else (dE ps).reverse.dropLast++(dE ps.reverse).reverse.dropLast
end N
namespace My
open PySem PySem.Spec PyProof.Rows L2 M N
theorem ra{α:Sort u}{β:Sort v}{γ:Sort w}{f:α->β->γ}:∀ a b,f a b=f a b:=fun _ _=>rfl
local macro_rules | `(tactic| walk_at "z") => `(tactic| repeat (first | assumption | apply L2.Sz.mul | apply N.Sz.addM | apply N.Sz.subM | apply L2.Sz.neg | apply N.zL | (apply N.mH; (first | decide | omega)) | exact N.mJ (by decide) | exact N.aL0 (by decide) | exact N.zN (by decide) | exact N.aKy (by decide)))
local macro_rules | `(tactic| walk_at "d") => `(tactic| first | assumption | (first | apply N.cm2 | apply N.cd2) <;> (first | decide | omega | (walk_at "z")) | decide | omega)
local macro_rules | `(tactic| walk_at "1a") => `(tactic| simp (disch := assumption) only [bH, cG, dS, fM, aD, mC, aE, mUn, aB, aM, aP, fC, dY, lB, aA2, Res.bind, Ev.c, aDs, lS, aH, bD, kP, kO, bP, dA, aC2, mOr, oO, uZ, aJv, vA, jU, cO, eJ, gN, mP, eZ, dat, eU, eqE, iE, hU, kM, lE, lG, oS, oN, kN, kQ, wA, sV, fI, eP, sP, aWz, aWp, aWs, aWt, aWc, aXc, aWb, aWq, bAi, aYt, bCl, bBx, bAj, aZ5, aW5, aYg, Nat.reduceAdd, Nat.reduceEqDiff, Nat.reduceLeDiff, reduceIte, aXb, aWo, aYq])
local macro_rules | `(tactic| ktr_call 11 ⟨$xs,*⟩) => `(tactic| simp (disch := assumption) only [bH, cG, dS, fM, aD, mC, aE, mUn, aB, aM, aP, fC, dY, lB, aA2, Res.bind, Ev.c, aDs, lS, aH, bD, kP, kO, bP, dA, aC2, mOr, oO, uZ, aJv, vA, jU, cO, eJ, gN, mP, eZ, dat, eU, eqE, iE, hU, kM, lE, lG, oS, oN, kN, kQ, wA, sV, fI, eP, sP, aWz, aWp, aWs, aWt, aWc, aXc, aWb, aWq, bAi, aYt, bCl, bBx, bAj, aZ5, aW5, aYg, Nat.reduceAdd, Nat.reduceEqDiff, Nat.reduceLeDiff, reduceIte, aXb, aWo, aYq, $[$xs:term],*])
local macro_rules | `(tactic| walk_at "1d") => `(tactic| simp (disch := (walk_at "d")) only [bH, cG, dS, fM, aD, mC, aE, mUn, aB, aM, aP, fC, dY, lB, aA2, Res.bind, Ev.c, aDs, lS, aH, bD, kP, kO, bP, dA, aC2, mOr, oO, uZ, aJv, vA, jU, cO, eJ, gN, mP, eZ, dat, eU, eqE, iE, hU, kM, lE, lG, oS, oN, kN, kQ, wA, sV, fI, eP, sP, aWz, aWp, aWs, aWt, aWc, aXc, aWb, aWq, bAi, aYt, bCl, bBx, bAj, aZ5, aW5, aYg, Nat.reduceAdd, Nat.reduceEqDiff, Nat.reduceLeDiff, reduceIte, aXb, aWo, aYq])
local macro_rules | `(tactic| ktr_call 21 ⟨$xs,*⟩) => `(tactic| simp (disch := (walk_at "d")) only [bH, cG, dS, fM, aD, mC, aE, mUn, aB, aM, aP, fC, dY, lB, aA2, Res.bind, Ev.c, aDs, lS, aH, bD, kP, kO, bP, dA, aC2, mOr, oO, uZ, aJv, vA, jU, cO, eJ, gN, mP, eZ, dat, eU, eqE, iE, hU, kM, lE, lG, oS, oN, kN, kQ, wA, sV, fI, eP, sP, aWz, aWp, aWs, aWt, aWc, aXc, aWb, aWq, bAi, aYt, bCl, bBx, bAj, aZ5, aW5, aYg, Nat.reduceAdd, Nat.reduceEqDiff, Nat.reduceLeDiff, reduceIte, aXb, aWo, aYq, $[$xs:term],*])
local macro_rules | `(tactic| walk_at "2") => `(tactic| simp only [bH, cG, dS, fM, aD, mC, aE, mUn, aB, aM, aP, fC, dY, lB, aA2, Res.bind, Ev.c, aDs, lS, aH, bD, kP, kO, bP, dA, aC2, mOr, oO, uZ, aJv, vA, jU, cO, eJ, gN, mP, eZ, dat, eU, eqE, iE, hU, kM, lE, lG, oS, oN, kN, kQ, wA, aWz, aWp, aWs, aWt, aWc, aXc, aWb, aWq, bAi, aYt, bCl, bBx, bAj, aZ5, aW5, aYg, Nat.reduceAdd, Nat.reduceEqDiff, Nat.reduceLeDiff, reduceIte, aXb, aWo, aYq])
local macro_rules | `(tactic| ktr_call 2 ⟨$xs,*⟩) => `(tactic| simp only [bH, cG, dS, fM, aD, mC, aE, mUn, aB, aM, aP, fC, dY, lB, aA2, Res.bind, Ev.c, aDs, lS, aH, bD, kP, kO, bP, dA, aC2, mOr, oO, uZ, aJv, vA, jU, cO, eJ, gN, mP, eZ, dat, eU, eqE, iE, hU, kM, lE, lG, oS, oN, kN, kQ, wA, aWz, aWp, aWs, aWt, aWc, aXc, aWb, aWq, bAi, aYt, bCl, bBx, bAj, aZ5, aW5, aYg, Nat.reduceAdd, Nat.reduceEqDiff, Nat.reduceLeDiff, reduceIte, aXb, aWo, aYq, $[$xs:term],*])
local macro_rules | `(tactic| ktr_call 3 ⟨$xs,*⟩) => `(tactic| simp only [aWz, aWp, aWs, aWt, aWc, aXc, aWb, aWq, bAi, aYt, bCl, bBx, bAj, aZ5, aW5, aYg, Nat.reduceAdd, Nat.reduceEqDiff, Nat.reduceLeDiff, reduceIte, aXb, aWo, aYq, $[$xs:term],*])
local macro_rules | `(tactic| ktr_call 13 ⟨$xs,*⟩) => `(tactic| simp (disch := assumption) only [aWz, aWp, aWs, aWt, aWc, aXc, aWb, aWq, bAi, aYt, bCl, bBx, bAj, aZ5, aW5, aYg, Nat.reduceAdd, Nat.reduceEqDiff, Nat.reduceLeDiff, reduceIte, aXb, aWo, aYq, $[$xs:term],*])
def top(i:Nat):Stmt:=PySem.Challenge.pw_creasecurve_k64_whole_field_of_a_sum.main.body.getD i (.Pass ⟨0,0,0,0⟩)
abbrev eS:Stmt:=top 7
abbrev lP:Stmt:=top 8
abbrev aBk:Stmt:=top 9
abbrev vN:Stmt:=top 10
abbrev uY:Stmt:=top 11
abbrev aAo:Stmt:=top 12
abbrev gF:Stmt:=top 13
abbrev tO:Stmt:=top 14
abbrev lH:Stmt:=top 18
abbrev gU:Stmt:=top 19
abbrev gX:Stmt:=top 20
abbrev eT:Stmt:=top 21
abbrev mV:Stmt:=top 22
abbrev tY:Stmt:=top 24
abbrev pK:Stmt:=top 25
abbrev vF:Stmt:=top 26
abbrev zO:Stmt:=top 28
abbrev vJ:Stmt:=top 29
abbrev aAw:Stmt:=top 30
abbrev gT:Stmt:=top 32
abbrev aA7:Stmt:=top 33
abbrev uF:Stmt:=top 35
abbrev gY:Stmt:=top 37
abbrev gW:Stmt:=top 38
abbrev i9:Stmt:=top 39
abbrev lO:Stmt:=top 40
abbrev fO:Stmt:=top 41
abbrev gZ:Stmt:=top 42
abbrev fY:Stmt:=top 43
abbrev jE:Stmt:=top 44
abbrev g9:Stmt:=top 45
abbrev gG:Stmt:=top 46
abbrev gA:Stmt:=top 47
abbrev lJ:Stmt:=top 48
abbrev kC:Stmt:=top 49
abbrev fQ:Stmt:=top 50
abbrev gQ:Stmt:=top 51
abbrev eQ:Stmt:=top 52
abbrev fN:Stmt:=top 53
abbrev gS:Stmt:=top 54
abbrev i6:Stmt:=top 55
abbrev fW:Stmt:=top 56
abbrev wX:Stmt:=top 57
theorem aAf:bootBuiltins "abs" = some (.builtin "abs"):=by decide +kernel
theorem aP2:bootBuiltins "any" = some (.builtin "any"):=by decide +kernel
theorem aOz:bootBuiltins "bool" = some (.type "bool"):=by decide +kernel
theorem aQj:bootBuiltins "int" = some (.type "int"):=by decide +kernel
theorem tX:bootBuiltins "list" = some (.type "list"):=by decide +kernel
theorem aFi:bootBuiltins "max" = some (.builtin "max"):=by decide +kernel
theorem aPs:bootBuiltins "min" = some (.builtin "min"):=by decide +kernel
theorem pV:bootBuiltins "sorted" = some (.builtin "sorted"):=by decide +kernel
theorem aI6:bootBuiltins "tuple" = some (.type "tuple"):=by decide +kernel
structure Blt(mg:Str->Option Value):Prop where
 abs_:mg "abs" = none
 any_:mg "any" = none
 bool_:mg "bool" = none
 int_:mg "int" = none
 isinstance_:mg "isinstance" = none
 len_:mg "len" = none
 list_:mg "list" = none
 max_:mg "max" = none
 min_:mg "min" = none
 range_:mg "range" = none
 reversed_:mg "reversed" = none
 set_:mg "set" = none
 sorted_:mg "sorted" = none
 tuple_:mg "tuple" = none
 zip_:mg "zip" = none
structure Cls where
 RoofError:Addr
 NoFraction:Addr
 NoRoof:Addr
 TooSteep:Addr
 TooMany:Addr
structure i8(mg:Str->Option Value)(c:Cls):Prop where
 mRoofError:mg "RoofError" = some (.ref c.RoofError)
 mNoFraction:mg "NoFraction" = some (.ref c.NoFraction)
 mNoRoof:mg "NoRoof" = some (.ref c.NoRoof)
 mTooSteep:mg "TooSteep" = some (.ref c.TooSteep)
 mTooMany:mg "TooMany" = some (.ref c.TooMany)
structure jB(mg:Str->Option Value)(base:Heap)(c:Cls):Prop where
 NoFraction:PyProof.Rows.OwnCls "NoFraction" c.NoFraction [.type "ValueError",.type "Exception",.type "BaseException",.type "object"] "ValueError.__new__" mg base
 NoRoof:PyProof.Rows.OwnCls "NoRoof" c.NoRoof [.type "ValueError",.type "Exception",.type "BaseException",.type "object"] "ValueError.__new__" mg base
 TooMany:PyProof.Rows.OwnCls "TooMany" c.TooMany [.type "ValueError",.type "Exception",.type "BaseException",.type "object"] "ValueError.__new__" mg base
 TooSteep:PyProof.Rows.OwnCls "TooSteep" c.TooSteep [.type "ValueError",.type "Exception",.type "BaseException",.type "object"] "ValueError.__new__" mg base
noncomputable def bI(K:aV9)(c:Cls):List L->Res L:=mOf eII (fun _=>True) fun a=>.ok (.p (.int (Int.gcd a.1 a.2:Nat)))
noncomputable def cH(K:aV9)(c:Cls):En->Res Bool:=(bP (aE (eqE true) (aD 3) (mC (.int 0))))
noncomputable def cV(K:aV9)(c:Cls):MS:=(bH (cG 4 (aE cP (aD 2) (aD 3))) (bH (cG 2 (aD 3)) (cG 3 (aD 4))))
variable (K:aV9)(c:Cls)
noncomputable def jA:MS:=(bH (cG 2 (aH aKr (aB (aD 0) aM))) (bH (cG 3 (aH aKr (aB (aD 1) aM))) (bH (mT (cH K c) (cV K c)) (dS (aD 2)))))
theorem aT7(A B:Option L):∀ (n:Nat) (l s:Int) (r:Option L),0<=l->0<=s->s.toNat<=n->∃ r',mWh (cH K c) (cV K c) (n+1) [A,B,some (.p (.int l)),some (.p (.int s)),r]=some (.nx [A,B,some (.p (.int (Int.gcd l s:Nat))),some (.p (.int 0)),r']):=by
 intro n
 have hc:∀ (l s:Int) (r:Option L),cH K c [A,B,some (.p (.int l)),some (.p (.int s)),r]=.ok (!(s == 0)):=fun l s r=>by
  ktr_call 3 ⟨cH,bP,aE,aD,mC,Res.bind,Ev.c,eqE,dat,iE,hU,dA⟩
  rfl
 have done:∀ (n:Nat) (l:Int) (r:Option L),0<=l->mWh (cH K c) (cV K c) (n+1) [A,B,some (.p (.int l)),some (.p (.int 0)),r]=some (.nx [A,B,some (.p (.int (Int.gcd l 0:Nat))),some (.p (.int 0)),r]):=fun n l r hl=>by
  unfold mWh
  rw [hc,FR.aD8 hl]
  rfl
 induction n with
 | zero =>
  intro l s r hl hs hn
  have:s=0:=by omega
  subst this
  exact ⟨r,done 0 l r hl⟩
 | succ n ih =>
  intro l s r hl hs hn
  by_cases h0:s=0
  ·subst h0
   exact ⟨r,done _ l r hl⟩
  ·have em:l.fmod s=l % s:=bAb l hs
   have m0:=bC0 l h0
   have m1:=bB0 l (show 0 < s by omega)
   obtain ⟨r',ih⟩:=ih s (l.fmod s) (some (.p (.int (l.fmod s)))) hs (by omega) (by omega)
   refine ⟨r',?_⟩
   rw [em,FR.aBh hl hs] at ih
   have hb:cV K c [A,B,some (.p (.int l)),some (.p (.int s)),r]=some (.nx [A,B,some (.p (.int s)),some (.p (.int (l % s))),some (.p (.int (l % s)))]):=by
    ktr_call 13 ⟨cV,aE,aD,mC,bH,cG,Res.bind,Ev.c,eP,em⟩
   have ht:cH K c [A,B,some (.p (.int l)),some (.p (.int s)),r]=.ok true:=by rw [hc,bBv h0];rfl
   unfold mWh
   rw [ht]
   dsimp only
   rw [hb]
   exact ih
theorem l8:∀ ls,bI K c ls=.bad\/fG 5 (jA K c) ls=bI K c ls:=dP fun x _=>by
 obtain ⟨a,b⟩:=x
 obtain ⟨r',h⟩:=aT7 K c (some (.p (.int a))) (some (.p (.int b))) _ (if a < 0 then -a else a) (if b < 0 then -b else b) none (by split<;>omega) (by split<;>omega) (aWl _)
 have h:=qN h
 rw [FR.aEj] at h
 refine b8 ?_
 rw [show bK 5 (eII (a,b))=[some (.p (.int a)),some (.p (.int b)),none,none,none] from rfl]
 refine (aQ (cU (d:=.int (if a < 0 then -a else a)) rfl)).trans ((aQ (cU (d:=.int (if b < 0 then -b else b)) rfl)).trans ((aQ h).trans ?_))
 rfl
theorem aAz(a b:Int):bI K c [.p (.int a),.p (.int b)]=.ok (.p (.int (Int.gcd a b:Nat))):=dX (a:=(a,b)) aE1 trivial
theorem aQ6{b:Int}(t:Int)(hb:b≠0)(hz:Sz 8000 b):iG t ((Int.gcd t b:Nat):Int)/\iG t (-((Int.gcd t b:Nat):Int)):=by
 have g0:=FR.xV (t:=t) hb
 have gle:Int.gcd t b<=b.natAbs:=Nat.le_of_dvd (by omega) (bCb t b)
 refine ⟨⟨by omega,Sz.le hz (by rw [bB1];exact gle)⟩,by omega,Sz.le hz (by rw [Int.natAbs_neg,bB1];exact gle)⟩
open Classical in
noncomputable def dZ(K:aV9)(c:Cls):List L->Res L:=mOf eII (fun a=>Sz 8000 a.2) fun a=>if a.2=0 then .exc c.NoFraction else .ok (.p (frD (FR.mk a.1 a.2)))
noncomputable def iK:MS:=(bH (fM (bP (aE (eqE false) (aD 1) (mC (.int 0)))) (jU c.NoFraction (aB (mC (.str "nothing is divided by 0")) aM)) cO) (bH (cG 2 (aP 2 (bI K c) (aB (aD 0) (aB (aD 1) aM)))) (bH (fM (bP (aE ltE (aD 1) (mC (.int 0)))) (cG 2 (mUn mP (aD 2))) cO) (dS (aH bD (aB (aE cB (aD 0) (aD 2)) (aB (aE cB (aD 1) (aD 2)) aM)))))))
theorem zH:∀ ls,dZ K c ls=.bad\/fG 3 (iK K c) ls=dZ K c ls:=dP fun x hz=>by
 obtain ⟨t,b⟩:=x
 have hz:Sz 8000 b:=hz
 show fG 3 (iK K c) (eII (t,b))=if b=0 then .exc c.NoFraction else .ok (.p (frD (FR.mk t b)))
 have t0:bP (aE (eqE false) (aD 1) (mC (.int 0))) [some (.p (.int t)),some (.p (.int b)),none]=.ok (b == 0):=by
  ktr_call 3 ⟨bP,aE,aD,mC,Res.bind,Ev.c,eqE,dat,iE,hU,dA⟩
  rfl
 by_cases hb:b=0
 ·rw [aWm hb]
  have t0:bP (aE (eqE false) (aD 1) (mC (.int 0))) [some (.p (.int t)),some (.p (.int b)),none]=.ok true:=by rw [t0,hb];rfl
  have e:iK K c (bK 3 (eII (t,b)))=some (.ex c.NoFraction [some (.p (.int t)),some (.p (.int b)),none]):=by
   unfold iK bH
   rw [show bK 3 (eII (t,b))=[some (.p (.int t)),some (.p (.int b)),none] from rfl,l3 t0]
   rfl
  unfold fG
  rw [e]
 ·rw [aWn hb]
  rw [bBv hb] at t0
  obtain ⟨q1,q2⟩:=aQ6 t hb hz
  have q1':iG b ((Int.gcd t b:Nat):Int):=q1
  have q2':iG b (-((Int.gcd t b:Nat):Int)):=q2
  have g:=aAz K c t b
  have e1:(aP 2 (bI K c) (aB (aD 0) (aB (aD 1) aM))) [some (.p (.int t)),some (.p (.int b)),none]=.ok (.p (.int (Int.gcd t b:Nat))):=by
   ktr_call 3 ⟨aP,aB,aM,aD,Res.bind,Ev.c,fC,dY,lB,g,lS⟩
  refine b8 ?_
  rw [show bK 3 (eII (t,b))=[some (.p (.int t)),some (.p (.int b)),none] from rfl]
  unfold iK
  refine (aQ (kH t0)).trans ((aQ (cU e1)).trans ?_)
  have t1:bP (aE ltE (aD 1) (mC (.int 0))) [some (.p (.int t)),some (.p (.int b)),some (.p (.int (Int.gcd t b:Nat)))]=.ok (decide (b < 0)):=by
   ktr_call 3 ⟨bP,aE,aD,mC,Res.bind,Ev.c,gN,dA⟩
  by_cases hn:b < 0
  ·rw [aXg hn] at t1
   have es:FR.mk t b=(t.fdiv (-((Int.gcd t b:Nat):Int)),b.fdiv (-((Int.gcd t b:Nat):Int))):=by unfold FR.mk FR.sgn;rw [aWm hn]
   refine (aQ ((l3 t1).trans (cU (d:=.int (-((Int.gcd t b:Nat):Int))) rfl))).trans (jY ?_)
   rw [es]
   ktr_call 11 ⟨frD⟩
  ·rw [aW0 hn] at t1
   have es:FR.mk t b=(t.fdiv ((Int.gcd t b:Nat):Int),b.fdiv ((Int.gcd t b:Nat):Int)):=by unfold FR.mk FR.sgn;rw [aWn hn]
   refine (aQ (kH t1)).trans (jY ?_)
   rw [es]
   ktr_call 11 ⟨frD⟩
theorem yV{t b:Int}(h0:b≠0)(h1:Sz 8000 b):dZ K c [.p (.int t),.p (.int b)]=.ok (.p (frD (FR.mk t b))):=(dX (a:=(t,b)) aE1 h1).trans (aWn h0)
noncomputable def jX(K:aV9)(c:Cls):List L->Res L:=mOf eFF (fun a=>FSz 2000 a.1/\FSz 2000 a.2/\a.1.2*a.2.2≠0) fun a=>.ok (.p (frD (FR.mk (a.1.1*a.2.2+a.2.1*a.1.2) (a.1.2*a.2.2))))
noncomputable def aGs:MS:=(dS (aP 2 (dZ K c) (aB (aE eJ (aE dF (aE ixE (aD 0) (mC (.int 0))) (aE ixE (aD 1) (mC (.int 1)))) (aE dF (aE ixE (aD 1) (mC (.int 0))) (aE ixE (aD 0) (mC (.int 1))))) (aB (aE dF (aE ixE (aD 0) (mC (.int 1))) (aE ixE (aD 1) (mC (.int 1)))) aM))))
theorem aNg:∀ ls,jX K c ls=.bad\/fG 2 (aGs K c) ls=jX K c ls:=dP fun a h=>by
 obtain ⟨x,y⟩:=a
 obtain ⟨⟨x1,x2⟩,⟨y1,y2⟩,hb⟩:=h
 dsimp only at x1 x2 y1 y2 hb ⊢
 have f:=yV K c (t:=x.1*y.2+y.1*x.2) hb ((Sz.mul x2 y2).mono (by decide))
 refine b8 ?_
 rw [show bK 2 (eFF (x,y))=[some (.p (frD x)),some (.p (frD y))] from rfl]
 unfold aGs
 refine jY ?_
 ktr_call 21 ⟨f⟩
theorem aI5{x y:Int×Int}(h1:FSz 2000 x)(h2:FSz 2000 y)(h3:x.2*y.2≠0):jX K c [.p (frD x),.p (frD y)]=.ok (.p (frD (FR.mk (x.1*y.2+y.1*x.2) (x.2*y.2)))):=dX (a:=(x,y)) oB ⟨h1,h2,h3⟩
theorem nH{m n:Nat}{x y:Int×Int}(hx:Good m x)(hy:Good n y)(hm:m<=2000)(hn:n<=2000):jX K c [.p (frD x),.p (frD y)]=.ok (.p (frD (hP x y))):=aI5 K c (hx.mono hm).fsz (hy.mono hn).fsz (hx.ne hy)
noncomputable def iM(K:aV9)(c:Cls):List L->Res L:=mOf eFF (fun a=>FSz 2000 a.1/\FSz 2000 a.2/\a.1.2*a.2.2≠0) fun a=>.ok (.p (frD (FR.mk (a.1.1*a.2.2 - a.2.1*a.1.2) (a.1.2*a.2.2))))
noncomputable def yF:MS:=(dS (aP 2 (dZ K c) (aB (aE gI (aE dF (aE ixE (aD 0) (mC (.int 0))) (aE ixE (aD 1) (mC (.int 1)))) (aE dF (aE ixE (aD 1) (mC (.int 0))) (aE ixE (aD 0) (mC (.int 1))))) (aB (aE dF (aE ixE (aD 0) (mC (.int 1))) (aE ixE (aD 1) (mC (.int 1)))) aM))))
theorem aIt:∀ ls,iM K c ls=.bad\/fG 2 (yF K c) ls=iM K c ls:=dP fun a h=>by
 obtain ⟨x,y⟩:=a
 obtain ⟨⟨x1,x2⟩,⟨y1,y2⟩,hb⟩:=h
 dsimp only at x1 x2 y1 y2 hb ⊢
 have f:=yV K c (t:=x.1*y.2 - y.1*x.2) hb ((Sz.mul x2 y2).mono (by decide))
 refine b8 ?_
 rw [show bK 2 (eFF (x,y))=[some (.p (frD x)),some (.p (frD y))] from rfl]
 unfold yF
 refine jY ?_
 ktr_call 21 ⟨f⟩
theorem aFd{x y:Int×Int}(h1:FSz 2000 x)(h2:FSz 2000 y)(h3:x.2*y.2≠0):iM K c [.p (frD x),.p (frD y)]=.ok (.p (frD (FR.mk (x.1*y.2 - y.1*x.2) (x.2*y.2)))):=dX (a:=(x,y)) oB ⟨h1,h2,h3⟩
theorem sM{m n:Nat}{x y:Int×Int}(hx:Good m x)(hy:Good n y)(hm:m<=2000)(hn:n<=2000):iM K c [.p (frD x),.p (frD y)]=.ok (.p (frD (hM x y))):=aFd K c (hx.mono hm).fsz (hy.mono hn).fsz (hx.ne hy)
noncomputable def iR(K:aV9)(c:Cls):List L->Res L:=mOf eFF (fun a=>FSz 2000 a.1/\FSz 2000 a.2/\a.1.2*a.2.2≠0) fun a=>.ok (.p (frD (FR.mk (a.1.1*a.2.1) (a.1.2*a.2.2))))
noncomputable def yU:MS:=(dS (aP 2 (dZ K c) (aB (aE dF (aE ixE (aD 0) (mC (.int 0))) (aE ixE (aD 1) (mC (.int 0)))) (aB (aE dF (aE ixE (aD 0) (mC (.int 1))) (aE ixE (aD 1) (mC (.int 1)))) aM))))
theorem aH3:∀ ls,iR K c ls=.bad\/fG 2 (yU K c) ls=iR K c ls:=dP fun a h=>by
 obtain ⟨x,y⟩:=a
 obtain ⟨⟨x1,x2⟩,⟨y1,y2⟩,hb⟩:=h
 dsimp only at x1 x2 y1 y2 hb ⊢
 have f:=yV K c (t:=x.1*y.1) hb ((Sz.mul x2 y2).mono (by decide))
 refine b8 ?_
 rw [show bK 2 (eFF (x,y))=[some (.p (frD x)),some (.p (frD y))] from rfl]
 unfold yU
 refine jY ?_
 ktr_call 21 ⟨f⟩
theorem aDz{x y:Int×Int}(h1:FSz 2000 x)(h2:FSz 2000 y)(h3:x.2*y.2≠0):iR K c [.p (frD x),.p (frD y)]=.ok (.p (frD (FR.mk (x.1*y.1) (x.2*y.2)))):=dX (a:=(x,y)) oB ⟨h1,h2,h3⟩
theorem sN{n:Nat}{i:Int}{x:Int×Int}(hi:Sz 2000 i)(hx:Good n x)(hn:n<=2000):iR K c [.p (.tuple [.int i,.int 1]),.p (frD x)]=.ok (.p (frD (hT i x))):=aDz K c (x:=(i,1)) ⟨hi,aQz⟩ (hx.mono hn).fsz (by have:=hx.1;show 1*x.2≠0;omega)
noncomputable def lY(K:aV9)(c:Cls):List L->Res L:=mOf eFF (fun a=>FSz 2000 a.1/\FSz 2000 a.2) fun a=>.ok (.p (.bool (ltF a.1 a.2)))
noncomputable def aDn(K:aV9)(c:Cls):MS:=(dS (aE ltE (aE dF (aE ixE (aD 0) (mC (.int 0))) (aE ixE (aD 1) (mC (.int 1)))) (aE dF (aE ixE (aD 1) (mC (.int 0))) (aE ixE (aD 0) (mC (.int 1))))))
theorem aNc:∀ ls,lY K c ls=.bad\/fG 2 (aDn K c) ls=lY K c ls:=dP fun a h=>by
 obtain ⟨x,y⟩:=a
 obtain ⟨⟨x1,x2⟩,⟨y1,y2⟩⟩:=h
 dsimp only at x1 x2 y1 y2 ⊢
 refine b8 ?_
 rw [show bK 2 (eFF (x,y))=[some (.p (frD x)),some (.p (frD y))] from rfl]
 unfold aDn
 refine jY ?_
 walk_at "1d"
 rfl
theorem aE7{x y:Int×Int}(hx:FSz 2000 x)(hy:FSz 2000 y):lY K c [.p (frD x),.p (frD y)]=.ok (.p (.bool (ltF x y))):=dX (a:=(x,y)) oB ⟨hx,hy⟩
structure aH9(p:Pl)(pt:Pt):Prop where
 i:Sz 10 p.1
 j:Sz 10 p.2.1
 h:Good 700 p.2.2
 x:Good 610 pt.1
 y:Good 610 pt.2
noncomputable def dI(K:aV9)(c:Cls):List L->Res L:=mOf ePH (fun a=>aH9 a.1 a.2) fun a=>.ok (.p (frD (hgt a.1 a.2)))
noncomputable def jJ:MS:=(bH (cG 2 (aP 2 (iR K c) (aB (aH bD (aB (aE ixE (aD 0) (mC (.int 0))) (aB (mC (.int 1)) aM))) (aB (aE ixE (aD 1) (mC (.int 0))) aM)))) (bH (cG 3 (aP 2 (iR K c) (aB (aH bD (aB (aE ixE (aD 0) (mC (.int 1))) (aB (mC (.int 1)) aM))) (aB (aE ixE (aD 1) (mC (.int 1))) aM)))) (dS (aP 2 (jX K c) (aB (aP 2 (jX K c) (aB (aD 2) (aB (aD 3) aM))) (aB (aE ixE (aD 0) (mC (.int 2))) aM))))))
theorem rV:∀ ls,dI K c ls=.bad\/fG 4 (jJ K c) ls=dI K c ls:=dP fun a g=>by
 obtain ⟨p,pt⟩:=a
 dsimp only at g ⊢
 have t1:=sN K c (g.i.mono (show 10<=2000 by decide)) g.x (by decide)
 have t2:=sN K c (g.j.mono (show 10<=2000 by decide)) g.y (by decide)
 have p1:=nH K c (s8 g.i g.x) (s8 g.j g.y) (by decide) (by decide)
 have p2:=nH K c (tJ (s8 g.i g.x) (s8 g.j g.y)) g.h (by decide) (by decide)
 refine b8 ?_
 rw [show bK 4 (ePH (p,pt))=[some (.p (plD p)),some (.p (.tuple [frD pt.1,frD pt.2])),none,none] from rfl]
 unfold jJ
 have e1:(aP 2 (iR K c) (aB (aH bD (aB (aE ixE (aD 0) (mC (.int 0))) (aB (mC (.int 1)) aM))) (aB (aE ixE (aD 1) (mC (.int 0))) aM))) [some (.p (plD p)),some (.p (.tuple [frD pt.1,frD pt.2])),none,none]=.ok (.p (frD (hT p.1 pt.1))):=by
  ktr_call 2 ⟨t1⟩
 have e2:(aP 2 (iR K c) (aB (aH bD (aB (aE ixE (aD 0) (mC (.int 1))) (aB (mC (.int 1)) aM))) (aB (aE ixE (aD 1) (mC (.int 1))) aM))) [some (.p (plD p)),some (.p (.tuple [frD pt.1,frD pt.2])),some (.p (frD (hT p.1 pt.1))),none]=.ok (.p (frD (hT p.2.1 pt.2))):=by
  ktr_call 2 ⟨t2⟩
 refine (aQ (cU e1)).trans ((aQ (cU e2)).trans (jY ?_))
 ktr_call 2 ⟨p1,p2⟩
 rfl
theorem aMx{p:Pl}{pt:Pt}(g:aH9 p pt):dI K c [.p (plD p),.p (.tuple [frD pt.1,frD pt.2])]=.ok (.p (frD (hgt p pt))):=dX (a:=(p,pt)) aHi g
def ePl(p:Pl):List L:=[.p (plD p)]
theorem aOy(a b:Pl)(h:ePl a=ePl b):a=b:=by
 unfold ePl at h
 injection h with h _
 injection h with h
 exact plI h
noncomputable def eI(K:aV9)(c:Cls):List L->Res L:=mOf ePl (fun _=>True) fun p=>.ok (.p (slD (slp p)))
noncomputable def oA(K:aV9)(c:Cls):MS:=(dS (aH bD (aB (aE ixE (aD 0) (mC (.int 0))) (aB (aE ixE (aD 0) (mC (.int 1))) aM))))
theorem zB:∀ ls,eI K c ls=.bad\/fG 1 (oA K c) ls=eI K c ls:=dP fun p _=>by
 refine b8 ?_
 rw [show bK 1 (ePl p)=[some (.p (plD p))] from rfl]
 unfold oA
 refine jY ?_
 walk_at "2"
 rfl
theorem nU(p:Pl):eI K c [.p (plD p)]=.ok (.p (slD (slp p))):=dX (a:=p) aOy trivial
structure iH(K:aV9)(c:Cls):Prop where
 ii:PySem.W.kitOne K (.type "int") (.type "int")=some true
 ib:PySem.W.kitOne K (.type "int") (.type "bool")=some false
 tt:PySem.W.kitOne K (.type "tuple") (.type "tuple")=some true
 ll:PySem.W.kitOne K (.type "list") (.type "list")=some true
noncomputable def jM(K:aV9)(c:Cls):MS:=(bH (fM (bP (aE ltE (aD 1) (aH eU (aB (aD 0) aM)))) (dS (aE ixE (aD 0) (aD 1))) cO) (dS (mC (.int 0))))
noncomputable def a8(ls:List L):Res L:=fG 2 (jM K c) ls
theorem rX:∀ ls,a8 K c ls=.bad\/fG 2 (jM K c) ls=a8 K c ls:=fun _=>.inr rfl
theorem aL1{ns:List Int}{k:Nat}(h:k < ns.length):atI (ns.map PyData.int) (k:Int)=some (.int (ns.getD k 0)):=by
 have:ns.getD k 0=ns[k]:=by simp [List.getD,h]
 rw [this]
 exact qQ (by rw [aWu,aWd h];rfl)
theorem qV(ns:List Int)(k:Nat):a8 K c [.p (.list (ns.map .int)),.p (.int (k:Int))]=.ok (.p (.int (ns.getD k 0))):=by
 have hlen:eU [.p (.list (ns.map .int))]=.ok (.p (.int (ns.length:Nat))):=by simp [eU,fH]
 unfold a8
 refine b8 ?_
 rw [show bK 2 [.p (.list (ns.map .int)),.p (.int (k:Int))]=[some (.p (.list (ns.map .int))),some (.p (.int (k:Int)))] from rfl]
 have ht:bP (aE ltE (aD 1) (aH eU (aB (aD 0) aM))) [some (.p (.list (ns.map .int))),some (.p (.int (k:Int)))]=.ok (decide (k < ns.length)):=by
  simp [bP,aE,aD,aH,aB,aM,Res.bind,Ev.c,hlen,gN,dA]
 by_cases hk:k < ns.length
 ·rw [aXg hk] at ht
  refine (lV ((l3 ht).trans ?_))
  simp [dS,aE,aD,Res.bind,Ev.c,ixE,fH,aL1 hk,aDs]
 ·rw [aW0 hk] at ht
  refine (aQ (kH ht)).trans ?_
  have:ns.getD k 0=0:=by simp [List.getD,bCm hk]
  rw [this]
  rfl
noncomputable def eW:MS:=(bH (cG 4 (aE cP (aP 2 (a8 K c) (aB (aD 0) (aB (aD 3) aM))) (aD 1))) (bH (cG 4 (aE cP (aE eJ (aE eJ (aE eJ (aE dF (aD 4) (mC (.int 48271))) (aE dF (aE dF (aD 3) (aD 3)) (mC (.int 7919)))) (aD 3)) (mC (.int 1))) (aD 1))) (mD 2 (aE cP (aE dF (aE cP (aE dF (aD 4) (mC (.int 413338662677311947023157))) (aD 1)) (mC (.int 282475249))) (aD 1)))))
noncomputable def jN:MS:=(bH (cG 1 (mC (.int 618970019642690137449562111))) (bH (cG 2 (aH kP aM)) (bH (xH (tF sA (aB (aH (aOl fun i j=>if j > i then j else i) (aB (aH eU (aB (aD 0) aM)) (aB (mC (.int 7)) aM))) aM)) (aR 3) (eW K c)) (dS (aD 2)))))
noncomputable def cT(ls:List L):Res L:=fG 5 (jN K c) ls
theorem qR:∀ ls,cT K c ls=.bad\/fG 5 (jN K c) ls=cT K c ls:=fun _=>.inr rfl
def PR:Int:=618970019642690137449562111
theorem aRs(ns vs:List Int)(hv:vs.length<=1000)(k:Nat)(hk:k<=100)(r4:Option L):∃ v w,0<=v/\v < PR/\eW K c [some (.p (.list (ns.map .int))),some (.p (.int PR)),some (.o (.list (vs.map .int))),some (.p (.int (k:Int))),r4]=some (.nx [some (.p (.list (ns.map .int))),some (.p (.int PR)),some (.o (.list ((vs++[v]).map .int))),some (.p (.int (k:Int))),w]):=by
 have hc:=qV K c ns k
 have p0:(0:Int) < PR:=by decide
 have pz:Sz 200 PR:=by unfold Sz PR;decide
 have kz:Sz 20 (k:Int):=by unfold Sz;omega
 have pn:PR≠0:=by decide
 have m1:=cF (a:=ns.getD k 0) p0
 have z1:Sz 200 ((ns.getD k 0).fmod PR):=mH p0 pz
 generalize hC:(ns.getD k 0).fmod PR=C at m1 z1
 have z2:Sz 200 ((C*48271+(k:Int)*(k:Int)*7919+(k:Int)+1).fmod PR):=mH p0 pz
 refine ⟨(((C*48271+(k:Int)*(k:Int)*7919+(k:Int)+1).fmod PR*413338662677311947023157).fmod PR*282475249).fmod PR,some (.p (.int ((C*48271+(k:Int)*(k:Int)*7919+(k:Int)+1).fmod PR))),(cF p0).1,(cF p0).2,?_⟩
 have l1:vs.length<=100000:=by omega
 ktr_call 21 ⟨eW,hc,hC,mD,l1⟩
theorem aN6(ns:List Int)(hn:ns.length<=63):∃ vs:List Int,vs.length<=100/\(∀ v∈vs,0<=v/\v < PR)/\cT K c [.p (.list (ns.map .int))]=.ok (.o (.list (vs.map .int))):=by
 have hlen:eU [.p (.list (ns.map .int))]=.ok (.p (.int (ns.length:Nat))):=by simp [eU,fH]
 obtain ⟨n,hn2,hr⟩:∃ n:Nat,n<=63/\∀ r3 r4,(tF sA (aB (aH (aOl fun i j=>if j > i then j else i) (aB (aH eU (aB (aD 0) aM)) (aB (mC (.int 7)) aM))) aM)) [some (.p (.list (ns.map .int))),some (.p (.int PR)),some (.o (.list [])),r3,r4]=.ok (vY 0 n):=by
  refine ⟨(if (7:Int) > (ns.length:Nat) then (7:Int) else (ns.length:Nat)).toNat,by split<;>omega,fun r3 r4=>?_⟩
  have hb:-(2 ^ 62)<=(if (7:Int) > (ns.length:Nat) then (7:Int) else (ns.length:Nat))/\(if (7:Int) > (ns.length:Nat) then (7:Int) else (ns.length:Nat)) < 2 ^ 62:=by split<;>omega
  simp only [tF,aB,aM,aH,aD,mC,aWz,aWp,Res.bind,Ev.c,hlen,aOl,sA]
  first
  | rw [aWm ⟨hb.1,hb.2⟩]
  | rw [aWm hb.2]
  | rfl
 obtain ⟨e',⟨vs,r3,r4,h1,h2,rfl⟩,hl⟩:=aBp (tg:=aR 3) (f:=eW K c) (fun k e=>∃ vs r3 r4,vs.length=k/\(∀ v∈vs,0<=v/\v < PR)/\e=[some (.p (.list (ns.map .int))),some (.p (.int PR)),some (.o (.list (vs.map .int))),r3,r4]) (vY 0 n) 0 [some (.p (.list (ns.map .int))),some (.p (.int PR)),some (.o (.list [])),none,none] ⟨[],none,none,rfl,(fun _ h=>nomatch h),rfl⟩ (by
  rintro j d e hd ⟨vs,r3,r4,h1,h2,rfl⟩
  obtain ⟨hj,rfl⟩:=aMa _ _ _ _ hd
  obtain ⟨v,w,v0,v1,hb⟩:=aRs K c ns vs (by omega) j (by omega) r4
  refine ⟨_,_,rfl,?_,vs++[v],some (.p (.int (j:Int))),w,by simp [h1],fun x hx=>?_,rfl⟩
  ·simp only [aWt,aWs,Int.zero_add]
   exact hb
  ·rcases aXx.mp hx with z | z
   ·exact h2 x z
   ·rw [aXd.mp z];exact ⟨v0,v1⟩)
 refine ⟨vs,by rw [h1];unfold vY;rw [aWb,aXp];omega,h2,?_⟩
 unfold cT
 refine b8 ?_
 rw [show bK 5 [.p (.list (ns.map .int))]=[some (.p (.list (ns.map .int))),none,none,none,none] from rfl]
 refine (aQ (cU (d:=.int PR) rfl)).trans ?_
 refine (aQ (iB (d:=.list []) rfl)).trans ?_
 simp only [aWt,aWs]
 refine (aQ ((sH (hr _ _)).trans hl)).trans ?_
 rfl
noncomputable def dN(K:aV9)(c:Cls):List L->Res L:=mOf (fun i:Int=>[.p (.int i)]) (fun _=>True) fun _=>.ok (.p (.bool true))
noncomputable def lA(K:aV9)(c:Cls):MS:=(dS (uZ (mUn (aCq K (.type "int")) (aD 0)) (vA (mUn (aCq K (.type "bool")) (aD 0)))))
theorem u7(hk:iH K c):∀ ls,dN K c ls=.bad\/fG 1 (lA K c) ls=dN K c ls:=dP fun i _=>by
 unfold fG
 rw [show bK 1 [.p (.int i)]=[some (.p (.int i))] from rfl]
 simp [lA,bH,cG,dS,fM,aD,mC,aE,mUn,aB,aM,aP,fC,dY,lB,aA2,Res.bind,Ev.c,aDs,lS,aH,bD,kP,kO,bP,dA,aC2,mOr,oO,uZ,aJv,vA,jU,cO,eJ,gN,mP,eZ,dat,eU,eqE,iE,hU,kM,lE,lG,oS,oN,kN,kQ,wA,aCq,tyD,hk.ii,hk.ib]
theorem aBs(i:Int):dN K c [.p (.int i)]=.ok (.p (.bool true)):=dX (a:=i) (fun a b h=>by injection h with h _;injection h with h;injection h) trivial
noncomputable def aX(K:aV9)(c:Cls):List L->Res L:=mOf (fun a:Int×Int=>[.p (.int a.1),.p (.int a.2)]) (fun a=>a.2≠0/\Sz 8000 a.2) fun a=>.ok (.p (frD (FR.mk a.1 a.2)))
noncomputable def e9(K:aV9)(c:Cls):En->Res Bool:=(bP (aE gtE (aD 3) (mC (.int 0))))
noncomputable def gE(K:aV9)(c:Cls):MS:=(aSr 2 3 (aB (aD 3) (aB (aE cP (aD 2) (aD 3)) aM)))
noncomputable def tD:MS:=(bH (cG 2 (aH aKr (aB (aD 0) aM))) (bH (cG 3 (aH aKr (aB (aD 1) aM))) (bH (mT (e9 K c) (gE K c)) (bH (fM (bP (aE ltE (aD 1) (mC (.int 0)))) (cG 2 (mUn mP (aD 2))) cO) (dS (aH bD (aB (aE cB (aD 0) (aD 2)) (aB (aE cB (aD 1) (aD 2)) aM))))))))
theorem aRx(A B:Option L):∀ (n:Nat) (l s:Int),0<=l->0<=s->s.toNat<=n->mWh (e9 K c) (gE K c) (n+1) [A,B,some (.p (.int l)),some (.p (.int s))]=some (.nx [A,B,some (.p (.int (Int.gcd l s:Nat))),some (.p (.int 0))]):=by
 intro n
 have hc:∀ (l s:Int),e9 K c [A,B,some (.p (.int l)),some (.p (.int s))]=.ok (decide (0 < s)):=fun l s=>by
  simp [e9,bP,aE,aD,mC,Res.bind,Ev.c,dA,gN]
 have done:∀ (n:Nat) (l:Int),0<=l->mWh (e9 K c) (gE K c) (n+1) [A,B,some (.p (.int l)),some (.p (.int 0))]=some (.nx [A,B,some (.p (.int (Int.gcd l 0:Nat))),some (.p (.int 0))]):=fun n l hl=>by
  unfold mWh
  rw [hc,FR.aD8 hl]
  simp
 induction n with
 | zero =>
  intro l s hl hs hn
  have:s=0:=by omega
  subst this
  exact done 0 l hl
 | succ n ih =>
  intro l s hl hs hn
  by_cases h0:s=0
  ·subst h0
   exact done _ l hl
  ·have em:l.fmod s=l % s:=bAb l hs
   have m0:=bC0 l h0
   have m1:=bB0 l (show 0 < s by omega)
   have ih:=ih s (l.fmod s) hs (by omega) (by omega)
   rw [em,FR.aBh hl hs] at ih
   have hb:gE K c [A,B,some (.p (.int l)),some (.p (.int s))]=some (.nx [A,B,some (.p (.int s)),some (.p (.int (l % s)))]):=by
    simp [gE,aSr,aE,aD,mC,aB,aM,Res.bind,Ev.c,vW,em,h0]
   have ht:e9 K c [A,B,some (.p (.int l)),some (.p (.int s))]=.ok true:=by
    rw [hc]
    rw [aXg (show 0 < s by omega)]
   unfold mWh
   rw [ht]
   dsimp only
   rw [hb]
   exact ih
theorem yJ:∀ ls,aX K c ls=.bad\/fG 4 (tD K c) ls=aX K c ls:=dP fun a h=>by
 obtain ⟨t,b⟩:=a
 obtain ⟨hb,hz⟩:=h
 dsimp only at hb hz ⊢
 have h:=aRx K c (some (.p (.int t))) (some (.p (.int b))) _ (if t < 0 then -t else t) (if b < 0 then -b else b) (by split<;>omega) (by split<;>omega) (aWl _)
 have h:=qN h
 rw [FR.aEj] at h
 obtain ⟨d1,d2⟩:=aQ6 t hb hz
 obtain ⟨e1,e2⟩:=d1
 obtain ⟨_,e3⟩:=d2
 have q1:∀ x:Int,iG x ((Int.gcd t b:Nat):Int):=fun x=>⟨e1,e2⟩
 have q2:∀ x:Int,iG x (-((Int.gcd t b:Nat):Int)):=fun x=>⟨by omega,e3⟩
 refine b8 ?_
 rw [show bK 4 [.p (.int t),.p (.int b)]=[some (.p (.int t)),some (.p (.int b)),none,none] from rfl]
 refine (aQ (cU (d:=.int (if t < 0 then -t else t)) rfl)).trans ?_
 refine (aQ (cU (d:=.int (if b < 0 then -b else b)) rfl)).trans ?_
 refine (aQ h).trans ?_
 by_cases hn:b < 0
 ·simp [bH,cG,aH,aB,aM,aD,Res.bind,Ev.c,fM,bP,aE,mC,dA,gN,hn,mUn,mP,dS,bD,kO,vW,q2,aDs,FR.mk,FR.sgn,frD]
 ·simp [bH,cG,aH,aB,aM,aD,Res.bind,Ev.c,fM,bP,aE,mC,dA,gN,hn,mUn,mP,cO,dS,bD,kO,vW,q1,aDs,FR.mk,FR.sgn,frD]
theorem lT{t b:Int}(h0:b≠0)(h1:Sz 8000 b):aX K c [.p (.int t),.p (.int b)]=.ok (.p (frD (FR.mk t b))):=dX (a:=(t,b)) (fun a b h=>by
 injection h with h1 h2
 injection h2 with h2 _
 injection h1 with h1
 injection h2 with h2
 injection h1 with h1
 injection h2 with h2
 exact aZk h1 h2) ⟨h0,h1⟩
structure GH(h:Int×Int):Prop where
 p:1<=h.2
 t:Sz 80 h.1
 b:Sz 5 h.2
 f:FR.Fr h
structure GPl(p:Pl):Prop where
 i0:0<=p.1
 i1:p.1<=8
 j0:0<=p.2.1
 j1:p.2.1<=8
 h:GH p.2.2
theorem aDv{t:Int}(ht:Sz 80 t):GH (t,1):=⟨aYn 1,ht,(show Sz 5 (1:Int) by unfold Sz;decide),⟨aYn 1,Int.gcd_one⟩⟩
theorem aRu{t b:Int}(h0:b≠0)(ht:Sz 80 t)(hb:Sz 5 b):GH (FR.mk t b):=⟨(FR.sD h0).1.pos,Sz.le ht (aX5 _ _),Sz.le hb (aX5 _ _),(FR.sD h0).1⟩
noncomputable def eG:MS:=(bH (fM (bP (aE (eqE false) (aE cP (aD 0) (mC (.int 4))) (mC (.int 1)))) (dS (aH bD (aB (aE gI (aE cP (aD 3) (mC (.int 3))) (aE dF (aE eJ (aE eJ (aE dF (aD 1) (aD 1)) (aE dF (aD 1) (aD 2))) (aE dF (aD 2) (aD 2))) (aE eJ (mC (.int 1)) (aE cP (aE cB (aD 0) (mC (.int 36))) (mC (.int 5)))))) (aB (mC (.int 1)) aM)))) cO) (bH (fM (bP (aE (eqE false) (aE cP (aD 0) (mC (.int 4))) (mC (.int 3)))) (dS (aH bD (aB (aE cP (aD 3) (mC (.int 3))) (aB (mC (.int 1)) aM)))) cO) (bH (fM (bP (aE (eqE false) (aE cP (aE cB (aD 0) (mC (.int 36))) (mC (.int 2))) (mC (.int 1)))) (dS (aP 2 (aX K c) (aB (aE gI (aE cP (aD 3) (aE eJ (aE dF (mC (.int 2)) (aE sE (mC (.int 10)) (mC (.int 20)))) (mC (.int 1)))) (aE sE (mC (.int 10)) (mC (.int 20)))) (aB (aE eJ (mC (.int 1)) (aE cP (aE cB (aD 3) (mC (.int 11))) (mC (.int 12)))) aM)))) cO) (dS (aP 2 (aX K c) (aB (aE gI (aE cP (aD 3) (mC (.int 13))) (mC (.int 6))) (aB (aE eJ (mC (.int 1)) (aE cP (aE cB (aD 3) (mC (.int 13))) (mC (.int 4)))) aM)))))))
noncomputable def bX(ls:List L):Res L:=fG 4 (eG K c) ls
theorem nT:∀ ls,bX K c ls=.bad\/fG 4 (eG K c) ls=bX K c ls:=fun _=>.inr rfl
theorem aDy{kind i j rest:Int}(hk:Sz 200 kind)(i0:0<=i)(i1:i<=8)(j0:0<=j)(j1:j<=8)(hr:Sz 200 rest):∃ h,GH h/\bX K c [.p (.int kind),.p (.int i),.p (.int j),.p (.int rest)]=.ok (.p (frD h)):=by
 have si:Sz 4 i:=by unfold Sz;omega
 have sj:Sz 4 j:=by unfold Sz;omega
 have p20:aK8 10 20:=⟨by decide,by decide,by decide⟩
 unfold bX
 suffices h:∃ h,GH h/\eG K c (bK 4 [.p (.int kind),.p (.int i),.p (.int j),.p (.int rest)])=some (.rt (.p (frD h))) from let ⟨h,g,e⟩:=h;⟨h,g,b8 e⟩
 rw [show bK 4 [.p (.int kind),.p (.int i),.p (.int j),.p (.int rest)]=[some (.p (.int kind)),some (.p (.int i)),some (.p (.int j)),some (.p (.int rest))] from rfl]
 have tst:∀ n:Int,bP (aE (eqE false) (aE cP (aD 0) (mC (.int 4))) (mC (.int n))) [some (.p (.int kind)),some (.p (.int i)),some (.p (.int j)),some (.p (.int rest))]=.ok (kind.fmod 4 == n):=fun n=>by
  simp [bP,aE,aD,mC,Res.bind,Ev.c,vW,eqE,dat,iE,hU,dA]
 unfold eG
 cases h1:(kind.fmod 4 == 1) with
 | true =>
  have t1:=tst 1
  rw [h1] at t1
  refine ⟨(rest.fmod 3 - (i*i+i*j+j*j)*(1+(kind.fdiv 36).fmod 5),1),aDv ?_,?_⟩
  ·refine Sz.mono (m:=20) ?_ (by decide)
   have:Sz (max 4 (max (max (4+4) (4+4)+1) (4+4)+1+(max 4 4+1))+1) (rest.fmod 3 - (i*i+i*j+j*j)*(1+(kind.fdiv 36).fmod 5)):=by (walk_at "z")
   exact this.mono (by decide)
  ·refine lV ((l3 t1).trans ?_)
   ktr_call 21 ⟨frD⟩
 | false =>
  have t1:=tst 1
  rw [h1] at t1
  cases h3:(kind.fmod 4 == 3) with
  | true =>
   have t3:=tst 3
   rw [h3] at t3
   refine ⟨(rest.fmod 3,1),aDv ((mH (by decide) (mJ (by decide))).mono (by decide)),?_⟩
   refine (aQ (kH t1)).trans (lV ((l3 t3).trans ?_))
   ktr_call 21 ⟨frD⟩
  | false =>
   have t3:=tst 3
   rw [h3] at t3
   have tk:bP (aE (eqE false) (aE cP (aE cB (aD 0) (mC (.int 36))) (mC (.int 2))) (mC (.int 1))) [some (.p (.int kind)),some (.p (.int i)),some (.p (.int j)),some (.p (.int rest))]=.ok ((kind.fdiv 36).fmod 2 == 1):=by
    walk_at "1d"
    simp
   cases h5:((kind.fdiv 36).fmod 2 == 1) with
   | true =>
    rw [h5] at tk
    have b0:(1+(rest.fdiv 11).fmod 12)≠0:=by have:=(cF (a:=rest.fdiv 11) (b:=12) (by decide)).1;omega
    have sb:Sz 5 (1+(rest.fdiv 11).fmod 12):=by
     have:Sz (max 4 4+1) (1+(rest.fdiv 11).fmod 12):=by (walk_at "z")
     exact this.mono (by decide)
    have hl:=lT K c (t:=rest.fmod (2*10 ^ Int.toNat 20+1) - 10 ^ Int.toNat 20) b0 (sb.mono (by decide))
    refine ⟨_,aRu (t:=rest.fmod (2*10 ^ Int.toNat 20+1) - 10 ^ Int.toNat 20) b0 ?_ sb,(aQ (kH t1)).trans ((aQ (kH t3)).trans (lV ((l3 tk).trans ?_)))⟩
    ·have:Sz (max (max (4+70) 4+1) 70+1) (rest.fmod (2*10 ^ Int.toNat 20+1) - 10 ^ Int.toNat 20):=by (walk_at "z")
     exact this.mono (by decide)
    ·ktr_call 21 ⟨hl⟩
   | false =>
    rw [h5] at tk
    have b0:(1+(rest.fdiv 13).fmod 4)≠0:=by have:=(cF (a:=rest.fdiv 13) (b:=4) (by decide)).1;omega
    have sb:Sz 5 (1+(rest.fdiv 13).fmod 4):=by
     have:Sz (max 4 4+1) (1+(rest.fdiv 13).fmod 4):=by (walk_at "z")
     exact this.mono (by decide)
    have hl:=lT K c (t:=rest.fmod 13 - 6) b0 (sb.mono (by decide))
    refine ⟨_,aRu (t:=rest.fmod 13 - 6) b0 ?_ sb,(aQ (kH t1)).trans ((aQ (kH t3)).trans ((aQ (kH tk)).trans ?_))⟩
    ·have:Sz (max 4 4+1) (rest.fmod 13 - 6):=by (walk_at "z")
     exact this.mono (by decide)
    ·ktr_call 21 ⟨hl⟩
abbrev Mp:=List ((Int×Int)×(Int×Int))
def Gm(m:Mp):Prop:=(m.map (·.1)).Nodup/\∀ k h,fL m k=some h->(0<=k.1/\k.1<=8/\0<=k.2/\k.2<=8)/\GH h
theorem w8{α κ:Type}[DecidableEq κ](k:κ)(v:α):∀ m:List (κ×α),(aFx k v m).map (·.1)=m.map (·.1)
 | []=>rfl
 | p :: r=>by
  unfold aFx
  rw [aWo,aWo,w8 k v r]
  split<;>rfl
theorem xM{α κ:Type}[DecidableEq κ]{k:κ}:∀ {m:List (κ×α)},fL m k=none->k∉m.map (·.1)
 | [],_=>fun h=>nomatch h
 | p :: r,e=>by
  unfold fL at e
  split at e
  ·cases e
  ·rename_i z
   rw [aWo,aWh]
   rintro (q | q)
   ·exact z q.symm
   ·exact xM e q
theorem aFk{α κ:Type}[DecidableEq κ]{m:List (κ×α)}(h:(m.map (·.1)).Nodup)(k:κ)(v:α):((nN m k v).map (·.1)).Nodup:=by
 unfold nN
 cases e:fL m k with
 | none =>
  rw [aWn (by simp),aXb]
  refine List.nodup_append.mpr ⟨h,bCi _ _,fun a ha b hb z=>?_⟩
  have:b=k:=by simpa using hb
  rw [z,this] at ha
  exact xM e ha
 | some x =>
  rw [aWm (by rfl),w8]
  exact h
theorem Gm.put{m:Mp}(g:Gm m){k h:Int×Int}(hk:0<=k.1/\k.1<=8/\0<=k.2/\k.2<=8)(hh:GH h):Gm (nN m k h):=⟨aFk g.1 k h,fun k' h' e=>by
 rw [iV] at e
 split at e
 ·rename_i z;cases e;rw [z];exact ⟨hk,hh⟩
 ·exact g.2 k' h' e⟩
noncomputable def d8(K:aV9)(c:Cls):En->Res Ev:=(aH bD (aB (aE ixE (aD 0) (mC (.int 0))) (aB (aE ixE (aD 0) (mC (.int 1))) (aB (aE jL (aD 1) (aD 0)) aM))))
noncomputable def fE:MS:=(bH (cG 6 (aE cP (aD 5) (aD 3))) (bH (cG 7 (aE cP (aE cB (aD 5) (aD 3)) (aD 3))) (bH (fM (bP (aE (eqE false) (aE cP (aD 0) (mC (.int 4))) (mC (.int 2)))) (cG 7 (aE dF (aD 6) (aE cP (aE cB (aD 0) (mC (.int 4))) (mC (.int 2))))) cO) (bH (cG 8 (aP 4 (bX K c) (aB (aD 0) (aB (aD 6) (aB (aD 7) (aB (aE cB (aD 5) (aE dF (aD 3) (aD 3))) aM)))))) (fM (bP (aE (xD false) (aH bD (aB (aD 6) (aB (aD 7) aM))) (aD 4))) (bH (cG 9 (aE jL (aD 4) (aH bD (aB (aD 6) (aB (aD 7) aM))))) (fM (bP (aE gtE (aE dF (aE ixE (aD 8) (mC (.int 0))) (aE ixE (aD 9) (mC (.int 1)))) (aE dF (aE ixE (aD 9) (mC (.int 0))) (aE ixE (aD 8) (mC (.int 1)))))) (kR 4 (aH bD (aB (aD 6) (aB (aD 7) aM))) (aD 8)) cO)) (fM (bP (aE ltE (aH o3 (aB (aD 4) aM)) (aD 2))) (kR 4 (aH bD (aB (aD 6) (aB (aD 7) aM))) (aD 8)) cO))))))
noncomputable def jK:MS:=(bH (cG 4 mDT) (bH (xH (gH (aD 1)) (aR 5) (fE K c)) (bH (fM (bP (aE aB0 (aD 4) mDT)) (kR 4 (aH bD (aB (aE cP (aD 0) (aD 3)) (aB (mC (.int 0)) aM))) (aH bD (aB (mC (.int 0)) (aB (mC (.int 1)) aM)))) cO) (fun en=>(dS (dW 1 [4] (gH (aH eC (aB (aD 4) aM))) (aR 0) fK (d8 K c))) (frz 4 en)))))
noncomputable def cD(ls:List L):Res L:=fG 10 (jK K c) ls
theorem qP:∀ ls,cD K c ls=.bad\/fG 10 (jK K c) ls=cD K c ls:=fun _=>.inr rfl
theorem GH.cw{x y:Int×Int}(hx:GH x)(hy:GH y):CMulW x.1 y.2:=⟨hx.t.mono (by decide),hy.b.mono (by decide)⟩
theorem aAk(K:aV9)(c:Cls)(A B N W:Option L)(m:Mp)(hm:m.length<=1000)(i j:Int)(h:Int×Int)(r5 r9:Option L):kR 4 (aH bD (aB (aD 6) (aB (aD 7) aM))) (aD 8) [A,B,N,W,some (.o (.dict (encM slD frD m))),r5,some (.p (.int i)),some (.p (.int j)),some (.p (frD h)),r9]=some (.nx [A,B,N,W,some (.o (.dict (encM slD frD (nN m (i,j) h)))),r5,some (.p (.int i)),some (.p (.int j)),some (.p (frD h)),r9]):=by
 have hp:=uX (ev:=frD) m (i,j) h (by omega)
 have hp2:aCt (encM slD frD m) (.tuple [.int i,.int j]) (frD h)=some (encM slD frD (nN m (i,j) h)):=hp
 have hk:(aH bD (aB (aD 6) (aB (aD 7) aM))) [A,B,N,W,some (.o (.dict (encM slD frD m))),r5,some (.p (.int i)),some (.p (.int j)),some (.p (frD h)),r9]=.ok (.p (.tuple [.int i,.int j])):=by
  walk_at "2"
 have hv:(aD 8) [A,B,N,W,some (.o (.dict (encM slD frD m))),r5,some (.p (.int i)),some (.p (.int j)),some (.p (frD h)),r9]=.ok (.p (frD h)):=rfl
 unfold kR
 ktr_call 3 ⟨hk,hv,Ev.c,hp2⟩
def Wm(w:Int)(m:Mp):Prop:=∀ k h,fL m k=some h->k.1 < w/\k.2 < w
theorem Wm.put{w:Int}{m:Mp}(g:Wm w m){k:Int×Int}(h:Int×Int)(h1:k.1 < w)(h2:k.2 < w):Wm w (nN m k h):=fun k' h' e=>by
 rw [iV] at e
 split at e
 ·rename_i z;rw [z];exact ⟨h1,h2⟩
 ·exact g k' h' e
structure Lm(mo w:Int)(m m':Mp):Prop where
 a:m'.length<=m.length+1
 b:(m.length:Int)<=mo->(m'.length:Int)<=mo
 c:Wm w m->Wm w m'
theorem xI{m:Mp}{k h f:Int×Int}(e:fL m k=some f):(nN m k h).length=m.length:=by
 unfold nN
 rw [e,aWm (by rfl),uH]
theorem aRp(B:Option L){kind cell w mo:Int}(hk:Sz 200 kind)(c0:0<=cell)(hc:Sz 200 cell)(w0:1<=w)(w1:w<=9)(m:Mp)(hm:m.length<=1000)(gm:Gm m)(r6 r7 r8 r9:Option L) :
  ∃ m' q6 q7 q8 q9,Gm m'/\Lm mo w m m'/\fE K c [some (.p (.int kind)),B,some (.p (.int mo)),some (.p (.int w)),some (.o (.dict (encM slD frD m))),some (.p (.int cell)),r6,r7,r8,r9]=some (.nx [some (.p (.int kind)),B,some (.p (.int mo)),some (.p (.int w)),some (.o (.dict (encM slD frD m'))),some (.p (.int cell)),q6,q7,q8,q9]):=by
 have sw:Sz 4 w:=by unfold Sz;omega
 have wn:w≠0:=by omega
 have ww:w*w≠0:=fun z=>by rcases aYm.mp z with z | z<;>omega
 have mi:=cF (a:=cell) (b:=w) (by omega)
 have mj:=cF (a:=cell.fdiv w) (b:=w) (by omega)
 have mk2:=cF (a:=kind.fdiv 4) (b:=2) (by decide)
 have e1:(aE cP (aD 5) (aD 3)) [some (.p (.int kind)),B,some (.p (.int mo)),some (.p (.int w)),some (.o (.dict (encM slD frD m))),some (.p (.int cell)),r6,r7,r8,r9]=.ok (.p (.int (cell.fmod w))):=by
  walk_at "1d"
 have e2:(aE cP (aE cB (aD 5) (aD 3)) (aD 3)) [some (.p (.int kind)),B,some (.p (.int mo)),some (.p (.int w)),some (.o (.dict (encM slD frD m))),some (.p (.int cell)),some (.p (.int (cell.fmod w))),r7,r8,r9]=.ok (.p (.int ((cell.fdiv w).fmod w))):=by
  walk_at "1d"
 generalize hi:cell.fmod w=i at mi e1 e2
 generalize hj:(cell.fdiv w).fmod w=j0 at mj e2
 have si:Sz 4 i:=by unfold Sz;omega
 obtain ⟨j,jl,jh,jw,e3⟩:∃ j:Int,0<=j/\j<=8/\j < w/\fM (bP (aE (eqE false) (aE cP (aD 0) (mC (.int 4))) (mC (.int 2)))) (cG 7 (aE dF (aD 6) (aE cP (aE cB (aD 0) (mC (.int 4))) (mC (.int 2))))) cO [some (.p (.int kind)),B,some (.p (.int mo)),some (.p (.int w)),some (.o (.dict (encM slD frD m))),some (.p (.int cell)),some (.p (.int i)),some (.p (.int j0)),r8,r9]=some (.nx [some (.p (.int kind)),B,some (.p (.int mo)),some (.p (.int w)),some (.o (.dict (encM slD frD m))),some (.p (.int cell)),some (.p (.int i)),some (.p (.int j)),r8,r9]):=by
  have tst:bP (aE (eqE false) (aE cP (aD 0) (mC (.int 4))) (mC (.int 2))) [some (.p (.int kind)),B,some (.p (.int mo)),some (.p (.int w)),some (.o (.dict (encM slD frD m))),some (.p (.int cell)),some (.p (.int i)),some (.p (.int j0)),r8,r9]=.ok (kind.fmod 4 == 2):=by
   simp [bP,aE,aD,mC,Res.bind,Ev.c,vW,eqE,dat,iE,hU,dA]
  cases h:(kind.fmod 4 == 2) with
  | false =>
   rw [h] at tst
   exact ⟨j0,by omega,by omega,mj.2,kH tst⟩
  | true =>
   rw [h] at tst
   refine ⟨i*(kind.fdiv 4).fmod 2,Int.mul_nonneg mi.1 mk2.1,?_,?_,(l3 tst).trans ?_⟩
   ·have:(kind.fdiv 4).fmod 2=0\/(kind.fdiv 4).fmod 2=1:=by omega
    rcases this with z | z<;>rw [z]<;>omega
   ·have:(kind.fdiv 4).fmod 2=0\/(kind.fdiv 4).fmod 2=1:=by omega
    rcases this with z | z<;>rw [z]<;>omega
   ·walk_at "1d"
 have sd:Sz 200 (cell.fdiv (w*w)):=zL hc
 obtain ⟨h,gh,hh⟩:=aDy K c hk mi.1 (show i<=8 by omega) jl jh sd
 have e4:(aP 4 (bX K c) (aB (aD 0) (aB (aD 6) (aB (aD 7) (aB (aE cB (aD 5) (aE dF (aD 3) (aD 3))) aM))))) [some (.p (.int kind)),B,some (.p (.int mo)),some (.p (.int w)),some (.o (.dict (encM slD frD m))),some (.p (.int cell)),some (.p (.int i)),some (.p (.int j)),r8,r9]=.ok (.p (frD h)):=by
  ktr_call 21 ⟨hh⟩
 have hd:=lQ (ev:=frD) m (i,j)
 have hd2:wJ (encM slD frD m) (.tuple [.int i,.int j])=some ((fL m (i,j)).map frD):=hd
 have step:∀ st,(∃ m' q9,Gm m'/\Lm mo w m m'/\st [some (.p (.int kind)),B,some (.p (.int mo)),some (.p (.int w)),some (.o (.dict (encM slD frD m))),some (.p (.int cell)),some (.p (.int i)),some (.p (.int j)),some (.p (frD h)),r9]=some (.nx [some (.p (.int kind)),B,some (.p (.int mo)),some (.p (.int w)),some (.o (.dict (encM slD frD m'))),some (.p (.int cell)),some (.p (.int i)),some (.p (.int j)),some (.p (frD h)),q9])) ->
   ∃ m' q6 q7 q8 q9,Gm m'/\Lm mo w m m'/\(bH (cG 6 (aE cP (aD 5) (aD 3))) (bH (cG 7 (aE cP (aE cB (aD 5) (aD 3)) (aD 3))) (bH (fM (bP (aE (eqE false) (aE cP (aD 0) (mC (.int 4))) (mC (.int 2)))) (cG 7 (aE dF (aD 6) (aE cP (aE cB (aD 0) (mC (.int 4))) (mC (.int 2))))) cO) (bH (cG 8 (aP 4 (bX K c) (aB (aD 0) (aB (aD 6) (aB (aD 7) (aB (aE cB (aD 5) (aE dF (aD 3) (aD 3))) aM)))))) st)))) [some (.p (.int kind)),B,some (.p (.int mo)),some (.p (.int w)),some (.o (.dict (encM slD frD m))),some (.p (.int cell)),r6,r7,r8,r9]=some (.nx [some (.p (.int kind)),B,some (.p (.int mo)),some (.p (.int w)),some (.o (.dict (encM slD frD m'))),some (.p (.int cell)),q6,q7,q8,q9]):=by
  rintro st ⟨m',q9,g1,g2,g3⟩
  refine ⟨m',_,_,_,q9,g1,g2,(aQ (cU e1)).trans ((aQ (cU e2)).trans ((aQ e3).trans ((aQ (cU e4)).trans g3)))⟩
 unfold fE
 refine step _ ?_
 have tin:bP (aE (xD false) (aH bD (aB (aD 6) (aB (aD 7) aM))) (aD 4)) [some (.p (.int kind)),B,some (.p (.int mo)),some (.p (.int w)),some (.o (.dict (encM slD frD m))),some (.p (.int cell)),some (.p (.int i)),some (.p (.int j)),some (.p (frD h)),r9]=.ok (fL m (i,j)).isSome:=by
  ktr_call 2 ⟨xD,j8,hd2⟩
  simp
 have hr:0<=(i,j).1/\(i,j).1<=8/\0<=(i,j).2/\(i,j).2<=8:=⟨mi.1,by show i<=8;omega,jl,jh⟩
 cases ea:fL m (i,j) with
 | none =>
  rw [ea] at tin
  have tl:bP (aE ltE (aH o3 (aB (aD 4) aM)) (aD 2)) [some (.p (.int kind)),B,some (.p (.int mo)),some (.p (.int w)),some (.o (.dict (encM slD frD m))),some (.p (.int cell)),some (.p (.int i)),some (.p (.int j)),some (.p (frD h)),r9]=.ok (decide ((m.length:Int) < mo)):=by
   have:o3 [.b (.dict (encM slD frD m))]=.ok (.p (.int (m.length:Nat))):=by simp [o3,j8,rW];unfold N.encM;simp
   ktr_call 2 ⟨this⟩
  cases hl:decide ((m.length:Int) < mo) with
  | true =>
   rw [hl] at tl
   exact ⟨nN m (i,j) h,r9,gm.put hr gh,⟨lM _ _ _,fun _=>by have:=lM m (i,j) h;have:=aZo hl;omega,fun z=>z.put h mi.2 jw⟩,(kH tin).trans ((l3 tl).trans (aAk K c _ _ _ _ m hm i j h _ _))⟩
  | false =>
   rw [hl] at tl
   exact ⟨m,r9,gm,⟨bCj _,id,id⟩,(kH tin).trans (kH tl)⟩
 | some f =>
  rw [ea] at tin hd2
  have gf:=(gm.2 _ _ ea).2
  have es:(aE jL (aD 4) (aH bD (aB (aD 6) (aB (aD 7) aM)))) [some (.p (.int kind)),B,some (.p (.int mo)),some (.p (.int w)),some (.o (.dict (encM slD frD m))),some (.p (.int cell)),some (.p (.int i)),some (.p (.int j)),some (.p (frD h)),r9]=.ok (.p (frD f)):=by
   ktr_call 2 ⟨jL,j8,hd2,bAw⟩
  have q1:=gh.cw gf
  have q2:=gf.cw gh
  have tg:bP (aE gtE (aE dF (aE ixE (aD 8) (mC (.int 0))) (aE ixE (aD 9) (mC (.int 1)))) (aE dF (aE ixE (aD 9) (mC (.int 0))) (aE ixE (aD 8) (mC (.int 1))))) [some (.p (.int kind)),B,some (.p (.int mo)),some (.p (.int w)),some (.o (.dict (encM slD frD m))),some (.p (.int cell)),some (.p (.int i)),some (.p (.int j)),some (.p (frD h)),some (.p (frD f))]=.ok (decide (f.1*h.2 < h.1*f.2)):=by
   walk_at "1a"
  cases hl:decide (f.1*h.2 < h.1*f.2) with
  | true =>
   rw [hl] at tg
   exact ⟨nN m (i,j) h,_,gm.put hr gh,⟨lM _ _ _,fun z=>by rw [xI ea];exact z,fun z=>z.put h mi.2 jw⟩,(l3 tin).trans ((aQ (cU es)).trans ((l3 tg).trans (aAk K c _ _ _ _ m hm i j h _ _)))⟩
  | false =>
   rw [hl] at tg
   exact ⟨m,_,gm,⟨bCj _,id,id⟩,(l3 tin).trans ((aQ (cU es)).trans (kH tg))⟩
def cY(m:Mp):List Pl:=(gM (kys m)).map fun k=>((un2 k).1,(un2 k).2,aOd m (0,1) k)
theorem yS{m:Mp}(g:Gm m):∀ p∈cY m,GPl p:=fun p hp=>by
 unfold cY at hp
 obtain ⟨k,hk,rfl⟩:=aWg.mp hp
 obtain ⟨_,_,h3⟩:=nG hk (0,1)
 obtain ⟨⟨a,b,c,d⟩,h⟩:=g.2 _ _ h3
 exact ⟨a,b,c,d,h⟩
theorem iL(m:Mp):(cY m).length=m.length:=by
 unfold cY
 rw [aWb,(cQ (kys m)).length_eq]
 unfold kys
 rw [aWb]
theorem aJi(A B N0 W:Option L)(m:Mp)(hm:m.length < 64)(r5 r6 r7 r8 r9:Option L):(fun en=>(dS (dW 1 [4] (gH (aH eC (aB (aD 4) aM))) (aR 0) fK (d8 K c))) (frz 4 en)) [A,B,N0,W,some (.o (.dict (N.encM slD frD m))),r5,r6,r7,r8,r9]=some (.rt (.o (.list ((cY m).map plD)))):=by
 ktr_call 3 ⟨frz⟩
 have hs:=qU (ev:=frD) m hm
 have hmap:mX (aZ 1 [4] (aR 0) fK (d8 K c) [A,B,N0,W,some (.p (.dict (N.encM slD frD m))),r5,r6,r7,r8,r9]) ((gM (kys m)).map oG)=some ((gM (kys m)).map fun k=>plD ((un2 k).1,(un2 k).2,aOd m (0,1) k)):=by
  refine eD _ fun k hk=>?_
  obtain ⟨h1,h2,h3⟩:=nG hk (0,1)
  have hd:=lQ (ev:=frD) m (un2 k)
  rw [h3] at hd
  have x0:ixE (.p (slD (un2 k))) (.p (.int 0))=.ok (.p (.int (un2 k).1)):=kN _ _
  have x1:ixE (.p (slD (un2 k))) (.p (.int 1))=.ok (.p (.int (un2 k).2)):=kQ _ _ _
  rw [h1]
  unfold aZ
  ktr_call 2 ⟨aR,o9,xJ,fK,d8,List.replicate,aZt,aZd,jL,j8,hd,x0,x1,bAw,plD⟩
 have hc:dW 1 [4] (gH (aH eC (aB (aD 4) aM))) (aR 0) fK (d8 K c) [A,B,N0,W,some (.p (.dict (N.encM slD frD m))),r5,r6,r7,r8,r9]=.ok (.f (.list ((cY m).map plD))):=by
  unfold dW yG
  ktr_call 3 ⟨gH,aH,aB,aM,aD,Res.bind,Ev.c,hs,aG7⟩
  rw [aWm (show (gM (kys m)).length<=100000 by rw [(cQ (kys m)).length_eq];unfold kys;rw [aWb];omega),hmap]
  unfold cY
  rw [aXm]
  rfl
 unfold dS
 rw [hc]
 rfl
theorem aAj{kind w mo:Int}(hk:Sz 200 kind)(w0:1<=w)(w1:w<=9)(cs:List Int)(hl:cs.length<=60)(hc:∀ x∈cs,0<=x/\Sz 200 x)(hmo:1<=mo:=by decide) :
  ∃ m:Mp,Gm m/\cY m≠[]/\(m.length<=cs.length+1/\(m.length:Int)<=mo/\Wm w m)/\cD K c [.p (.int kind),.p (.list (cs.map .int)),.p (.int mo),.p (.int w)]=.ok (.o (.list ((cY m).map plD))):=by
 obtain ⟨e',⟨m,q5,q6,q7,q8,q9,g1,g2,rfl⟩,hloop⟩:=tU (enc:=PyData.int) (tg:=aR 5) (f:=fE K c) (fun zs e=>∃ m q5 q6 q7 q8 q9,Gm m/\(m.length<=zs.length/\(m.length:Int)<=mo/\Wm w m)/\e=[some (.p (.int kind)),some (.p (.list (cs.map .int))),some (.p (.int mo)),some (.p (.int w)),some (.o (.dict (N.encM slD frD m))),q5,q6,q7,q8,q9]) cs [] [some (.p (.int kind)),some (.p (.list (cs.map .int))),some (.p (.int mo)),some (.p (.int w)),some (.o (.dict [])),none,none,none,none,none] ⟨[],none,none,none,none,none,⟨List.Pairwise.nil,fun _ _ h=>nomatch h⟩,⟨aWl _,by show (0:Int)<=mo;omega,fun _ _ e=>nomatch e⟩,rfl⟩ (by
  rintro x hx zs e hz ⟨m,q5,q6,q7,q8,q9,g1,g2,rfl⟩
  have hz:zs.length < 0+cs.length:=hz
  obtain ⟨m',p6,p7,p8,p9,h1,h2,h3⟩:=aRp K c (some (.p (.list (cs.map .int)))) (mo:=mo) hk (hc x hx).1 (hc x hx).2 w0 w1 m (by omega) g1 q6 q7 q8 q9
  refine ⟨_,_,rfl,h3,m',_,p6,p7,p8,p9,h1,⟨?_,h2.b g2.2.1,h2.c g2.2.2⟩,rfl⟩
  have:=h2.a
  rw [aWq];simp;omega)
 have g2:m.length<=cs.length/\(m.length:Int)<=mo/\Wm w m:=g2
 have wn:w≠0:=by omega
 have mi:=cF (a:=kind) (b:=w) (by omega)
 have td:bP (aE aB0 (aD 4) mDT) [some (.p (.int kind)),some (.p (.list (cs.map .int))),some (.p (.int mo)),some (.p (.int w)),some (.o (.dict (N.encM slD frD m))),q5,q6,q7,q8,q9]=.ok m.isEmpty:=by
  have:aB0 (.b (.dict (N.encM slD frD m))) (.p (.dict []))=.ok (.p (.bool m.isEmpty)):=by
   unfold aB0
   simp only [j8,rW,bAi]
   unfold N.encM
   rw [List.isEmpty_map]
  ktr_call 3 ⟨bP,aE,aD,mDT,Res.bind,Ev.c,this,dA⟩
 obtain ⟨m2,n1,n2,n3,e2⟩:∃ m2:Mp,m2≠[]/\Gm m2/\(m2.length<=cs.length+1/\(m2.length:Int)<=mo/\Wm w m2)/\fM (bP (aE aB0 (aD 4) mDT)) (kR 4 (aH bD (aB (aE cP (aD 0) (aD 3)) (aB (mC (.int 0)) aM))) (aH bD (aB (mC (.int 0)) (aB (mC (.int 1)) aM)))) cO [some (.p (.int kind)),some (.p (.list (cs.map .int))),some (.p (.int mo)),some (.p (.int w)),some (.o (.dict (N.encM slD frD m))),q5,q6,q7,q8,q9]=some (.nx [some (.p (.int kind)),some (.p (.list (cs.map .int))),some (.p (.int mo)),some (.p (.int w)),some (.o (.dict (N.encM slD frD m2))),q5,q6,q7,q8,q9]):=by
  cases m with
  | cons p r=>exact ⟨p :: r,List.cons_ne_nil _ _,g1,⟨by omega,g2.2.1,g2.2.2⟩,kH td⟩
  | nil =>
   refine ⟨nN [] (kind.fmod w,0) (0,1),(fun z=>nomatch z),g1.put ⟨mi.1,by show kind.fmod w<=8;omega,aYn 0,(show (0:Int)<=8 by decide)⟩ (aDv (show Sz 80 (0:Int) by unfold Sz;decide)),⟨(show (1:Nat)<=cs.length+1 by omega),(show ((1:Nat):Int)<=mo by omega),g2.2.2.put _ (show kind.fmod w < w by omega) (show (0:Int) < w by omega)⟩,(l3 td).trans ?_⟩
   have hp:=uX (ev:=frD) [] (kind.fmod w,0) (0,1) (by decide)
   have hp2:aCt (N.encM slD frD []) (.tuple [.int (kind.fmod w),.int 0]) (.tuple [.int 0,.int 1])=some (N.encM slD frD (nN [] (kind.fmod w,0) (0,1))):=hp
   have hk':(aH bD (aB (aE cP (aD 0) (aD 3)) (aB (mC (.int 0)) aM))) [some (.p (.int kind)),some (.p (.list (cs.map .int))),some (.p (.int mo)),some (.p (.int w)),some (.o (.dict (N.encM slD frD []))),q5,q6,q7,q8,q9]=.ok (.p (.tuple [.int (kind.fmod w),.int 0])):=by
    walk_at "1d"
   have hv:(aH bD (aB (mC (.int 0)) (aB (mC (.int 1)) aM))) [some (.p (.int kind)),some (.p (.list (cs.map .int))),some (.p (.int mo)),some (.p (.int w)),some (.o (.dict (N.encM slD frD []))),q5,q6,q7,q8,q9]=.ok (.p (.tuple [.int 0,.int 1])):=rfl
   unfold kR
   ktr_call 3 ⟨hk',hv,Ev.c,hp2⟩
 refine ⟨m2,n2,?_,n3,?_⟩
 ·intro z
  have:=iL m2
  rw [z] at this
  exact n1 (aX8.mp this.symm)
 unfold cD
 refine b8 ?_
 rw [show bK 10 [.p (.int kind),.p (.list (cs.map .int)),.p (.int mo),.p (.int w)]=[some (.p (.int kind)),some (.p (.list (cs.map .int))),some (.p (.int mo)),some (.p (.int w)),none,none,none,none,none,none] from rfl]
 refine (aQ (iB (d:=.dict []) rfl)).trans ?_
 refine (aQ ((sH (ds:=cs.map .int) rfl).trans hloop)).trans ?_
 refine (aQ e2).trans ?_
 exact aJi K c _ _ _ _ m2 (by omega) _ _ _ _ _
structure GPB(q:Pl):Prop where
 si:Sz 4 q.1
 sj:Sz 4 q.2.1
 p:1<=q.2.2.2
 t:Sz 120 q.2.2.1
 b:Sz 20 q.2.2.2
def lev(p:Pl)(pt:Pt):Int×Int:=((p.1*pt.1.1*pt.2.2+p.2.1*pt.2.1*pt.1.2)*p.2.2.2+p.2.2.1*(pt.1.2*pt.2.2),pt.1.2*pt.2.2*p.2.2.2)
structure GPt(pt:Pt):Prop where
 x:Good 250 pt.1
 y:Good 250 pt.2
theorem GPB.at{p:Pl}{pt:Pt}(g:GPB p)(h:GPt pt):iD p pt:=⟨g.si.mono (by decide),g.sj.mono (by decide),⟨g.p,g.t.mono (by decide),g.b.mono (by decide)⟩,h.x.mono (by decide),h.y.mono (by decide)⟩
theorem aRv{p:Pl}{pt:Pt}(g:iD p pt):FSz 1500 (lev p pt):=by
 have i:=g.i
 have j:=g.j
 have h1:=g.h.2.1
 have h2:=g.h.2.2
 have x1:=g.x.2.1
 have x2:=g.x.2.2
 have y1:=g.y.2.1
 have y2:=g.y.2.2
 constructor
 ·have:Sz (max (max (100+300+300) (100+300+300)+1+200) (200+(300+300))+1) (lev p pt).1:=by unfold lev;(walk_at "z")
  exact this.mono (by decide)
 ·have:Sz (300+300+200) (lev p pt).2:=by unfold lev;(walk_at "z")
  exact this.mono (by decide)
noncomputable def dO(K:aV9)(c:Cls):List L->Res L:=mOf ePH (fun a=>iD a.1 a.2) fun a=>.ok (.p (frD (lev a.1 a.2)))
noncomputable def kS(K:aV9)(c:Cls):MS:=(bH (aNt (nY 2 (fF (aR 2) (fF (aR 3) nW))) (aD 1)) (bH (cG 4 (aE eJ (aE dF (aE dF (aE ixE (aD 0) (mC (.int 0))) (aE ixE (aD 2) (mC (.int 0)))) (aE ixE (aD 3) (mC (.int 1)))) (aE dF (aE dF (aE ixE (aD 0) (mC (.int 1))) (aE ixE (aD 3) (mC (.int 0)))) (aE ixE (aD 2) (mC (.int 1)))))) (bH (cG 5 (aE dF (aE ixE (aD 2) (mC (.int 1))) (aE ixE (aD 3) (mC (.int 1))))) (dS (aH bD (aB (aE eJ (aE dF (aD 4) (aE ixE (aE ixE (aD 0) (mC (.int 2))) (mC (.int 1)))) (aE dF (aE ixE (aE ixE (aD 0) (mC (.int 2))) (mC (.int 0))) (aD 5))) (aB (aE dF (aD 5) (aE ixE (aE ixE (aD 0) (mC (.int 2))) (mC (.int 1)))) aM)))))))
theorem oU:∀ ls,dO K c ls=.bad\/fG 6 (kS K c) ls=dO K c ls:=dP fun a g=>by
 obtain ⟨p,pt⟩:=a
 dsimp only at g ⊢
 have i:=g.i
 have j:=g.j
 have h1:=g.h.2.1
 have h2:=g.h.2.2
 have x1:=g.x.2.1
 have x2:=g.x.2.2
 have y1:=g.y.2.1
 have y2:=g.y.2.2
 refine b8 ?_
 rw [show bK 6 (ePH (p,pt))=[some (.p (plD p)),some (.p (.tuple [frD pt.1,frD pt.2])),none,none,none,none] from rfl]
 have e1:aNt (nY 2 (fF (aR 2) (fF (aR 3) nW))) (aD 1) [some (.p (plD p)),some (.p (.tuple [frD pt.1,frD pt.2])),none,none,none,none]=some (.nx [some (.p (plD p)),some (.p (.tuple [frD pt.1,frD pt.2])),some (.p (frD pt.1)),some (.p (frD pt.2)),none,none]):=rfl
 refine (aQ e1).trans ?_
 walk_at "1d"
 rfl
theorem aP9{p:Pl}{pt:Pt}(g:iD p pt):dO K c [.p (plD p),.p (.tuple [frD pt.1,frD pt.2])]=.ok (.p (frD (lev p pt))):=dX (a:=(p,pt)) aHi g
noncomputable def b6(K:aV9)(c:Cls):List L->Res L:=mOf eFF (fun a=>FSz 2000 a.1/\FSz 2000 a.2) fun a=>.ok (.p (.bool (ltF a.1 a.2)))
noncomputable def kY(K:aV9)(c:Cls):MS:=(dS (aE ltE (aE dF (aE ixE (aD 0) (mC (.int 0))) (aE ixE (aD 1) (mC (.int 1)))) (aE dF (aE ixE (aD 1) (mC (.int 0))) (aE ixE (aD 0) (mC (.int 1))))))
theorem vT:∀ ls,b6 K c ls=.bad\/fG 2 (kY K c) ls=b6 K c ls:=dP fun a h=>by
 obtain ⟨x,y⟩:=a
 obtain ⟨⟨x1,x2⟩,⟨y1,y2⟩⟩:=h
 dsimp only at x1 x2 y1 y2 ⊢
 refine b8 ?_
 rw [show bK 2 (eFF (x,y))=[some (.p (frD x)),some (.p (frD y))] from rfl]
 unfold kY
 walk_at "1d"
 rfl
theorem u6{x y:Int×Int}(hx:FSz 2000 x)(hy:FSz 2000 y):b6 K c [.p (frD x),.p (frD y)]=.ok (.p (.bool (ltF x y))):=dX (a:=(x,y)) oB ⟨hx,hy⟩
theorem iY:∀ (xs:List (Int×Int)) (b:Int×Int),best b xs=b\/best b xs∈xs
 | [],b=>.inl rfl
 | x :: xs,b=>by
  unfold best
  rcases iY xs (if ltF b x=true then x else b) with h | h
  ·rw [h]
   split
   ·exact .inr (.head _)
   ·exact .inl rfl
  ·exact .inr (.tail _ h)
theorem aN8{n:Nat}{b:Int×Int}{xs:List (Int×Int)}(hb:FSz n b)(h:∀ x∈xs,FSz n x):FSz n (best b xs):=by
 rcases iY xs b with z | z
 ·rw [z];exact hb
 ·exact h _ z
theorem getD_map{α:Type}(xs:List α)(d:α):(List.range xs.length).map (fun k=>xs.getD k d)=xs:=by
 apply bCq
 ·simp
 ·intro i h1 h2
  simp [List.getD,h2]
theorem aIn{α:Type}(d:α){g:D->Option (Option D)}{out:α->D}{p:α->Bool}(xs:List α)(h:∀ k,k < xs.length->g (.int (k:Int))=some (if p (xs.getD k d)=true then some (out (xs.getD k d)) else none)):mX g (vY 0 xs.length)=some ((xs.filter p).map out):=by
 have e:vY 0 xs.length=(List.range xs.length).map fun (k:Nat)=>PyData.int (k:Int):=by unfold vY;simp
 rw [e,pN (p:=fun k=>p (xs.getD k d)) (out:=fun k=>out (xs.getD k d)) _ fun k hk=>h k (aXw.mp hk)]
 conv=>rhs;rw [<- getD_map xs d]
 rw [List.filter_map,aXm]
 rfl
def qI(ps:List Pl)(pt:Pt):Int×Int:=best (lev (ps.headD (0,0,(0,1))) pt) (ps.map fun q=>lev q pt)
def kB(ps:List Pl)(pt:Pt):List Pl:=ps.filter fun q=>!ltF (lev q pt) (qI ps pt)
noncomputable def dH(K:aV9)(c:Cls):List L->Res L:=mOf eHA (fun a=>a.1≠[]/\a.1.length<=1000/\∀ q∈a.1,iD q a.2) fun a=>.ok (.o (.list ((kB a.1 a.2).map plD)))
noncomputable def fD(K:aV9)(c:Cls):En->Res Ev:=(aE ixE (aD 2) (aD 0))
noncomputable def d6:MS:=(fM (bP (aP 2 (b6 K c) (aB (aD 3) (aB (aD 4) aM)))) (cG 3 (aD 4)) cO)
noncomputable def eY:En->Res Ev:=(aP 2 (dO K c) (aB (aD 0) (aB (aD 1) aM)))
noncomputable def lX:MS:=(bH (cG 2 (dW 1 [1] (gH (aD 0)) (aR 0) fK (eY K c))) (fun en=>(bH (cG 3 (aE ixE (aD 2) (mC (.int 0)))) (bH (xH (gH (aD 2)) (aR 4) (d6 K c)) (dS (dW 1 [3,0,2] (tF sA (aB (aH eU (aB (aD 0) aM)) aM)) (aR 0) (oO (bP (aP 2 (b6 K c) (aB (aE ixE (aD 3) (aD 0)) (aB (aD 1) aM))))) (fD K c))))) (frz 2 en)))
theorem aGl{α:Type}(f:α->D)(xs:List α)(d:α){k:Nat}(h:k < xs.length):atI (xs.map f) (k:Int)=some (f (xs.getD k d)):=by
 have:xs.getD k d=xs[k]:=by simp [List.getD,h]
 rw [this]
 exact qQ (by rw [aWu,aWd h];rfl)
theorem getD_mem{α:Type}(xs:List α)(d:α){k:Nat}(h:k < xs.length):xs.getD k d∈xs:=by
 have:xs.getD k d=xs[k]:=by simp [List.getD,h]
 rw [this]
 exact bBf h
theorem aMw(A B C:Option L):∀ (xs:List (Int×Int)) (b:Int×Int) (r:Option L),FSz 2000 b->(∀ x∈xs,FSz 2000 x)->∃ r',gO (aR 4) (d6 K c) (xs.map frD) [A,B,C,some (.p (frD b)),r]=some (.nx [A,B,C,some (.p (frD (best b xs))),r']):=by
 intro xs
 induction xs with
 | nil=>intro b r _ _;exact ⟨r,rfl⟩
 | cons x xs ih =>
  intro b r hb hx
  have hu:=u6 K c hb (hx x (.head _))
  obtain ⟨r',ih⟩:=ih (if ltF b x=true then x else b) (some (.p (frD x))) (by split;exact hx x (.head _);exact hb) fun y hy=>hx y (.tail _ hy)
  refine ⟨r',?_⟩
  have hb1:d6 K c [A,B,C,some (.p (frD b)),some (.p (frD x))]=some (.nx [A,B,C,some (.p (frD (if ltF b x=true then x else b))),some (.p (frD x))]):=by
   cases e:ltF b x<;>simp [d6,fM,bP,aP,aB,aM,aD,Res.bind,Ev.c,fC,dY,lB,hu,e,lS,dA,cG,cO]
  rw [aWo]
  unfold gO
  simp only [aR,aWt,aWs]
  rw [hb1]
  exact ih
theorem aHq(n:Nat)(hl:n<=1000):sA [.p (.int ((n:Nat):Int))]=.ok (vY 0 n):=by
 have hb:-(2 ^ 62)<=((n:Nat):Int)/\((n:Nat):Int) < 2 ^ 62:=by omega
 simp only [sA]
 rw [aWm hb,aX7]
theorem aSo(ps:List Pl)(hl:ps.length<=1000)(B C G E:Option L):(tF sA (aB (aH eU (aB (aD 0) aM)) aM)) [some (.p (.list (ps.map plD))),B,C,G,E]=.ok (vY 0 ps.length):=by
 have e:(aB (aH eU (aB (aD 0) aM)) aM) [some (.p (.list (ps.map plD))),B,C,G,E]=.ok [.p (.int (ps.length:Nat))]:=by
  simp [aB,aM,aH,aD,Res.bind,Ev.c,eU,fH]
 have h:=aHq ps.length hl
 unfold tF
 rw [e,qA,h]
theorem rS:∀ ls,dH K c ls=.bad\/fG 5 (lX K c) ls=dH K c ls:=dP fun a h=>by
 obtain ⟨ps,pt⟩:=a
 obtain ⟨hne,hl,hz⟩:=h
 dsimp only at hne hl hz ⊢
 have hm:∀ r2 r3 r4,mX (aZ 1 [1] (aR 0) fK (eY K c) [some (.p (.list (ps.map plD))),some (.p (.tuple [frD pt.1,frD pt.2])),r2,r3,r4]) (ps.map plD)=some (ps.map fun q=>frD (lev q pt)):=fun r2 r3 r4=>by
  refine eD _ fun q hq=>?_
  have hp:=aP9 K c (hz q hq)
  simp [aZ,aR,o9,xJ,fK,eY,aD,aB,aM,aP,fC,dY,lB,Res.bind,Ev.c,hp,lS]
 have hl2:(ps.map plD).length<=100000:=by rw [aWb];omega
 have hc:∀ r2 r3 r4,dW 1 [1] (gH (aD 0)) (aR 0) fK (eY K c) [some (.p (.list (ps.map plD))),some (.p (.tuple [frD pt.1,frD pt.2])),r2,r3,r4]=.ok (.f (.list (ps.map fun q=>frD (lev q pt)))):=fun r2 r3 r4=>by
  unfold dW yG
  simp only [gH,aD,aWz,Res.bind,Ev.c,aG7]
  rw [aWm hl2,hm]
 have hsz:∀ x∈ps.map fun q=>lev q pt,FSz 2000 x:=fun x hx=>by
  obtain ⟨q,hq,rfl⟩:=aWg.mp hx
  have:=aRv (hz q hq)
  exact ⟨this.1.mono (by decide),this.2.mono (by decide)⟩
 have h0:0 < ps.length:=aYx.mpr hne
 have hhead:ps.headD (0,0,(0,1))∈ps:=by cases ps with | nil=>exact absurd rfl hne | cons p r=>exact .head _
 have hh0:FSz 2000 (lev (ps.headD (0,0,(0,1))) pt):=hsz _ (aWg.mpr ⟨_,hhead,rfl⟩)
 have e1:(ps.map fun q=>frD (lev q pt))=(ps.map fun q=>lev q pt).map frD:=by rw [aXm];rfl
 obtain ⟨r4',hloop⟩:∃ r4',gO (aR 4) (d6 K c) (ps.map fun q=>frD (lev q pt)) [some (.p (.list (ps.map plD))),some (.p (.tuple [frD pt.1,frD pt.2])),some (.p (.list (ps.map fun q=>frD (lev q pt)))),some (.p (frD (lev (ps.headD (0,0,(0,1))) pt))),none]=some (.nx [some (.p (.list (ps.map plD))),some (.p (.tuple [frD pt.1,frD pt.2])),some (.p (.list (ps.map fun q=>frD (lev q pt)))),some (.p (frD (qI ps pt))),r4']):=by
  rw [e1]
  obtain ⟨r',h⟩:=aMw K c _ _ _ (ps.map fun q=>lev q pt) (lev (ps.headD (0,0,(0,1))) pt) none hh0 hsz
  exact ⟨r',h⟩
 have hms:FSz 2000 (qI ps pt):=aN8 hh0 hsz
 refine b8 (l:=.o (.list ((kB ps pt).map plD))) ?_
 rw [show bK 5 (eHA (ps,pt))=[some (.p (.list (ps.map plD))),some (.p (.tuple [frD pt.1,frD pt.2])),none,none,none] from rfl]
 refine (aQ (iB (hc none none none))).trans ?_
 simp only [aWt,aWs,frz,aWp,aWz]
 have a1:(aE ixE (aD 2) (mC (.int 0))) [some (.p (.list (ps.map plD))),some (.p (.tuple [frD pt.1,frD pt.2])),some (.p (.list (ps.map fun q=>frD (lev q pt)))),none,none]=.ok (.p (frD (lev (ps.headD (0,0,(0,1))) pt))):=by
  cases ps with
  | nil=>exact absurd rfl hne
  | cons p r=>simp [aE,aD,mC,Res.bind,Ev.c,ixE,fH,at0]
 refine (aQ (cU a1)).trans ?_
 simp only [aWt,aWs]
 refine (aQ ((sH (ds:=ps.map fun q=>frD (lev q pt)) rfl).trans hloop)).trans ?_
 have hr:=aSo ps (by omega) (some (.p (.tuple [frD pt.1,frD pt.2]))) (some (.p (.list (ps.map fun q=>frD (lev q pt))))) (some (.p (frD (qI ps pt)))) r4'
 have hm2:mX (aZ 1 [3,0,2] (aR 0) (oO (bP (aP 2 (b6 K c) (aB (aE ixE (aD 3) (aD 0)) (aB (aD 1) aM))))) (fD K c) [some (.p (.list (ps.map plD))),some (.p (.tuple [frD pt.1,frD pt.2])),some (.p (.list (ps.map fun q=>frD (lev q pt)))),some (.p (frD (qI ps pt))),r4']) (vY 0 ps.length)=some ((kB ps pt).map plD):=by
  refine aIn (0,0,(0,1)) ps fun k hk=>?_
  have hq:=getD_mem ps (0,0,(0,1)) hk
  have i1:=aGl plD ps (0,0,(0,1)) hk
  have i2:=aGl (fun q=>frD (lev q pt)) ps (0,0,(0,1)) hk
  generalize ps.getD k (0,0,(0,1))=q at hq i1 i2
  have hlq:FSz 2000 (lev q pt):=hsz _ (aWg.mpr ⟨q,hq,rfl⟩)
  have hu:=u6 K c hlq hms
  cases e:ltF (lev q pt) (qI ps pt)<;>simp [aZ,aR,o9,xJ,fD,oO,bP,aP,aB,aM,aE,aD,Res.bind,Ev.c,ixE,fH,i1,i2,fC,dY,lB,hu,e,lS,dA]
 have a2:dW 1 [3,0,2] (tF sA (aB (aH eU (aB (aD 0) aM)) aM)) (aR 0) (oO (bP (aP 2 (b6 K c) (aB (aE ixE (aD 3) (aD 0)) (aB (aD 1) aM))))) (fD K c) [some (.p (.list (ps.map plD))),some (.p (.tuple [frD pt.1,frD pt.2])),some (.p (.list (ps.map fun q=>frD (lev q pt)))),some (.p (frD (qI ps pt))),r4']=.ok (.f (.list ((kB ps pt).map plD))):=by
  have hle:(vY 0 ps.length).length<=100000:=by unfold vY;rw [aWb,aXp];omega
  unfold dW
  rw [hr,qA]
  unfold yG
  rw [aWm hle,hm2]
 exact oT a2
theorem aKg(ps:List Pl)(pt:Pt)(h0:ps≠[])(hl:ps.length<=1000)(h:∀ q∈ps,iD q pt):dH K c [.p (.list (ps.map plD)),.p (.tuple [frD pt.1,frD pt.2])]=.ok (.o (.list ((kB ps pt).map plD))):=dX (a:=(ps,pt)) qB ⟨h0,hl,h⟩
noncomputable def iN:MS:=(bH (cG 3 (aH bD (aB (aE gI (aE ixE (aD 0) (mC (.int 0))) (aE ixE (aD 1) (mC (.int 0)))) (aB (aE gI (aE ixE (aD 0) (mC (.int 1))) (aE ixE (aD 1) (mC (.int 1)))) (aB (aE gI (aE dF (aE ixE (aE ixE (aD 1) (mC (.int 2))) (mC (.int 0))) (aE ixE (aE ixE (aD 0) (mC (.int 2))) (mC (.int 1)))) (aE dF (aE ixE (aE ixE (aD 0) (mC (.int 2))) (mC (.int 0))) (aE ixE (aE ixE (aD 1) (mC (.int 2))) (mC (.int 1))))) aM))))) (bH (cG 4 (aH bD (aB (aE gI (aE ixE (aD 0) (mC (.int 0))) (aE ixE (aD 2) (mC (.int 0)))) (aB (aE gI (aE ixE (aD 0) (mC (.int 1))) (aE ixE (aD 2) (mC (.int 1)))) (aB (aE gI (aE dF (aE ixE (aE ixE (aD 2) (mC (.int 2))) (mC (.int 0))) (aE ixE (aE ixE (aD 0) (mC (.int 2))) (mC (.int 1)))) (aE dF (aE ixE (aE ixE (aD 0) (mC (.int 2))) (mC (.int 0))) (aE ixE (aE ixE (aD 2) (mC (.int 2))) (mC (.int 1))))) aM))))) (bH (cG 5 (aE gI (aE dF (aE ixE (aD 3) (mC (.int 0))) (aE ixE (aD 4) (mC (.int 1)))) (aE dF (aE ixE (aD 3) (mC (.int 1))) (aE ixE (aD 4) (mC (.int 0)))))) (bH (fM (bP (aE (eqE false) (aD 5) (mC (.int 0)))) (dS (mC (.none))) cO) (bH (cG 6 (aE dF (aE ixE (aE ixE (aD 1) (mC (.int 2))) (mC (.int 1))) (aE ixE (aE ixE (aD 0) (mC (.int 2))) (mC (.int 1))))) (bH (cG 7 (aE dF (aE ixE (aE ixE (aD 2) (mC (.int 2))) (mC (.int 1))) (aE ixE (aE ixE (aD 0) (mC (.int 2))) (mC (.int 1))))) (bH (cG 8 (aE gI (aE dF (aE dF (aE ixE (aD 3) (mC (.int 2))) (aE ixE (aD 4) (mC (.int 1)))) (aD 7)) (aE dF (aE dF (aE ixE (aD 4) (mC (.int 2))) (aE ixE (aD 3) (mC (.int 1)))) (aD 6)))) (bH (cG 9 (aE gI (aE dF (aE dF (aE ixE (aD 4) (mC (.int 2))) (aE ixE (aD 3) (mC (.int 0)))) (aD 6)) (aE dF (aE dF (aE ixE (aD 3) (mC (.int 2))) (aE ixE (aD 4) (mC (.int 0)))) (aD 7)))) (dS (aH bD (aB (aP 2 (aX K c) (aB (aD 8) (aB (aE dF (aE dF (aD 5) (aD 6)) (aD 7)) aM))) (aB (aP 2 (aX K c) (aB (aD 9) (aB (aE dF (aE dF (aD 5) (aD 6)) (aD 7)) aM))) aM))))))))))))
noncomputable def aY(ls:List L):Res L:=fG 10 (iN K c) ls
theorem pB:∀ ls,aY K c ls=.bad\/fG 10 (iN K c) ls=aY K c ls:=fun _=>.inr rfl
theorem aA4{p q r:Pl}(gp:GPB p)(gq:GPB q)(gr:GPB r):aY K c [.p (plD p),.p (plD q),.p (plD r)]=.ok (.p .none)\/∃ pt,GPt pt/\aY K c [.p (plD p),.p (plD q),.p (plD r)]=.ok (.p (.tuple [frD pt.1,frD pt.2])):=by
 have p1:=gp.si;have p2:=gp.sj;have p3:=gp.t;have p4:=gp.b;have p5:=gp.p
 have q1:=gq.si;have q2:=gq.sj;have q3:=gq.t;have q4:=gq.b;have q5:=gq.p
 have r1:=gr.si;have r2:=gr.sj;have r3:=gr.t;have r4:=gr.b;have r5:=gr.p
 unfold aY
 have st0:bK 10 [.p (plD p),.p (plD q),.p (plD r)]=[some (.p (plD p)),some (.p (plD q)),some (.p (plD r)),none,none,none,none,none,none,none]:=rfl
 obtain ⟨A0,A1,A2,a0,a1,a2,e1⟩:∃ A0 A1 A2:Int,Sz 5 A0/\Sz 5 A1/\Sz 141 A2/\(aH bD (aB (aE gI (aE ixE (aD 0) (mC (.int 0))) (aE ixE (aD 1) (mC (.int 0)))) (aB (aE gI (aE ixE (aD 0) (mC (.int 1))) (aE ixE (aD 1) (mC (.int 1)))) (aB (aE gI (aE dF (aE ixE (aE ixE (aD 1) (mC (.int 2))) (mC (.int 0))) (aE ixE (aE ixE (aD 0) (mC (.int 2))) (mC (.int 1)))) (aE dF (aE ixE (aE ixE (aD 0) (mC (.int 2))) (mC (.int 0))) (aE ixE (aE ixE (aD 1) (mC (.int 2))) (mC (.int 1))))) aM)))) [some (.p (plD p)),some (.p (plD q)),some (.p (plD r)),none,none,none,none,none,none,none]=.ok (.p (.tuple [.int A0,.int A1,.int A2])):=by
  refine ⟨p.1 - q.1,p.2.1 - q.2.1,q.2.2.1*p.2.2.2 - p.2.2.1*q.2.2.2,Sz.subM p1 q1,Sz.subM p2 q2,Sz.subM (Sz.mul q3 p4) (Sz.mul p3 q4),?_⟩
  walk_at "1d"
 obtain ⟨B0,B1,B2,b0,b1,b2,e2⟩:∃ B0 B1 B2:Int,Sz 5 B0/\Sz 5 B1/\Sz 141 B2/\(aH bD (aB (aE gI (aE ixE (aD 0) (mC (.int 0))) (aE ixE (aD 2) (mC (.int 0)))) (aB (aE gI (aE ixE (aD 0) (mC (.int 1))) (aE ixE (aD 2) (mC (.int 1)))) (aB (aE gI (aE dF (aE ixE (aE ixE (aD 2) (mC (.int 2))) (mC (.int 0))) (aE ixE (aE ixE (aD 0) (mC (.int 2))) (mC (.int 1)))) (aE dF (aE ixE (aE ixE (aD 0) (mC (.int 2))) (mC (.int 0))) (aE ixE (aE ixE (aD 2) (mC (.int 2))) (mC (.int 1))))) aM)))) [some (.p (plD p)),some (.p (plD q)),some (.p (plD r)),some (.p (.tuple [.int A0,.int A1,.int A2])),none,none,none,none,none,none]=.ok (.p (.tuple [.int B0,.int B1,.int B2])):=by
  refine ⟨p.1 - r.1,p.2.1 - r.2.1,r.2.2.1*p.2.2.2 - p.2.2.1*r.2.2.2,Sz.subM p1 r1,Sz.subM p2 r2,Sz.subM (Sz.mul r3 p4) (Sz.mul p3 r4),?_⟩
  walk_at "1d"
 have e3:(aE gI (aE dF (aE ixE (aD 3) (mC (.int 0))) (aE ixE (aD 4) (mC (.int 1)))) (aE dF (aE ixE (aD 3) (mC (.int 1))) (aE ixE (aD 4) (mC (.int 0))))) [some (.p (plD p)),some (.p (plD q)),some (.p (plD r)),some (.p (.tuple [.int A0,.int A1,.int A2])),some (.p (.tuple [.int B0,.int B1,.int B2])),none,none,none,none,none]=.ok (.p (.int (A0*B1 - A1*B0))):=by
  walk_at "1d"
 have sw:Sz 11 (A0*B1 - A1*B0):=Sz.subM (Sz.mul a0 b1) (Sz.mul a1 b0)
 generalize A0*B1 - A1*B0=w at e3 sw
 have tw:∀ x5 x6 x7 x8,bP (aE (eqE false) (aD 5) (mC (.int 0))) [some (.p (plD p)),some (.p (plD q)),some (.p (plD r)),some (.p (.tuple [.int A0,.int A1,.int A2])),some (.p (.tuple [.int B0,.int B1,.int B2])),some (.p (.int w)),x5,x6,x7,x8]=.ok (w == 0):=fun x5 x6 x7 x8=>by
  simp [bP,aE,aD,mC,Res.bind,Ev.c,eqE,dat,iE,hU,dA]
 cases hw:(w == 0) with
 | true =>
  left
  have tw:=tw none none none none
  rw [hw] at tw
  refine b8 ?_
  rw [st0]
  refine (aQ (cU e1)).trans ((aQ (cU e2)).trans ((aQ (cU e3)).trans (lV ((l3 tw).trans ?_))))
  rfl
 | false =>
  right
  have tw:=tw none none none none
  rw [hw] at tw
  have wn:w≠0:=by simpa using hw
  have f0:0 < q.2.2.2*p.2.2.2:=bBw (by omega) (by omega)
  have s0:0 < r.2.2.2*p.2.2.2:=bBw (by omega) (by omega)
  have f1:Sz 40 (q.2.2.2*p.2.2.2):=Sz.mul q4 p4
  have s1:Sz 40 (r.2.2.2*p.2.2.2):=Sz.mul r4 p4
  have e5:(aE dF (aE ixE (aE ixE (aD 1) (mC (.int 2))) (mC (.int 1))) (aE ixE (aE ixE (aD 0) (mC (.int 2))) (mC (.int 1)))) [some (.p (plD p)),some (.p (plD q)),some (.p (plD r)),some (.p (.tuple [.int A0,.int A1,.int A2])),some (.p (.tuple [.int B0,.int B1,.int B2])),some (.p (.int w)),none,none,none,none]=.ok (.p (.int (q.2.2.2*p.2.2.2))):=by
   walk_at "1d"
  have e6:∀ x6,(aE dF (aE ixE (aE ixE (aD 2) (mC (.int 2))) (mC (.int 1))) (aE ixE (aE ixE (aD 0) (mC (.int 2))) (mC (.int 1)))) [some (.p (plD p)),some (.p (plD q)),some (.p (plD r)),some (.p (.tuple [.int A0,.int A1,.int A2])),some (.p (.tuple [.int B0,.int B1,.int B2])),some (.p (.int w)),x6,none,none,none]=.ok (.p (.int (r.2.2.2*p.2.2.2))):=fun x6=>by
   walk_at "1d"
  generalize q.2.2.2*p.2.2.2=F at e5 f0 f1
  generalize r.2.2.2*p.2.2.2=S at e6 s0 s1
  have e7:(aE gI (aE dF (aE dF (aE ixE (aD 3) (mC (.int 2))) (aE ixE (aD 4) (mC (.int 1)))) (aD 7)) (aE dF (aE dF (aE ixE (aD 4) (mC (.int 2))) (aE ixE (aD 3) (mC (.int 1)))) (aD 6))) [some (.p (plD p)),some (.p (plD q)),some (.p (plD r)),some (.p (.tuple [.int A0,.int A1,.int A2])),some (.p (.tuple [.int B0,.int B1,.int B2])),some (.p (.int w)),some (.p (.int F)),some (.p (.int S)),none,none]=.ok (.p (.int (A2*B1*S - B2*A1*F))):=by
   walk_at "1d"
  have e8:∀ x8,(aE gI (aE dF (aE dF (aE ixE (aD 4) (mC (.int 2))) (aE ixE (aD 3) (mC (.int 0)))) (aD 6)) (aE dF (aE dF (aE ixE (aD 3) (mC (.int 2))) (aE ixE (aD 4) (mC (.int 0)))) (aD 7))) [some (.p (plD p)),some (.p (plD q)),some (.p (plD r)),some (.p (.tuple [.int A0,.int A1,.int A2])),some (.p (.tuple [.int B0,.int B1,.int B2])),some (.p (.int w)),some (.p (.int F)),some (.p (.int S)),x8,none]=.ok (.p (.int (B2*A0*F - A2*B0*S))):=fun x8=>by
   walk_at "1d"
  have sx:Sz 187 (A2*B1*S - B2*A1*F):=Sz.subM (Sz.mul (Sz.mul a2 b1) s1) (Sz.mul (Sz.mul b2 a1) f1)
  have sy:Sz 187 (B2*A0*F - A2*B0*S):=Sz.subM (Sz.mul (Sz.mul b2 a0) f1) (Sz.mul (Sz.mul a2 b0) s1)
  generalize A2*B1*S - B2*A1*F=X at e7 sx
  generalize B2*A0*F - A2*B0*S=Y at e8 sy
  have sd:Sz 91 (w*F*S):=Sz.mul (Sz.mul sw f1) s1
  have dn:w*F*S≠0:=fun z=>by
   rcases aYm.mp z with z | z
   ·rcases aYm.mp z with z | z
    ·exact wn z
    ·omega
   ·omega
  have l1:=lT K c (t:=X) dn (sd.mono (by decide))
  have l2:=lT K c (t:=Y) dn (sd.mono (by decide))
  refine ⟨(FR.mk X (w*F*S),FR.mk Y (w*F*S)),⟨oE (sx.mono (by decide)) (sd.mono (by decide)) dn,oE (sy.mono (by decide)) (sd.mono (by decide)) dn⟩,b8 ?_⟩
  rw [st0]
  refine (aQ (cU e1)).trans ((aQ (cU e2)).trans ((aQ (cU e3)).trans ((aQ (kH tw)).trans ((aQ (cU e5)).trans ((aQ (cU (e6 _))).trans ((aQ (cU e7)).trans ((aQ (cU (e8 _))).trans (jY ?_))))))))
  ktr_call 21 ⟨l1,l2⟩
noncomputable def eV:MS:=(bH (fM (bP (aE (eqE false) (aE cP (aD 1) (mC (.int 3))) (mC (.int 0)))) (bH (cG 3 (aH eU (aB (aD 0) aM))) (bH (cG 4 (aP 3 (aY K c) (aB (aE ixE (aD 0) (aE cP (aD 2) (aD 3))) (aB (aE ixE (aD 0) (aE cP (aE cB (aD 2) (aD 3)) (aD 3))) (aB (aE ixE (aD 0) (aE cP (aE cB (aD 1) (mC (.int 3))) (aD 3))) aM))))) (fM (bP (mUn (aCz true) (aD 4))) (dS (aD 4)) cO))) cO) (bH (fM (bP (aE (eqE false) (aE cP (aD 1) (mC (.int 3))) (mC (.int 1)))) (dS (aH bD (aB (aP 2 (aX K c) (aB (aE gI (aE cP (aE cB (aD 1) (mC (.int 3))) (mC (.int 9))) (mC (.int 4))) (aB (aE eJ (mC (.int 1)) (aE cP (aE cB (aD 1) (mC (.int 27))) (mC (.int 3)))) aM))) (aB (aP 2 (aX K c) (aB (aE gI (aE cP (aD 2) (mC (.int 9))) (mC (.int 4))) (aB (aE eJ (mC (.int 1)) (aE cP (aE cB (aD 2) (mC (.int 9))) (mC (.int 3)))) aM))) aM)))) cO) (bH (cG 5 (aP 2 (aX K c) (aB (aE gI (aE cP (aE cB (aD 1) (mC (.int 3))) (aE eJ (aE dF (mC (.int 2)) (aE sE (mC (.int 10)) (mC (.int 20)))) (mC (.int 1)))) (aE sE (mC (.int 10)) (mC (.int 20)))) (aB (aE eJ (mC (.int 1)) (aE cP (aE cB (aD 1) (mC (.int 7))) (mC (.int 9)))) aM)))) (dS (aH bD (aB (aD 5) (aB (aP 2 (aX K c) (aB (aE gI (aE cP (aD 2) (aE eJ (aE dF (mC (.int 2)) (aE sE (mC (.int 10)) (mC (.int 20)))) (mC (.int 1)))) (aE sE (mC (.int 10)) (mC (.int 20)))) (aB (aE eJ (mC (.int 1)) (aE cP (aE cB (aD 2) (mC (.int 7))) (mC (.int 9)))) aM))) aM)))))))
noncomputable def cW(ls:List L):Res L:=fG 6 (eV K c) ls
theorem oW:∀ ls,cW K c ls=.bad\/fG 6 (eV K c) ls=cW K c ls:=fun _=>.inr rfl
theorem uT{t b:Int}(h0:1<=b)(ht:Sz 80 t)(hb:Sz 6 b):Good 250 (FR.mk t b)/\aX K c [.p (.int t),.p (.int b)]=.ok (.p (frD (FR.mk t b))) :=
 ⟨oE (ht.mono (by decide)) (hb.mono (by decide)) (by omega),lT K c (by omega) (hb.mono (by decide))⟩
theorem rD{α:Type}(f:α->D)(xs:List α)(d:α)(h:0 < xs.length)(x:Int):∃ y∈xs,atI (xs.map f) (x.fmod (xs.length:Nat))=some (f y):=by
 have m:=cF (a:=x) (b:=(xs.length:Nat)) (by omega)
 obtain ⟨n,hn⟩:∃ n:Nat,x.fmod (xs.length:Nat)=(n:Int):=⟨(x.fmod (xs.length:Nat)).toNat,by omega⟩
 have hl:n < xs.length:=by omega
 exact ⟨_,getD_mem xs d hl,by rw [hn];exact aGl f xs d hl⟩
theorem aLu(x:Int):Sz 80 (x.fmod (2*10 ^ Int.toNat 20+1) - 10 ^ Int.toNat 20):=by
 have:Sz (max (max (4+70) 4+1) 70+1) (x.fmod (2*10 ^ Int.toNat 20+1) - 10 ^ Int.toNat 20):=by (walk_at "z")
 exact this.mono (by decide)
theorem aAg(x:Int)(n:Int)(h:0 < n)(hn:n<=15):1<=1+x.fmod n/\Sz 6 (1+x.fmod n):=by
 have:=cF (a:=x) h
 exact ⟨by omega,by unfold Sz;omega⟩
theorem aJ8(ps:List Pl)(h0:ps≠[])(hl:ps.length<=1000)(hp:∀ p∈ps,GPB p){cell other:Int}(hc:Sz 200 cell)(ho:Sz 200 other):∃ pt,GPt pt/\cW K c [.p (.list (ps.map plD)),.p (.int cell),.p (.int other)]=.ok (.p (.tuple [frD pt.1,frD pt.2])):=by
 have p20:aK8 10 20:=⟨by decide,by decide,by decide⟩
 have hpos:0 < ps.length:=aYx.mpr h0
 unfold cW
 suffices h:∃ pt,GPt pt/\eV K c (bK 6 [.p (.list (ps.map plD)),.p (.int cell),.p (.int other)])=some (.rt (.p (.tuple [frD pt.1,frD pt.2]))) from let ⟨h,g,e⟩:=h;⟨h,g,b8 e⟩
 rw [show bK 6 [.p (.list (ps.map plD)),.p (.int cell),.p (.int other)]=[some (.p (.list (ps.map plD))),some (.p (.int cell)),some (.p (.int other)),none,none,none] from rfl]
 have tst:∀ (n:Int) r3 r4 r5,bP (aE (eqE false) (aE cP (aD 1) (mC (.int 3))) (mC (.int n))) [some (.p (.list (ps.map plD))),some (.p (.int cell)),some (.p (.int other)),r3,r4,r5]=.ok (cell.fmod 3 == n):=fun n r3 r4 r5=>by
  simp [bP,aE,aD,mC,Res.bind,Ev.c,vW,eqE,dat,iE,hU,dA]
 unfold eV
 have first:(∃ pt,GPt pt/\(fM (bP (aE (eqE false) (aE cP (aD 1) (mC (.int 3))) (mC (.int 0)))) (bH (cG 3 (aH eU (aB (aD 0) aM))) (bH (cG 4 (aP 3 (aY K c) (aB (aE ixE (aD 0) (aE cP (aD 2) (aD 3))) (aB (aE ixE (aD 0) (aE cP (aE cB (aD 2) (aD 3)) (aD 3))) (aB (aE ixE (aD 0) (aE cP (aE cB (aD 1) (mC (.int 3))) (aD 3))) aM))))) (fM (bP (mUn (aCz true) (aD 4))) (dS (aD 4)) cO))) cO) [some (.p (.list (ps.map plD))),some (.p (.int cell)),some (.p (.int other)),none,none,none]=some (.rt (.p (.tuple [frD pt.1,frD pt.2]))))\/∃ r3 r4,(fM (bP (aE (eqE false) (aE cP (aD 1) (mC (.int 3))) (mC (.int 0)))) (bH (cG 3 (aH eU (aB (aD 0) aM))) (bH (cG 4 (aP 3 (aY K c) (aB (aE ixE (aD 0) (aE cP (aD 2) (aD 3))) (aB (aE ixE (aD 0) (aE cP (aE cB (aD 2) (aD 3)) (aD 3))) (aB (aE ixE (aD 0) (aE cP (aE cB (aD 1) (mC (.int 3))) (aD 3))) aM))))) (fM (bP (mUn (aCz true) (aD 4))) (dS (aD 4)) cO))) cO) [some (.p (.list (ps.map plD))),some (.p (.int cell)),some (.p (.int other)),none,none,none]=some (.nx [some (.p (.list (ps.map plD))),some (.p (.int cell)),some (.p (.int other)),r3,r4,none]):=by
  have t0:=tst 0 none none none
  cases h:(cell.fmod 3 == 0) with
  | false =>
   rw [h] at t0
   exact .inr ⟨none,none,kH t0⟩
  | true =>
   rw [h] at t0
   have eL:(aH eU (aB (aD 0) aM)) [some (.p (.list (ps.map plD))),some (.p (.int cell)),some (.p (.int other)),none,none,none]=.ok (.p (.int (ps.length:Nat))):=by
    simp [aB,aM,aH,aD,Res.bind,Ev.c,eU,fH]
   have nz:((ps.length:Nat):Int)≠0:=by omega
   have sn:Sz 20 ((ps.length:Nat):Int):=by unfold Sz;omega
   obtain ⟨p,hp1,i1⟩:=rD plD ps (0,0,(0,1)) hpos other
   obtain ⟨q,hq1,i2⟩:=rD plD ps (0,0,(0,1)) hpos (other.fdiv (ps.length:Nat))
   obtain ⟨r,hr1,i3⟩:=rD plD ps (0,0,(0,1)) hpos (cell.fdiv 3)
   have x1:ixE (.p (.list (ps.map plD))) (.p (.int (other.fmod (ps.length:Nat))))=.ok (.p (plD p)):=by simp [ixE,fH,i1]
   have x2:ixE (.p (.list (ps.map plD))) (.p (.int ((other.fdiv (ps.length:Nat)).fmod (ps.length:Nat))))=.ok (.p (plD q)):=by simp [ixE,fH,i2]
   have x3:ixE (.p (.list (ps.map plD))) (.p (.int ((cell.fdiv 3).fmod (ps.length:Nat))))=.ok (.p (plD r)):=by simp [ixE,fH,i3]
   have fin:∀ d,aY K c [.p (plD p),.p (plD q),.p (plD r)]=.ok (.p d)->(aP 3 (aY K c) (aB (aE ixE (aD 0) (aE cP (aD 2) (aD 3))) (aB (aE ixE (aD 0) (aE cP (aE cB (aD 2) (aD 3)) (aD 3))) (aB (aE ixE (aD 0) (aE cP (aE cB (aD 1) (mC (.int 3))) (aD 3))) aM)))) [some (.p (.list (ps.map plD))),some (.p (.int cell)),some (.p (.int other)),some (.p (.int (ps.length:Nat))),none,none]=.ok (.p d):=fun d hd=>by
    ktr_call 21 ⟨x1,x2,x3,hd⟩
   rcases aA4 K c (hp p hp1) (hp q hq1) (hp r hr1) with hn | ⟨pt,gpt,hs⟩
   ·refine .inr ⟨_,_,(l3 t0).trans ((aQ (cU eL)).trans ((aQ (cU (fin _ hn))).trans (kH ?_)))⟩
    rfl
   ·refine .inl ⟨pt,gpt,(l3 t0).trans ((aQ (cU eL)).trans ((aQ (cU (fin _ hs))).trans ((l3 ?_).trans ?_)))⟩
    ·rfl
    ·rfl
 rcases first with ⟨pt,g,e⟩ | ⟨r3,r4,e⟩
 ·exact ⟨pt,g,lV e⟩
 ·have t1:=tst 1 r3 r4 none
  cases h:(cell.fmod 3 == 1) with
  | true =>
   rw [h] at t1
   have n1:=aAg (cell.fdiv 27) 3 (by decide) (by decide)
   have n2:=aAg (other.fdiv 9) 3 (by decide) (by decide)
   have s1:Sz 80 ((cell.fdiv 3).fmod 9 - 4):=(Sz.subM (mH (by decide) (mJ (by decide))) (mJ (by decide))).mono (by decide)
   have s2:Sz 80 (other.fmod 9 - 4):=(Sz.subM (mH (by decide) (mJ (by decide))) (mJ (by decide))).mono (by decide)
   obtain ⟨g1,l1⟩:=uT K c n1.1 s1 n1.2
   obtain ⟨g2,l2⟩:=uT K c n2.1 s2 n2.2
   refine ⟨(FR.mk ((cell.fdiv 3).fmod 9 - 4) (1+(cell.fdiv 27).fmod 3),FR.mk (other.fmod 9 - 4) (1+(other.fdiv 9).fmod 3)),⟨g1,g2⟩,(aQ e).trans (lV ((l3 t1).trans (jY ?_)))⟩
   ktr_call 21 ⟨l1,l2⟩
  | false =>
   rw [h] at t1
   have n1:=aAg (cell.fdiv 7) 9 (by decide) (by decide)
   have n2:=aAg (other.fdiv 7) 9 (by decide) (by decide)
   obtain ⟨g1,l1⟩:=uT K c n1.1 (aLu (cell.fdiv 3)) n1.2
   obtain ⟨g2,l2⟩:=uT K c n2.1 (aLu other) n2.2
   have e3:(aP 2 (aX K c) (aB (aE gI (aE cP (aE cB (aD 1) (mC (.int 3))) (aE eJ (aE dF (mC (.int 2)) (aE sE (mC (.int 10)) (mC (.int 20)))) (mC (.int 1)))) (aE sE (mC (.int 10)) (mC (.int 20)))) (aB (aE eJ (mC (.int 1)) (aE cP (aE cB (aD 1) (mC (.int 7))) (mC (.int 9)))) aM))) [some (.p (.list (ps.map plD))),some (.p (.int cell)),some (.p (.int other)),r3,r4,none]=.ok (.p (frD (FR.mk ((cell.fdiv 3).fmod (2*10 ^ Int.toNat 20+1) - 10 ^ Int.toNat 20) (1+(cell.fdiv 7).fmod 9)))):=by
    ktr_call 21 ⟨l1⟩
   refine ⟨(FR.mk ((cell.fdiv 3).fmod (2*10 ^ Int.toNat 20+1) - 10 ^ Int.toNat 20) (1+(cell.fdiv 7).fmod 9),FR.mk (other.fmod (2*10 ^ Int.toNat 20+1) - 10 ^ Int.toNat 20) (1+(other.fdiv 7).fmod 9)),⟨g1,g2⟩,(aQ e).trans ((aQ (kH t1)).trans ((aQ (cU e3)).trans (jY ?_)))⟩
   ktr_call 21 ⟨l2⟩
def ePs(ps:List Pl):List L:=[.p (.list (ps.map plD))]
theorem aPe(a b:List Pl)(h:ePs a=ePs b):a=b:=by
 unfold ePs at h
 injection h with h _
 injection h with h
 injection h with h
 exact aRe h
def eRR(a:List Pl×List Pl):List L:=[.p (.list (a.1.map plD)),.p (.list (a.2.map plD))]
theorem aM4(a b:List Pl×List Pl)(h:eRR a=eRR b):a=b:=by
 unfold eRR at h
 injection h with h1 h2
 injection h2 with h2 _
 injection h1 with h1
 injection h1 with h1
 injection h2 with h2
 injection h2 with h2
 exact aZk (aRe h1) (aRe h2)
def eSl(s:Int×Int):List L:=[.p (slD s)]
theorem aNy(a b:Int×Int)(h:eSl a=eSl b):a=b:=by
 unfold eSl at h
 injection h with h _
 injection h with h
 exact kI _ _ h
def stp(s:Int×Int):Bool:=decide ((if s.2 < s.1 then s.2 else s.1) < 0) || decide (8 < (if s.1 < s.2 then s.2 else s.1))
noncomputable def dU(K:aV9)(c:Cls):List L->Res L:=mOf eSl (fun _=>True) fun s=>.ok (.p (.bool (stp s)))
noncomputable def jI(K:aV9)(c:Cls):MS:=(dS (aJv (aE ltE (aH (aN1 fun i j=>if j < i then j else i) (aB (aD 0) aM)) (mC (.int 0))) (aE gtE (aH (aN1 fun i j=>if i < j then j else i) (aB (aD 0) aM)) (mC (.int 8)))))
theorem rL:∀ ls,dU K c ls=.bad\/fG 1 (jI K c) ls=dU K c ls:=dP fun s _=>by
 refine b8 ?_
 rw [show bK 1 (eSl s)=[some (.p (slD s))] from rfl]
 unfold jI stp
 refine jY ?_
 cases h:decide ((if s.2 < s.1 then s.2 else s.1) < 0)<;>ktr_call 2 ⟨slD,aN1,h,Bool.true_or,Bool.false_or⟩
theorem aCg(s:Int×Int):dU K c [.p (slD s)]=.ok (.p (.bool (stp s))):=dX (a:=s) aNy trivial
def tkF(o:Option (Int×Int))(h:Int×Int):Bool:=match o with
 | none=>true
 | some f=>ltF f h
def hbS(m:Mp)(s h:Int×Int):Mp:=if tkF (fL m s) h=true then nN m s h else m
def hbR(rs:List ((Int×Int)×(Int×Int)))(m:Mp):Mp:=rs.foldl (fun m r=>hbS m r.1 r.2) m
def hbM(ps:List Pl):Mp:=hbR (ps.map fun p=>(slp p,p.2.2)) []
theorem aDg(m:Mp)(s h:Int×Int):(hbS m s h).length<=m.length+1:=by
 unfold hbS
 split
 ·exact lM _ _ _
 ·exact bCj _
theorem aL6{P:(Int×Int)->Prop}{m:Mp}(hm:∀ k f,fL m k=some f->P f)(s:Int×Int){h:Int×Int}(hh:P h):∀ k f,fL (hbS m s h) k=some f->P f:=by
 intro k f e
 unfold hbS at e
 split at e
 ·rw [iV] at e
  split at e
  ·cases e;exact hh
  ·exact hm k f e
 ·exact hm k f e
def rwD(r:(Int×Int)×(Int×Int)):D:=.tuple [slD r.1,frD r.2]
theorem rwI{a b:List ((Int×Int)×(Int×Int))}(h:a.map rwD=b.map rwD):a=b:=by
 refine List.map_inj_right (fun x y e=>?_) |>.mp h
 unfold rwD at e
 injection e with e
 injection e with e1 e2
 injection e2 with e2 _
 exact aZk (kI _ _ e1) (frI e2)
def aSn(rs:List ((Int×Int)×(Int×Int))):List L:=[.p (.list (rs.map rwD))]
theorem aKc(a b:List ((Int×Int)×(Int×Int)))(h:aSn a=aSn b):a=b:=by
 unfold aSn at h
 injection h with h _
 injection h with h
 injection h with h
 exact rwI h
noncomputable def b7(K:aV9)(c:Cls):List L->Res L:=mOf aSn (fun rs=>rs.length<=1000/\∀ r∈rs,FSz 2000 r.2) fun rs=>.ok (.o (.dict (N.encM slD frD (hbR rs []))))
noncomputable def dR:MS:=(fM (mOr (bP (aE (xD true) (aD 2) (aD 1))) (bP (aP 2 (lY K c) (aB (aE jL (aD 1) (aD 2)) (aB (aD 3) aM))))) (kR 1 (aD 2) (aD 3)) cO)
noncomputable def gB:MS:=(bH (cG 1 mDT) (bH (xH (gH (aD 0)) (nY 2 (fF (aR 2) (fF (aR 3) nW))) (dR K c)) (dS (aD 1))))
theorem aV7(A:Option L)(m:Mp)(hm:m.length<=2000)(hz:∀ k f,fL m k=some f->FSz 2000 f)(s h:Int×Int)(hh:FSz 2000 h):dR K c [A,some (.o (.dict (N.encM slD frD m))),some (.p (slD s)),some (.p (frD h))]=some (.nx [A,some (.o (.dict (N.encM slD frD (hbS m s h)))),some (.p (slD s)),some (.p (frD h))]):=by
 have hd:=lQ (ev:=frD) m s
 have hp:=uX (ev:=frD) m s h (by omega)
 have put:kR 1 (aD 2) (aD 3) [A,some (.o (.dict (N.encM slD frD m))),some (.p (slD s)),some (.p (frD h))]=some (.nx [A,some (.o (.dict (N.encM slD frD (nN m s h)))),some (.p (slD s)),some (.p (frD h))]):=by
  unfold kR
  ktr_call 3 ⟨aD,Ev.c,hp⟩
 have tin:bP (aE (xD true) (aD 2) (aD 1)) [A,some (.o (.dict (N.encM slD frD m))),some (.p (slD s)),some (.p (frD h))]=.ok (!(fL m s).isSome):=by
  ktr_call 2 ⟨xD,j8,hd⟩
  simp
 unfold dR hbS
 cases ea:fL m s with
 | none =>
  rw [ea] at tin
  have t:(mOr (bP (aE (xD true) (aD 2) (aD 1))) (bP (aP 2 (lY K c) (aB (aE jL (aD 1) (aD 2)) (aB (aD 3) aM))))) [A,some (.o (.dict (N.encM slD frD m))),some (.p (slD s)),some (.p (frD h))]=.ok true:=by
   unfold mOr
   rw [tin]
   rfl
  exact (l3 t).trans put
 | some f =>
  rw [ea] at tin hd
  have ef:(aE jL (aD 1) (aD 2)) [A,some (.o (.dict (N.encM slD frD m))),some (.p (slD s)),some (.p (frD h))]=.ok (.p (frD f)):=by
   ktr_call 2 ⟨jL,j8,hd,bAw⟩
  have hl:=aE7 K c (hz s f ea) hh
  have tl:bP (aP 2 (lY K c) (aB (aE jL (aD 1) (aD 2)) (aB (aD 3) aM))) [A,some (.o (.dict (N.encM slD frD m))),some (.p (slD s)),some (.p (frD h))]=.ok (ltF f h):=by
   ktr_call 3 ⟨bP,aP,aB,aM,ef,aD,Res.bind,Ev.c,fC,dY,lB,hl,lS,dA⟩
  have t:(mOr (bP (aE (xD true) (aD 2) (aD 1))) (bP (aP 2 (lY K c) (aB (aE jL (aD 1) (aD 2)) (aB (aD 3) aM))))) [A,some (.o (.dict (N.encM slD frD m))),some (.p (slD s)),some (.p (frD h))]=.ok (ltF f h):=by
   unfold mOr
   rw [tin,qA]
   exact tl
  show _=some (Out.nx [A,some (.o (.dict (N.encM slD frD (if ltF f h=true then nN m s h else m)))),some (.p (slD s)),some (.p (frD h))])
  cases e:ltF f h with
  | true=>rw [e] at t;rw [aWm rfl];exact (l3 t).trans put
  | false=>rw [e] at t;rw [aWn (by decide)];exact kH t
theorem aFm(K:aV9)(c:Cls)(A:Option L):∀ (rs:List ((Int×Int)×(Int×Int))) (m:Mp) (r2 r3:Option L),m.length+rs.length<=2000->(∀ k f,fL m k=some f->FSz 2000 f)->(∀ r∈rs,FSz 2000 r.2)->∃ q2 q3,gO (nY 2 (fF (aR 2) (fF (aR 3) nW))) (dR K c) (rs.map rwD) [A,some (.o (.dict (N.encM slD frD m))),r2,r3]=some (.nx [A,some (.o (.dict (N.encM slD frD (hbR rs m)))),q2,q3])
 | [],m,r2,r3,_,_,_=>⟨r2,r3,rfl⟩
 | r :: rs,m,r2,r3,hl,hz,hr=>by
  rw [aWc] at hl
  have hb:=aV7 K c A m (by omega) hz r.1 r.2 (hr r (.head _))
  have hn:=aDg m r.1 r.2
  obtain ⟨q2,q3,ih⟩:=aFm K c A rs (hbS m r.1 r.2) (some (.p (slD r.1))) (some (.p (frD r.2))) (by omega) (aL6 hz r.1 (hr r (.head _))) fun x hx=>hr x (.tail _ hx)
  refine ⟨q2,q3,?_⟩
  rw [aWo]
  unfold gO
  have et:nY 2 (fF (aR 2) (fF (aR 3) nW)) (rwD r) [A,some (.o (.dict (N.encM slD frD m))),r2,r3]=some [A,some (.o (.dict (N.encM slD frD m))),some (.p (slD r.1)),some (.p (frD r.2))]:=rfl
  rw [et]
  dsimp only
  rw [hb]
  exact ih
theorem l7:∀ ls,b7 K c ls=.bad\/fG 4 (gB K c) ls=b7 K c ls:=dP fun rs h=>by
 obtain ⟨hl,hz⟩:=h
 refine b8 ?_
 rw [show bK 4 (aSn rs)=[some (.p (.list (rs.map rwD))),none,none,none] from rfl]
 obtain ⟨r2,r3,hlp⟩:=aFm K c (some (.p (.list (rs.map rwD)))) rs [] none none (by rw [aXc];omega) (fun _ _ e=>nomatch e) hz
 unfold gB
 refine (aQ (iB (d:=.dict []) rfl)).trans ?_
 refine (aQ ((sH (ds:=rs.map rwD) rfl).trans hlp)).trans ?_
 rfl
theorem aNd{ps:List Pl}(hl:ps.length<=1000)(hz:∀ p∈ps,FSz 2000 p.2.2):b7 K c [.p (.list (ps.map fun p=>.tuple [slD (slp p),frD p.2.2]))]=.ok (.o (.dict (N.encM slD frD (hbM ps)))):=by
 have e:(ps.map fun p=>PyData.tuple [slD (slp p),frD p.2.2])=(ps.map fun p=>(slp p,p.2.2)).map rwD:=by rw [aXm];rfl
 rw [e]
 exact dX (a:=ps.map fun p=>(slp p,p.2.2)) aKc ⟨by rw [aWb];exact hl,fun r hr=>by
  obtain ⟨p,hp,rfl⟩:=aWg.mp hr
  exact hz p hp⟩
noncomputable def nM(c:Cls)(ps:List Pl):Res L:=if ps=[] then .exc c.NoRoof else if (ps.any fun p=>stp (slp p))=true then .exc c.TooSteep else if 16 < (hbM ps).length then .exc c.TooMany else .ok (.o (.list ((cY (hbM ps)).map plD)))
noncomputable def hZ(K:aV9)(c:Cls):List L->Res L:=mOf ePs (fun ps=>ps.length<=1000/\∀ p∈ps,FSz 2000 p.2.2) fun ps=>nM c ps
noncomputable def jD(K:aV9)(c:Cls):En->Res Ev:=(aH bD (aB (aE ixE (aD 0) (mC (.int 0))) (aB (aE ixE (aD 0) (mC (.int 1))) (aB (aE jL (aD 1) (aD 0)) aM))))
noncomputable def fT:En->Res Ev:=(aH bD (aB (aP 1 (eI K c) (aB (aD 0) aM)) (aB (aE ixE (aD 0) (mC (.int 2))) aM)))
noncomputable def fV:En->Res Ev:=(aP 1 (dU K c) (aB (aP 1 (eI K c) (aB (aD 0) aM)) aM))
noncomputable def jQ:MS:=(bH (fM (bP (aE (eqE false) (aH eU (aB (aD 0) aM)) (mC (.int 0)))) (jU c.NoRoof (aB (mC (.str "a roof has one plane or more")) aM)) cO) (bH (fM (bP (aH aLt (aB (dW 1 [] (gH (aD 0)) (aR 0) fK (fV K c)) aM))) (jU c.TooSteep (aB (mC (.str "a slope has two numbers from 0 to 8")) aM)) cO) (bH (cG 1 (aP 1 (b7 K c) (aB (dW 1 [] (gH (aD 0)) (aR 0) fK (fT K c)) aM))) (bH (fM (bP (aE gtE (aH o3 (aB (aD 1) aM)) (mC (.int 16)))) (jU c.TooMany (aB (mC (.str "a roof has at most sixteen unlike slopes")) aM)) cO) (fun en=>(dS (dW 1 [1] (gH (aH eC (aB (aD 1) aM))) (aR 0) fK (jD K c))) (frz 1 en))))))
theorem aBq{n:Nat}{f:MS}{ls:List L}{C:Addr}{e:En}(h:f (bK n ls)=some (.ex C e)):fG n f ls=.exc C:=by unfold fG;rw [h]
theorem aCc:∀ ls,hZ K c ls=.bad\/fG 2 (jQ K c) ls=hZ K c ls:=dP fun ps h=>by
 obtain ⟨hl,hz⟩:=h
 have es:bK 2 (ePs ps)=[some (.p (.list (ps.map plD))),none]:=rfl
 have hlen:eU [.p (.list (ps.map plD))]=.ok (.p (.int (ps.length:Nat))):=by simp [eU,fH]
 have t0:bP (aE (eqE false) (aH eU (aB (aD 0) aM)) (mC (.int 0))) [some (.p (.list (ps.map plD))),none]=.ok (((ps.length:Nat):Int) == 0):=by
  ktr_call 3 ⟨bP,aE,aH,aB,aM,aD,mC,Res.bind,Ev.c,hlen,eqE,dat,iE,hU,dA⟩
  rfl
 unfold nM
 by_cases h0:ps=[]
 ·rw [aWm h0]
  subst h0
  refine aBq (e:=[some (.p (.list [])),none]) ?_
  unfold jQ bH
  rw [es,l3 (by rw [t0];rfl)]
  rfl
 rw [aWn h0]
 have h0':(((ps.length:Nat):Int) == 0)=false:=by
  rw [bAh]
  exact fun z=>h0 (aX8.mp (by omega))
 rw [h0'] at t0
 have hm1:mX (aZ 1 [] (aR 0) fK (fV K c) [some (.p (.list (ps.map plD))),none]) (ps.map plD)=some (ps.map fun p=>.bool (stp (slp p))):=by
  refine eD _ fun p hp=>?_
  have he:fV K c [some (.p (plD p))]=.ok (.p (.bool (stp (slp p)))):=by
   ktr_call 3 ⟨fV,aP,aB,aM,aD,Res.bind,Ev.c,fC,dY,lB,nU,aCg,lS⟩
  simp [aZ,aR,o9,fK,he,Ev.c]
 have hc1:=jF (n:=1) (js:=[]) (fi:=gH (aD 0)) (tg:=aR 0) (ft:=fK) (fe:=fV K c) (en:=[some (.p (.list (ps.map plD))),none]) (ds:=ps.map plD) rfl (by rw [aWb];omega) hm1
 have hany:aLt [.p (.list (ps.map fun p=>PyData.bool (stp (slp p))))]=.ok (.p (.bool (ps.any fun p=>stp (slp p)))):=by
  simp only [aLt,eZ,aFh,any_map]
 have t1:bP (aH aLt (aB (dW 1 [] (gH (aD 0)) (aR 0) fK (fV K c)) aM)) [some (.p (.list (ps.map plD))),none]=.ok (ps.any fun p=>stp (slp p)):=by
  ktr_call 3 ⟨bP,aH,aB,aM,hc1,Res.bind,Ev.c,hany,dA⟩
 cases hs:(ps.any fun p=>stp (slp p)) with
 | true =>
  rw [aWm rfl]
  rw [hs] at t1
  refine aBq (e:=[some (.p (.list (ps.map plD))),none]) ?_
  rw [es]
  unfold jQ
  refine (aQ (kH t0)).trans ?_
  unfold bH
  rw [l3 t1]
  rfl
 | false =>
  rw [aWn (by decide)]
  rw [hs] at t1
  have hm2:mX (aZ 1 [] (aR 0) fK (fT K c) [some (.p (.list (ps.map plD))),none]) (ps.map plD)=some (ps.map fun p=>.tuple [slD (slp p),frD p.2.2]):=by
   refine eD _ fun p hp=>?_
   have he:fT K c [some (.p (plD p))]=.ok (.p (.tuple [slD (slp p),frD p.2.2])):=by
    ktr_call 2 ⟨fT,nU⟩
   simp [aZ,aR,o9,fK,he,Ev.c]
  have hc2:=jF (n:=1) (js:=[]) (fi:=gH (aD 0)) (tg:=aR 0) (ft:=fK) (fe:=fT K c) (en:=[some (.p (.list (ps.map plD))),none]) (ds:=ps.map plD) rfl (by rw [aWb];omega) hm2
  have hhb:=aNd K c hl hz
  have e2:(aP 1 (b7 K c) (aB (dW 1 [] (gH (aD 0)) (aR 0) fK (fT K c)) aM)) [some (.p (.list (ps.map plD))),none]=.ok (.f (.dict (N.encM slD frD (hbM ps)))):=by
   ktr_call 3 ⟨aP,aB,aM,hc2,Res.bind,Ev.c,fC,dY,lB,hhb,lS⟩
  have hld:o3 [.b (.dict (N.encM slD frD (hbM ps)))]=.ok (.p (.int ((hbM ps).length:Nat))):=by
   simp only [o3,j8,rW]
   unfold N.encM
   rw [aWb]
  have t2:bP (aE gtE (aH o3 (aB (aD 1) aM)) (mC (.int 16))) [some (.p (.list (ps.map plD))),some (.o (.dict (N.encM slD frD (hbM ps))))]=.ok (decide ((16:Int) < ((hbM ps).length:Nat))):=by
   ktr_call 3 ⟨bP,aE,aH,aB,aM,aD,mC,Res.bind,Ev.c,hld,gN,dA⟩
  by_cases hm:16 < (hbM ps).length
  ·rw [aWm hm]
   rw [aXg (by omega)] at t2
   refine aBq (e:=[some (.p (.list (ps.map plD))),some (.o (.dict (N.encM slD frD (hbM ps))))]) ?_
   rw [es]
   unfold jQ
   refine (aQ (kH t0)).trans ((aQ (kH t1)).trans ((aQ (iB e2)).trans ?_))
   simp only [aWt,aWs]
   unfold bH
   rw [l3 t2]
   rfl
  ·rw [aWn hm]
   rw [aW0 (by omega)] at t2
   refine b8 ?_
   rw [es]
   unfold jQ
   refine (aQ (kH t0)).trans ((aQ (kH t1)).trans ((aQ (iB e2)).trans ?_))
   simp only [aWt,aWs]
   refine (aQ (kH t2)).trans ?_
   ktr_call 3 ⟨frz⟩
   generalize hbM ps=m at *
   have hso:=qU (ev:=frD) m (by omega)
   have hm3:mX (aZ 1 [1] (aR 0) fK (jD K c) [some (.p (.list (ps.map plD))),some (.p (.dict (N.encM slD frD m)))]) ((gM (kys m)).map oG)=some ((gM (kys m)).map fun k=>plD ((un2 k).1,(un2 k).2,aOd m (0,1) k)):=by
    refine eD _ fun k hk=>?_
    obtain ⟨h1,h2,h3⟩:=nG hk (0,1)
    have hd:=lQ (ev:=frD) m (un2 k)
    rw [h3] at hd
    have x0:ixE (.p (slD (un2 k))) (.p (.int 0))=.ok (.p (.int (un2 k).1)):=kN _ _
    have x1:ixE (.p (slD (un2 k))) (.p (.int 1))=.ok (.p (.int (un2 k).2)):=kQ _ _ _
    rw [h1]
    unfold aZ
    ktr_call 2 ⟨aR,o9,xJ,fK,jD,List.replicate,aZt,aZd,jL,j8,hd,x0,x1,bAw,plD⟩
   refine oT ?_
   have hit:(gH (aH eC (aB (aD 1) aM))) [some (.p (.list (ps.map plD))),some (.p (.dict (N.encM slD frD m)))]=.ok ((gM (kys m)).map oG):=by
    ktr_call 3 ⟨gH,aH,aB,aM,aD,Res.bind,Ev.c,hso,aG7⟩
   have hc3:=jF (n:=1) (js:=[1]) (fi:=gH (aH eC (aB (aD 1) aM))) (tg:=aR 0) (ft:=fK) (fe:=jD K c) (en:=[some (.p (.list (ps.map plD))),some (.p (.dict (N.encM slD frD m)))]) hit (by rw [aWb,(cQ (kys m)).length_eq];unfold kys;rw [aWb];omega) hm3
   rw [hc3]
   unfold cY
   rw [aXm]
   rfl
theorem aGj{ps:List Pl}(hl:ps.length<=1000)(hz:∀ p∈ps,FSz 2000 p.2.2):hZ K c [.p (.list (ps.map plD))]=nM c ps:=dX (a:=ps) aPe ⟨hl,hz⟩
theorem mem_keys{m:Mp}{k:Int×Int}:k∈m.map (·.1)↔(fL m k).isSome=true:=by
 constructor
 ·intro h
  obtain ⟨e,he,rfl⟩:=aWg.mp h
  obtain ⟨v,hv⟩:=vC he
  rw [hv]
  rfl
 ·intro h
  cases e:fL m k with
  | none=>rw [e] at h;cases h
  | some v =>
   by_cases hk:k∈m.map (·.1)
   ·exact hk
   ·exfalso
    have:∀ m:Mp,k∉m.map (·.1)->fL m k=none:=by
     intro m
     induction m with
     | nil=>intro _;rfl
     | cons p r ih =>
      intro hn
      rw [aWo,aWh,not_or] at hn
      unfold fL
      rw [aWn (fun z=>hn.1 z.symm)]
      exact ih hn.2
    rw [this m hk] at e
    cases e
theorem vH{α:Type}[DecidableEq α]:∀ {a b:List α},a.Nodup->b.Nodup->(∀ x,x∈a↔x∈b)->a.Perm b
 | [],b,_,_,h=>by
  cases b with
  | nil=>exact .refl _
  | cons y r=>exact absurd ((h y).mpr (.head _)) (fun z=>nomatch z)
 | x :: a,b,ha,hb,h=>by
  obtain ⟨h1,h2⟩:=aYd.mp ha
  have hx:x∈b:=(h x).mp (.head _)
  have p:b.Perm (x :: b.erase x):=bBn hx
  have hb':(b.erase x).Nodup:=hb.erase x
  have:a.Perm (b.erase x):=vH h2 hb' fun y=>by
   rw [List.Nodup.mem_erase_iff hb]
   constructor
   ·intro hy
    exact ⟨fun z=>h1 (z▸hy),(h y).mp (.tail _ hy)⟩
   ·rintro ⟨q1,q2⟩
    rcases aWh.mp ((h y).mpr q2) with z | z
    ·exact absurd z q1
    ·exact z
  exact (this.cons x).trans p.symm
def mxO(o:Option (Int×Int))(h:Int×Int):Option (Int×Int):=if tkF o h=true then some h else o
theorem aIi(m:Mp)(s h k:Int×Int):fL (hbS m s h) k=if k=s then mxO (fL m k) h else fL m k:=by
 unfold hbS mxO
 by_cases e:k=s
 ·rw [aWm e,e]
  split
  ·rw [iV,aWm rfl]
  ·rfl
 ·rw [aWn e]
  split
  ·rw [iV,aWn e]
  ·rfl
theorem zZ(k:Int×Int):∀ (rs:List ((Int×Int)×(Int×Int))) (m:Mp),fL (hbR rs m) k=((rs.filter fun r=>decide (k=r.1)).map (·.2)).foldl mxO (fL m k)
 | [],m=>rfl
 | r :: rs,m=>by
  show fL (hbR rs (hbS m r.1 r.2)) k=_
  rw [zZ k rs,aIi]
  by_cases e:k=r.1
  ·rw [aWm e,List.filter_cons_of_pos (by simpa using e),aWo,aZ3]
  ·rw [aWn e,List.filter_cons_of_neg (by simpa using e)]
theorem yP:∀ (hs:List (Int×Int)) (o:Option (Int×Int)),(∀ h∈hs,1<=h.2)->(∀ f,o=some f->1<=f.2)->(hs.foldl mxO o=none->o=none/\hs=[])/\∀ b,hs.foldl mxO o=some b->(b∈hs\/o=some b)/\(∀ h∈hs,leF h b)/\(∀ f,o=some f->leF f b)/\1<=b.2
 | [],o,_,ho=>⟨fun e=>⟨e,rfl⟩,fun b e=>⟨.inr e,(fun _ h=>nomatch h),(fun f hf=>by
  have:f=b:=aWx (hf.symm.trans e)
  rw [this];exact iI b),ho b e⟩⟩
 | h :: hs,o,hh,ho=>by
  have h1:=hh h (.head _)
  have hn:∀ f,mxO o h=some f->1<=f.2:=fun f e=>by
   unfold mxO at e
   split at e
   ·cases e;exact h1
   ·exact ho f e
  obtain ⟨a,b⟩:=yP hs (mxO o h) (fun x hx=>hh x (.tail _ hx)) hn
  rw [aZ3]
  have some':∃ f,mxO o h=some f/\leF h f/\(∀ g,o=some g->leF g f)/\(f=h\/o=some f):=by
   unfold mxO
   cases o with
   | none=>exact ⟨h,aWm rfl,iI h,(fun _ e=>nomatch e),.inl rfl⟩
   | some g =>
    show ∃ f,(if ltF g h=true then some h else some g)=some f/\leF h f/\(∀ g',some g=some g'->leF g' f)/\(f=h\/some g=some f)
    cases e:ltF g h with
    | true=>exact ⟨h,by rw [aWm rfl],iI h,fun g' z=>by cases z;exact aLr e,.inl rfl⟩
    | false=>exact ⟨g,by rw [aWn (by decide)],xK e,fun g' z=>by cases z;exact iI g,.inr rfl⟩
  obtain ⟨f,e1,e2,e3,e4⟩:=some'
  refine ⟨fun e=>?_,fun r e=>?_⟩
  ·have:=(a e).1
   rw [e1] at this
   cases this
  ·obtain ⟨c1,c2,c3,c4⟩:=b r e
   have fr:=c3 f e1
   have f1:=hn f e1
   refine ⟨?_,fun x hx=>?_,fun g hg=>hV (ho g hg) f1 c4 (e3 g hg) fr,c4⟩
   ·rcases c1 with z | z
    ·exact .inl (.tail _ z)
    ·have:f=r:=aWx (e1.symm.trans z)
     rcases e4 with q | q
     ·rw [<- this,q];exact .inl (.head _)
     ·rw [<- this];exact .inr q
   ·rcases aWh.mp hx with z | z
    ·rw [z];exact hV h1 f1 c4 e2 fr
    ·exact c2 x z
def hts(ps:List Pl)(k:Int×Int):List (Int×Int):=((ps.map fun p=>(slp p,p.2.2)).filter fun r=>decide (k=r.1)).map (·.2)
theorem mem_hts{ps:List Pl}{k h:Int×Int}:h∈hts ps k↔∃ p∈ps,slp p=k/\p.2.2=h:=by
 unfold hts
 constructor
 ·intro hm
  obtain ⟨r,hr,rfl⟩:=aWg.mp hm
  obtain ⟨h1,h2⟩:=aYc.mp hr
  obtain ⟨p,hp,rfl⟩:=aWg.mp h1
  exact ⟨p,hp,(aZo h2).symm,rfl⟩
 ·rintro ⟨p,hp,rfl,rfl⟩
  exact aWg.mpr ⟨_,aYc.mpr ⟨aWg.mpr ⟨p,hp,rfl⟩,by simp⟩,rfl⟩
theorem zX(ps:List Pl)(k:Int×Int):fL (hbM ps) k=(hts ps k).foldl mxO none:=zZ k _ []
theorem aF4:∀ (rs:List ((Int×Int)×(Int×Int))) (m:Mp),(hbR rs m).length<=m.length+rs.length
 | [],m=>aWl _
 | r :: rs,m=>by
  have:=aF4 rs (hbS m r.1 r.2)
  have:=aDg m r.1 r.2
  show (hbR rs (hbS m r.1 r.2)).length<=_
  rw [aWc]
  omega
theorem aE2(ps:List Pl):(hbM ps).length<=ps.length:=by
 have:=aF4 (ps.map fun p=>(slp p,p.2.2)) []
 rw [aWb,aXc,aYg] at this
 exact this
theorem mR{ps:List Pl}(hp:Pos ps){q:Pl}(h:q∈cY (hbM ps)):q∈ps:=by
 unfold cY at h
 obtain ⟨k,hk,rfl⟩:=aWg.mp h
 obtain ⟨_,_,h3⟩:=nG hk (0,1)
 rw [zX] at h3
 obtain ⟨_,b2⟩:=yP (hts ps (un2 k)) none (fun x hx=>by
  obtain ⟨p,hp',_,rfl⟩:=mem_hts.mp hx
  exact hp p hp') (fun _ e=>nomatch e)
 rcases (b2 _ h3).1 with z | z
 ·obtain ⟨p,h1,h2,h4⟩:=mem_hts.mp z
  have:p=((un2 k).1,(un2 k).2,aOd (hbM ps) (0,1) k):=by
   rw [<- h4,<- h2]
   rfl
  rw [<- this]
  exact h1
 ·cases z
theorem uQ{ps:List Pl}(hp:Pos ps){p:Pl}(h:p∈ps):∃ q∈cY (hbM ps),p.1=q.1/\p.2.1=q.2.1/\leF p.2.2 q.2.2:=by
 obtain ⟨a1,a2⟩:=yP (hts ps (slp p)) none (fun x hx=>by
  obtain ⟨p,hp',_,rfl⟩:=mem_hts.mp hx
  exact hp p hp') (fun _ e=>nomatch e)
 have hm:p.2.2∈hts ps (slp p):=mem_hts.mpr ⟨p,h,rfl,rfl⟩
 cases e:(hts ps (slp p)).foldl mxO none with
 | none=>rw [(a1 e).2] at hm;cases hm
 | some b =>
  have hb:=(a2 b e).2.1 _ hm
  have eg:fL (hbM ps) (slp p)=some b:=by rw [zX];exact e
  have hk:slp p∈(hbM ps).map (·.1):=mem_keys.mpr (by rw [eg];rfl)
  obtain ⟨x,hx,ex⟩:=aWg.mp hk
  have hs:[x.1.1,x.1.2]∈gM (kys (hbM ps)):=(cQ _).mem_iff.mpr (aWg.mpr ⟨x,hx,rfl⟩)
  have e1:x.1=slp p:=ex
  refine ⟨_,aWg.mpr ⟨_,hs,rfl⟩,?_,?_,?_⟩
  ·show p.1=x.1.1
   rw [e1]
   rfl
  ·show p.2.1=x.1.2
   rw [e1]
   rfl
  ·show leF p.2.2 ((fL (hbM ps) (x.1.1,x.1.2)).getD (0,1))
   rw [show (x.1.1,x.1.2)=slp p from e1,eg]
   exact hb
theorem aH5{ps:List Pl}{pt:Pt}{h:Int×Int}(hp:Pos ps)(g:Pp pt)(t:IsTop ps pt h):IsTop (cY (hbM ps)) pt h:=t.sub hp g (fun q hq=>mR hp hq) fun p h1=>by
 obtain ⟨q,h2,e1,e2,l⟩:=uQ hp h1
 exact ⟨q,h2,aAe g (hp p h1) (hp q (mR hp h2)) e1 e2 l⟩
theorem aGt{ps:List Pl}(hp:Pos ps)(h:ps≠[]):cY (hbM ps)≠[]:=by
 cases ps with
 | nil=>exact absurd rfl h
 | cons p r =>
  obtain ⟨q,hq,_⟩:=uQ hp (.head r)
  intro z
  rw [z] at hq
  cases hq
noncomputable def k9(K:aV9)(c:Cls):List L->Res L:=mOf eRR (fun a=>a.1.length<=30/\a.2.length<=30/\(∀ p∈a.1,Good 500 p.2.2)/\∀ p∈a.2,Good 500 p.2.2) fun a=>nM c (dM a.1 a.2)
noncomputable def jR:En->Res Ev:=(aH bD (aB (aE eJ (aE ixE (aD 1) (mC (.int 0))) (aE ixE (aD 0) (mC (.int 0)))) (aB (aE eJ (aE ixE (aD 1) (mC (.int 1))) (aE ixE (aD 0) (mC (.int 1)))) (aB (aP 2 (jX K c) (aB (aE ixE (aD 1) (mC (.int 2))) (aB (aE ixE (aD 0) (mC (.int 2))) aM))) aM))))
noncomputable def j7:MS:=(u4 2 (dW 1 [3] (gH (aD 1)) (aR 0) fK (jR K c)))
noncomputable def vM:MS:=(bH (cG 2 (aH kP aM)) (bH (xH (gH (aD 0)) (aR 3) (j7 K c)) (dS (aP 1 (hZ K c) (aB (aD 2) aM)))))
theorem aA8(K:aV9)(c:Cls)(A:Option L){qs:List Pl}(hq:qs.length<=30)(gq:∀ q∈qs,Good 500 q.2.2):∀ (ps acc:List Pl) (r:Option L),acc.length+30*ps.length<=2000->(∀ p∈ps,Good 500 p.2.2)->∃ r',gO (aR 3) (j7 K c) (ps.map plD) [A,some (.p (.list (qs.map plD))),some (.o (.list (acc.map plD))),r]=some (.nx [A,some (.p (.list (qs.map plD))),some (.o (.list ((acc++dM ps qs).map plD))),r'])
 | [],acc,r,_,_=>⟨r,by unfold dM;rw [bBh,aYk];rfl⟩
 | p :: ps,acc,r,hl,gp=>by
  rw [aWc] at hl
  have g1:=gp p (.head _)
  have hm:mX (aZ 1 [3] (aR 0) fK (jR K c) [A,some (.p (.list (qs.map plD))),some (.o (.list (acc.map plD))),some (.p (plD p))]) (qs.map plD)=some (qs.map fun q=>plD (pS p q)):=by
   refine eD _ fun q hq'=>?_
   have hp:=nH K c g1 (gq q hq') (by decide) (by decide)
   have he:jR K c [some (.p (plD q)),some (.p (plD p))]=.ok (.p (plD (pS p q))):=by
    ktr_call 2 ⟨jR,hp⟩
    rfl
   simp [aZ,aR,o9,xJ,fK,he,Ev.c]
  have hc:=jF (n:=1) (js:=[3]) (fi:=gH (aD 1)) (tg:=aR 0) (ft:=fK) (fe:=jR K c) (en:=[A,some (.p (.list (qs.map plD))),some (.o (.list (acc.map plD))),some (.p (plD p))]) (ds:=qs.map plD) rfl (by rw [aWb];omega) hm
  have hb:j7 K c [A,some (.p (.list (qs.map plD))),some (.o (.list (acc.map plD))),some (.p (plD p))]=some (.nx [A,some (.p (.list (qs.map plD))),some (.o (.list ((acc++qs.map (pS p)).map plD))),some (.p (plD p))]):=by
   unfold j7 u4
   simp only [aWp,aWz,hc]
   rw [aWm (by rw [aWb,aWb];omega),aXb,aXm]
   rfl
  obtain ⟨r',ih⟩:=aA8 K c A hq gq ps (acc++qs.map (pS p)) (some (.p (plD p))) (by rw [aWq,aWb];omega) fun x hx=>gp x (.tail _ hx)
  refine ⟨r',?_⟩
  rw [aWo]
  unfold gO
  simp only [aR,aWt,aWs]
  rw [hb]
  rw [aY9] at ih
  exact ih
theorem aEv{ps qs:List Pl}{m n:Nat}(h1:∀ p∈ps,Good m p.2.2)(h2:∀ p∈qs,Good n p.2.2):∀ r∈dM ps qs,Good (m+n+1) r.2.2:=fun r hr=>by
 obtain ⟨p,hp,q,hq,rfl⟩:=mem_sums.mp hr
 exact tJ (h1 p hp) (h2 q hq)
theorem uN(ps qs:List Pl):(dM ps qs).length=ps.length*qs.length:=by
 induction ps with
 | nil=>unfold dM;rw [bBh,aXc,Nat.zero_mul]
 | cons p r ih =>
  show (qs.map (pS p)++dM r qs).length=_
  rw [aWq,ih,aWb,aWc,Nat.succ_mul,Nat.add_comm]
theorem aIy{c:Cls}{ps:List Pl}{l:L}(h:nM c ps=.ok l):zC l=true:=by
 unfold nM at h
 split at h
 ·cases h
 ·split at h
  ·cases h
  ·split at h
   ·cases h
   ·cases h
    unfold zC
    exact yO plD aS1 _
theorem aKe:∀ ls,k9 K c ls=.bad\/fG 4 (vM K c) ls=k9 K c ls:=dP fun a h=>by
 obtain ⟨ps,qs⟩:=a
 obtain ⟨h1,h2,g1,g2⟩:=h
 dsimp only at h1 h2 g1 g2 ⊢
 have es:bK 4 (eRR (ps,qs))=[some (.p (.list (ps.map plD))),some (.p (.list (qs.map plD))),none,none]:=rfl
 obtain ⟨r',hlp⟩:=aA8 K c (some (.p (.list (ps.map plD)))) h2 g2 ps [] none (by rw [aXc];omega) g1
 rw [aZd] at hlp
 have hr:=aGj K c (ps:=dM ps qs) (by
  rw [uN]
  have:=bA4 h1 h2
  omega) (fun p hp=>((aEv g1 g2 p hp).mono (by decide)).fsz)
 have st:∀ {g:MS} {o:Option Out},g [some (.p (.list (ps.map plD))),some (.p (.list (qs.map plD))),some (.o (.list ((dM ps qs).map plD))),r']=o->(bH (cG 2 (aH kP aM)) (bH (xH (gH (aD 0)) (aR 3) (j7 K c)) g)) [some (.p (.list (ps.map plD))),some (.p (.list (qs.map plD))),none,none]=o:=fun e =>
  (aQ (iB (d:=.list []) rfl)).trans ((aQ ((sH (ds:=ps.map plD) rfl).trans hlp)).trans e)
 have e1:(aP 1 (hZ K c) (aB (aD 2) aM)) [some (.p (.list (ps.map plD))),some (.p (.list (qs.map plD))),some (.o (.list ((dM ps qs).map plD))),r']=(nM c (dM ps qs)).bind fun l=>.ok (lS l):=by
  ktr_call 3 ⟨aP,aB,aM,aD,Res.bind,Ev.c,fC,dY,lB,aA2,hr⟩
  cases e:nM c (dM ps qs) with
  | ok l=>dsimp only;rw [aWm (aIy e)]
  | exc C=>rfl
  | bad=>rfl
 have hR:(∃ C,nM c (dM ps qs)=.exc C)\/∃ d,nM c (dM ps qs)=.ok (.o d):=by
  unfold nM
  split
  ·exact .inl ⟨_,rfl⟩
  ·split
   ·exact .inl ⟨_,rfl⟩
   ·split
    ·exact .inl ⟨_,rfl⟩
    ·exact .inr ⟨_,rfl⟩
 rcases hR with ⟨C,e⟩ | ⟨d,e⟩
 ·rw [e] at e1 ⊢
  refine aBq (e:=[some (.p (.list (ps.map plD))),some (.p (.list (qs.map plD))),some (.o (.list ((dM ps qs).map plD))),r']) ?_
  rw [es]
  unfold vM
  refine st ?_
  unfold dS
  rw [e1]
  rfl
 ·rw [e] at e1 ⊢
  refine b8 ?_
  rw [es]
  unfold vM
  exact st (oT e1)
theorem aCd{ps qs:List Pl}(h1:ps.length<=30)(h2:qs.length<=30)(g1:∀ p∈ps,Good 500 p.2.2)(g2:∀ p∈qs,Good 500 p.2.2):k9 K c [.p (.list (ps.map plD)),.p (.list (qs.map plD))]=nM c (dM ps qs):=dX (a:=(ps,qs)) aM4 ⟨h1,h2,g1,g2⟩
theorem aHs{c:Cls}{ps:List Pl}(h0:ps≠[])(hs:∀ p∈ps,stp (slp p)=false)(hl:ps.length<=16):nM c ps=.ok (.o (.list ((cY (hbM ps)).map plD))):=by
 have:=aE2 ps
 unfold nM
 rw [aWn h0,aWn (by
  intro h
  obtain ⟨p,hp,e⟩:=bCn.mp h
  rw [hs p hp] at e
  cases e),aWn (by omega)]
theorem nE{p:Pl}{pt:Pt}(g:Pp pt)(hp:1<=p.2.2.2):AF (hgt p pt) (lev p pt):=mW (AF.refl g.x) (AF.refl g.y) (AF.refl hp)
theorem aEp{ps:List Pl}{pt:Pt}(g:Pp pt)(hp:Pos ps)(h0:ps≠[]){q:Pl}(h:q∈kB ps pt):q∈ps/\IsTop ps pt (hgt q pt):=by
 unfold kB at h
 obtain ⟨h1,h2⟩:=aYc.mp h
 have h2:ltF (lev q pt) (qI ps pt)=false:=by simpa using h2
 have hh:ps.headD (0,0,(0,1))∈ps:=head_mem _ h0
 refine ⟨h1,⟨q,h1,rfl⟩,fun p hp'=>?_⟩
 obtain ⟨r2,h3,e2⟩:∃ r∈ps,qI ps pt=lev r pt:=by
  rcases N.iY (ps.map fun q=>lev q pt) (lev (ps.headD (0,0,(0,1))) pt) with z | z
  ·exact ⟨_,hh,z⟩
  ·obtain ⟨r,hr,e⟩:=aWg.mp z
   exact ⟨r,hr,e.symm⟩
 have m2:=(tQ (ps.map fun q=>lev q pt) (lev (ps.headD (0,0,(0,1))) pt) (nE g (hp _ hh)).b (fun x hx=>by
  obtain ⟨r,hr,rfl⟩:=aWg.mp hx
  exact (nE g (hp r hr)).b)).2.1 _ (aWg.mpr ⟨p,hp',rfl⟩)
 have l:leF (lev p pt) (lev q pt):=by
  refine hV (nE g (hp p hp')).b (nE g (hp r2 h3)).b (nE g (hp q h1)).b ?_ (xK ?_)
  ·rw [<- e2];exact m2
  ·rw [<- e2];exact h2
 refine xK ?_
 rw [aOg (nE g (hp q h1)) (nE g (hp p hp'))]
 unfold leF at l
 exact aW0 (by omega)
theorem aJs{ps:List Pl}{pt:Pt}{h:Int×Int}(g:Pp pt)(hp:Pos ps)(h0:ps≠[])(t:IsTop ps pt h){q:Pl}(h1:q∈ps)(e:hgt q pt=h):q∈kB ps pt:=by
 unfold kB
 refine aYc.mpr ⟨h1,?_⟩
 have hh:ps.headD (0,0,(0,1))∈ps:=head_mem _ h0
 obtain ⟨r2,h3,e2⟩:∃ r∈ps,qI ps pt=lev r pt:=by
  rcases N.iY (ps.map fun q=>lev q pt) (lev (ps.headD (0,0,(0,1))) pt) with z | z
  ·exact ⟨_,hh,z⟩
  ·obtain ⟨r,hr,e⟩:=aWg.mp z
   exact ⟨r,hr,e.symm⟩
 have l:=t.le r2 h3
 rw [<- e] at l
 have:ltF (lev q pt) (lev r2 pt)=false:=by
  rw [<- aOg (nE g (hp q h1)) (nE g (hp r2 h3))]
  unfold leF at l
  exact aW0 (by omega)
 show (!ltF (lev q pt) (qI ps pt))=true
 rw [e2,this]
 rfl
theorem aUg(x:Int×Int):ng x=FR.mk (-x.1) x.2:=by
 unfold ng hM
 have e1:(0:Int)*x.2 - x.1*1 = -x.1:=by omega
 have e2:(1:Int)*x.2=x.2:=Int.one_mul _
 show FR.mk ((0:Int)*x.2 - x.1*1) (1*x.2)=_
 rw [e1,e2]
theorem tL{n:Nat}{x:Int×Int}(h:Good n x):Good n (ng x):=by
 rw [aUg]
 exact oE (Sz.neg h.2.1) h.2.2 (by have:=h.1;omega)
def eRH(a:List Pl×(Int×Int)):List L:=[.p (.list (a.1.map plD)),.p (frD a.2)]
theorem aMj(a b:List Pl×(Int×Int))(h:eRH a=eRH b):a=b:=by
 unfold eRH at h
 injection h with h1 h2
 injection h2 with h2 _
 injection h1 with h1
 injection h1 with h1
 injection h2 with h2
 exact aZk (aRe h1) (frI h2)
noncomputable def jC(K:aV9)(c:Cls):List L->Res L:=mOf eRH (fun a=>a.1.length<=1000/\Good 700 a.2/\∀ q∈a.1,Good 1200 q.2.2) fun a=>.ok (.o (.list ((a.1.map (upP a.2)).map plD)))
noncomputable def iO:En->Res Ev:=(aH bD (aB (aE ixE (aD 0) (mC (.int 0))) (aB (aE ixE (aD 0) (mC (.int 1))) (aB (aP 2 (jX K c) (aB (aE ixE (aD 0) (mC (.int 2))) (aB (aD 1) aM))) aM))))
noncomputable def uA:MS:=(dS (dW 1 [1] (gH (aD 0)) (aR 0) fK (iO K c)))
theorem aF7:∀ ls,jC K c ls=.bad\/fG 2 (uA K c) ls=jC K c ls:=dP fun a h=>by
 obtain ⟨ps,g⟩:=a
 obtain ⟨hl,hg,hz⟩:=h
 dsimp only at hl hg hz ⊢
 have hm:mX (aZ 1 [1] (aR 0) fK (iO K c) [some (.p (.list (ps.map plD))),some (.p (frD g))]) (ps.map plD)=some (ps.map fun q=>plD (upP g q)):=by
  refine eD _ fun q hq=>?_
  have hp:=nH K c (hz q hq) hg (by decide) (by decide)
  have he:iO K c [some (.p (plD q)),some (.p (frD g))]=.ok (.p (plD (upP g q))):=by
   ktr_call 2 ⟨iO,hp⟩
   rfl
  simp [aZ,aR,o9,xJ,fK,he,Ev.c]
 have hc:=jF (n:=1) (js:=[1]) (fi:=gH (aD 0)) (tg:=aR 0) (ft:=fK) (fe:=iO K c) (en:=[some (.p (.list (ps.map plD))),some (.p (frD g))]) (ds:=ps.map plD) rfl (by rw [aWb];omega) hm
 refine b8 ?_
 rw [show bK 2 (eRH (ps,g))=[some (.p (.list (ps.map plD))),some (.p (frD g))] from rfl]
 unfold uA
 rw [aXm]
 exact oT hc
theorem aOv{ps:List Pl}{g:Int×Int}(hl:ps.length<=1000)(hg:Good 700 g)(hz:∀ q∈ps,Good 1200 q.2.2):jC K c [.p (.list (ps.map plD)),.p (frD g)]=.ok (.o (.list ((ps.map (upP g)).map plD))):=dX (a:=(ps,g)) aMj ⟨hl,hg,hz⟩
noncomputable def k8(K:aV9)(c:Cls):List L->Res L:=mOf eHA (fun a=>a.1.length<=1000/\Good 610 a.2.1/\Good 610 a.2.2/\∀ q∈a.1,aH9 q (ngP a.2)) fun a=>.ok (.o (.list ((a.1.map (mvP a.2)).map plD)))
noncomputable def j6:En->Res Ev:=(aH bD (aB (aE ixE (aD 0) (mC (.int 0))) (aB (aE ixE (aD 0) (mC (.int 1))) (aB (aP 2 (dI K c) (aB (aD 0) (aB (aD 1) aM))) aM))))
noncomputable def y9:MS:=(bH (cG 2 (aH bD (aB (aP 2 (iM K c) (aB (aH bD (aB (mC (.int 0)) (aB (mC (.int 1)) aM))) (aB (aE ixE (aD 1) (mC (.int 0))) aM))) (aB (aP 2 (iM K c) (aB (aH bD (aB (mC (.int 0)) (aB (mC (.int 1)) aM))) (aB (aE ixE (aD 1) (mC (.int 1))) aM))) aM)))) (dS (dW 1 [2] (gH (aD 0)) (aR 0) fK (j6 K c))))
theorem aH2:∀ ls,k8 K c ls=.bad\/fG 3 (y9 K c) ls=k8 K c ls:=dP fun a h=>by
 obtain ⟨ps,pt⟩:=a
 obtain ⟨hl,hx,hy,hz⟩:=h
 dsimp only at hl hx hy hz ⊢
 have g0:Good 10 ((0:Int),(1:Int)):=⟨aYn 1,aJh _ (by decide),aJh _ (by decide)⟩
 have n1:iM K c [.p (.tuple [.int 0,.int 1]),.p (frD pt.1)]=.ok (.p (frD (ng pt.1))):=sM K c g0 hx (by decide) (by decide)
 have n2:iM K c [.p (.tuple [.int 0,.int 1]),.p (frD pt.2)]=.ok (.p (frD (ng pt.2))):=sM K c g0 hy (by decide) (by decide)
 have hm:mX (aZ 1 [2] (aR 0) fK (j6 K c) [some (.p (.list (ps.map plD))),some (.p (.tuple [frD pt.1,frD pt.2])),some (.p (.tuple [frD (ng pt.1),frD (ng pt.2)]))]) (ps.map plD)=some (ps.map fun q=>plD (mvP pt q)):=by
  refine eD _ fun q hq=>?_
  have hp:dI K c [.p (plD q),.p (.tuple [frD (ng pt.1),frD (ng pt.2)])]=_:=aMx K c (hz q hq)
  have he:j6 K c [some (.p (plD q)),some (.p (.tuple [frD (ng pt.1),frD (ng pt.2)]))]=.ok (.p (plD (mvP pt q))):=by
   ktr_call 2 ⟨j6,hp⟩
   rfl
  simp [aZ,aR,o9,xJ,fK,he,Ev.c]
 have hc:=jF (n:=1) (js:=[2]) (fi:=gH (aD 0)) (tg:=aR 0) (ft:=fK) (fe:=j6 K c) (en:=[some (.p (.list (ps.map plD))),some (.p (.tuple [frD pt.1,frD pt.2])),some (.p (.tuple [frD (ng pt.1),frD (ng pt.2)]))]) (ds:=ps.map plD) rfl (by rw [aWb];omega) hm
 refine b8 ?_
 rw [show bK 3 (eHA (ps,pt))=[some (.p (.list (ps.map plD))),some (.p (.tuple [frD pt.1,frD pt.2])),none] from rfl]
 unfold y9
 rw [aXm]
 refine (aQ (cU (d:=.tuple [frD (ng pt.1),frD (ng pt.2)]) ?_)).trans (oT hc)
 ktr_call 2 ⟨n1,n2⟩
theorem aMu{ps:List Pl}{pt:Pt}(hl:ps.length<=1000)(hx:Good 610 pt.1)(hy:Good 610 pt.2)(hz:∀ q∈ps,aH9 q (ngP pt)):k8 K c [.p (.list (ps.map plD)),.p (.tuple [frD pt.1,frD pt.2])]=.ok (.o (.list ((ps.map (mvP pt)).map plD))):=dX (a:=(ps,pt)) qB ⟨hl,hx,hy,hz⟩
def eT3(a:Q2×Q2×Q2):List L:=[.p (slD a.1),.p (slD a.2.1),.p (slD a.2.2)]
theorem aO8(a b:Q2×Q2×Q2)(h:eT3 a=eT3 b):a=b:=by
 unfold eT3 at h
 injection h with h1 h2
 injection h2 with h2 h3
 injection h3 with h3 _
 injection h1 with h1
 injection h2 with h2
 injection h3 with h3
 exact aZk (kI _ _ h1) (aZk (kI _ _ h2) (kI _ _ h3))
def GQ(q:Q2):Prop:=Sz 5000 q.1/\Sz 5000 q.2
noncomputable def lU(K:aV9)(c:Cls):List L->Res L:=mOf eT3 (fun a=>GQ a.1/\GQ a.2.1/\GQ a.2.2) fun a=>.ok (.p (.int (wD a.1 a.2.1 a.2.2)))
noncomputable def aFy(K:aV9)(c:Cls):MS:=(bH (cG 3 (aE dF (aE gI (aE ixE (aD 1) (mC (.int 0))) (aE ixE (aD 0) (mC (.int 0)))) (aE gI (aE ixE (aD 2) (mC (.int 1))) (aE ixE (aD 0) (mC (.int 1)))))) (bH (cG 4 (aE dF (aE gI (aE ixE (aD 1) (mC (.int 1))) (aE ixE (aD 0) (mC (.int 1)))) (aE gI (aE ixE (aD 2) (mC (.int 0))) (aE ixE (aD 0) (mC (.int 0)))))) (dS (aE gI (aD 3) (aD 4)))))
theorem aMc:∀ ls,lU K c ls=.bad\/fG 5 (aFy K c) ls=lU K c ls:=dP fun a h=>by
 obtain ⟨a,b,d⟩:=a
 obtain ⟨⟨a1,a2⟩,⟨b1,b2⟩,d1,d2⟩:=h
 dsimp only at a1 a2 b1 b2 d1 d2 ⊢
 have z:∀ {x y:Int},Sz 5000 x->Sz 5000 y->Sz 60000 (x - y):=fun h1 h2=>(N.Sz.subM h1 h2).mono (by decide)
 have q1:CMulW (b.1 - a.1) (d.2 - a.2):=⟨z b1 a1,z d2 a2⟩
 have q2:CMulW (b.2 - a.2) (d.1 - a.1):=⟨z b2 a2,z d1 a1⟩
 have x0:∀ y:Int×Int,ixE (.p (slD y)) (.p (.int 0))=.ok (.p (.int y.1)):=fun y=>kN _ _
 have x1:∀ y:Int×Int,ixE (.p (slD y)) (.p (.int 1))=.ok (.p (.int y.2)):=fun y=>kQ _ _ _
 refine b8 ?_
 rw [show bK 5 (eT3 (a,b,d))=[some (.p (slD a)),some (.p (slD b)),some (.p (slD d)),none,none] from rfl]
 unfold aFy
 refine (aQ (cU (d:=.int ((b.1 - a.1)*(d.2 - a.2))) ?_)).trans ((aQ (cU (d:=.int ((b.2 - a.2)*(d.1 - a.1))) ?_)).trans (jY ?_))
 ·ktr_call 11 ⟨x0,x1⟩
 ·ktr_call 11 ⟨x0,x1⟩
 ·walk_at "2"
  rfl
theorem aEc{a b d:Q2}(ha:GQ a)(hb:GQ b)(hd:GQ d):lU K c [.p (slD a),.p (slD b),.p (slD d)]=.ok (.p (.int (wD a b d))):=dX (a:=(a,b,d)) aO8 ⟨ha,hb,hd⟩
def eQs(ps:List Q2):List L:=[.p (.list (ps.map slD))]
theorem aGu(a b:List Q2)(h:eQs a=eQs b):a=b:=by
 unfold eQs at h
 injection h with h _
 injection h with h
 injection h with h
 exact List.map_inj_right (fun _ _ e=>kI _ _ e) |>.mp h
noncomputable def iU(K:aV9)(c:Cls):List L->Res L:=mOf eQs (fun ps=>ps.length<=1000/\∀ p∈ps,GQ p) fun ps=>.ok (.o (.list ((dE ps).reverse.map slD)))
noncomputable def gP:En->Res Bool:=(aC2 (bP (aE gtE (aH eU (aB (aD 1) aM)) (mC (.int 1)))) (bP (aE leE (aP 3 (lU K c) (aB (aE ixE (aD 1) (mUn mP (mC (.int 2)))) (aB (aE ixE (aD 1) (mUn mP (mC (.int 1)))) (aB (aD 2) aM)))) (mC (.int 0)))))
noncomputable def jS(K:aV9)(c:Cls):MS:=(aSv 1)
noncomputable def lR:MS:=(bH (mT (gP K c) (jS K c)) (mD 1 (aD 2)))
noncomputable def yW:MS:=(bH (cG 1 (aH kP aM)) (bH (xH (gH (aD 0)) (aR 2) (lR K c)) (dS (aD 1))))
theorem aT3(xs:List D)(a b:D):atI (xs++[a,b]) (-2)=some a:=by
 have hl:(xs++[a,b]).length=xs.length+2:=by simp
 have e:ixN (xs++[a,b]).length (-2)=some xs.length:=by
  unfold ixN
  rw [hl,aWn (by decide),aWm (by omega)]
  congr 1
  omega
 unfold atI
 rw [e]
 simp
theorem aUa(xs:List D)(a b:D):atI (xs++[a,b]) (-1)=some b:=by
 have:=aI3 (xs++[a]) b
 rw [aY9] at this
 exact this
theorem aHp(p:Q2)(s:List Q2):∀ k∈rZ p s,k∈s:=fun k hk=>(kE p s).sublist.subset hk
theorem aI9(Z:Option L){p:Q2}(gp:GQ p):∀ (n:Nat) (s:List Q2),s.length<=n->(∀ k∈s,GQ k)->mWh (gP K c) (jS K c) (n+1) [Z,some (.o (.list (s.reverse.map slD))),some (.p (slD p))]=some (.nx [Z,some (.o (.list ((rZ p s).reverse.map slD))),some (.p (slD p))]):=by
 have hlen:∀ s:List Q2,eU [.b (.list (s.reverse.map slD))]=.ok (.p (.int (s.length:Nat))):=fun s=>by simp [eU,fH]
 have neg2:mP (.p (.int 2))=.ok (.p (.int (-2))):=rfl
 have neg1:mP (.p (.int 1))=.ok (.p (.int (-1))):=rfl
 have t1:∀ s:List Q2,bP (aE gtE (aH eU (aB (aD 1) aM)) (mC (.int 1))) [Z,some (.o (.list (s.reverse.map slD))),some (.p (slD p))]=.ok (decide ((1:Int) < (s.length:Nat))):=fun s=>by
  ktr_call 3 ⟨bP,aE,aH,aB,aM,aD,mC,Res.bind,Ev.c,hlen,gN,dA⟩
 have short:∀ (n:Nat) (s:List Q2),s.length<=1->mWh (gP K c) (jS K c) (n+1) [Z,some (.o (.list (s.reverse.map slD))),some (.p (slD p))]=some (.nx [Z,some (.o (.list (s.reverse.map slD))),some (.p (slD p))]):=fun n s hs=>by
  have t:gP K c [Z,some (.o (.list (s.reverse.map slD))),some (.p (slD p))]=.ok false:=by
   unfold gP aC2
   rw [t1 s,aW0 (by omega)]
   rfl
  unfold mWh
  rw [t]
 intro n
 induction n with
 | zero =>
  intro s hs _
  have e:s=[]:=aX8.mp (by omega)
  subst e
  rw [show rZ p []=[] from by unfold rZ;rfl]
  exact short 0 [] (by decide)
 | succ n ih =>
  intro s hs hg
  match s,hs,hg with
  | [],_,_ =>
   rw [show rZ p []=[] from by unfold rZ;rfl]
   exact short _ [] (by decide)
  | [a],_,_ =>
   rw [show rZ p [a]=[a] from by unfold rZ;rfl]
   exact short _ [a] (aWl _)
  | k1 :: k2 :: r,hs,hg =>
   have er:(k1 :: k2 :: r).reverse.map slD=(r.reverse.map slD)++[slD k2,slD k1]:=by simp
   have i2:ixE (.b (.list ((r.reverse.map slD)++[slD k2,slD k1]))) (.p (.int (-2)))=.ok (.p (slD k2)):=by simp only [ixE,fH,aT3]
   have i1:ixE (.b (.list ((r.reverse.map slD)++[slD k2,slD k1]))) (.p (.int (-1)))=.ok (.p (slD k1)):=by simp only [ixE,fH,aUa]
   have tg:=aEc K c (hg k2 (.tail _ (.head _))) (hg k1 (.head _)) gp
   have t2:bP (aE leE (aP 3 (lU K c) (aB (aE ixE (aD 1) (mUn mP (mC (.int 2)))) (aB (aE ixE (aD 1) (mUn mP (mC (.int 1)))) (aB (aD 2) aM)))) (mC (.int 0))) [Z,some (.o (.list ((k1 :: k2 :: r).reverse.map slD))),some (.p (slD p))]=.ok (decide (wD k2 k1 p<=0)):=by
    rw [er]
    ktr_call 3 ⟨bP,aE,aP,aB,aM,aD,mUn,mC,Res.bind,Ev.c,neg2,neg1,i2,i1,fC,dY,lB,tg,lS,gN,dA⟩
   have t:gP K c [Z,some (.o (.list ((k1 :: k2 :: r).reverse.map slD))),some (.p (slD p))]=.ok (decide (wD k2 k1 p<=0)):=by
    unfold gP aC2
    rw [t1,aXg (by simp only [aWc];omega),qA]
    exact t2
   by_cases h:wD k2 k1 p<=0
   ·rw [aXg h] at t
    have hp:jS K c [Z,some (.o (.list ((k1 :: k2 :: r).reverse.map slD))),some (.p (slD p))]=some (.nx [Z,some (.o (.list ((k2 :: r).reverse.map slD))),some (.p (slD p))]):=by
     have ne:(k1 :: k2 :: r).reverse.map slD≠[]:=by simp
     have dl:((k1 :: k2 :: r).reverse.map slD).dropLast=(k2 :: r).reverse.map slD:=by
      rw [aZp,aXb]
      exact List.dropLast_concat
     unfold jS aSv aJf
     simp only [aWp,aWz]
     rw [aWn ne,dl]
     rfl
    have e:rZ p (k1 :: k2 :: r)=rZ p (k2 :: r):=by
     show (if wD k2 k1 p<=0 then rZ p (k2 :: r) else k1 :: k2 :: r)=_
     rw [aWm h]
    rw [e]
    unfold mWh
    rw [t]
    dsimp only
    rw [hp]
    exact ih (k2 :: r) (by simp only [aWc] at hs ⊢;omega) fun k hk=>hg k (.tail _ hk)
   ·rw [aW0 h] at t
    have e:rZ p (k1 :: k2 :: r)=k1 :: k2 :: r:=by
     show (if wD k2 k1 p<=0 then rZ p (k2 :: r) else k1 :: k2 :: r)=_
     rw [aWn h]
    rw [e]
    unfold mWh
    rw [t]
theorem sL(K:aV9)(c:Cls)(Z:Option L):∀ (ps s:List Q2) (r:Option L),s.length+ps.length<=2000->(∀ k∈s,GQ k)->(∀ p∈ps,GQ p)->∃ r',gO (aR 2) (lR K c) (ps.map slD) [Z,some (.o (.list (s.reverse.map slD))),r]=some (.nx [Z,some (.o (.list ((ps.foldl pushS s).reverse.map slD))),r'])
 | [],s,r,_,_,_=>⟨r,rfl⟩
 | p :: ps,s,r,hl,hs,hp=>by
  rw [aWc] at hl
  have gp:=hp p (.head _)
  have w:=aI9 K c Z gp (List.length s) s (aWl _) hs
  have w:=qN w
  have ll:(rZ p s).length<=s.length:=(kE p s).sublist.length_le
  have hb:lR K c [Z,some (.o (.list (s.reverse.map slD))),some (.p (slD p))]=some (.nx [Z,some (.o (.list ((pushS s p).reverse.map slD))),some (.p (slD p))]):=by
   unfold lR
   refine (aQ w).trans ?_
   unfold mD
   simp only [aWt,aWs,aWp,aWz,aD,Ev.c]
   rw [aWm (by rw [aWb,aX3];omega)]
   show some (Out.nx [Z,some (.o (.list ((rZ p s).reverse.map slD++[slD p]))),some (.p (slD p))])=_
   unfold pushS
   rw [aZp,aXb]
   rfl
  obtain ⟨r',ih⟩:=sL K c Z ps (pushS s p) (some (.p (slD p))) (by show (rZ p s).length+1+ps.length<=2000;omega) (fun k hk=>by
   rcases aWh.mp hk with z | z
   ·rw [z];exact gp
   ·exact hs k (aHp p s k z)) fun q hq=>hp q (.tail _ hq)
  refine ⟨r',?_⟩
  rw [aWo]
  unfold gO
  simp only [aR,aWt,aWs]
  rw [hb]
  exact ih
theorem aBn:∀ ls,iU K c ls=.bad\/fG 3 (yW K c) ls=iU K c ls:=dP fun ps h=>by
 obtain ⟨hl,hg⟩:=h
 obtain ⟨r',hlp⟩:=sL K c (some (.p (.list (ps.map slD)))) ps [] none (by rw [aXc];omega) (fun _ h=>nomatch h) hg
 refine b8 ?_
 rw [show bK 3 (eQs ps)=[some (.p (.list (ps.map slD))),none,none] from rfl]
 unfold yW
 refine (aQ (iB (d:=.list []) rfl)).trans ((aQ ((sH (ds:=ps.map slD) rfl).trans hlp)).trans ?_)
 rfl
theorem lN{ps:List Q2}(hl:ps.length<=1000)(hg:∀ p∈ps,GQ p):iU K c [.p (.list (ps.map slD))]=.ok (.o (.list ((dE ps).reverse.map slD))):=dX (a:=ps) aGu ⟨hl,hg⟩
def toL(p:Q2):List Int:=[p.1,p.2]
def unL(k:List Int):Q2:=(k.getD 0 0,k.getD 1 0)
theorem aH7(p:Q2):unL (toL p)=p:=rfl
theorem aVv(ps:List Q2):(ps.map toL).map oG=ps.map slD:=by rw [aXm];rfl
theorem aR4(p q:Q2):HT.lexLt (toL p) (toL q)=true↔ltQ p q:=by
 unfold toL ltQ
 rw [HT.fB,HT.fB,HT.tV]
 by_cases h:p.1=q.1
 ·rw [aWm h]
  by_cases h2:p.2=q.2
  ·rw [aWm h2]
   constructor
   ·intro z;cases z
   ·rintro (z | z)<;>omega
  ·rw [aWn h2,bAx]
   constructor
   ·exact fun z=>.inr ⟨h,z⟩
   ·rintro (z | z)
    ·omega
    ·exact z.2
 ·rw [aWn h,bAx]
  constructor
  ·exact .inl
  ·rintro (z | z)
   ·exact z
   ·exact absurd z.1 h
theorem aOx{p q:Q2}(h1:¬ ltQ q p)(h2:p≠q):ltQ p q:=by
 unfold ltQ at h1 ⊢
 by_cases z:p.1=q.1
 ·have:p.2≠q.2:=fun e=>h2 (aZk z e)
  omega
 ·omega
def iW(ps:List Q2):List Q2:=(gM (ddK (ps.map toL))).map unL
theorem uL{ps:List Q2}{k:List Int}(h:k∈gM (ddK (ps.map toL))):∃ p∈ps,k=toL p:=by
 have:=ddK_mem.mp ((cQ _).subset h)
 obtain ⟨p,hp,e⟩:=aWg.mp this
 exact ⟨p,hp,e.symm⟩
theorem aQe(ps:List Q2):(gM (ddK (ps.map toL))).map oG=(iW ps).map slD:=by
 unfold iW
 rw [aXm]
 refine List.map_congr_left fun k hk=>?_
 obtain ⟨p,_,rfl⟩:=uL hk
 rfl
theorem rows_mem{ps:List Q2}{p:Q2}:p∈iW ps↔p∈ps:=by
 unfold iW
 rw [aWg]
 constructor
 ·rintro ⟨k,hk,e⟩
  obtain ⟨q,hq,rfl⟩:=uL hk
  rw [<- e,aH7]
  exact hq
 ·intro h
  exact ⟨toL p,(cQ _).symm.subset (ddK_mem.mpr (aWg.mpr ⟨p,h,rfl⟩)),aH7 p⟩
theorem aEe(ps:List Q2):(iW ps).Pairwise ltQ:=by
 unfold iW
 rw [aZ9]
 have nd:(gM (ddK (ps.map toL))).Pairwise (·≠·):=(cQ _).nodup_iff.mpr (aA5 _)
 refine bAk (fun {a b} ha hb h=>?_) (List.pairwise_and_iff.mpr ⟨fU _,nd⟩)
 obtain ⟨p,_,rfl⟩:=uL ha
 obtain ⟨q,_,rfl⟩:=uL hb
 rw [aH7,aH7]
 refine aOx (fun z=>?_) fun e=>h.2 (by rw [e])
 have h1:HT.lexLt (toL q) (toL p)=false:=h.1
 rw [(aR4 q p).mpr z] at h1
 cases h1
theorem aLi:∀ ks:List (List Int),(ddK ks).length<=ks.length
 | []=>aWl _
 | k :: r=>by
  unfold ddK
  have:=aLi r
  split
  ·rw [aWc];omega
  ·rw [aWc,aWc];omega
theorem aAq(ps:List Q2):(iW ps).length<=ps.length:=by
 unfold iW
 have:=aLi (ps.map toL)
 rw [aWb] at this
 rw [aWb,(cQ _).length_eq]
 exact this
theorem ks_ne(ps:List Q2):((ps.map toL).all fun k=>!k.isEmpty)=true:=by
 rw [aZs]
 intro k hk
 obtain ⟨p,_,rfl⟩:=aWg.mp hk
 rfl
theorem aC6{ps:List Q2}(h:ps.length < 64):iZ (.p (.list (ps.map slD)))=.ok (.f (.list ((iW ps).map slD))):=by
 unfold iZ
 simp only [eZ]
 rw [<- aVv,rO]
 dsimp only
 rw [aWm ⟨ks_ne ps,by rw [aWb];exact h⟩,aQe]
noncomputable def mU(K:aV9)(c:Cls):List L->Res L:=mOf eQs (fun ps=>ps.length < 64/\ps≠[]/\∀ p∈ps,GQ p) fun ps=>.ok (.o (.list ((rA (iW ps)).map slD)))
noncomputable def aGo:MS:=(bH (cG 1 (mUn iZ (aD 0))) (bH (fM (bP (aE (eqE false) (aH eU (aB (aD 1) aM)) (mC (.int 1)))) (dS (aD 1)) cO) (bH (cG 2 (aP 1 (iU K c) (aB (aD 1) aM))) (bH (cG 3 (aP 1 (iU K c) (aB (mUn aHn (aD 1)) aM))) (dS (aE eJ (mSl (aD 2) aD4 (mPt (mUn mP (mC (.int 1))))) (mSl (aD 3) aD4 (mPt (mUn mP (mC (.int 1)))))))))))
theorem aLl(xs:List D):M.cutD xs none (some (-1))=xs.dropLast:=by
 unfold M.cutD
 have e:HT.sIx xs.length xs.length (some (-1))=xs.length - 1:=by
  show (if (-1:Int) < 0 then ((-1:Int)+(xs.length:Int)).toNat else min (-1:Int).toNat xs.length)=xs.length - 1
  rw [aWm (by decide)]
  omega
 rw [e,HT.aAb,List.drop_zero,Nat.sub_zero,List.dropLast_eq_take]
theorem aL3(xs:List Q2):zC (.o (.list (xs.map slD)))=true:=by unfold zC;exact yO slD aUq _
theorem kX:∀ (ps s:List Q2),(ps.foldl pushS s).length<=s.length+ps.length
 | [],s=>aWl _
 | p :: ps,s=>by
  rw [aZ3,aWc]
  have:=kX ps (pushS s p)
  have h:(pushS s p).length<=s.length+1:=by
   unfold pushS
   rw [aWc]
   have:=(kE p s).sublist.length_le
   omega
  omega
theorem aNr:∀ ls,mU K c ls=.bad\/fG 4 (aGo K c) ls=mU K c ls:=dP fun ps h=>by
 obtain ⟨hl,h0,hg⟩:=h
 have hs:=aC6 hl
 have rl:=aAq ps
 have rg:∀ p∈iW ps,GQ p:=fun p hp=>hg p (rows_mem.mp hp)
 generalize iW ps=rs at hs rl rg ⊢
 have hln:eU [.b (.list (rs.map slD))]=.ok (.p (.int (rs.length:Nat))):=by simp [eU,fH]
 refine b8 ?_
 rw [show bK 4 (eQs ps)=[some (.p (.list (ps.map slD))),none,none,none] from rfl]
 unfold aGo
 have e1:(mUn iZ (aD 0)) [some (.p (.list (ps.map slD))),none,none,none]=.ok (.f (.list (rs.map slD))):=by
  ktr_call 3 ⟨mUn,aD,Res.bind,Ev.c,hs⟩
 refine (aQ (iB e1)).trans ?_
 simp only [aWt,aWs]
 have t1:bP (aE (eqE false) (aH eU (aB (aD 1) aM)) (mC (.int 1))) [some (.p (.list (ps.map slD))),some (.o (.list (rs.map slD))),none,none]=.ok (decide (rs.length=1)):=by
  have:((rs.length:Int) == 1)=decide (rs.length=1):=by
   rw [bCz,bBq,bAx];omega
  ktr_call 3 ⟨bP,aE,aH,aB,aM,aD,mC,Res.bind,Ev.c,hln,eqE,dat,iE,hU,dA,and_self,this⟩
 by_cases z:rs.length=1
 ·rw [aXg z] at t1
  have e:rA rs=rs:=by unfold rA;rw [aWm z]
  rw [e]
  refine lV ((l3 t1).trans ?_)
  rfl
 ·rw [aW0 z] at t1
  have e:rA rs=(dE rs).reverse.dropLast++(dE rs.reverse).reverse.dropLast:=aWn z
  rw [e]
  refine (aQ (kH t1)).trans ?_
  have c1:=lN K c (ps:=rs) (by omega) rg
  have c2:=lN K c (ps:=rs.reverse) (by rw [aX3];omega) (fun p hp=>rg p (List.mem_reverse.mp hp))
  have l1:=kX rs []
  have l2:=kX rs.reverse []
  rw [aX3] at l2
  have l1:(dE rs).length<=_:=l1
  have l2:(dE rs.reverse).length<=_:=l2
  rw [aXc] at l1 l2
  have s2:(aP 1 (iU K c) (aB (aD 1) aM)) [some (.p (.list (ps.map slD))),some (.o (.list (rs.map slD))),none,none]=.ok (.f (.list ((dE rs).reverse.map slD))):=by
   ktr_call 3 ⟨aP,aB,aM,aD,Res.bind,Ev.c,fC,dY,lB,aA2,c1,aL3,lS⟩
  refine (aQ (iB s2)).trans ?_
  simp only [aWt,aWs]
  have rv:aHn (.b (.list (rs.map slD)))=.ok (.f (.list (rs.reverse.map slD))):=by
   unfold aHn
   simp only [eZ]
   rw [List.map_reverse]
  have s3:(aP 1 (iU K c) (aB (mUn aHn (aD 1)) aM)) [some (.p (.list (ps.map slD))),some (.o (.list (rs.map slD))),some (.o (.list ((dE rs).reverse.map slD))),none]=.ok (.f (.list ((dE rs.reverse).reverse.map slD))):=by
   ktr_call 3 ⟨aP,aB,aM,mUn,aD,Res.bind,Ev.c,rv,fC,dY,lB,c2,lS⟩
  refine (aQ (iB s3)).trans ?_
  simp only [aWt,aWs]
  refine oT ?_
  have ng:mP (.p (.int 1))=.ok (.p (.int (-1))):=rfl
  have e:(((dE rs).reverse.dropLast++(dE rs.reverse).reverse.dropLast).map slD)=((dE rs).reverse.map slD).dropLast++((dE rs.reverse).reverse.map slD).dropLast:=by rw [aXb,bA2,bA2]
  have ad:eJ (.p (.list ((dE rs).reverse.map slD).dropLast)) (.p (.list ((dE rs.reverse).reverse.map slD).dropLast))=.ok (.f (.list (((dE rs).reverse.map slD).dropLast++((dE rs.reverse).reverse.map slD).dropLast))):=by
   simp only [eJ,eZ]
   refine aWm ?_
   simp only [bBj,aWb,aX3]
   omega
  rw [e]
  ktr_call 3 ⟨aE,mSl,aD4,mPt,mUn,aD,mC,Res.bind,Ev.c,ng,eZ,aLl,ad⟩
theorem wM{ps:List Q2}(hl:ps.length < 64)(h0:ps≠[])(hg:∀ p∈ps,GQ p):mU K c [.p (.list (ps.map slD))]=.ok (.o (.list ((rA (iW ps)).map slD))):=dX (a:=ps) aGu ⟨hl,h0,hg⟩
def slt(p q:Pl):Prop:=p.1 < q.1\/(p.1=q.1/\p.2.1 < q.2.1)
theorem cM{f:En->Res Ev}{g:En->Res (List Ev)}{en:En}{x:Ev}{xs:List Ev}(h1:f en=.ok x)(h2:g en=.ok xs):aB f g en=.ok (x.c :: xs):=by
 simp only [aB,h1,h2,Res.bind]
theorem lF{n:Nat}{m:List L->Res L}{fr:En->Res (List Ev)}{en:En}{rs:List Ev}{ls:List L}{r:L}(h:fr en=.ok rs)(ha:dY lB rs=some ls)(hn:ls.length=n)(hm:m ls=.ok r):aP n m fr en=.ok (lS r):=by
 simp only [aP,h,Res.bind,fC,ha,hn,hm,bAi]
theorem bA{op:Ev->Ev->Res Ev}{f g:En->Res Ev}{en:En}{x y:Ev}{o:Res Ev}(h1:f en=.ok x)(h2:g en=.ok y)(h:op x.c y.c=o):aE op f g en=o:=by
 simp only [aE,h1,h2,Res.bind,h]
theorem j9{f:En->Res Ev}{en:En}{b:Bool}(h:f en=.ok (.p (.bool b))):bP f en=.ok b:=by
 simp only [bP,h,Res.bind,dA]
theorem aCu{f:En->Res Bool}{en:En}{b:Bool}(h:f en=.ok b):oO f en=.ok (!b):=by
 simp only [oO,h,Res.bind]
theorem aSt{f g:En->Res Bool}{en:En}(h1:f en=.ok false)(h2:g en=.ok false):mOr f g en=.ok false:=by
 simp only [mOr,h1,h2,Res.bind]
 rfl
theorem aMd{i j:Int}:eqE false (.p (.int i)) (.p (.int j))=.ok (.p (.bool (i == j))):=by
 simp only [eqE,dat,iE,hU]
 rfl
theorem jT{m:List L->Res L}{f g:En->Res Ev}{en:En}{a b r:D}(h1:f en=.ok (.p a))(h2:g en=.ok (.p b))(hm:m [.p a,.p b]=.ok (.p r)):aP 2 m (aB f (aB g aM)) en=.ok (.p r):=by
 ktr_call 3 ⟨aP,aB,aM,h1,h2,Res.bind,Ev.c,fC,dY,lB,hm,lS⟩
theorem sY{m:List L->Res L}{f:En->Res Ev}{en:En}{a:D}{r:L}(h1:f en=.ok (.p a))(hm:m [.p a]=.ok r):aP 1 m (aB f aM) en=.ok (lS r):=by
 ktr_call 3 ⟨aP,aB,aM,h1,Res.bind,Ev.c,fC,dY,lB,hm⟩
theorem aPr{m:List L->Res L}{f:En->Res Ev}{en:En}{a:D}{r:L}(h1:f en=.ok (.f a))(hm:m [.p a]=.ok r):aP 1 m (aB f aM) en=.ok (lS r):=by
 ktr_call 3 ⟨aP,aB,aM,h1,Res.bind,Ev.c,fC,dY,lB,hm⟩
theorem kG{r:List Ev->Res Ev}{f:En->Res Ev}{en:En}{a:D}{o:Res Ev}(h1:f en=.ok (.p a))(h:r [.p a]=o):aH r (aB f aM) en=o:=by
 simp only [aH,aB,aM,h1,Res.bind,Ev.c,h]
theorem aRl{r:List Ev->Res Ev}{f:En->Res Ev}{en:En}{a:D}{o:Res Ev}(h1:f en=.ok (.f a))(h:r [.p a]=o):aH r (aB f aM) en=o:=by
 simp only [aH,aB,aM,h1,Res.bind,Ev.c,h]
theorem aEt{m:List L->Res L}{f g h:En->Res Ev}{en:En}{a b d r:D}(h1:f en=.ok (.p a))(h2:g en=.ok (.p b))(h3:h en=.ok (.p d))(hm:m [.p a,.p b,.p d]=.ok (.p r)):aP 3 m (aB f (aB g (aB h aM))) en=.ok (.p r):=by
 ktr_call 3 ⟨aP,aB,aM,h1,h2,h3,Res.bind,Ev.c,fC,dY,lB,hm,lS⟩
theorem aPj{f g:En->Res Ev}{en:En}{a b:D}(h1:f en=.ok (.p a))(h2:g en=.ok (.p b)):aH bD (aB f (aB g aM)) en=.ok (.p (.tuple [a,b])):=by
 ktr_call 3 ⟨aH,aB,aM,h1,h2,bD,kO,Res.bind,Ev.c⟩
theorem aEw{i:Nat}{f g:En->Res Ev}{en:En}{m:Mp}{s h:Int×Int}(he:en[i]? = some (some (.o (.dict (encM slD frD m)))))(h1:f en=.ok (.p (slD s)))(h2:g en=.ok (.p (frD h)))(hm:m.length<=1000):kR i f g en=some (.nx (en.set i (some (.o (.dict (encM slD frD (nN m s h))))))):=by
 have hp:=uX (ev:=frD) m s h (by omega)
 unfold kR
 simp only [he,h1,h2,Ev.c,hp]
theorem aDu{m:Mp}{k h:Int×Int}:nN m k h≠[]:=fun z=>by
 have:=iV m k h k
 rw [z] at this
 simp [fL] at this
theorem cdl{i j:Int}(h0:j≠0)(h:j.natAbs < 2 ^ 90):iG i j:=⟨h0,(show Sz 90 j from h).mono (by decide)⟩
noncomputable def cI(K:aV9)(c:Cls):List L->Res L:=mOf eFF (fun a=>Good 2000 a.1/\Good 2000 a.2) fun a=>.ok (.p (frD (hP a.1 a.2)))
noncomputable def oF:MS:=(dS (aP 2 (aX K c) (aB (aE eJ (aE dF (aE ixE (aD 0) (mC (.int 0))) (aE ixE (aD 1) (mC (.int 1)))) (aE dF (aE ixE (aD 1) (mC (.int 0))) (aE ixE (aD 0) (mC (.int 1))))) (aB (aE dF (aE ixE (aD 0) (mC (.int 1))) (aE ixE (aD 1) (mC (.int 1)))) aM))))
theorem zE:∀ ls,cI K c ls=.bad\/fG 2 (oF K c) ls=cI K c ls:=dP fun a h=>by
 obtain ⟨x,y⟩:=a
 obtain ⟨g1,g2⟩:=h
 obtain ⟨x0,x1,x2⟩:=id g1
 obtain ⟨y0,y1,y2⟩:=id g2
 dsimp only at g1 g2 x0 x1 x2 y0 y1 y2 ⊢
 have l:=lT K c (t:=x.1*y.2+y.1*x.2) (b:=x.2*y.2) (g1.ne g2) ((Sz.mul x2 y2).mono (by decide))
 refine b8 ?_
 rw [show bK 2 (eFF (x,y))=[some (.p (frD x)),some (.p (frD y))] from rfl]
 unfold oF
 refine jY ?_
 ktr_call 21 ⟨l⟩
 rfl
theorem vG{m n:Nat}{x y:Int×Int}(hx:Good m x)(hy:Good n y)(h1:m<=2000)(h2:n<=2000):cI K c [.p (frD x),.p (frD y)]=.ok (.p (frD (hP x y))):=dX (a:=(x,y)) oB ⟨hx.mono h1,hy.mono h2⟩
theorem aJb{m:Mp}(hn:(m.map (·.1)).Nodup):(cY m).Pairwise slt:=by
 have e:kys m=(m.map (·.1)).map fun s=>[s.1,s.2]:=by unfold kys;rw [aXm];rfl
 have nd:(kys m).Nodup:=by
  rw [e]
  exact aZ9.mpr (hn.imp fun {a b} w z=>w (aZk (bC7 z).1 (bC7 (bC7 z).2).1))
 have nd2:(gM (kys m)).Nodup:=(cQ _).nodup_iff.mpr nd
 unfold cY
 refine aZ9.mpr (bAk (fun {a b} ha hb w=>?_) ((fU (kys m)).and nd2))
 obtain ⟨_,ea,_⟩:=nG ha (0,1)
 obtain ⟨_,eb,_⟩:=nG hb (0,1)
 obtain ⟨w1,w2⟩:=w
 unfold leK at w1
 rw [ea,eb] at w1 w2
 unfold slt
 dsimp only
 generalize un2 a=x at *
 generalize un2 b=y at *
 by_cases h1:y.1=x.1
 ·right
  refine ⟨h1.symm,?_⟩
  by_cases h2:y.2=x.2
  ·exact absurd (by rw [h1,h2]) w2
  ·have:¬ (y.2 < x.2):=by
    rw [HT.fB,aWm h1,HT.fB,aWn h2] at w1
    exact aYl w1
   omega
 ·left
  rw [HT.fB,aWn h1] at w1
  have:=aYl w1
  omega
theorem aVe{f g:En->Res Bool}{en:En}(h1:f en=.ok true):mOr f g en=.ok true:=by
 simp only [mOr,h1,Res.bind]
 rfl
theorem aSx{f g:En->Res Bool}{en:En}{o:Res Bool}(h1:f en=.ok false)(h2:g en=o):mOr f g en=o:=by
 simp only [mOr,h1,Res.bind,h2]
 rfl
theorem p20:aK8 10 20:=⟨by decide,by decide,by decide⟩
theorem w20:(10:Int) ^ Int.toNat 20=100000000000000000000:=by decide
theorem aU6(en:En):aE sE (mC (.int 10)) (mC (.int 20)) en=.ok (.p (.int 100000000000000000000)):=bA (x:=.p (.int 10)) (y:=.p (.int 20)) rfl rfl (by show sE (.p (.int 10)) (.p (.int 20))=_;rw [sP p20,w20])
theorem aUn(en:En):aE eJ (aE dF (mC (.int 2)) (aE sE (mC (.int 10)) (mC (.int 20)))) (mC (.int 1)) en=.ok (.p (.int (2*100000000000000000000+1))):=bA (bA rfl (aU6 en) (sV ⟨(show Sz 90 (2:Int) by unfold Sz;decide).mono (by decide),(show Sz 90 (100000000000000000000:Int) by unfold Sz;decide).mono (by decide)⟩)) rfl (kL _ _)
structure GN(a b:Nat)(h:Int×Int):Prop where
 p:1<=h.2
 t:Sz a h.1
 s:Sz b h.2
 f:FR.Fr h
theorem GN.good{a b:Nat}{h:Int×Int}(g:GN a b h)(ha:a<=2000)(hb:b<=2000):Good 2000 h:=⟨g.p,g.t.mono ha,g.s.mono hb⟩
theorem aCl{a b:Nat}{t u:Int}(h0:u≠0)(ht:Sz a t)(hu:Sz b u):GN a b (FR.mk t u):=⟨(FR.sD h0).1.pos,Sz.le ht (aX5 _ _),Sz.le hu (aX5 _ _),(FR.sD h0).1⟩
theorem aTo{a b d e:Nat}{x y:Int×Int}(hx:GN a b x)(hy:GN d e y):GN (max (a+e) (d+b)+1) (b+e) (hP x y):=aCl (fun z=>by
 have h1:=hx.p
 have h2:=hy.p
 rcases aYm.mp z with z | z<;>omega) (Sz.addM (Sz.mul hx.t hy.s) (Sz.mul hy.t hx.s)) (Sz.mul hx.s hy.s)
def aPy(k:Int×Int):Prop:=0<=k.1/\k.1<=4/\0<=k.2/\k.2<=4
structure GM(a b:Nat)(m:Mp):Prop where
 n:(m.map (·.1)).Nodup
 g:∀ k h,fL m k=some h->aPy k/\GN a b h
theorem GM.nil{a b:Nat}:GM a b []:=⟨List.Pairwise.nil,fun _ _ h=>nomatch h⟩
theorem GM.put{a b:Nat}{m:Mp}(g:GM a b m){k h:Int×Int}(hk:aPy k)(hh:GN a b h):GM a b (nN m k h):=⟨aFk g.n k h,fun k' h' e=>by
 rw [iV] at e
 split at e
 ·rename_i z;cases e;rw [z];exact ⟨hk,hh⟩
 ·exact g.g k' h' e⟩
structure RO(a b:Nat)(ps:List Pl):Prop where
 n:ps≠[]
 s:ps.Pairwise slt
 g:∀ p∈ps,aPy (slp p)/\GN a b p.2.2
theorem aS5{a b:Nat}{m:Mp}(g:GM a b m)(h:m≠[]):RO a b (cY m):=by
 refine ⟨fun z=>?_,aJb g.n,fun p hp=>?_⟩
 ·have:=iL m
  rw [z] at this
  exact h (aX8.mp this.symm)
 ·unfold cY at hp
  obtain ⟨k,hk,rfl⟩:=aWg.mp hp
  obtain ⟨_,_,h3⟩:=nG hk (0,1)
  exact g.g _ _ h3
theorem aMy{i:Nat}{fe:En->Res Ev}{en:En}{m:Mp}(hm:m.length < 64)(h0:en[i]? = some (some (.o (.dict (encM slD frD m)))))(he:∀ k h,fL m k=some h->fe [some (.p (slD k)),some (.p (.dict (encM slD frD m)))]=.ok (.p (plD (k.1,k.2,h)))):dS (dW 1 [i] (gH (aH eC (aB (aD i) aM))) (aR 0) fK fe) (frz i en)=some (.rt (.o (.list ((cY m).map plD)))):=by
 have il:i < en.length:=by
  rcases aYh i en.length with z | z
  ·exact z
  ·rw [aW9 z] at h0;cases h0
 have h1:(frz i en)[i]? = some (some (.p (.dict (encM slD frD m)))):=by
  unfold frz
  rw [h0]
  dsimp only
  rw [bAy il]
 have hs:=qU (ev:=frD) m hm
 have cap:o9 [i] (frz i en)=[some (.p (.dict (encM slD frD m)))]:=by
  unfold o9
  simp only [aWo,aYq,h1,xJ]
 have hmap:mX (aZ 1 [i] (aR 0) fK fe (frz i en)) ((gM (kys m)).map oG)=some ((gM (kys m)).map fun k=>plD ((un2 k).1,(un2 k).2,aOd m (0,1) k)):=by
  refine eD _ fun k hk=>?_
  obtain ⟨e1,e2,e3⟩:=nG hk (0,1)
  have:=he _ _ e3
  rw [e1]
  unfold aZ
  rw [cap]
  ktr_call 3 ⟨aR,fK,List.replicate,aZt,aZd,this,Ev.c⟩
 have v:aD i (frz i en)=.ok (.p (.dict (encM slD frD m))):=by unfold aD;rw [h1]
 have it:gH (aH eC (aB (aD i) aM)) (frz i en)=.ok ((gM (kys m)).map oG):=by
  unfold gH
  rw [kG v hs]
  rfl
 have lk:(gM (kys m)).length=m.length:=by rw [(cQ (kys m)).length_eq];unfold kys;rw [aWb]
 have hc:=jF (n:=1) (js:=[i]) it (by rw [aWb,lk];omega) hmap
 rw [oT hc]
 unfold cY
 rw [aXm]
 rfl
theorem aK9{m:Mp}{k h:Int×Int}(e:fL m k=some h){x:Ev}(hx:j8 x=some (encM slD frD m)):jL x (.p (slD k))=.ok (.p (frD h)):=by
 have hd:=lQ (ev:=frD) m k
 rw [e] at hd
 unfold jL
 rw [hx]
 simp only [hd,bAw]
theorem aUy(ng:Bool){m:Mp}(k:Int×Int){x:Ev}(hx:j8 x=some (encM slD frD m)):xD ng (.p (slD k)) x=.ok (.p (.bool (if ng then !(fL m k).isSome else (fL m k).isSome))):=by
 have hd:=lQ (ev:=frD) m k
 unfold xD
 rw [hx]
 simp only [hd]
 cases fL m k<;>cases ng<;>rfl
noncomputable def i7(K:aV9)(c:Cls):En->Res Ev:=(aH bD (aB (aE ixE (aD 0) (mC (.int 0))) (aB (aE ixE (aD 0) (mC (.int 1))) (aB (aE jL (aD 1) (aD 0)) aM))))
noncomputable def eN:MS:=(bH (cG 4 (aH bD (aB (aE cP (aD 3) (aD 1)) (aB (aE cP (aE cB (aD 3) (aD 1)) (aD 1)) aM)))) (bH (cG 5 (aE cB (aD 3) (aE dF (aD 1) (aD 1)))) (bH (cG 6 (aP 2 (aX K c) (aB (aE gI (aE cP (aE cB (aD 5) (mC (.int 12))) (aE eJ (aE dF (mC (.int 2)) (aE sE (mC (.int 10)) (mC (.int 20)))) (mC (.int 1)))) (aE sE (mC (.int 10)) (mC (.int 20)))) (aB (aE eJ (mC (.int 1)) (aE cP (aD 5) (mC (.int 12)))) aM)))) (fM (mOr (bP (aE (xD true) (aD 4) (aD 2))) (bP (aP 2 (b6 K c) (aB (aE jL (aD 2) (aD 4)) (aB (aD 6) aM))))) (kR 2 (aD 4) (aD 6)) cO))))
noncomputable def fX:MS:=(bH (cG 2 mDT) (bH (xH (gH (aD 0)) (aR 3) (eN K c)) (bH (fM (bP (aE aB0 (aD 2) mDT)) (kR 2 (aH bD (aB (mC (.int 0)) (aB (mC (.int 0)) aM))) (aH bD (aB (mC (.int 0)) (aB (mC (.int 1)) aM)))) cO) (fun en=>(dS (dW 1 [2] (gH (aH eC (aB (aD 2) aM))) (aR 0) fK (i7 K c))) (frz 2 en)))))
noncomputable def bW(ls:List L):Res L:=fG 7 (fX K c) ls
theorem oY:∀ ls,bW K c ls=.bad\/fG 7 (fX K c) ls=bW K c ls:=fun _=>.inr rfl
theorem aTs(A:Option L){w:Int}(w1:1<=w)(w9:w<=5)(x:Int)(m:Mp)(hm:m.length<=1000)(g:GM 80 5 m)(r4 r5 r6:Option L):∃ m' q4 q5 q6,(GM 80 5 m'/\m'≠[]/\m'.length<=m.length+1)/\eN K c [A,some (.p (.int w)),some (.o (.dict (encM slD frD m))),some (.p (.int x)),r4,r5,r6]=some (.nx [A,some (.p (.int w)),some (.o (.dict (encM slD frD m'))),some (.p (.int x)),q4,q5,q6]):=by
 have wn:w≠0:=by omega
 have sw:Sz 20 w:=by unfold Sz;omega
 have dw:iG x w:=⟨wn,sw.mono (by decide)⟩
 have qw:CMulW w w:=⟨sw.mono (by decide),sw.mono (by decide)⟩
 have dww:iG x (w*w):=⟨Int.mul_ne_zero wn wn,(Sz.mul sw sw).mono (by decide)⟩
 have f1:=cF (a:=x) (b:=w) (by omega)
 have f2:=cF (a:=x.fdiv w) (b:=w) (by omega)
 have d12:iG (x.fdiv (w*w)) 12:=cdl (by decide) (by decide)
 have n12:(12:Int)≠0:=by decide
 have nb:(2*100000000000000000000+1:Int)≠0:=by decide
 have f3:=cF (a:=(x.fdiv (w*w)).fdiv 12) (b:=2*100000000000000000000+1) (by decide)
 have f4:=cF (a:=x.fdiv (w*w)) (b:=12) (by decide)
 have bx:aPy (x.fmod w,(x.fdiv w).fmod w):=⟨f1.1,by show x.fmod w<=4;omega,f2.1,by show (x.fdiv w).fmod w<=4;omega⟩
 have l:=lT K c (t:=((x.fdiv (w*w)).fdiv 12).fmod (2*100000000000000000000+1) - 100000000000000000000) (b:=1+(x.fdiv (w*w)).fmod 12) (by omega) ((show Sz 5 _ by unfold Sz;omega).mono (by decide))
 have gh:GN 80 5 (FR.mk (((x.fdiv (w*w)).fdiv 12).fmod (2*100000000000000000000+1) - 100000000000000000000) (1+(x.fdiv (w*w)).fmod 12)):=aCl (by omega) (by unfold Sz;omega) (by unfold Sz;omega)
 have e4:(aH bD (aB (aE cP (aD 3) (aD 1)) (aB (aE cP (aE cB (aD 3) (aD 1)) (aD 1)) aM))) [A,some (.p (.int w)),some (.o (.dict (encM slD frD m))),some (.p (.int x)),r4,r5,r6]=.ok (.p (.tuple [.int (x.fmod w),.int ((x.fdiv w).fmod w)])):=aPj (bA rfl rfl (eP wn)) (bA (bA rfl rfl (fI dw)) rfl (eP wn))
 have e5:(aE cB (aD 3) (aE dF (aD 1) (aD 1))) [A,some (.p (.int w)),some (.o (.dict (encM slD frD m))),some (.p (.int x)),some (.p (slD (x.fmod w,(x.fdiv w).fmod w))),r5,r6]=.ok (.p (.int (x.fdiv (w*w)))):=bA rfl (bA rfl rfl (sV qw)) (fI dww)
 generalize hs:(x.fmod w,(x.fdiv w).fmod w)=sl at bx e5
 generalize x.fdiv (w*w)=rs at *
 generalize hh:FR.mk ((rs.fdiv 12).fmod (2*100000000000000000000+1) - 100000000000000000000) (1+rs.fmod 12)=ht at l gh
 have e6:(aP 2 (aX K c) (aB (aE gI (aE cP (aE cB (aD 5) (mC (.int 12))) (aE eJ (aE dF (mC (.int 2)) (aE sE (mC (.int 10)) (mC (.int 20)))) (mC (.int 1)))) (aE sE (mC (.int 10)) (mC (.int 20)))) (aB (aE eJ (mC (.int 1)) (aE cP (aD 5) (mC (.int 12)))) aM))) [A,some (.p (.int w)),some (.o (.dict (encM slD frD m))),some (.p (.int x)),some (.p (slD sl)),some (.p (.int rs)),r6]=.ok (.p (frD ht)):=jT (bA (bA (bA rfl rfl (fI d12)) (aUn _) (eP nb)) (aU6 _) (qG _ _)) (bA rfl (bA rfl rfl (eP n12)) (kL _ _)) l
 have tn:bP (aE (xD true) (aD 4) (aD 2)) [A,some (.p (.int w)),some (.o (.dict (encM slD frD m))),some (.p (.int x)),some (.p (slD sl)),some (.p (.int rs)),some (.p (frD ht))]=.ok (!(fL m sl).isSome):=j9 (bA rfl rfl (aUy true sl rfl))
 suffices hx:∃ m',(GM 80 5 m'/\m'≠[]/\m'.length<=m.length+1)/\(fM (mOr (bP (aE (xD true) (aD 4) (aD 2))) (bP (aP 2 (b6 K c) (aB (aE jL (aD 2) (aD 4)) (aB (aD 6) aM))))) (kR 2 (aD 4) (aD 6)) cO) [A,some (.p (.int w)),some (.o (.dict (encM slD frD m))),some (.p (.int x)),some (.p (slD sl)),some (.p (.int rs)),some (.p (frD ht))]=some (.nx [A,some (.p (.int w)),some (.o (.dict (encM slD frD m'))),some (.p (.int x)),some (.p (slD sl)),some (.p (.int rs)),some (.p (frD ht))]) by
  obtain ⟨m',gm,hb⟩:=hx
  refine ⟨m',some (.p (slD sl)),some (.p (.int rs)),some (.p (frD ht)),gm,?_⟩
  unfold eN
  refine (aQ (cU e4)).trans ?_
  simp only [aWt,aWs]
  have hs':(.tuple [.int (x.fmod w),.int ((x.fdiv w).fmod w)]:D)=slD sl:=by rw [<- hs];rfl
  rw [hs']
  exact (aQ (cU e5)).trans ((aQ (cU e6)).trans hb)
 cases ea:fL m sl with
 | none =>
  rw [ea] at tn
  exact ⟨nN m sl ht,⟨g.put bx gh,aDu,lM _ _ _⟩,(l3 (aVe tn)).trans (aEw rfl rfl rfl hm)⟩
 | some h0 =>
  rw [ea] at tn
  have gh0:=(g.g _ _ ea).2
  have u:=u6 K c (x:=h0) (y:=ht) ⟨gh0.t.mono (by decide),gh0.s.mono (by decide)⟩ ⟨gh.t.mono (by decide),gh.s.mono (by decide)⟩
  have tu:bP (aP 2 (b6 K c) (aB (aE jL (aD 2) (aD 4)) (aB (aD 6) aM))) [A,some (.p (.int w)),some (.o (.dict (encM slD frD m))),some (.p (.int x)),some (.p (slD sl)),some (.p (.int rs)),some (.p (frD ht))]=.ok (ltF h0 ht):=j9 (jT (bA rfl rfl (aK9 ea rfl)) rfl u)
  cases el:ltF h0 ht with
  | true =>
   rw [el] at tu
   exact ⟨nN m sl ht,⟨g.put bx gh,aDu,lM _ _ _⟩,(l3 (aSx tn tu)).trans (aEw rfl rfl rfl hm)⟩
  | false =>
   rw [el] at tu
   exact ⟨m,⟨g,(fun z=>by rw [z] at ea;cases ea),bCj _⟩,kH (aSx tn tu)⟩
theorem aK2{w:Int}(w1:1<=w)(w9:w<=5)(cs:List Int)(hl:cs.length<=40):∃ ps:List Pl,RO 80 5 ps/\ps.length<=max cs.length 1/\bW K c [.p (.list (cs.map .int)),.p (.int w)]=.ok (.o (.list (ps.map plD))):=by
 obtain ⟨e',⟨m,q3,q4,q5,q6,⟨g1,g3⟩,rfl⟩,hlp⟩:=tU (enc:=PyData.int) (tg:=aR 3) (f:=eN K c) (fun zs e=>∃ m q3 q4 q5 q6,(GM 80 5 m/\m.length<=zs.length)/\e=[some (.p (.list (cs.map .int))),some (.p (.int w)),some (.o (.dict (encM slD frD m))),q3,q4,q5,q6]) cs [] [some (.p (.list (cs.map .int))),some (.p (.int w)),some (.o (.dict [])),none,none,none,none] ⟨[],none,none,none,none,⟨.nil,aWl _⟩,rfl⟩ (by
  rintro x hx zs e hz ⟨m,q3,q4,q5,q6,⟨g1,g3⟩,rfl⟩
  have hz:zs.length < 0+cs.length:=hz
  obtain ⟨m',p4,p5,p6,⟨a1,a2,a3⟩,hb⟩:=aTs K c (some (.p (.list (cs.map .int)))) w1 w9 x m (by omega) g1 q4 q5 q6
  exact ⟨_,_,rfl,hb,m',_,p4,p5,p6,⟨a1,by rw [aWq];simp;omega⟩,rfl⟩)
 have g3:m.length<=cs.length:=g3
 have td:bP (aE aB0 (aD 2) mDT) [some (.p (.list (cs.map .int))),some (.p (.int w)),some (.o (.dict (encM slD frD m))),q3,q4,q5,q6]=.ok m.isEmpty:=by
  have:aB0 (.b (.dict (N.encM slD frD m))) (.p (.dict []))=.ok (.p (.bool m.isEmpty)):=by
   unfold aB0
   simp only [j8,rW,bAi]
   unfold N.encM
   rw [List.isEmpty_map]
  ktr_call 3 ⟨bP,aE,aD,mDT,Res.bind,Ev.c,this,dA⟩
 obtain ⟨m2,n1,n2,n3,e2⟩:∃ m2:Mp,m2≠[]/\GM 80 5 m2/\m2.length<=max cs.length 1/\(fM (bP (aE aB0 (aD 2) mDT)) (kR 2 (aH bD (aB (mC (.int 0)) (aB (mC (.int 0)) aM))) (aH bD (aB (mC (.int 0)) (aB (mC (.int 1)) aM)))) cO) [some (.p (.list (cs.map .int))),some (.p (.int w)),some (.o (.dict (encM slD frD m))),q3,q4,q5,q6]=some (.nx [some (.p (.list (cs.map .int))),some (.p (.int w)),some (.o (.dict (encM slD frD m2))),q3,q4,q5,q6]):=by
  cases m with
  | cons p r=>exact ⟨p :: r,List.cons_ne_nil _ _,g1,by omega,kH td⟩
  | nil=>exact ⟨nN [] (0,0) (0,1),aDu,g1.put ⟨aYn 0,by decide,aYn 0,by decide⟩ ⟨aYn 1,(show Sz 80 (0:Int) by unfold Sz;decide),(show Sz 5 (1:Int) by unfold Sz;decide),⟨aYn 1,Int.gcd_one⟩⟩,(show (1:Nat)<=max cs.length 1 by omega),(l3 td).trans (aEw (s:=(0,0)) (h:=(0,1)) rfl rfl rfl (by decide))⟩
 refine ⟨cY m2,aS5 n2 n1,by rw [iL];exact n3,?_⟩
 unfold bW
 refine b8 ?_
 rw [show bK 7 [.p (.list (cs.map .int)),.p (.int w)]=[some (.p (.list (cs.map .int))),some (.p (.int w)),none,none,none,none,none] from rfl]
 unfold fX
 refine (aQ (iB (d:=.dict []) rfl)).trans ((aQ ((sH (ds:=cs.map .int) rfl).trans hlp)).trans ((aQ e2).trans ?_))
 exact aMy (i:=2) (by omega) rfl fun k h e=>by
  have x0:ixE (.p (slD k)) (.p (.int 0))=.ok (.p (.int k.1)):=kN _ _
  have x1:ixE (.p (slD k)) (.p (.int 1))=.ok (.p (.int k.2)):=kQ _ _ _
  have x2:=aK9 e (x:=.p (.dict (encM slD frD m2))) rfl
  ktr_call 2 ⟨i7,x0,x1,x2,plD⟩
def cbS(c b:Int):Int:=(c*b).fdiv (Int.gcd c b:Nat)
def cb(hs:List (Int×Int)):Int:=hs.foldl (fun c h=>cbS c h.2) 1
theorem aLy{c b:Int}(hc:1<=c)(hb:1<=b):1<=cbS c b/\c∣cbS c b/\b∣cbS c b:=by
 have g0:0 < Int.gcd c b:=aZw c (by omega)
 obtain ⟨k,hk⟩:=Int.gcd_dvd_right c b
 obtain ⟨j,hj⟩:=Int.gcd_dvd_left c b
 have e1:cbS c b=c*k:=by
  unfold cbS
  have:c*b=((Int.gcd c b:Nat):Int)*(c*k):=by
   conv=>lhs;rw [hk]
   ac_rfl
  rw [this]
  exact aX0 _ (by omega)
 have e2:cbS c b=b*j:=by
  unfold cbS
  have:c*b=((Int.gcd c b:Nat):Int)*(b*j):=by
   conv=>lhs;rw [hj]
   ac_rfl
  rw [this]
  exact aX0 _ (by omega)
 have k0:0 < k:=Int.pos_of_mul_pos_right (show 0 < ((Int.gcd c b:Nat):Int)*k by rw [<- hk];omega) (by omega)
 refine ⟨?_,⟨k,e1⟩,⟨j,e2⟩⟩
 rw [e1]
 exact jO hc k0
theorem aP3{b:Nat}:∀ (hs:List (Int×Int)) (c:Int) (n:Nat),1<=c->Sz n c->(∀ h∈hs,1<=h.2/\Sz b h.2)->1<=hs.foldl (fun c h=>cbS c h.2) c/\c∣hs.foldl (fun c h=>cbS c h.2) c/\(∀ h∈hs,h.2∣hs.foldl (fun c h=>cbS c h.2) c)/\Sz (n+b*hs.length) (hs.foldl (fun c h=>cbS c h.2) c)
 | [],c,n,h1,h2,_=>⟨h1,Int.dvd_refl _,(fun _ h=>nomatch h),h2⟩
 | h :: hs,c,n,h1,h2,hg=>by
  have g:=hg h (.head _)
  obtain ⟨a1,a2,a3⟩:=aLy h1 g.1
  have sz:Sz (n+b) (cbS c h.2):=Sz.le (Sz.mul h2 g.2) (aX5 _ _)
  obtain ⟨b1,b2,b3,b4⟩:=aP3 hs (cbS c h.2) (n+b) a1 sz fun x hx=>hg x (.tail _ hx)
  rw [aZ3]
  refine ⟨b1,Int.dvd_trans a2 b2,fun x hx=>?_,b4.mono (by rw [aWc,Nat.mul_succ];omega)⟩
  rcases aWh.mp hx with z | z
  ·rw [z];exact Int.dvd_trans a3 b2
  ·exact b3 x z
def CbP(hs:List (Int×Int)):Prop:=∃ b:Nat,b<=400/\b*hs.length<=40000/\∀ h∈hs,1<=h.2/\Sz b h.2
noncomputable def cX(K:aV9)(c:Cls):List L->Res L:=mOf eFs CbP fun hs=>.ok (.p (.int (cb hs)))
noncomputable def eR:MS:=(cG 1 (aE cB (aE dF (aD 1) (aE ixE (aD 2) (mC (.int 1)))) (aP 2 (bI K c) (aB (aD 1) (aB (aE ixE (aD 2) (mC (.int 1))) aM)))))
noncomputable def lC:MS:=(bH (cG 1 (mC (.int 1))) (bH (xH (gH (aD 0)) (aR 2) (eR K c)) (dS (aD 1))))
theorem o8:∀ ls,cX K c ls=.bad\/fG 3 (lC K c) ls=cX K c ls:=dP fun hs h=>by
 obtain ⟨b,hb,hl,hg⟩:=h
 have gen:∀ (xs:List (Int×Int)) (x:Int) (n:Nat) (r:Option L),1<=x->Sz n x->n+b*xs.length<=40001->(∀ h∈xs,1<=h.2/\Sz b h.2)->∃ r',gO (aR 2) (eR K c) (xs.map frD) [some (.p (.list (hs.map frD))),some (.p (.int x)),r]=some (.nx [some (.p (.list (hs.map frD))),some (.p (.int (xs.foldl (fun c h=>cbS c h.2) x))),r']):=by
  intro xs
  induction xs with
  | nil=>intro x n r _ _ _ _;exact ⟨r,rfl⟩
  | cons h xs ih =>
   intro x n r x1 x2 hk hxs
   have g:=hxs h (.head _)
   rw [aWc,Nat.mul_succ] at hk
   obtain ⟨a1,a2,a3⟩:=aLy x1 g.1
   have sz:Sz (n+b) (cbS x h.2):=Sz.le (Sz.mul x2 g.2) (aX5 _ _)
   obtain ⟨r',ih⟩:=ih (cbS x h.2) (n+b) (some (.p (frD h))) a1 sz (by omega) fun y hy=>hxs y (.tail _ hy)
   refine ⟨r',?_⟩
   have g0:0 < Int.gcd x h.2:=aZw x (by have:=g.1;omega)
   have q1:CMulW x h.2:=⟨x2.mono (by omega),g.2.mono (by omega)⟩
   have q2:iG (x*h.2) ((Int.gcd x h.2:Nat):Int):=⟨by omega,(Sz.le g.2 (by rw [bB1];exact Nat.le_of_dvd (by have:=g.1;omega) (bCb x h.2))).mono (by omega)⟩
   have hb:eR K c [some (.p (.list (hs.map frD))),some (.p (.int x)),some (.p (frD h))]=some (.nx [some (.p (.list (hs.map frD))),some (.p (.int (cbS x h.2))),some (.p (frD h))]):=by
    ktr_call 11 ⟨eR,aAz⟩
    rfl
   rw [aWo]
   unfold gO
   simp only [aR,aWt,aWs]
   rw [hb]
   exact ih
 obtain ⟨r',h⟩:=gen hs 1 1 none (aYn 1) (aJh _ (by decide)) (by omega) hg
 refine b8 ?_
 rw [show bK 3 (eFs hs)=[some (.p (.list (hs.map frD))),none,none] from rfl]
 refine (aQ (cU (d:=.int 1) rfl)).trans ?_
 refine (aQ ((sH (ds:=hs.map frD) rfl).trans h)).trans (jY rfl)
theorem aOe{hs:List (Int×Int)}(h:CbP hs):cX K c [.p (.list (hs.map frD))]=.ok (.p (.int (cb hs))):=dX (a:=hs) aM2 h
def eHI(a:(Int×Int)×Int):List L:=[.p (frD a.1),.p (.int a.2)]
theorem aM8(a b:(Int×Int)×Int)(h:eHI a=eHI b):a=b:=by
 unfold eHI at h
 injection h with h1 h2
 injection h2 with h2 _
 injection h1 with h1
 injection h2 with h2
 injection h2 with h2
 exact aZk (frI h1) h2
def wI(x:Int×Int)(F:Int):Int:=x.1*F.fdiv x.2
noncomputable def iQ(K:aV9)(c:Cls):List L->Res L:=mOf eHI (fun a=>Good 400 a.1/\Sz 41000 a.2) fun a=>.ok (.p (.int (wI a.1 a.2)))
noncomputable def yI(K:aV9)(c:Cls):MS:=(dS (aE dF (aE ixE (aD 0) (mC (.int 0))) (aE cB (aD 1) (aE ixE (aD 0) (mC (.int 1))))))
theorem aJc:∀ ls,iQ K c ls=.bad\/fG 2 (yI K c) ls=iQ K c ls:=dP fun a h=>by
 obtain ⟨x,F⟩:=a
 obtain ⟨⟨p,t,b⟩,hF⟩:=h
 dsimp only at p t b hF ⊢
 have bn:x.2≠0:=by omega
 have q1:iG F x.2:=⟨bn,b.mono (by decide)⟩
 have q2:CMulW x.1 (F.fdiv x.2):=⟨t.mono (by decide),(Sz.le hF (aX5 _ _)).mono (by decide)⟩
 refine b8 ?_
 rw [show bK 2 (eHI (x,F))=[some (.p (frD x)),some (.p (.int F))] from rfl]
 unfold yI
 refine jY ?_
 walk_at "1a"
 rfl
theorem oD{x:Int×Int}{F:Int}(h1:Good 400 x)(h2:Sz 41000 F):iQ K c [.p (frD x),.p (.int F)]=.ok (.p (.int (wI x F))):=dX (a:=(x,F)) aM8 ⟨h1,h2⟩
theorem aPo{x:Int×Int}{F:Int}(h1:Good 400 x)(h2:Sz 41000 F):Sz 41400 (wI x F):=(Sz.mul h1.2.1 (Sz.le h2 (aX5 _ _))).mono (by decide)
def mQ(ps:List Pl)(pt:Pt):List (Int×Int):=(ps.map fun q=>q.2.2)++[pt.1,pt.2]
def hF(F:Int)(pt:Pt)(q:Pl):Int:=q.1*wI pt.1 F+q.2.1*wI pt.2 F+wI q.2.2 F
theorem aFt{ps:List Pl}{pt:Pt}(h0:ps≠[])(h:∀ q∈ps,iD q pt):∀ x∈mQ ps pt,Good 300 x:=fun x hx=>by
 rcases aXx.mp hx with z | z
 ·obtain ⟨q,hq,rfl⟩:=aWg.mp z
  exact (h q hq).h.mono (by decide)
 ·obtain ⟨p,r,rfl⟩:∃ p r,ps=p :: r:=by cases ps with | nil=>exact absurd rfl h0 | cons p r=>exact ⟨p,r,rfl⟩
  have g:=h p (.head _)
  rcases aWh.mp z with z | z
  ·rw [z];exact g.x
  ·rw [aXd.mp z];exact g.y
theorem aKp{ps:List Pl}{pt:Pt}(h0:ps≠[])(hl:ps.length<=100)(h:∀ q∈ps,iD q pt):1<=cb (mQ ps pt)/\(∀ x∈mQ ps pt,x.2∣cb (mQ ps pt))/\Sz 41000 (cb (mQ ps pt))/\CbP (mQ ps pt):=by
 have hg:=aFt h0 h
 have hn:(mQ ps pt).length=ps.length+2:=by unfold mQ;rw [aWq,aWb];rfl
 obtain ⟨a,b,d,e⟩:=aP3 (b:=300) (mQ ps pt) 1 1 (aYn 1) (aJh _ (by decide)) fun x hx=>⟨(hg x hx).1,(hg x hx).2.2⟩
 exact ⟨a,d,e.mono (by rw [hn];omega),300,by decide,by rw [hn];omega,fun x hx=>⟨(hg x hx).1,(hg x hx).2.2⟩⟩
theorem aTe{x:Int×Int}{F:Int}(hF:1<=F)(hx:1<=x.2)(hd:x.2∣F):AF x (wI x F,F):=by
 obtain ⟨k,rfl⟩:=hd
 refine ⟨hx,hF,?_⟩
 show x.1*(x.2*k)=x.1*(x.2*k).fdiv x.2*x.2
 rw [aX0 _ (by omega)]
 ac_rfl
theorem aPu{x y:Int×Int}{a b F:Int}(h1:AF x (a,F))(h2:AF y (b,F)):AF (hP x y) (a+b,F):=by
 have h:=aBy h1 h2
 have hF:1<=F:=h1.b
 refine ⟨h.a,hF,?_⟩
 have e:=h.e
 dsimp only at e ⊢
 have e2:(hP x y).1*F*F=(a+b)*(hP x y).2*F:=by
  grind
 exact aZe (by omega) e2
theorem zA{p:Pl}{pt:Pt}(g:iD p pt):FR.Fr (hgt p pt):=by
 have a:=aBy (aHm (i:=p.1) (AF.refl g.x.1)) (aHm (i:=p.2.1) (AF.refl g.y.1))
 exact (FR.sD (by have:=jO a.a g.h.1;omega)).1
theorem aF9{ps:List Pl}{pt:Pt}(h0:ps≠[])(hl:ps.length<=100)(h:∀ q∈ps,iD q pt){q:Pl}(hq:q∈ps):AF (hgt q pt) (hF (cb (mQ ps pt)) pt q,cb (mQ ps pt)):=by
 obtain ⟨a,b,_,_⟩:=aKp h0 hl h
 have g:=h q hq
 have m1:pt.1∈mQ ps pt:=aXx.mpr (.inr (.head _))
 have m2:pt.2∈mQ ps pt:=aXx.mpr (.inr (.tail _ (.head _)))
 have m3:q.2.2∈mQ ps pt:=aXx.mpr (.inl (aWg.mpr ⟨q,hq,rfl⟩))
 exact aPu (aPu (aHm (aTe a g.x.1 (b _ m1))) (aHm (aTe a g.y.1 (b _ m2)))) (aTe a g.h.1 (b _ m3))
theorem aSz{ps:List Pl}{pt:Pt}(h0:ps≠[])(hl:ps.length<=100)(h:∀ q∈ps,iD q pt){q r:Pl}(hq:q∈ps)(hr:r∈ps):leF (hgt q pt) (hgt r pt)↔hF (cb (mQ ps pt)) pt q<=hF (cb (mQ ps pt)) pt r:=by
 have a1:=aF9 h0 hl h hq
 have a2:=aF9 h0 hl h hr
 have e:=aOg a2 a1
 have hF1:0 < cb (mQ ps pt):=by have:1<=cb (mQ ps pt):=a1.b;omega
 constructor
 ·intro l
  have:ltF (hgt r pt) (hgt q pt)=false:=aW0 (by unfold leF at l;omega)
  rw [this] at e
  have:=aYl e.symm
  dsimp only at this
  exact bBy (bC8.mp this) hF1
 ·intro l
  refine xK ?_
  rw [e]
  exact aW0 (bC8.mpr (aYb l (Int.le_of_lt hF1)))
theorem aG4:∀ (is:List Int) (i:Int),(L2.xS i is=i\/L2.xS i is∈is)/\i<=L2.xS i is/\∀ x∈is,x<=L2.xS i is
 | [],i=>⟨.inl rfl,aYn _,fun _ h=>nomatch h⟩
 | j :: is,i=>by
  have g:L2.xS i (j :: is)=L2.xS (if i < j then j else i) is:=rfl
  obtain ⟨a,b,d⟩:=aG4 is (if i < j then j else i)
  rw [g]
  have l:i<=(if i < j then j else i)/\j<=(if i < j then j else i):=by split<;>omega
  refine ⟨?_,by omega,fun x hx=>?_⟩
  ·rcases a with z | z
   ·rw [z]
    by_cases q:i < j
    ·rw [aWm q];exact .inr (.head _)
    ·rw [aWn q];exact .inl rfl
   ·exact .inr (.tail _ z)
  ·rcases aWh.mp hx with z | z
   ·rw [z];omega
   ·exact d x z
noncomputable def dJ(K:aV9)(c:Cls):List L->Res L:=mOf eHA (fun a=>a.1≠[]/\a.1.length<=100/\∀ q∈a.1,iD q a.2) fun a=>.ok (.o (.list (a.1.map fun q=>.int (hF (cb (mQ a.1 a.2)) a.2 q))))
noncomputable def d9:En->Res Ev:=(aE eJ (aE eJ (aE dF (aE ixE (aD 0) (mC (.int 0))) (aD 2)) (aE dF (aE ixE (aD 0) (mC (.int 1))) (aD 3))) (aP 2 (iQ K c) (aB (aE ixE (aD 0) (mC (.int 2))) (aB (aD 1) aM))))
noncomputable def eA(K:aV9)(c:Cls):En->Res Ev:=(aE ixE (aD 0) (mC (.int 2)))
noncomputable def lZ:MS:=(bH (cG 2 (aP 1 (cX K c) (aB (aE eJ (dW 1 [] (gH (aD 0)) (aR 0) fK (eA K c)) (aH listE (aB (aD 1) aM))) aM))) (bH (cG 3 (aP 2 (iQ K c) (aB (aE ixE (aD 1) (mC (.int 0))) (aB (aD 2) aM)))) (bH (cG 4 (aP 2 (iQ K c) (aB (aE ixE (aD 1) (mC (.int 1))) (aB (aD 2) aM)))) (dS (dW 1 [2,3,4] (gH (aD 0)) (aR 0) fK (d9 K c))))))
theorem aLp(ds es:List D)(h:ds.length+es.length<=100000):eJ (.p (.list ds)) (.p (.list es))=.ok (.f (.list (ds++es))):=by
 unfold eJ
 dsimp only [eZ]
 rw [aWm h]
theorem rJ:∀ ls,dJ K c ls=.bad\/fG 5 (lZ K c) ls=dJ K c ls:=dP fun a h=>by
 obtain ⟨ps,pt⟩:=a
 obtain ⟨h0,hl,hg⟩:=h
 dsimp only at h0 hl hg ⊢
 obtain ⟨F1,_,FS,FC⟩:=aKp h0 hl hg
 have gh:=aFt h0 hg
 have m1:pt.1∈mQ ps pt:=aXx.mpr (.inr (.head _))
 have m2:pt.2∈mQ ps pt:=aXx.mpr (.inr (.tail _ (.head _)))
 have hcb:=aOe K c FC
 have g1:=(gh _ m1).mono (show 300<=400 by decide)
 have g2:=(gh _ m2).mono (show 300<=400 by decide)
 have w1:=oD K c g1 FS
 have w2:=oD K c g2 FS
 have s1:=aPo g1 FS
 have s2:=aPo g2 FS
 have ehs:(ps.map fun p=>frD p.2.2)++[frD pt.1,frD pt.2]=(mQ ps pt).map frD:=by unfold mQ;rw [aXb,aXm];rfl
 unfold hF
 generalize cb (mQ ps pt)=F at *
 generalize wI pt.1 F=X at *
 generalize wI pt.2 F=Y at *
 refine b8 ?_
 rw [show bK 5 (eHA (ps,pt))=[some (.p (.list (ps.map plD))),some (.p (.tuple [frD pt.1,frD pt.2])),none,none,none] from rfl]
 have hm:mX (aZ 1 [] (aR 0) fK (eA K c) [some (.p (.list (ps.map plD))),some (.p (.tuple [frD pt.1,frD pt.2])),none,none,none]) (ps.map plD)=some (ps.map fun p=>frD p.2.2):=by
  refine eD _ fun p hp=>?_
  simp [aZ,aR,o9,fK,eA,aE,aD,mC,Res.bind,Ev.c,kM]
 have hc:=jF (n:=1) (js:=[]) (fi:=gH (aD 0)) (tg:=aR 0) (ft:=fK) (fe:=eA K c) (en:=[some (.p (.list (ps.map plD))),some (.p (.tuple [frD pt.1,frD pt.2])),none,none,none]) (ds:=ps.map plD) rfl (by rw [aWb];omega) hm
 have ha:=aLp (ps.map fun p=>frD p.2.2) [frD pt.1,frD pt.2] (by rw [aWb];show ps.length+2<=100000;omega)
 rw [ehs] at ha
 have e1:(aP 1 (cX K c) (aB (aE eJ (dW 1 [] (gH (aD 0)) (aR 0) fK (eA K c)) (aH listE (aB (aD 1) aM))) aM)) [some (.p (.list (ps.map plD))),some (.p (.tuple [frD pt.1,frD pt.2])),none,none,none]=.ok (.p (.int F)):=by
  ktr_call 3 ⟨aP,aB,aM,aE,aH,aD,hc,Res.bind,Ev.c,listE,fH,ha,fC,dY,lB,hcb,lS⟩
 have e2:(aP 2 (iQ K c) (aB (aE ixE (aD 1) (mC (.int 0))) (aB (aD 2) aM))) [some (.p (.list (ps.map plD))),some (.p (.tuple [frD pt.1,frD pt.2])),some (.p (.int F)),none,none]=.ok (.p (.int X)):=by
  ktr_call 3 ⟨aP,aB,aM,aE,aD,mC,Res.bind,Ev.c,kN,fC,dY,lB,w1,lS⟩
 have e3:(aP 2 (iQ K c) (aB (aE ixE (aD 1) (mC (.int 1))) (aB (aD 2) aM))) [some (.p (.list (ps.map plD))),some (.p (.tuple [frD pt.1,frD pt.2])),some (.p (.int F)),some (.p (.int X)),none]=.ok (.p (.int Y)):=by
  ktr_call 3 ⟨aP,aB,aM,aE,aD,mC,Res.bind,Ev.c,kQ,fC,dY,lB,w2,lS⟩
 have he:∀ q∈ps,d9 K c [some (.p (plD q)),some (.p (.int F)),some (.p (.int X)),some (.p (.int Y))]=.ok (.p (.int (q.1*X+q.2.1*Y+wI q.2.2 F))):=fun q hq=>by
  have g:=hg q hq
  have w:=oD K c (g.h.mono (show 200<=400 by decide)) FS
  have q1:CMulW q.1 X:=⟨g.i.mono (by decide),s1.mono (by decide)⟩
  have q2:CMulW q.2.1 Y:=⟨g.j.mono (by decide),s2.mono (by decide)⟩
  ktr_call 11 ⟨d9,w⟩
 have hm2:mX (aZ 1 [2,3,4] (aR 0) fK (d9 K c) [some (.p (.list (ps.map plD))),some (.p (.tuple [frD pt.1,frD pt.2])),some (.p (.int F)),some (.p (.int X)),some (.p (.int Y))]) (ps.map plD)=some (ps.map fun q=>.int (q.1*X+q.2.1*Y+wI q.2.2 F)):=by
  refine eD _ fun q hq=>?_
  have:=he q hq
  simp [aZ,aR,o9,xJ,fK,this,Ev.c]
 have hc2:=jF (n:=1) (js:=[2,3,4]) (fi:=gH (aD 0)) (tg:=aR 0) (ft:=fK) (fe:=d9 K c) (en:=[some (.p (.list (ps.map plD))),some (.p (.tuple [frD pt.1,frD pt.2])),some (.p (.int F)),some (.p (.int X)),some (.p (.int Y))]) (ds:=ps.map plD) rfl (by rw [aWb];omega) hm2
 exact (aQ (cU e1)).trans ((aQ (cU e2)).trans ((aQ (cU e3)).trans (oT hc2)))
theorem xB(ps:List Pl)(pt:Pt)(h0:ps≠[])(hl:ps.length<=100)(h:∀ q∈ps,iD q pt):dJ K c [.p (.list (ps.map plD)),.p (.tuple [frD pt.1,frD pt.2])]=.ok (.o (.list (ps.map fun q=>.int (hF (cb (mQ ps pt)) pt q)))):=dX (a:=(ps,pt)) qB ⟨h0,hl,h⟩
def pW(ps:List Pl)(pt:Pt):Int×Int:=best (hgt (ps.headD (0,0,(0,1))) pt) (ps.map fun q=>hgt q pt)
def oP(ps:List Pl)(pt:Pt):List (Int×Int):=(ps.filter fun q=>decide (hgt q pt=pW ps pt)).map slp
noncomputable def l0(K:aV9)(c:Cls):List L->Res L:=mOf eHA (fun a=>a.1≠[]/\a.1.length<=100/\∀ q∈a.1,iD q a.2) fun a=>.ok (.o (.list ((oP a.1 a.2).map slD)))
theorem aMf{p:Pl}{r:List Pl}{pt:Pt}(hl:(p :: r).length<=100)(h:∀ q∈p :: r,iD q pt){q:Pl}(hq:q∈p :: r):hgt q pt=pW (p :: r) pt↔hF (cb (mQ (p :: r) pt)) pt q=L2.xS (hF (cb (mQ (p :: r) pt)) pt p) (r.map fun q=>hF (cb (mQ (p :: r) pt)) pt q):=by
 have h0:p :: r≠[]:=by intro z;cases z
 have le:=fun {a b:Pl} (ha:a∈p :: r) (hb:b∈p :: r)=>aSz h0 hl h ha hb
 have af:=fun {a:Pl} (ha:a∈p :: r)=>aF9 h0 hl h ha
 generalize cb (mQ (p :: r) pt)=F at *
 obtain ⟨r1,h1,e1⟩:∃ s∈p :: r,pW (p :: r) pt=hgt s pt:=by
  rcases N.iY ((p :: r).map fun q=>hgt q pt) (hgt p pt) with z | z
  ·exact ⟨p,.head _,z⟩
  ·obtain ⟨s,hs,e⟩:=aWg.mp z
   exact ⟨s,hs,e.symm⟩
 have g1:∀ s∈p :: r,leF (hgt s pt) (pW (p :: r) pt):=fun s hs=>(tQ ((p :: r).map fun q=>hgt q pt) (hgt p pt) (af (.head _)).a (fun x hx=>by
  obtain ⟨s,hs,rfl⟩:=aWg.mp hx
  exact (af hs).a)).2.1 _ (aWg.mpr ⟨s,hs,rfl⟩)
 obtain ⟨b1,b2,b3⟩:=aG4 (r.map fun q=>hF F pt q) (hF F pt p)
 obtain ⟨r2,h2,e2⟩:∃ s∈p :: r,L2.xS (hF F pt p) (r.map fun q=>hF F pt q)=hF F pt s:=by
  rcases b1 with z | z
  ·exact ⟨p,.head _,z⟩
  ·obtain ⟨s,hs,e⟩:=aWg.mp z
   exact ⟨s,.tail _ hs,e.symm⟩
 have g2:∀ s∈p :: r,hF F pt s<=hF F pt r2:=fun s hs=>by
  rw [<- e2]
  rcases aWh.mp hs with z | z
  ·rw [z];exact b2
  ·exact b3 _ (aWg.mpr ⟨s,z,rfl⟩)
 rw [e2,e1]
 rw [e1] at g1
 constructor
 ·intro e
  refine Int.le_antisymm (g2 q hq) ?_
  have:=g1 r2 h2
  rw [<- e] at this
  exact (le h2 hq).mp this
 ·intro e
  refine rC (zA (h q hq)) (zA (h r1 h1)) (g1 q hq) ((le h1 hq).mpr ?_)
  rw [e]
  exact g2 r1 h1
noncomputable def kU:En->Res Ev:=(aP 1 (eI K c) (aB (aD 0) aM))
noncomputable def aLq:MS:=(bH (cG 2 (aP 2 (dJ K c) (aB (aD 0) (aB (aD 1) aM)))) (fun en=>(bH (cG 3 (aH aLk (aB (aD 2) aM))) (dS (dW 2 [3] (tF aRj (aB (aD 0) (aB (aD 2) aM))) (nY 2 (fF (aR 0) (fF (aR 1) nW))) (bP (aE (eqE false) (aD 1) (aD 2))) (kU K c)))) (frz 2 en)))
theorem aPf:∀ ls,l0 K c ls=.bad\/fG 4 (aLq K c) ls=l0 K c ls:=dP fun a h=>by
 obtain ⟨ps,pt⟩:=a
 obtain ⟨hne,hl,hz⟩:=h
 dsimp only at hne hl hz ⊢
 cases ps with
 | nil=>exact absurd rfl hne
 | cons p r =>
  have hh:=xB K c (p :: r) pt hne hl hz
  have ti:=fun {q:Pl} (hq:q∈p :: r)=>aMf hl hz hq
  generalize cb (mQ (p :: r) pt)=F at *
  have hl2:((p :: r).map plD).length<=100000:=by rw [aWb];omega
  refine b8 (l:=.o (.list ((oP (p :: r) pt).map slD))) ?_
  rw [show bK 4 (eHA (p :: r,pt))=[some (.p (.list ((p :: r).map plD))),some (.p (.tuple [frD pt.1,frD pt.2])),none,none] from rfl]
  have e1:(aP 2 (dJ K c) (aB (aD 0) (aB (aD 1) aM))) [some (.p (.list ((p :: r).map plD))),some (.p (.tuple [frD pt.1,frD pt.2])),none,none]=.ok (.f (.list ((p :: r).map fun q=>.int (hF F pt q)))):=by
   ktr_call 3 ⟨aP,aB,aM,aD,Res.bind,Ev.c,fC,dY,lB⟩
   rw [<- aWo (f:=plD),hh]
   rfl
  refine (aQ (iB e1)).trans ?_
  simp only [aWt,aWs,frz,aWp,aWz]
  have emx:aLk [.p (.list ((p :: r).map fun q=>.int (hF F pt q)))]=.ok (.p (.int (L2.xS (hF F pt p) (r.map fun q=>hF F pt q)))):=by
   have:((p :: r).map fun q=>(PyData.int (hF F pt q)))=((p :: r).map fun q=>hF F pt q).map .int:=by rw [aXm];rfl
   rw [this]
   simp only [aLk,eZ,sJ]
   rfl
  have a1:(aH aLk (aB (aD 2) aM)) [some (.p (.list ((p :: r).map plD))),some (.p (.tuple [frD pt.1,frD pt.2])),some (.p (.list ((p :: r).map fun q=>.int (hF F pt q)))),none]=.ok (.p (.int (L2.xS (hF F pt p) (r.map fun q=>hF F pt q)))):=by
   ktr_call 3 ⟨aH,aB,aM,aD,Res.bind,Ev.c⟩
   exact emx
  generalize L2.xS (hF F pt p) (r.map fun q=>hF F pt q)=M at *
  refine (aQ (cU a1)).trans ?_
  simp only [aWt,aWs]
  have hm2:mX (aZ 2 [3] (nY 2 (fF (aR 0) (fF (aR 1) nW))) (bP (aE (eqE false) (aD 1) (aD 2))) (kU K c) [some (.p (.list ((p :: r).map plD))),some (.p (.tuple [frD pt.1,frD pt.2])),some (.p (.list ((p :: r).map fun q=>.int (hF F pt q)))),some (.p (.int M))]) ((p :: r).map fun q=>.tuple [plD q,.int (hF F pt q)])=some (((p :: r).filter fun q=>decide (hgt q pt=pW (p :: r) pt)).map fun q=>slD (slp q)):=by
   refine pN _ fun q hq=>?_
   have eq1:eqE false (.p (.int (hF F pt q))) (.p (.int M))=.ok (.p (.bool (decide (hgt q pt=pW (p :: r) pt)))):=by
    have:(hF F pt q == M)=decide (hgt q pt=pW (p :: r) pt):=by
     rw [bCz,bBq,bAx]
     exact (ti hq).symm
    simp [eqE,dat,iE,hU,this]
   by_cases hq2:hgt q pt=pW (p :: r) pt
   ·rw [aXg hq2] at eq1
    simp [aZ,nY,fF,nW,aR,o9,xJ,kU,bP,aE,aD,Res.bind,Ev.c,eq1,hq2,dA,aP,aB,aM,fC,dY,lB,nU,lS,Option.bind]
   ·rw [aW0 hq2] at eq1
    simp [aZ,nY,fF,nW,aR,o9,xJ,kU,bP,aE,aD,Res.bind,Ev.c,eq1,hq2,dA]
  have a2:dW 2 [3] (tF aRj (aB (aD 0) (aB (aD 2) aM))) (nY 2 (fF (aR 0) (fF (aR 1) nW))) (bP (aE (eqE false) (aD 1) (aD 2))) (kU K c) [some (.p (.list ((p :: r).map plD))),some (.p (.tuple [frD pt.1,frD pt.2])),some (.p (.list ((p :: r).map fun q=>.int (hF F pt q)))),some (.p (.int M))]=.ok (.f (.list ((oP (p :: r) pt).map slD))):=by
   unfold dW yG
   simp only [tF,aB,aM,aD,Res.bind,aWz,aWp,Ev.c,aRj,aA6]
   rw [aWm (by rw [aWb];exact aXk hl (by decide)),hm2]
   unfold oP
   rw [aXm]
   rfl
  exact oT a2
theorem xP(ps:List Pl)(pt:Pt)(h0:ps≠[])(hl:ps.length<=100)(h:∀ q∈ps,iD q pt):l0 K c [.p (.list (ps.map plD)),.p (.tuple [frD pt.1,frD pt.2])]=.ok (.o (.list ((oP ps pt).map slD))):=dX (a:=(ps,pt)) qB ⟨h0,hl,h⟩
theorem aEk{ps:List Pl}{pt:Pt}(h0:ps≠[])(hl:ps.length<=100)(h:∀ q∈ps,iD q pt):oP ps pt≠[]:=by
 have fr:∀ q∈ps,FR.Fr (hgt q pt):=fun q hq=>zA (h q hq)
 have mem:∀ (xs:List (Int×Int)) (b:Int×Int),best b xs=b\/best b xs∈xs:=by
  intro xs
  induction xs with
  | nil=>exact fun b=>.inl rfl
  | cons x xs ih =>
   intro b
   have e:best b (x :: xs)=best (if ltF b x=true then x else b) xs:=rfl
   rw [e]
   rcases ih (if ltF b x=true then x else b) with z | z
   ·rw [z]
    split
    ·exact .inr (.head _)
    ·exact .inl rfl
   ·exact .inr (.tail _ z)
 have:∃ q∈ps,hgt q pt=pW ps pt:=by
  unfold pW
  cases ps with
  | nil=>exact absurd rfl h0
  | cons p r =>
   rcases mem ((p :: r).map fun q=>hgt q pt) (hgt ((p :: r).headD (0,0,(0,1))) pt) with z | z
   ·rw [z];exact ⟨p,.head _,rfl⟩
   ·obtain ⟨q,hq,e⟩:=aWg.mp z
    exact ⟨q,hq,e⟩
 obtain ⟨q,hq,e⟩:=this
 intro z
 have m:slp q∈oP ps pt:=aWg.mpr ⟨q,aYc.mpr ⟨hq,aXg e⟩,rfl⟩
 rw [z] at m
 cases m
theorem aGa{ps:List Pl}{pt:Pt}(h:∀ q∈ps,iD q pt):∀ s∈oP ps pt,GQ s:=fun s hs=>by
 obtain ⟨q,hq,rfl⟩:=aWg.mp hs
 have g:=h q (aYc.mp hq).1
 exact ⟨g.i.mono (by decide),g.j.mono (by decide)⟩
theorem zP(ps:List Pl)(pt:Pt):(oP ps pt).length<=ps.length:=by
 unfold oP
 rw [aWb]
 exact aZ6 _ _
noncomputable def iF(K:aV9)(c:Cls):List L->Res L:=mOf eHA (fun a=>a.1≠[]/\a.1.length < 64/\∀ q∈a.1,iD q a.2) fun a=>.ok (.o (.list ((rA (iW (oP a.1 a.2))).map slD)))
noncomputable def aD3:MS:=(dS (aP 1 (mU K c) (aB (aP 2 (l0 K c) (aB (aD 0) (aB (aD 1) aM))) aM)))
theorem aQt{m:List L->Res L}{f g:En->Res Ev}{en:En}{a b:D}{r:L}(h1:f en=.ok (.p a))(h2:g en=.ok (.p b))(hm:m [.p a,.p b]=.ok r):aP 2 m (aB f (aB g aM)) en=.ok (lS r):=by
 ktr_call 3 ⟨aP,aB,aM,h1,h2,Res.bind,Ev.c,fC,dY,lB,hm⟩
theorem aH4:∀ ls,iF K c ls=.bad\/fG 2 (aD3 K c) ls=iF K c ls:=dP fun a h=>by
 obtain ⟨ps,pt⟩:=a
 obtain ⟨h0,hl,hg⟩:=h
 dsimp only at h0 hl hg ⊢
 have t:=xP K c ps pt h0 (by omega) hg
 have hh:=wM K c (ps:=oP ps pt) (aZh (zP ps pt) hl) (aEk h0 (by omega) hg) (aGa hg)
 refine b8 ?_
 rw [show bK 2 (eHA (ps,pt))=[some (.p (.list (ps.map plD))),some (.p (.tuple [frD pt.1,frD pt.2]))] from rfl]
 exact oT (aPr (aQt rfl rfl t) hh)
theorem nS{ps:List Pl}{pt:Pt}(h0:ps≠[])(hl:ps.length < 64)(hg:∀ q∈ps,iD q pt):iF K c [.p (.list (ps.map plD)),.p (.tuple [frD pt.1,frD pt.2])]=.ok (.o (.list ((rA (iW (oP ps pt))).map slD))):=dX (a:=(ps,pt)) qB ⟨h0,hl,hg⟩
theorem aR7{n:Nat}{i:Int}(h0:0<=i)(h1:i < n):ixN n i=some i.toNat:=by
 unfold ixN
 rw [aWm h0,aWm h1]
theorem aR0{f g:En->Res Ev}{en:En}{a b:D}(h1:f en=.ok (.p a))(h2:g en=.ok (.f b)):aH bD (aB f (aB g aM)) en=.ok (.p (.tuple [a,b])):=by
 ktr_call 3 ⟨aH,aB,aM,h1,h2,bD,kO,Res.bind,Ev.c⟩
theorem aUz{v:Int}(h:0<=v/\v < PR):0<=v/\Sz 200 v:=⟨h.1,by
 have:Sz 100 v:=by
  unfold PR at h
  unfold Sz
  omega
 exact this.mono (by decide)⟩
theorem rep0{j:Int}(h:-1000<=j)(h2:j<=1000):aLg (.p (.list [.int 0])) (.p (.int j))=.ok (.f (.list ((List.replicate j.toNat (0:Int)).map .int))):=by
 unfold aLg
 dsimp only [eZ]
 rw [aWm ⟨by decide,h,h2⟩,List.flatten_replicate_singleton,List.map_replicate]
theorem p60:aK8 10 60:=⟨by decide,by decide,by decide⟩
theorem w60:(10:Int) ^ Int.toNat 60=1000000000000000000000000000000000000000000000000000000000000:=by decide
theorem aVn(en:En):aE sE (mC (.int 10)) (mC (.int 60)) en=.ok (.p (.int 1000000000000000000000000000000000000000000000000000000000000)):=bA (x:=.p (.int 10)) (y:=.p (.int 60)) rfl rfl (by show sE (.p (.int 10)) (.p (.int 60))=_;rw [sP p60,w60])
noncomputable def fZ(K:aV9)(c:Cls):En->Res Ev:=(aE cP (aD 0) (aE sE (mC (.int 10)) (mC (.int 60))))
noncomputable def iA:MS:=(bH (fM (mOr (bP (aE (eqE false) (aH eU (aB (aD 0) aM)) (mC (.int 0)))) (bP (aE (eqE false) (aE cP (aE ixE (aD 0) (mC (.int 0))) (mC (.int 2))) (mC (.int 0))))) (dS (aH bD (aB (mC (.bool false)) (aB (aP 1 (cT K c) (aB (aD 0) aM)) aM)))) cO) (bH (cG 1 (dW 1 [] (gH (aD 0)) (aR 0) fK (fZ K c))) (bH (aE9 1 (mC (.int 0)) (aE cB (aE ixE (aD 1) (mC (.int 0))) (mC (.int 2)))) (fun en=>(dS (aH bD (aB (mC (.bool true)) (aB (aE eJ (aD 1) (aE aLg (aH kP (aB (mC (.int 0)) aM)) (aE gI (mC (.int 7)) (aH eU (aB (aD 1) aM))))) aM)))) (frz 1 en)))))
noncomputable def dG(ls:List L):Res L:=fG 2 (iA K c) ls
theorem tM:∀ ls,dG K c ls=.bad\/fG 2 (iA K c) ls=dG K c ls:=fun _=>.inr rfl
theorem aHx(ns:List Int)(hn:ns.length<=63):∃ (own:Bool) (vs:List Int),vs.length<=100/\(∀ v∈vs,0<=v/\Sz 200 v)/\dG K c [.p (.list (ns.map .int))]=.ok (.p (.tuple [.bool own,.list (vs.map .int)])):=by
 have n2:(2:Int)≠0:=by decide
 have n60:(1000000000000000000000000000000000000000000000000000000000000:Int)≠0:=by decide
 have ln:∀ xs:List Int,eU [.p (.list (xs.map .int))]=.ok (.p (.int (xs.length:Nat))):=fun xs=>by simp [eU,fH]
 obtain ⟨sv,s1,s2,s3⟩:=aN6 K c ns hn
 have stir:∀ {t:En->Res Bool},t [some (.p (.list (ns.map .int))),none]=.ok true->(∀ en,(mOr (bP (aE (eqE false) (aH eU (aB (aD 0) aM)) (mC (.int 0)))) (bP (aE (eqE false) (aE cP (aE ixE (aD 0) (mC (.int 0))) (mC (.int 2))) (mC (.int 0))))) en=t en)->∃ (own:Bool) (vs:List Int),vs.length<=100/\(∀ v∈vs,0<=v/\Sz 200 v)/\dG K c [.p (.list (ns.map .int))]=.ok (.p (.tuple [.bool own,.list (vs.map .int)])):=fun h he=>by
  refine ⟨false,sv,s1,fun v hv=>aUz (s2 v hv),?_⟩
  unfold dG
  refine b8 ?_
  rw [show bK 2 [.p (.list (ns.map .int))]=[some (.p (.list (ns.map .int))),none] from rfl]
  unfold iA
  have hr:=(l3 (f:=dS (aH bD (aB (mC (.bool false)) (aB (aP 1 (cT K c) (aB (aD 0) aM)) aM)))) (g:=cO) ((he _).trans h)).trans (jY (aR0 rfl (sY rfl s3)))
  unfold bH
  rw [hr]
 have t1:bP (aE (eqE false) (aH eU (aB (aD 0) aM)) (mC (.int 0))) [some (.p (.list (ns.map .int))),none]=.ok ((ns.length:Int) == 0):=j9 (bA (kG rfl (ln ns)) rfl aMd)
 cases ns with
 | nil=>exact stir (aVe t1) fun _=>rfl
 | cons n r =>
  have b1:(((n :: r).length:Int) == 0)=false:=by
   rw [aWc]
   exact bBv (by omega)
  rw [b1] at t1
  have i0:ixE (.p (.list ((n :: r).map .int))) (.p (.int 0))=.ok (.p (.int n)):=by simp [ixE,fH,at0]
  have t2:bP (aE (eqE false) (aE cP (aE ixE (aD 0) (mC (.int 0))) (mC (.int 2))) (mC (.int 0))) [some (.p (.list ((n :: r).map .int))),none]=.ok (n.fmod 2 == 0):=j9 (bA (bA (bA rfl rfl i0) rfl (eP n2)) rfl aMd)
  cases c2:(n.fmod 2 == 0) with
  | true =>
   rw [c2] at t2
   exact stir (aSx t1 t2) fun _=>rfl
  | false =>
  rw [c2] at t2
  have hz:∀ x:Int,0<=x.fmod 1000000000000000000000000000000000000000000000000000000000000/\Sz 200 (x.fmod 1000000000000000000000000000000000000000000000000000000000000):=fun x=>by
   have:=cF (a:=x) (b:=1000000000000000000000000000000000000000000000000000000000000) (by decide)
   exact ⟨this.1,by unfold Sz;omega⟩
  generalize hM:(1000000000000000000000000000000000000000000000000000000000000:Int)=M at *
  have hmap:∀ en,mX (aZ 1 [] (aR 0) fK (fZ K c) en) ((n :: r).map .int)=some (((n :: r).map fun x=>x.fmod M).map .int):=fun en=>by
   rw [aXm]
   refine eD _ fun x _=>?_
   have:fZ K c [some (.p (.int x))]=.ok (.p (.int (x.fmod M))):=bA (y:=.p (.int M)) rfl (by rw [<- hM];exact aVn _) (eP n60)
   unfold aZ
   ktr_call 3 ⟨aR,fK,o9,List.replicate,aYk,this,Ev.c⟩
   try rfl
  have cm:dW 1 [] (gH (aD 0)) (aR 0) fK (fZ K c) [some (.p (.list ((n :: r).map .int))),none]=.ok (.f (.list (((n :: r).map fun x=>x.fmod M).map .int))):=jF (ds:=(n :: r).map .int) rfl (by rw [aWb];omega) (hmap _)
  have hn':(((n :: r).map fun x=>x.fmod M).map PyData.int).length<=63:=by rw [aWb,aWb];exact hn
  have gm:∀ v∈(n :: r).map (fun x=>x.fmod M),0<=v/\Sz 200 v:=fun v hv=>by
   obtain ⟨x,_,rfl⟩:=aWg.mp hv
   exact hz x
  generalize hg:(n :: r).map (fun x=>x.fmod M)=full at cm gm hn'
  obtain ⟨m,ms,rfl⟩:∃ m ms,full=m :: ms:=⟨_,_,hg.symm⟩
  have lm:ms.length<=62:=by
   rw [aWb,aWc] at hn'
   omega
  have d2:iG m 2:=cdl (by decide) (by decide)
  have j0:ixE (.b (.list ((m :: ms).map .int))) (.p (.int 0))=.ok (.p (.int m)):=by simp [ixE,fH,at0]
  have lp:aE9 1 (mC (.int 0)) (aE cB (aE ixE (aD 1) (mC (.int 0))) (mC (.int 2))) [some (.p (.list ((n :: r).map .int))),some (.o (.list ((m :: ms).map .int)))]=some (.nx [some (.p (.list ((n :: r).map .int))),some (.o (.list ((m.fdiv 2 :: ms).map .int)))]):=by
   have ev:aE cB (aE ixE (aD 1) (mC (.int 0))) (mC (.int 2)) [some (.p (.list ((n :: r).map .int))),some (.o (.list ((m :: ms).map .int)))]=.ok (.p (.int (m.fdiv 2))):=bA (bA rfl rfl j0) rfl (fI d2)
   unfold aE9
   rw [ev]
   have x0:ixN ((m :: ms).map PyData.int).length 0=some 0:=by
    rw [aWb,aWc]
    exact aR7 (i:=0) (by omega) (by omega)
   simp only [aWz,aWp,mC,Ev.c,x0,aWt,aWs]
   rfl
  have g0:=gm m (.head _)
  have gd:0<=m.fdiv 2/\Sz 200 (m.fdiv 2):=⟨by rw [Int.fdiv_eq_ediv_of_nonneg _ (by decide)];have:=g0.1;omega,Sz.le g0.2 (aX5 _ _)⟩
  refine ⟨true,(m.fdiv 2 :: ms)++List.replicate (7 - ((m.fdiv 2 :: ms).length:Int)).toNat 0,?_,fun v hv=>?_,?_⟩
  ·rw [aWq,aW8,aWc]
   omega
  ·rcases aXx.mp hv with z | z
   ·rcases aWh.mp z with z | z
    ·rw [z];exact gd
    ·exact gm v (.tail _ z)
   ·rw [(List.mem_replicate.mp z).2]
    exact ⟨aYn _,by unfold Sz;decide⟩
  ·have hl:((m.fdiv 2 :: ms).length:Int)<=63:=by rw [aWc];omega
   generalize m.fdiv 2 :: ms=ws at lp hl
   have fin:(aH bD (aB (mC (.bool true)) (aB (aE eJ (aD 1) (aE aLg (aH kP (aB (mC (.int 0)) aM)) (aE gI (mC (.int 7)) (aH eU (aB (aD 1) aM))))) aM))) [some (.p (.list ((n :: r).map .int))),some (.p (.list (ws.map .int)))]=.ok (.p (.tuple [.bool true,.list ((ws++List.replicate (7 - (ws.length:Int)).toNat 0).map .int)])):=by
    rw [aXb]
    exact aR0 rfl (bA rfl (bA (x:=.f (.list [.int 0])) rfl (bA rfl (kG rfl (ln ws)) (qG _ _)) (rep0 (by omega) (by omega))) (aLp _ _ (by rw [aWb,aWb,aW8];omega)))
   unfold dG
   refine b8 ?_
   rw [show bK 2 [.p (.list ((n :: r).map .int))]=[some (.p (.list ((n :: r).map .int))),none] from rfl]
   unfold iA
   refine (aQ ((kH (aSx t1 t2)).trans rfl)).trans ((aQ (iB cm)).trans ((aQ lp).trans ?_))
   exact jY fin
noncomputable def fS:List L->Res L:=lU K c
noncomputable def mG(K:aV9)(c:Cls):MS:=(dS (aE gI (aE dF (aE gI (aE ixE (aD 1) (mC (.int 0))) (aE ixE (aD 0) (mC (.int 0)))) (aE gI (aE ixE (aD 2) (mC (.int 1))) (aE ixE (aD 0) (mC (.int 1))))) (aE dF (aE gI (aE ixE (aD 1) (mC (.int 1))) (aE ixE (aD 0) (mC (.int 1)))) (aE gI (aE ixE (aD 2) (mC (.int 0))) (aE ixE (aD 0) (mC (.int 0)))))))
theorem xC:∀ ls,fS K c ls=.bad\/fG 3 (mG K c) ls=fS K c ls:=by
 unfold fS lU
 refine dP fun a h=>?_
 obtain ⟨a,b,d⟩:=a
 obtain ⟨⟨a1,a2⟩,⟨b1,b2⟩,d1,d2⟩:=h
 dsimp only at a1 a2 b1 b2 d1 d2 ⊢
 have z:∀ {x y:Int},Sz 5000 x->Sz 5000 y->Sz 60000 (x - y):=fun h1 h2=>(N.Sz.subM h1 h2).mono (by decide)
 have q1:CMulW (b.1 - a.1) (d.2 - a.2):=⟨z b1 a1,z d2 a2⟩
 have q2:CMulW (b.2 - a.2) (d.1 - a.1):=⟨z b2 a2,z d1 a1⟩
 have x0:∀ y:Int×Int,ixE (.p (slD y)) (.p (.int 0))=.ok (.p (.int y.1)):=fun y=>kN _ _
 have x1:∀ y:Int×Int,ixE (.p (slD y)) (.p (.int 1))=.ok (.p (.int y.2)):=fun y=>kQ _ _ _
 refine b8 ?_
 rw [show bK 3 (eT3 (a,b,d))=[some (.p (slD a)),some (.p (slD b)),some (.p (slD d))] from rfl]
 unfold mG
 refine jY ?_
 ktr_call 11 ⟨x0,x1⟩
 rfl
noncomputable def bO:List L->Res L:=iU K c
noncomputable def l6:En->Res Bool:=(aC2 (bP (aE gtE (aH eU (aB (aD 1) aM)) (mC (.int 1)))) (bP (aE leE (aP 3 (fS K c) (aB (aE ixE (aD 1) (mUn mP (mC (.int 2)))) (aB (aE ixE (aD 1) (mUn mP (mC (.int 1)))) (aB (aD 2) aM)))) (mC (.int 0)))))
noncomputable def mK(K:aV9)(c:Cls):MS:=(aSv 1)
noncomputable def mB:MS:=(bH (mT (l6 K c) (mK K c)) (mD 1 (aD 2)))
noncomputable def kK:MS:=(bH (cG 1 (aH kP aM)) (bH (xH (gH (aD 0)) (aR 2) (mB K c)) (dS (aD 1))))
theorem nR:∀ ls,bO K c ls=.bad\/fG 3 (kK K c) ls=bO K c ls:=aBn K c
theorem aIc{rs:List Q2}(h:rs.length < 3):rA rs=rs:=by
 match rs,h with
 | [],_=>rfl
 | [_],_=>rfl
 | [_,_],_=>rfl
 | _ :: _ :: _ :: _,h=>simp only [aWc] at h;omega
noncomputable def b9:List L->Res L:=mU K c
noncomputable def jH:MS:=(bH (cG 1 (mUn iZ (aD 0))) (bH (fM (bP (aE ltE (aH eU (aB (aD 1) aM)) (mC (.int 3)))) (dS (aD 1)) cO) (dS (aE eJ (mSl (aP 1 (bO K c) (aB (aD 1) aM)) aD4 (mPt (mUn mP (mC (.int 1))))) (mSl (aP 1 (bO K c) (aB (mUn aHn (aD 1)) aM)) aD4 (mPt (mUn mP (mC (.int 1)))))))))
theorem rN:∀ ls,b9 K c ls=.bad\/fG 2 (jH K c) ls=b9 K c ls:=by
 unfold b9 mU
 refine dP fun ps h=>?_
 obtain ⟨hl,h0,hg⟩:=h
 have hs:=aC6 hl
 have rl:=aAq ps
 have rg:∀ p∈iW ps,GQ p:=fun p hp=>hg p (rows_mem.mp hp)
 generalize iW ps=rs at hs rl rg ⊢
 have hln:eU [.b (.list (rs.map slD))]=.ok (.p (.int (rs.length:Nat))):=by simp [eU,fH]
 refine b8 ?_
 rw [show bK 2 (eQs ps)=[some (.p (.list (ps.map slD))),none] from rfl]
 unfold jH
 have e1:(mUn iZ (aD 0)) [some (.p (.list (ps.map slD))),none]=.ok (.f (.list (rs.map slD))):=by
  ktr_call 3 ⟨mUn,aD,Res.bind,Ev.c,hs⟩
 refine (aQ (iB e1)).trans ?_
 simp only [aWt,aWs]
 have t1:bP (aE ltE (aH eU (aB (aD 1) aM)) (mC (.int 3))) [some (.p (.list (ps.map slD))),some (.o (.list (rs.map slD)))]=.ok (decide (((rs.length:Nat):Int) < 3)):=by
  ktr_call 3 ⟨bP,aE,aH,aB,aM,aD,mC,Res.bind,Ev.c,hln,gN,dA⟩
 by_cases z:rs.length < 3
 ·rw [aXg (by omega)] at t1
  rw [aIc z]
  refine lV ((l3 t1).trans ?_)
  rfl
 ·rw [aW0 (by omega)] at t1
  have e:rA rs=(dE rs).reverse.dropLast++(dE rs.reverse).reverse.dropLast:=aWn (by omega)
  rw [e]
  refine (aQ (kH t1)).trans ?_
  have c1:bO K c [.p (.list (rs.map slD))]=_:=lN K c (ps:=rs) (by omega) rg
  have c2:bO K c [.p (.list (rs.reverse.map slD))]=_:=lN K c (ps:=rs.reverse) (by rw [aX3];omega) (fun p hp=>rg p (List.mem_reverse.mp hp))
  have l1:=kX rs []
  have l2:=kX rs.reverse []
  rw [aX3] at l2
  have l1:(dE rs).length<=_:=l1
  have l2:(dE rs.reverse).length<=_:=l2
  rw [aXc] at l1 l2
  have s2:(aP 1 (bO K c) (aB (aD 1) aM)) [some (.p (.list (ps.map slD))),some (.o (.list (rs.map slD)))]=.ok (.f (.list ((dE rs).reverse.map slD))):=by
   ktr_call 3 ⟨aP,aB,aM,aD,Res.bind,Ev.c,fC,dY,lB,aA2,c1,aL3,lS⟩
  have rv:aHn (.b (.list (rs.map slD)))=.ok (.f (.list (rs.reverse.map slD))):=by
   unfold aHn
   simp only [eZ]
   rw [List.map_reverse]
  have s3:(aP 1 (bO K c) (aB (mUn aHn (aD 1)) aM)) [some (.p (.list (ps.map slD))),some (.o (.list (rs.map slD)))]=.ok (.f (.list ((dE rs.reverse).reverse.map slD))):=by
   ktr_call 3 ⟨aP,aB,aM,mUn,aD,Res.bind,Ev.c,rv,fC,dY,lB,c2,lS⟩
  refine oT ?_
  have ng:mP (.p (.int 1))=.ok (.p (.int (-1))):=rfl
  have e:(((dE rs).reverse.dropLast++(dE rs.reverse).reverse.dropLast).map slD)=((dE rs).reverse.map slD).dropLast++((dE rs.reverse).reverse.map slD).dropLast:=by rw [aXb,bA2,bA2]
  have ad:eJ (.p (.list ((dE rs).reverse.map slD).dropLast)) (.p (.list ((dE rs.reverse).reverse.map slD).dropLast))=.ok (.f (.list (((dE rs).reverse.map slD).dropLast++((dE rs.reverse).reverse.map slD).dropLast))):=by
   simp only [eJ,eZ]
   refine aWm ?_
   simp only [bBj,aWb,aX3]
   omega
  rw [e]
  ktr_call 3 ⟨aE,mSl,aD4,mPt,mUn,mC,s2,s3,Res.bind,Ev.c,ng,eZ,aLl,ad⟩
theorem sZ{ps:List Q2}(hl:ps.length < 64)(h0:ps≠[])(hg:∀ p∈ps,GQ p):b9 K c [.p (.list (ps.map slD))]=.ok (.o (.list ((rA (iW ps)).map slD))):=wM K c hl h0 hg
theorem aD5:∀ {a b:List Q2},a.Pairwise ltQ->b.Pairwise ltQ->(∀ x,x∈a↔x∈b)->a=b
 | [],[],_,_,_=>rfl
 | [],y :: _,_,_,h=>nomatch (h y).mpr (.head _)
 | x :: _,[],_,_,h=>nomatch (h x).mp (.head _)
 | x :: a,y :: b,h1,h2,h=>by
  obtain ⟨x1,x2⟩:=aYa.mp h1
  obtain ⟨y1,y2⟩:=aYa.mp h2
  have irr:∀ {p q:Q2},ltQ p q->ltQ q p->False:=fun {p q} a b=>by unfold ltQ at a b;omega
  have e:x=y:=by
   rcases aWh.mp ((h x).mp (.head _)) with z | z
   ·exact z
   ·rcases aWh.mp ((h y).mpr (.head _)) with w | w
    ·exact w.symm
    ·exact (irr (x1 y w) (y1 x z)).elim
  subst e
  rw [aD5 x2 y2 fun z=>?_]
  constructor
  ·intro hz
   rcases aWh.mp ((h z).mp (.tail _ hz)) with w | w
   ·subst w;exact (irr (x1 _ hz) (x1 _ hz)).elim
   ·exact w
  ·intro hz
   rcases aWh.mp ((h z).mpr (.tail _ hz)) with w | w
   ·subst w;exact (irr (y1 _ hz) (y1 _ hz)).elim
   ·exact w
theorem uE{ps qs:List Q2}(h:∀ x,x∈ps↔x∈qs):iW ps=iW qs:=aD5 (aEe ps) (aEe qs) fun x=>by rw [rows_mem,rows_mem];exact h x
theorem nK{ps:List Pl}{pt:Pt}{a:Int×Int}(h0:ps≠[])(hp:Pos ps)(g:Pp pt)(t:IsTop ps pt a){s:Int×Int}:s∈oP ps pt↔∃ q∈ps,slp q=s/\hgt q pt=a:=by
 have e:pW ps pt=a:=IsTop.uniq hp g (mS h0 hp g) t
 unfold oP
 rw [e,aWg]
 constructor
 ·rintro ⟨q,hq,rfl⟩
  obtain ⟨h1,h2⟩:=aYc.mp hq
  exact ⟨q,h1,rfl,aZo h2⟩
 ·rintro ⟨q,hq,rfl,h⟩
  exact ⟨q,aYc.mpr ⟨hq,aXg h⟩,rfl⟩
theorem pD{ps:List Pl}{pt:Pt}{a:Int×Int}(h0:ps≠[])(hp:Pos ps)(g:Pp pt)(t:IsTop ps pt a){s:Int×Int}:s∈(kB ps pt).map slp↔∃ q∈ps,slp q=s/\hgt q pt=a:=by
 rw [aWg]
 constructor
 ·rintro ⟨q,hq,rfl⟩
  obtain ⟨h1,h2⟩:=aEp g hp h0 hq
  exact ⟨q,h1,rfl,h2.uniq hp g t⟩
 ·rintro ⟨q,hq,rfl,h⟩
  exact ⟨q,aJs g hp h0 t hq h,rfl⟩
def sS(a b:Int×Int):Int×Int:=(a.1+b.1,a.2+b.2)
theorem aIb{ps qs:List Pl}{pt:Pt}(p0:ps≠[])(q0:qs≠[])(hp:Pos ps)(hq:Pos qs)(g:Pp pt)(sp:Pos (dM ps qs))(s0:dM ps qs≠[])(s:Int×Int):s∈oP (cY (hbM (dM ps qs))) pt↔s∈((kB ps pt).map slp).flatMap fun a=>((kB qs pt).map slp).map (sS a):=by
 have ta:=mS p0 hp g
 have tb:=mS q0 hq g
 have tw:=aH5 sp g (aAr g hp hq ta tb)
 have wn:=aGt sp s0
 have wp:Pos (cY (hbM (dM ps qs))):=fun r hr=>sp r (mR sp hr)
 rw [nK wn wp g tw,List.mem_flatMap]
 constructor
 ·rintro ⟨r,hr,rfl,e⟩
  obtain ⟨p,h1,q,h2,rfl⟩:=mem_sums.mp (mR sp hr)
  obtain ⟨e1,e2⟩:=aDw g hp hq ta tb h1 h2 e
  exact ⟨slp p,(pD p0 hp g ta).mpr ⟨p,h1,rfl,e1⟩,aWg.mpr ⟨slp q,(pD q0 hq g tb).mpr ⟨q,h2,rfl,e2⟩,rfl⟩⟩
 ·rintro ⟨a,ha,hs⟩
  obtain ⟨b,hb,rfl⟩:=aWg.mp hs
  obtain ⟨p,h1,rfl,e1⟩:=(pD p0 hp g ta).mp ha
  obtain ⟨q,h2,rfl,e2⟩:=(pD q0 hq g tb).mp hb
  have hm:pS p q∈dM ps qs:=mem_sums.mpr ⟨p,h1,q,h2,rfl⟩
  obtain ⟨r,hr,r1,r2,l⟩:=uQ sp hm
  have ts:=aAr g hp hq ta tb
  have eh:=aBx g (hp p h1) (hq q h2)
  rw [e1,e2] at eh
  have l2:=aAe g (sp _ hm) (wp r hr) r1 r2 l
  rw [eh] at l2
  refine ⟨r,hr,aZk r1.symm r2.symm,rC (fR (wp r hr) g) (ts.fr sp g) (tw.le r hr) l2⟩
theorem zU{p:Pl}{pt:Pt}{h:Int×Int}(g:Pp pt)(hp:1<=p.2.2.2)(hh:1<=h.2):hgt (upP h p) pt=hP (hgt p pt) h:=by
 have a1:=mW (p:=p) (AF.refl g.x) (AF.refl g.y) (AF.refl hp)
 have a2:=aBy a1 (AF.refl hh)
 have u:=pY hp hh
 have a3:AF (hP p.2.2 h) (p.2.2.1*h.2+h.1*p.2.2.2,p.2.2.2*h.2):=aBy (AF.refl hp) (AF.refl hh)
 have a4:=mW (p:=upP h p) (AF.refl g.x) (AF.refl g.y) a3
 have u2:1<=(upP h p).2.2.2:=u.pos
 refine aL5 (fR u2 g) (pY (fR hp g).pos hh) a4 a2 ?_
 dsimp only [upP]
 grind
theorem aOh{ps:List Pl}{pt:Pt}{h:Int×Int}(p0:ps≠[])(hp:Pos ps)(g:Pp pt)(fh:FR.Fr h)(s:Int×Int):s∈oP (ps.map (upP h)) pt↔s∈oP ps pt:=by
 have ta:=mS p0 hp g
 have hh:=fh.pos
 have hp2:Pos (ps.map (upP h)):=fun r hr=>by
  obtain ⟨p,h1,rfl⟩:=aWg.mp hr
  exact (pY (hp p h1) hh).pos
 have tb:IsTop (ps.map (upP h)) pt (hP (best (hgt (ps.headD (0,0,(0,1))) pt) (ps.map fun q=>hgt q pt)) h):=by
  refine ⟨?_,fun r hr=>?_⟩
  ·obtain ⟨p,h1,e⟩:=ta.at'
   exact ⟨upP h p,aWg.mpr ⟨p,h1,rfl⟩,by rw [zU g (hp p h1) hh,e]⟩
  ·obtain ⟨p,h1,rfl⟩:=aWg.mp hr
   rw [zU g (hp p h1) hh]
   exact aEd (fR (hp p h1) g).pos hh (ta.fr hp g).pos hh (ta.le p h1) (iI h)
 rw [nK (by simpa using p0) hp2 g tb,nK p0 hp g ta]
 constructor
 ·rintro ⟨r,hr,rfl,e⟩
  obtain ⟨p,h1,rfl⟩:=aWg.mp hr
  rw [zU g (hp p h1) hh] at e
  exact ⟨p,h1,rfl,(aB5 (fR (hp p h1) g) fh (ta.fr hp g) fh (ta.le p h1) (iI h) e).1⟩
 ·rintro ⟨p,h1,rfl,e⟩
  exact ⟨upP h p,aWg.mpr ⟨p,h1,rfl⟩,rfl,by rw [zU g (hp p h1) hh,e]⟩
theorem aO4{ps:List Pl}{pt st:Pt}(p0:ps≠[])(hp:Pos ps)(g:Pp pt)(gs:Pp st)(s:Int×Int):s∈oP (ps.map (mvP st)) (glP pt st)↔s∈oP ps pt:=by
 have ta:=mS p0 hp g
 have gg:Pp (glP pt st):=⟨(pY g.x gs.x).pos,(pY g.y gs.y).pos⟩
 have em:∀ p∈ps,hgt (mvP st p) (glP pt st)=hgt p pt:=fun p h=>aQd (hp p h) gs.x gs.y g.x g.y
 have hn:Pp (ngP st):=⟨(aH6 (AF.refl gs.x)).a,(aH6 (AF.refl gs.y)).a⟩
 have hp2:Pos (ps.map (mvP st)):=fun r hr=>by
  obtain ⟨p,h1,rfl⟩:=aWg.mp hr
  exact (fR (hp p h1) hn).pos
 have tb:IsTop (ps.map (mvP st)) (glP pt st) (best (hgt (ps.headD (0,0,(0,1))) pt) (ps.map fun q=>hgt q pt)):=by
  refine ⟨?_,fun r hr=>?_⟩
  ·obtain ⟨p,h1,e⟩:=ta.at'
   exact ⟨mvP st p,aWg.mpr ⟨p,h1,rfl⟩,by rw [em p h1,e]⟩
  ·obtain ⟨p,h1,rfl⟩:=aWg.mp hr
   rw [em p h1]
   exact ta.le p h1
 rw [nK (by simpa using p0) hp2 gg tb,nK p0 hp g ta]
 constructor
 ·rintro ⟨r,hr,rfl,e⟩
  obtain ⟨p,h1,rfl⟩:=aWg.mp hr
  rw [em p h1] at e
  exact ⟨p,h1,rfl,e⟩
 ·rintro ⟨p,h1,rfl,e⟩
  exact ⟨mvP st p,aWg.mpr ⟨p,h1,rfl⟩,rfl,by rw [em p h1,e]⟩
theorem aVx{f g h:En->Res Ev}{en:En}{a b d:D}(h1:f en=.ok (.p a))(h2:g en=.ok (.p b))(h3:h en=.ok (.p d)):aH bD (aB f (aB g (aB h aM))) en=.ok (.p (.tuple [a,b,d])):=by
 ktr_call 3 ⟨aH,aB,aM,h1,h2,h3,bD,kO,Res.bind,Ev.c⟩
theorem aPv{tg:D->En->Option En}{f:MS}{d:D}{ds:List D}{en e e':En}(h1:tg d en=some e)(h2:f e=some (.nx e')):gO tg f (d :: ds) en=gO tg f ds e':=by
 rw [gO,h1]
 dsimp only
 rw [h2]
theorem aMl{f:En->Res Ev}{en:En}{x:Ev}{ds:List D}(h:f en=.ok x)(h2:aG7 x.c=.ok ds):gH f en=.ok ds:=by
 unfold gH
 rw [h]
 exact h2
def PG(p:Pl):Prop:=aPy (slp p)/\GN 80 5 p.2.2
theorem PG.gpb{p:Pl}(g:PG p):GPB p:=by
 obtain ⟨⟨h1,h2,h3,h4⟩,k⟩:=g
 unfold slp at h1 h2 h3 h4
 dsimp only at h1 h2 h3 h4
 exact ⟨by unfold Sz;omega,by unfold Sz;omega,k.p,k.t.mono (by decide),k.s.mono (by decide)⟩
noncomputable def dQ:MS:=(bH (cG 3 (aE ixE (aD 0) (aE cP (aD 2) (aH eU (aB (aD 0) aM))))) (bH (cG 4 (aE ixE (aD 0) (aE cP (aE cB (aD 2) (mC (.int 4))) (aH eU (aB (aD 0) aM))))) (bH (cG 5 (aE ixE (aD 1) (aE cP (aE cB (aD 2) (mC (.int 16))) (aH eU (aB (aD 1) aM))))) (bH (cG 6 (aE ixE (aD 1) (aE cP (aE cB (aD 2) (mC (.int 64))) (aH eU (aB (aD 1) aM))))) (bH (cG 7 (aP 2 (cI K c) (aB (aE ixE (aD 3) (mC (.int 2))) (aB (aP 2 (cI K c) (aB (aE ixE (aD 6) (mC (.int 2))) (aB (aH bD (aB (mUn mP (aE ixE (aE ixE (aD 5) (mC (.int 2))) (mC (.int 0)))) (aB (aE ixE (aE ixE (aD 5) (mC (.int 2))) (mC (.int 1))) aM))) aM))) aM)))) (bH (cG 8 (aP 3 (aY K c) (aB (aD 3) (aB (aD 4) (aB (aH bD (aB (aE gI (aE eJ (aE ixE (aD 3) (mC (.int 0))) (aE ixE (aD 6) (mC (.int 0)))) (aE ixE (aD 5) (mC (.int 0)))) (aB (aE gI (aE eJ (aE ixE (aD 3) (mC (.int 1))) (aE ixE (aD 6) (mC (.int 1)))) (aE ixE (aD 5) (mC (.int 1)))) (aB (aD 7) aM)))) aM))))) (bH (fM (bP (mUn (aCz false) (aD 8))) (dS (aH bD (aB (aH bD (aB (mC (.int 0)) (aB (mC (.int 1)) aM))) (aB (aH bD (aB (mC (.int 0)) (aB (mC (.int 1)) aM))) aM)))) cO) (dS (aD 8)))))))))
noncomputable def bU(ls:List L):Res L:=fG 9 (dQ K c) ls
theorem l4:∀ ls,bU K c ls=.bad\/fG 9 (dQ K c) ls=bU K c ls:=fun _=>.inr rfl
theorem aIg{ps qs:List Pl}(p0:ps≠[])(q0:qs≠[])(gp:∀ p∈ps,PG p)(gq:∀ p∈qs,PG p)(cell:Int):∃ pt,GPt pt/\bU K c [.p (.list (ps.map plD)),.p (.list (qs.map plD)),.p (.int cell)]=.ok (.p (.tuple [frD pt.1,frD pt.2])):=by
 have pl:0 < ps.length:=aYx.mpr p0
 have ql:0 < qs.length:=aYx.mpr q0
 have zp:((ps.length:Nat):Int)≠0:=by omega
 have zq:((qs.length:Nat):Int)≠0:=by omega
 have ln:∀ xs:List Pl,eU [.p (.list (xs.map plD))]=.ok (.p (.int (xs.length:Nat))):=fun xs=>by simp [eU,fH]
 obtain ⟨a,ha,i1⟩:=rD plD ps (0,0,(0,1)) pl cell
 obtain ⟨b,hb,i2⟩:=rD plD ps (0,0,(0,1)) pl (cell.fdiv 4)
 obtain ⟨d,hd,i3⟩:=rD plD qs (0,0,(0,1)) ql (cell.fdiv 16)
 obtain ⟨e,he,i4⟩:=rD plD qs (0,0,(0,1)) ql (cell.fdiv 64)
 have x1:ixE (.p (.list (ps.map plD))) (.p (.int (cell.fmod (ps.length:Nat))))=.ok (.p (plD a)):=by simp [ixE,fH,i1]
 have x2:ixE (.p (.list (ps.map plD))) (.p (.int ((cell.fdiv 4).fmod (ps.length:Nat))))=.ok (.p (plD b)):=by simp [ixE,fH,i2]
 have x3:ixE (.p (.list (qs.map plD))) (.p (.int ((cell.fdiv 16).fmod (qs.length:Nat))))=.ok (.p (plD d)):=by simp [ixE,fH,i3]
 have x4:ixE (.p (.list (qs.map plD))) (.p (.int ((cell.fdiv 64).fmod (qs.length:Nat))))=.ok (.p (plD e)):=by simp [ixE,fH,i4]
 have d4:iG cell 4:=cdl (by decide) (by decide)
 have d16:iG cell 16:=cdl (by decide) (by decide)
 have d64:iG cell 64:=cdl (by decide) (by decide)
 have ga:=gp a ha
 have gb:=gp b hb
 have gd:=gq d hd
 have ge:=gq e he
 have g1:GN 86 10 (hP e.2.2 (-d.2.2.1,d.2.2.2)):=aCl (fun z=>by
  have h1:=ge.2.p
  have h2:=gd.2.p
  rcases aYm.mp z with z | z
  ·omega
  ·have z:d.2.2.2=0:=z
   omega) (Sz.addM (Sz.mul ge.2.t gd.2.s) (Sz.mul (L2.Sz.neg gd.2.t) ge.2.s)) (Sz.mul ge.2.s gd.2.s)
 have g2:=aTo ga.2 g1
 have l1:=vG K c (x:=e.2.2) (y:=(-d.2.2.1,d.2.2.2)) (ge.2.good (by decide) (by decide)) ⟨gd.2.p,(L2.Sz.neg gd.2.t).mono (by decide),gd.2.s.mono (by decide)⟩ (aWl _) (aWl _)
 have l2:=vG K c (x:=a.2.2) (y:=hP e.2.2 (-d.2.2.1,d.2.2.2)) (ga.2.good (by decide) (by decide)) (g1.good (by decide) (by decide)) (aWl _) (aWl _)
 generalize hP a.2.2 (hP e.2.2 (-d.2.2.1,d.2.2.2))=h at g2 l2
 have gt:GPB (a.1+e.1 - d.1,a.2.1+e.2.1 - d.2.1,h):=by
  obtain ⟨⟨a1,a2,a3,a4⟩,_⟩:=ga
  obtain ⟨⟨d1,d2,d3,d4⟩,_⟩:=gd
  obtain ⟨⟨e1,e2,e3,e4⟩,_⟩:=ge
  unfold slp at *
  dsimp only at *
  exact ⟨by unfold Sz;dsimp only;omega,by unfold Sz;dsimp only;omega,g2.p,g2.t.mono (by decide),g2.s.mono (by decide)⟩
 have cr:=aA4 K c ga.gpb gb.gpb gt
 have e3:(aE ixE (aD 0) (aE cP (aD 2) (aH eU (aB (aD 0) aM)))) [some (.p (.list (ps.map plD))),some (.p (.list (qs.map plD))),some (.p (.int cell)),none,none,none,none,none,none]=.ok (.p (plD a)):=bA rfl (bA rfl (kG rfl (ln ps)) (eP zp)) x1
 have e4:(aE ixE (aD 0) (aE cP (aE cB (aD 2) (mC (.int 4))) (aH eU (aB (aD 0) aM)))) [some (.p (.list (ps.map plD))),some (.p (.list (qs.map plD))),some (.p (.int cell)),some (.p (plD a)),none,none,none,none,none]=.ok (.p (plD b)):=bA rfl (bA (bA rfl rfl (fI d4)) (kG rfl (ln ps)) (eP zp)) x2
 have e5:(aE ixE (aD 1) (aE cP (aE cB (aD 2) (mC (.int 16))) (aH eU (aB (aD 1) aM)))) [some (.p (.list (ps.map plD))),some (.p (.list (qs.map plD))),some (.p (.int cell)),some (.p (plD a)),some (.p (plD b)),none,none,none,none]=.ok (.p (plD d)):=bA rfl (bA (bA rfl rfl (fI d16)) (kG rfl (ln qs)) (eP zq)) x3
 have e6:(aE ixE (aD 1) (aE cP (aE cB (aD 2) (mC (.int 64))) (aH eU (aB (aD 1) aM)))) [some (.p (.list (ps.map plD))),some (.p (.list (qs.map plD))),some (.p (.int cell)),some (.p (plD a)),some (.p (plD b)),some (.p (plD d)),none,none,none]=.ok (.p (plD e)):=bA rfl (bA (bA rfl rfl (fI d64)) (kG rfl (ln qs)) (eP zq)) x4
 have un:∀ en,(aD 5) en=.ok (.p (plD d))->(mUn mP (aE ixE (aE ixE (aD 5) (mC (.int 2))) (mC (.int 0)))) en=.ok (.p (.int (-d.2.2.1))):=fun en h=>by
  have:(aE ixE (aE ixE (aD 5) (mC (.int 2))) (mC (.int 0))) en=.ok (.p (.int d.2.2.1)):=bA (bA h rfl (kM d)) rfl (oS d.2.2)
  simp only [mUn,this,Res.bind,Ev.c]
  rfl
 have e7:(aP 2 (cI K c) (aB (aE ixE (aD 3) (mC (.int 2))) (aB (aP 2 (cI K c) (aB (aE ixE (aD 6) (mC (.int 2))) (aB (aH bD (aB (mUn mP (aE ixE (aE ixE (aD 5) (mC (.int 2))) (mC (.int 0)))) (aB (aE ixE (aE ixE (aD 5) (mC (.int 2))) (mC (.int 1))) aM))) aM))) aM))) [some (.p (.list (ps.map plD))),some (.p (.list (qs.map plD))),some (.p (.int cell)),some (.p (plD a)),some (.p (plD b)),some (.p (plD d)),some (.p (plD e)),none,none]=.ok (.p (frD h)):=jT (bA rfl rfl (kM a)) (jT (bA rfl rfl (kM e)) (aPj (un _ rfl) (bA (bA rfl rfl (kM d)) rfl (oN d.2.2))) l1) l2
 have t3:(aH bD (aB (aE gI (aE eJ (aE ixE (aD 3) (mC (.int 0))) (aE ixE (aD 6) (mC (.int 0)))) (aE ixE (aD 5) (mC (.int 0)))) (aB (aE gI (aE eJ (aE ixE (aD 3) (mC (.int 1))) (aE ixE (aD 6) (mC (.int 1)))) (aE ixE (aD 5) (mC (.int 1)))) (aB (aD 7) aM)))) [some (.p (.list (ps.map plD))),some (.p (.list (qs.map plD))),some (.p (.int cell)),some (.p (plD a)),some (.p (plD b)),some (.p (plD d)),some (.p (plD e)),some (.p (frD h)),none]=.ok (.p (plD (a.1+e.1 - d.1,a.2.1+e.2.1 - d.2.1,h))):=aVx (bA (bA (bA rfl rfl (lE a)) (bA rfl rfl (lE e)) (kL _ _)) (bA rfl rfl (lE d)) (qG _ _)) (bA (bA (bA rfl rfl (lG a)) (bA rfl rfl (lG e)) (kL _ _)) (bA rfl rfl (lG d)) (qG _ _)) rfl
 have go:∀ {o:D},aY K c [.p (plD a),.p (plD b),.p (plD (a.1+e.1 - d.1,a.2.1+e.2.1 - d.2.1,h))]=.ok (.p o)->dQ K c [some (.p (.list (ps.map plD))),some (.p (.list (qs.map plD))),some (.p (.int cell)),none,none,none,none,none,none]=(bH (fM (bP (mUn (aCz false) (aD 8))) (dS (aH bD (aB (aH bD (aB (mC (.int 0)) (aB (mC (.int 1)) aM))) (aB (aH bD (aB (mC (.int 0)) (aB (mC (.int 1)) aM))) aM)))) cO) (dS (aD 8))) [some (.p (.list (ps.map plD))),some (.p (.list (qs.map plD))),some (.p (.int cell)),some (.p (plD a)),some (.p (plD b)),some (.p (plD d)),some (.p (plD e)),some (.p (frD h)),some (.p o)]:=fun {o} ho=>by
  have e8:(aP 3 (aY K c) (aB (aD 3) (aB (aD 4) (aB (aH bD (aB (aE gI (aE eJ (aE ixE (aD 3) (mC (.int 0))) (aE ixE (aD 6) (mC (.int 0)))) (aE ixE (aD 5) (mC (.int 0)))) (aB (aE gI (aE eJ (aE ixE (aD 3) (mC (.int 1))) (aE ixE (aD 6) (mC (.int 1)))) (aE ixE (aD 5) (mC (.int 1)))) (aB (aD 7) aM)))) aM)))) [some (.p (.list (ps.map plD))),some (.p (.list (qs.map plD))),some (.p (.int cell)),some (.p (plD a)),some (.p (plD b)),some (.p (plD d)),some (.p (plD e)),some (.p (frD h)),none]=.ok (.p o):=aEt rfl rfl t3 ho
  unfold dQ
  exact (aQ (cU e3)).trans ((aQ (cU e4)).trans ((aQ (cU e5)).trans ((aQ (cU e6)).trans ((aQ (cU e7)).trans (aQ (cU e8))))))
 unfold bU
 rcases cr with hn | ⟨pt,gpt,hs⟩
 ·refine ⟨((0,1),(0,1)),⟨⟨aYn 1,(show Sz 250 (0:Int) by unfold Sz;decide),(show Sz 250 (1:Int) by unfold Sz;decide)⟩,⟨aYn 1,(show Sz 250 (0:Int) by unfold Sz;decide),(show Sz 250 (1:Int) by unfold Sz;decide)⟩⟩,b8 ((go hn).trans ?_)⟩
  exact lV ((l3 (j9 rfl)).trans rfl)
 ·refine ⟨pt,gpt,b8 ((go hs).trans ?_)⟩
  exact (aQ ((kH (j9 rfl)).trans rfl)).trans rfl
noncomputable def iP(K:aV9)(c:Cls):En->Res Ev:=(aH bD (aB (aE ixE (aD 0) (mC (.int 0))) (aB (aE ixE (aD 0) (mC (.int 1))) aM)))
noncomputable def fP:MS:=(dS (dW 1 [] (gH (aP 2 (dH K c) (aB (aD 0) (aB (aD 1) aM)))) (aR 0) fK (iP K c)))
noncomputable def bN(ls:List L):Res L:=fG 2 (fP K c) ls
theorem n9:∀ ls,bN K c ls=.bad\/fG 2 (fP K c) ls=bN K c ls:=fun _=>.inr rfl
theorem aHf{ps:List Pl}{pt:Pt}(h0:ps≠[])(hl:ps.length<=1000)(hg:∀ q∈ps,iD q pt):bN K c [.p (.list (ps.map plD)),.p (.tuple [frD pt.1,frD pt.2])]=.ok (.o (.list (((kB ps pt).map slp).map slD))):=by
 have t:=aKg K c ps pt h0 hl hg
 have tl:(kB ps pt).length<=1000:=aXk (aZ6 _ _) hl
 generalize kB ps pt=ts at t tl
 unfold bN
 refine b8 ?_
 rw [show bK 2 [.p (.list (ps.map plD)),.p (.tuple [frD pt.1,frD pt.2])]=[some (.p (.list (ps.map plD))),some (.p (.tuple [frD pt.1,frD pt.2]))] from rfl]
 unfold fP
 have it:gH (aP 2 (dH K c) (aB (aD 0) (aB (aD 1) aM))) [some (.p (.list (ps.map plD))),some (.p (.tuple [frD pt.1,frD pt.2]))]=.ok (ts.map plD):=aMl (lF (cM rfl (cM rfl rfl)) rfl rfl t) rfl
 rw [aXm]
 refine oT (jF it (by rw [aWb];omega) (eD _ fun q _=>?_))
 have he:iP K c [some (.p (plD q))]=.ok (.p (slD (slp q))):=aPj (bA rfl rfl (lE q)) (bA rfl rfl (lG q))
 unfold aZ
 ktr_call 3 ⟨aR,fK,o9,List.replicate,aYk,he,Ev.c⟩
 try rfl
theorem aFa(ps:List (Int×Int)):SeqAt.shaped (.list (ps.map slD))=true:=aMt slD (fun p=>by simp [slD,PyData.canLay0,PyData.canLayAll0]) (fun p=>by simp [slD,PyData.depth,PyData.depthAll]) ps
noncomputable def jZ:MS:=(fM (mOr (oO (bP (mUn (aCq K (.type "tuple")) (aD 2)))) (mOr (oO (bP (aP 1 (dN K c) (aB (aE ixE (aD 2) (mC (.int 0))) aM)))) (oO (bP (aP 1 (dN K c) (aB (aE ixE (aD 2) (mC (.int 1))) aM)))))) (dS (mC (.bool false))) cO)
noncomputable def gR:MS:=(bH (fM (mOr (oO (bP (mUn (aCq K (.type "list")) (aD 0)))) (bP (aE (eqE true) (aD 0) (aD 1)))) (dS (mC (.bool false))) cO) (bH (xH (gH (aD 0)) (aR 2) (jZ K c)) (dS (mC (.bool true)))))
noncomputable def bS(ls:List L):Res L:=fG 3 (gR K c) ls
theorem qH:∀ ls,bS K c ls=.bad\/fG 3 (gR K c) ls=bS K c ls:=fun _=>.inr rfl
theorem aLa(K:aV9)(c:Cls)(hk:iH K c)(A B:Option L):∀ (xs:List (Int×Int)) (r:Option L),∃ q,gO (aR 2) (jZ K c) (xs.map slD) [A,B,r]=some (.nx [A,B,q])
 | [],r=>⟨r,rfl⟩
 | x :: xs,r=>by
  obtain ⟨q,ih⟩:=aLa K c hk A B xs (some (.p (slD x)))
  have w1:=aBs K c x.1
  have w2:=aBs K c x.2
  have x0:ixE (.p (slD x)) (.p (.int 0))=.ok (.p (.int x.1)):=kN _ _
  have x1:ixE (.p (slD x)) (.p (.int 1))=.ok (.p (.int x.2)):=kQ _ _ _
  have i1:aCq K (.type "tuple") (.p (slD x))=.ok (.p (.bool true)):=by simp [aCq,dat,slD,tyD,hk.tt]
  have t1:(mOr (oO (bP (mUn (aCq K (.type "tuple")) (aD 2)))) (mOr (oO (bP (aP 1 (dN K c) (aB (aE ixE (aD 2) (mC (.int 0))) aM)))) (oO (bP (aP 1 (dN K c) (aB (aE ixE (aD 2) (mC (.int 1))) aM)))))) [A,B,some (.p (slD x))]=.ok false:=aSt (aCu (b:=true) (j9 (by ktr_call 3 ⟨mUn,aD,Res.bind,Ev.c,i1⟩))) (aSt (aCu (b:=true) (j9 (sY (bA rfl rfl x0) w1))) (aCu (b:=true) (j9 (sY (bA rfl rfl x1) w2))))
  exact ⟨q,(aPv rfl (kH t1)).trans ih⟩
theorem aFu(hk:iH K c)(xs:List (Int×Int)):bS K c [.p (.list (xs.map slD)),.p (.list (xs.map slD))]=.ok (.p (.bool true)):=by
 obtain ⟨q,hlp⟩:=aLa K c hk (some (.p (.list (xs.map slD)))) (some (.p (.list (xs.map slD)))) xs none
 have i1:aCq K (.type "list") (.p (.list (xs.map slD)))=.ok (.p (.bool true)):=by simp [aCq,dat,tyD,hk.ll]
 have t1:(mOr (oO (bP (mUn (aCq K (.type "list")) (aD 0)))) (bP (aE (eqE true) (aD 0) (aD 1)))) [some (.p (.list (xs.map slD))),some (.p (.list (xs.map slD))),none]=.ok false:=aSt (aCu (b:=true) (j9 (by ktr_call 3 ⟨mUn,aD,Res.bind,Ev.c,i1⟩))) (j9 (bA rfl rfl (aAm rfl rfl (aFa xs) true)))
 unfold bS
 refine b8 ?_
 rw [show bK 3 [.p (.list (xs.map slD)),.p (.list (xs.map slD))]=[some (.p (.list (xs.map slD))),some (.p (.list (xs.map slD))),none] from rfl]
 unfold gR
 exact (aQ (kH t1)).trans ((aQ ((sH (ds:=xs.map slD) rfl).trans hlp)).trans rfl)
theorem aT0{lo:Int}{n:Nat}{hi:Int}{d:D}(h0:0<=lo)(h:d∈sC lo 2 (rgN lo hi 2)):∃ k:Nat,d=.int (k:Int)/\(k:Int) < hi:=by
 unfold sC at h
 obtain ⟨i,hi',rfl⟩:=aWg.mp h
 have hi':=aXw.mp hi'
 refine ⟨(lo+(i:Int)*2).toNat,by rw [Int.toNat_of_nonneg (by omega)],?_⟩
 unfold rgN at hi'
 split at hi'
 ·have:(hi - lo - 1) / 2*2<=hi - lo - 1:=Int.ediv_mul_le _ (by decide)
  omega
 ·omega
theorem aB4{g:D->Option (Option D)}{cs:List Int}:∀ ds:List D,(∀ d∈ds,∃ v∈cs,g d=some (some (.int v)))->∃ es:List Int,es.length=ds.length/\(∀ v∈es,v∈cs)/\mX g ds=some (es.map .int)
 | [],_=>⟨[],rfl,(fun _ h=>nomatch h),rfl⟩
 | d :: ds,h=>by
  obtain ⟨v,hv,e⟩:=h d (.head _)
  obtain ⟨es,h1,h2,h3⟩:=aB4 ds fun x hx=>h x (.tail _ hx)
  refine ⟨v :: es,by rw [aWc,aWc,h1],fun x hx=>?_,?_⟩
  ·rcases aWh.mp hx with z | z
   ·rw [z];exact hv
   ·exact h2 x z
  ·show (match g d with | none=>none | some o=>match mX g ds with | none=>none | some r=>some (match o with | some y=>y :: r | none=>r))=_
   rw [e,h3]
   rfl
theorem aKm(K:aV9)(c:Cls){fe:En->Res Ev}(hf:∀ (d:D) (ds:List D),fe [some (.p d),some (.p (.list ds))]=ixE (.p (.list ds)) (.p d))(cs:List Int)(hl:cs.length<=100)(lo:Int)(h0:0<=lo)(h1:lo<=1)(A B C:Option L)(rs:List (Option L)):∃ es:List Int,es.length<=60/\(∀ v∈es,v∈cs)/\dW 1 [3] (tF vE (aB (mC (.int lo)) (aB (aH eU (aB (aD 3) aM)) (aB (mC (.int 2)) aM)))) (aR 0) fK fe (A :: B :: C :: some (.p (.list (cs.map .int))) :: rs)=.ok (.f (.list (es.map .int))):=by
 have hlen:eU [.p (.list (cs.map .int))]=.ok (.p (.int (cs.length:Nat))):=by simp [eU,fH]
 have hit:(tF vE (aB (mC (.int lo)) (aB (aH eU (aB (aD 3) aM)) (aB (mC (.int 2)) aM)))) (A :: B :: C :: some (.p (.list (cs.map .int))) :: rs)=.ok (sC lo 2 (rgN lo (cs.length:Nat) 2)):=by
  ktr_call 3 ⟨tF,aB,aM,mC,aH,aD,Res.bind,Ev.c,hlen,vE⟩
  rw [aWm (by omega)]
 have hn:(sC lo 2 (rgN lo (cs.length:Nat) 2)).length<=60:=by
  unfold sC rgN
  rw [aWb,aXp]
  split
  ·have:((cs.length:Int) - lo - 1) / 2<=50:=by omega
   omega
  ·omega
 obtain ⟨es,e1,e2,e3⟩:=aB4 (g:=aZ 1 [3] (aR 0) fK fe (A :: B :: C :: some (.p (.list (cs.map .int))) :: rs)) (cs:=cs) (sC lo 2 (rgN lo (cs.length:Nat) 2)) (fun d hd=>by
  obtain ⟨k,rfl,hk⟩:=aT0 (n:=0) h0 hd
  have hk:k < cs.length:=by omega
  refine ⟨cs.getD k 0,My.getD_mem cs 0 hk,?_⟩
  have ix:ixE (.p (.list (cs.map .int))) (.p (.int (k:Int)))=.ok (.p (.int (cs.getD k 0))):=by simp only [ixE,fH,aL1 hk]
  have:=hf (.int (k:Int)) (cs.map .int)
  rw [ix] at this
  simp [aZ,aR,o9,xJ,fK,this,Ev.c])
 exact ⟨es,by omega,e2,jF hit (by omega) e3⟩
theorem aUp{tg:D->En->Option En}{fe:En->Res Ev}{en e:En}{x:Ev}(h:fe en=.ok x)(h2:(match x.c with | .p d=>tg d en | _=>none)=some e):aNt tg fe en=some (.nx e):=by
 unfold aNt
 rw [h]
 cases x with
 | p d=>dsimp only [Ev.c] at h2 ⊢;rw [h2]
 | f d=>dsimp only [Ev.c] at h2 ⊢;rw [h2]
 | b d=>cases h2
 | x d=>cases h2
theorem oQ{i:Nat}{f:MS}{en e1:En}{o:Option Out}(h:frz i en=e1)(k:f e1=o):f (frz i en)=o:=by rw [h];exact k
theorem aQw(vs:List Int)(a b:Nat):∃ cs:List Int,M.cutD (vs.map .int) (some (a:Int)) (some (b:Int))=cs.map .int/\(∀ x∈cs,x∈vs)/\cs.length<=b - a:=by
 refine ⟨(vs.drop (HT.sIx vs.length 0 (some (a:Int)))).take (HT.sIx vs.length vs.length (some (b:Int)) - HT.sIx vs.length 0 (some (a:Int))),?_,fun x hx=>bBm (List.mem_of_mem_take hx),?_⟩
 ·unfold M.cutD
  rw [aWb,bC6,List.map_drop]
 ·rw [aYp,aZg,HT.yC,HT.yC]
  omega
theorem uV{vs:List Int}(h:∀ v∈vs,0<=v/\Sz 200 v)(k:Nat):0<=vs.getD k 0/\Sz 200 (vs.getD k 0):=by
 by_cases hk:k < vs.length
 ·exact h _ (getD_mem vs 0 hk)
 ·have:vs.getD k 0=0:=by simp [List.getD,bCm hk]
  rw [this]
  exact ⟨by decide,by unfold Sz;decide⟩
theorem aUw{i j:Int}:gtE (.p (.int i)) (.p (.int j))=.ok (.p (.bool (decide (i > j)))):=by simp [gtE,gN]
theorem aUm(vs:List Int)(b:Nat):∃ cs:List Int,M.cutD (vs.map .int) none (some (b:Int))=cs.map .int/\cs.length<=b:=by
 refine ⟨vs.take (HT.sIx vs.length vs.length (some (b:Int))),?_,?_⟩
 ·unfold M.cutD
  rw [aWb,HT.aAb,List.drop_zero,Nat.sub_zero,bC6]
 ·rw [aYp,HT.yC]
  omega
theorem aQx{m:Mp}(g:Gm m)(w:Wm 3 m):∀ p∈cY m,PG p:=fun p hp=>by
 have k:=yS g p hp
 unfold cY at hp
 obtain ⟨x,hx,rfl⟩:=aWg.mp hp
 obtain ⟨_,_,h3⟩:=nG hx (0,1)
 obtain ⟨w1,w2⟩:=w _ _ h3
 have i0:=k.i0
 have j0:=k.j0
 dsimp only at i0 j0
 exact ⟨⟨i0,by show (un2 x).1<=4;omega,j0,by show (un2 x).2<=4;omega⟩,k.h.p,k.h.t,k.h.b,k.h.f⟩
noncomputable def pG(K:aV9)(c:Cls):En->Res Ev:=(aD 0)
noncomputable def pP(K:aV9)(c:Cls):En->Res Ev:=(aH bD (aB (aE eJ (aE ixE (aD 1) (mC (.int 0))) (aE ixE (aD 0) (mC (.int 0)))) (aB (aE eJ (aE ixE (aD 1) (mC (.int 1))) (aE ixE (aD 0) (mC (.int 1)))) aM)))
noncomputable def pO:MS:=(cG 8 (aE eJ (aD 8) (dW 1 [10] (gH (aD 9)) (aR 0) fK (pP K c))))
noncomputable def tR(K:aV9)(c:Cls):En->Res Ev:=(aE ixE (aD 1) (aD 0))
noncomputable def tW(K:aV9)(c:Cls):En->Res Ev:=(aE ixE (aD 1) (aD 0))
noncomputable def aEx:MS:=(bH (aNt (nY 2 (fF (aR 1) (fF (aR 0) nW))) (aP 1 (dG K c) (aB (aD 0) aM))) (bH (cG 2 (aP 2 (a8 K c) (aB (aD 0) (aB (mC (.int 0)) aM)))) (bH (cG 3 (mSl (aD 0) (mPt (mC (.int 4))) (mPt (mC (.int 20))))) (fun en=>(bH (fM (bP (aD 1)) (bH (cG 4 (aP 2 (bW K c) (aB (mSl (aD 3) aD4 (mPt (aE cP (aD 2) (mC (.int 5))))) (aB (mC (.int 5)) aM)))) (cG 5 (aP 2 (bW K c) (aB (mSl (aD 3) (mPt (aE cP (aD 2) (mC (.int 5)))) (mPt (aE eJ (aE cP (aD 2) (mC (.int 5))) (aE cP (aE cB (aD 2) (mC (.int 5))) (mC (.int 5)))))) (aB (mC (.int 5)) aM))))) (bH (cG 4 (aP 4 (cD K c) (aB (aD 2) (aB (dW 1 [3] (tF vE (aB (mC (.int 0)) (aB (aH eU (aB (aD 3) aM)) (aB (mC (.int 2)) aM)))) (aR 0) fK (tW K c)) (aB (mC (.int 4)) (aB (mC (.int 3)) aM)))))) (cG 5 (aP 4 (cD K c) (aB (aP 2 (a8 K c) (aB (aD 0) (aB (mC (.int 1)) aM))) (aB (dW 1 [3] (tF vE (aB (mC (.int 1)) (aB (aH eU (aB (aD 3) aM)) (aB (mC (.int 2)) aM)))) (aR 0) fK (tR K c)) (aB (mC (.int 4)) (aB (mC (.int 3)) aM)))))))) (fun en=>(bH (cG 6 (aP 2 (a8 K c) (aB (aD 0) (aB (mC (.int 2)) aM)))) (fun en=>(bH (cG 7 (aP 3 (cW K c) (aB (aD 4) (aB (aE cB (aD 6) (mC (.int 2))) (aB (aP 2 (a8 K c) (aB (aD 0) (aB (mC (.int 3)) aM))) aM))))) (bH (fM (bP (aE (eqE false) (aE cP (aD 6) (mC (.int 2))) (mC (.int 1)))) (cG 7 (aP 3 (bU K c) (aB (aD 4) (aB (aD 5) (aB (aE cB (aD 6) (mC (.int 2))) aM))))) cO) (bH (cG 8 (aH kP aM)) (bH (cG 9 (aP 2 (bN K c) (aB (aD 5) (aB (aD 7) aM)))) (fun en=>(bH (xH (gH (aP 2 (bN K c) (aB (aD 4) (aB (aD 7) aM)))) (aR 10) (pO K c)) (fun en=>(bH (cG 11 (aP 1 (b9 K c) (aB (aD 8) aM))) (fun en=>(bH (cG 12 (aP 2 (k9 K c) (aB (aH listE (aB (aD 4) aM)) (aB (aH listE (aB (aD 5) aM)) aM)))) (fun en=>(bH (fM (oO (bP (aP 2 (bS K c) (aB (aP 2 (iF K c) (aB (aD 12) (aB (aD 7) aM))) (aB (aD 11) aM))))) (dS (mC (.bool false))) cO) (bH (cG 13 (aP 2 (l0 K c) (aB (aD 12) (aB (aD 7) aM)))) (fun en=>(bH (fM (mOr (bP (aE gtE (aH eU (aB (dW 1 [8] (gH (aD 13)) (aR 0) (bP (aE (aHj true) (aD 0) (aD 1))) (pG K c)) aM)) (mC (.int 0)))) (bP (aE (eqE true) (aP 1 (b9 K c) (aB (aD 13) aM)) (aD 11)))) (dS (mC (.bool false))) cO) (bH (cG 14 (aP 2 (aX K c) (aB (aE gI (aE cP (aD 6) (mC (.int 2001))) (mC (.int 1000))) (aB (aE eJ (mC (.int 1)) (aE cP (aD 6) (mC (.int 7)))) aM)))) (bH (cG 15 (aH bD (aB (aP 2 (aX K c) (aB (aE gI (aE cP (aE cB (aD 6) (mC (.int 3))) (mC (.int 41))) (mC (.int 20))) (aB (aE eJ (mC (.int 1)) (aE cP (aD 6) (mC (.int 3)))) aM))) (aB (aP 2 (aX K c) (aB (aE gI (aE cP (aE cB (aD 6) (mC (.int 5))) (mC (.int 41))) (mC (.int 20))) (aB (aE eJ (mC (.int 1)) (aE cP (aD 6) (mC (.int 4)))) aM))) aM)))) (bH (fM (oO (bP (aP 2 (bS K c) (aB (aP 2 (iF K c) (aB (aP 2 (jC K c) (aB (aD 12) (aB (aD 14) aM))) (aB (aD 7) aM))) (aB (aD 11) aM))))) (dS (mC (.bool false))) cO) (bH (cG 16 (aH bD (aB (aP 2 (cI K c) (aB (aE ixE (aD 7) (mC (.int 0))) (aB (aE ixE (aD 15) (mC (.int 0))) aM))) (aB (aP 2 (cI K c) (aB (aE ixE (aD 7) (mC (.int 1))) (aB (aE ixE (aD 15) (mC (.int 1))) aM))) aM)))) (dS (aP 2 (bS K c) (aB (aP 2 (iF K c) (aB (aP 2 (k8 K c) (aB (aD 12) (aB (aD 15) aM))) (aB (aD 16) aM))) (aB (aD 11) aM))))))))) (frz 13 en)))) (frz 12 en))) (frz 11 en))) (frz 8 en))) (frz 9 en)))))) (frz 5 en))) (frz 4 en))) (frz 3 en)))))
noncomputable def aB9(ls:List L):Res L:=fG 17 (aEx K c) ls
theorem aQb:∀ ls,aB9 K c ls=.bad\/fG 17 (aEx K c) ls=aB9 K c ls:=fun _=>.inr rfl
noncomputable def aOm:MS:=(bH (cG 8 (aH kP aM)) (bH (cG 9 (aP 2 (bN K c) (aB (aD 5) (aB (aD 7) aM)))) (fun en=>(bH (xH (gH (aP 2 (bN K c) (aB (aD 4) (aB (aD 7) aM)))) (aR 10) (pO K c)) (fun en=>(bH (cG 11 (aP 1 (b9 K c) (aB (aD 8) aM))) (fun en=>(bH (cG 12 (aP 2 (k9 K c) (aB (aH listE (aB (aD 4) aM)) (aB (aH listE (aB (aD 5) aM)) aM)))) (fun en=>(bH (fM (oO (bP (aP 2 (bS K c) (aB (aP 2 (iF K c) (aB (aD 12) (aB (aD 7) aM))) (aB (aD 11) aM))))) (dS (mC (.bool false))) cO) (bH (cG 13 (aP 2 (l0 K c) (aB (aD 12) (aB (aD 7) aM)))) (fun en=>(bH (fM (mOr (bP (aE gtE (aH eU (aB (dW 1 [8] (gH (aD 13)) (aR 0) (bP (aE (aHj true) (aD 0) (aD 1))) (pG K c)) aM)) (mC (.int 0)))) (bP (aE (eqE true) (aP 1 (b9 K c) (aB (aD 13) aM)) (aD 11)))) (dS (mC (.bool false))) cO) (bH (cG 14 (aP 2 (aX K c) (aB (aE gI (aE cP (aD 6) (mC (.int 2001))) (mC (.int 1000))) (aB (aE eJ (mC (.int 1)) (aE cP (aD 6) (mC (.int 7)))) aM)))) (bH (cG 15 (aH bD (aB (aP 2 (aX K c) (aB (aE gI (aE cP (aE cB (aD 6) (mC (.int 3))) (mC (.int 41))) (mC (.int 20))) (aB (aE eJ (mC (.int 1)) (aE cP (aD 6) (mC (.int 3)))) aM))) (aB (aP 2 (aX K c) (aB (aE gI (aE cP (aE cB (aD 6) (mC (.int 5))) (mC (.int 41))) (mC (.int 20))) (aB (aE eJ (mC (.int 1)) (aE cP (aD 6) (mC (.int 4)))) aM))) aM)))) (bH (fM (oO (bP (aP 2 (bS K c) (aB (aP 2 (iF K c) (aB (aP 2 (jC K c) (aB (aD 12) (aB (aD 14) aM))) (aB (aD 7) aM))) (aB (aD 11) aM))))) (dS (mC (.bool false))) cO) (bH (cG 16 (aH bD (aB (aP 2 (cI K c) (aB (aE ixE (aD 7) (mC (.int 0))) (aB (aE ixE (aD 15) (mC (.int 0))) aM))) (aB (aP 2 (cI K c) (aB (aE ixE (aD 7) (mC (.int 1))) (aB (aE ixE (aD 15) (mC (.int 1))) aM))) aM)))) (dS (aP 2 (bS K c) (aB (aP 2 (iF K c) (aB (aP 2 (k8 K c) (aB (aD 12) (aB (aD 15) aM))) (aB (aD 16) aM))) (aB (aD 11) aM))))))))) (frz 13 en)))) (frz 12 en))) (frz 11 en))) (frz 8 en))) (frz 9 en))))
structure DR(ps:List Pl):Prop where
 n:ps≠[]
 l:ps.length<=4
 g:∀ p∈ps,PG p
theorem aT8(ns:List Int)(hn:ns.length<=63):∃ (own:Bool) (vs cs:List Int) (kd fi:Int) (ps qs:List Pl) (pt:Pt),DR ps/\DR qs/\GPt pt/\aEx K c [some (.p (.list (ns.map .int))),none,none,none,none,none,none,none,none,none,none,none,none,none,none,none,none]=aOm K c [some (.p (.list (vs.map .int))),some (.p (.bool own)),some (.p (.int kd)),some (.p (.list (cs.map .int))),some (.p (.list (ps.map plD))),some (.p (.list (qs.map plD))),some (.p (.int fi)),some (.p (.tuple [frD pt.1,frD pt.2])),none,none,none,none,none,none,none,none,none]:=by
 obtain ⟨own,vs,_,hv,hc⟩:=aHx K c ns hn
 have c0:a8 K c [.p (.list (vs.map .int)),.p (.int 0)]=.ok (.p (.int (vs.getD 0 0))):=qV K c vs 0
 have c1:a8 K c [.p (.list (vs.map .int)),.p (.int 1)]=.ok (.p (.int (vs.getD 1 0))):=qV K c vs 1
 have c2:a8 K c [.p (.list (vs.map .int)),.p (.int 2)]=.ok (.p (.int (vs.getD 2 0))):=qV K c vs 2
 have c3:a8 K c [.p (.list (vs.map .int)),.p (.int 3)]=.ok (.p (.int (vs.getD 3 0))):=qV K c vs 3
 have k0:=uV hv 0
 have k1:=uV hv 1
 have k2:=uV hv 2
 have k3:=uV hv 3
 generalize vs.getD 0 0=kd at *
 generalize vs.getD 1 0=v1 at *
 generalize vs.getD 2 0=fi at *
 generalize vs.getD 3 0=v3 at *
 obtain ⟨cs,hcs,hm,hcl⟩:=aQw vs 4 20
 have n5:(5:Int)≠0:=by decide
 have n2:(2:Int)≠0:=by decide
 have d5:iG kd 5:=cdl (by decide) (by decide)
 have d2:iG fi 2:=cdl (by decide) (by decide)
 obtain ⟨ps,qs,hp,hq,s3⟩:∃ ps qs,DR ps/\DR qs/\(fM (bP (aD 1)) (bH (cG 4 (aP 2 (bW K c) (aB (mSl (aD 3) aD4 (mPt (aE cP (aD 2) (mC (.int 5))))) (aB (mC (.int 5)) aM)))) (cG 5 (aP 2 (bW K c) (aB (mSl (aD 3) (mPt (aE cP (aD 2) (mC (.int 5)))) (mPt (aE eJ (aE cP (aD 2) (mC (.int 5))) (aE cP (aE cB (aD 2) (mC (.int 5))) (mC (.int 5)))))) (aB (mC (.int 5)) aM))))) (bH (cG 4 (aP 4 (cD K c) (aB (aD 2) (aB (dW 1 [3] (tF vE (aB (mC (.int 0)) (aB (aH eU (aB (aD 3) aM)) (aB (mC (.int 2)) aM)))) (aR 0) fK (tW K c)) (aB (mC (.int 4)) (aB (mC (.int 3)) aM)))))) (cG 5 (aP 4 (cD K c) (aB (aP 2 (a8 K c) (aB (aD 0) (aB (mC (.int 1)) aM))) (aB (dW 1 [3] (tF vE (aB (mC (.int 1)) (aB (aH eU (aB (aD 3) aM)) (aB (mC (.int 2)) aM)))) (aR 0) fK (tR K c)) (aB (mC (.int 4)) (aB (mC (.int 3)) aM)))))))) [some (.p (.list (vs.map .int))),some (.p (.bool own)),some (.p (.int kd)),some (.p (.list (cs.map .int))),none,none,none,none,none,none,none,none,none,none,none,none,none]=some (.nx [some (.p (.list (vs.map .int))),some (.p (.bool own)),some (.p (.int kd)),some (.p (.list (cs.map .int))),some (.o (.list (ps.map plD))),some (.o (.list (qs.map plD))),none,none,none,none,none,none,none,none,none,none,none]):=by
  cases own with
  | true =>
   have f1:=cF (a:=kd) (b:=5) (by decide)
   have f2:=cF (a:=kd.fdiv 5) (b:=5) (by decide)
   obtain ⟨j,hj⟩:∃ j:Nat,kd.fmod 5=(j:Int):=⟨(kd.fmod 5).toNat,by omega⟩
   obtain ⟨k,hk⟩:∃ k:Nat,(kd.fdiv 5).fmod 5=(k:Int):=⟨((kd.fdiv 5).fmod 5).toNat,by omega⟩
   obtain ⟨as,ha,la⟩:=aUm cs j
   obtain ⟨bs,hb,_,lb⟩:=aQw cs j (j+k)
   obtain ⟨ps,rp,lp,hr⟩:=aK2 K c (w:=5) (by decide) (by decide) as (by omega)
   obtain ⟨qs,rq,lq,hr2⟩:=aK2 K c (w:=5) (by decide) (by decide) bs (by omega)
   have m5:∀ en,aD 2 en=.ok (.p (.int kd))->(aE cP (aD 2) (mC (.int 5))) en=.ok (.p (.int (j:Int))):=fun en h=>by
    rw [<- hj]
    exact bA h rfl (eP n5)
   have e4:(mSl (aD 3) aD4 (mPt (aE cP (aD 2) (mC (.int 5))))) [some (.p (.list (vs.map .int))),some (.p (.bool true)),some (.p (.int kd)),some (.p (.list (cs.map .int))),none,none,none,none,none,none,none,none,none,none,none,none,none]=.ok (.f (.list (as.map .int))):=by
    have q:=m5 [some (.p (.list (vs.map .int))),some (.p (.bool true)),some (.p (.int kd)),some (.p (.list (cs.map .int))),none,none,none,none,none,none,none,none,none,none,none,none,none] rfl
    ktr_call 3 ⟨mSl,aD4,mPt,q,aD,Res.bind,Ev.c,eZ,ha⟩
   have e5:(mSl (aD 3) (mPt (aE cP (aD 2) (mC (.int 5)))) (mPt (aE eJ (aE cP (aD 2) (mC (.int 5))) (aE cP (aE cB (aD 2) (mC (.int 5))) (mC (.int 5)))))) [some (.p (.list (vs.map .int))),some (.p (.bool true)),some (.p (.int kd)),some (.p (.list (cs.map .int))),some (.o (.list (ps.map plD))),none,none,none,none,none,none,none,none,none,none,none,none]=.ok (.f (.list (bs.map .int))):=by
    have a5:(aE eJ (aE cP (aD 2) (mC (.int 5))) (aE cP (aE cB (aD 2) (mC (.int 5))) (mC (.int 5)))) [some (.p (.list (vs.map .int))),some (.p (.bool true)),some (.p (.int kd)),some (.p (.list (cs.map .int))),some (.o (.list (ps.map plD))),none,none,none,none,none,none,none,none,none,none,none,none]=.ok (.p (.int ((j+k:Nat):Int))):=by
     rw [show ((j+k:Nat):Int)=(j:Int)+(kd.fdiv 5).fmod 5 by omega]
     exact bA (m5 _ rfl) (bA (bA rfl rfl (fI d5)) rfl (eP n5)) (kL _ _)
    have q:=m5 [some (.p (.list (vs.map .int))),some (.p (.bool true)),some (.p (.int kd)),some (.p (.list (cs.map .int))),some (.o (.list (ps.map plD))),none,none,none,none,none,none,none,none,none,none,none,none] rfl
    ktr_call 3 ⟨mSl,mPt,q,a5,aD,Res.bind,Ev.c,eZ,hb⟩
   exact ⟨ps,qs,⟨rp.n,by omega,rp.g⟩,⟨rq.n,by omega,rq.g⟩,(l3 (j9 rfl)).trans ((aQ (iB (lF (cM e4 (cM rfl rfl)) rfl rfl hr))).trans (iB (lF (cM e5 (cM rfl rfl)) rfl rfl hr2)))⟩
  | false =>
   have gc:∀ x∈cs,0<=x/\Sz 200 x:=fun x hx=>hv x (hm x hx)
   obtain ⟨ea,la,ma,ca⟩:=aKm K c (fe:=tW K c) (fun d ds=>rfl) cs (by omega) 0 (by decide) (by decide) (some (.p (.list (vs.map .int)))) (some (.p (.bool false))) (some (.p (.int kd))) [none,none,none,none,none,none,none,none,none,none,none,none,none]
   obtain ⟨m1,g1,n1,⟨_,lo1,wm1⟩,hr1⟩:=aAj K c (mo:=4) k0.2 (w:=3) (by decide) (by decide) ea la (fun x hx=>gc x (ma x hx))
   obtain ⟨eb,lb,mb,cb'⟩:=aKm K c (fe:=tR K c) (fun d ds=>rfl) cs (by omega) 1 (by decide) (by decide) (some (.p (.list (vs.map .int)))) (some (.p (.bool false))) (some (.p (.int kd))) (some (.o (.list ((cY m1).map plD))) :: [none,none,none,none,none,none,none,none,none,none,none,none])
   obtain ⟨m2,g2,n2,⟨_,lo2,wm2⟩,hr2⟩:=aAj K c (mo:=4) k1.2 (w:=3) (by decide) (by decide) eb lb (fun x hx=>gc x (mb x hx))
   refine ⟨cY m1,cY m2,⟨n1,by rw [iL];omega,aQx g1 wm1⟩,⟨n2,by rw [iL];omega,aQx g2 wm2⟩,(kH (j9 rfl)).trans ?_⟩
   exact (aQ (iB (lF (cM rfl (cM ca (cM rfl (cM rfl rfl)))) rfl rfl hr1))).trans (iB (lF (cM (jT rfl rfl c1) (cM cb' (cM rfl (cM rfl rfl)))) rfl rfl hr2))
 obtain ⟨p1,g1,h1⟩:=aJ8 K c ps hp.n (by have:=hp.l;omega) (fun p h=>(hp.g p h).gpb) (cell:=fi.fdiv 2) (other:=v3) (Sz.le k2.2 (aX5 _ _)) k3.2
 obtain ⟨pt,gpt,s6⟩:∃ pt,GPt pt/\(fM (bP (aE (eqE false) (aE cP (aD 6) (mC (.int 2))) (mC (.int 1)))) (cG 7 (aP 3 (bU K c) (aB (aD 4) (aB (aD 5) (aB (aE cB (aD 6) (mC (.int 2))) aM))))) cO) [some (.p (.list (vs.map .int))),some (.p (.bool own)),some (.p (.int kd)),some (.p (.list (cs.map .int))),some (.p (.list (ps.map plD))),some (.p (.list (qs.map plD))),some (.p (.int fi)),some (.p (.tuple [frD p1.1,frD p1.2])),none,none,none,none,none,none,none,none,none]=some (.nx [some (.p (.list (vs.map .int))),some (.p (.bool own)),some (.p (.int kd)),some (.p (.list (cs.map .int))),some (.p (.list (ps.map plD))),some (.p (.list (qs.map plD))),some (.p (.int fi)),some (.p (.tuple [frD pt.1,frD pt.2])),none,none,none,none,none,none,none,none,none]):=by
  have t:(bP (aE (eqE false) (aE cP (aD 6) (mC (.int 2))) (mC (.int 1)))) [some (.p (.list (vs.map .int))),some (.p (.bool own)),some (.p (.int kd)),some (.p (.list (cs.map .int))),some (.p (.list (ps.map plD))),some (.p (.list (qs.map plD))),some (.p (.int fi)),some (.p (.tuple [frD p1.1,frD p1.2])),none,none,none,none,none,none,none,none,none]=.ok (fi.fmod 2 == 1):=j9 (bA (bA rfl rfl (eP n2)) rfl aMd)
  cases z:(fi.fmod 2 == 1) with
  | true =>
   rw [z] at t
   obtain ⟨pt,g,h⟩:=aIg K c hp.n hq.n hp.g hq.g (fi.fdiv 2)
   exact ⟨pt,g,(l3 t).trans (cU (aEt rfl rfl (bA rfl rfl (fI d2)) h))⟩
  | false =>
   rw [z] at t
   exact ⟨p1,g1,(kH t).trans rfl⟩
 refine ⟨own,vs,cs,kd,fi,ps,qs,pt,hp,hq,gpt,?_⟩
 unfold aEx
 refine (aQ (aUp (x:=.p (.tuple [.bool own,.list (vs.map .int)])) (sY rfl hc) (e:=[some (.p (.list (vs.map .int))),some (.p (.bool own)),none,none,none,none,none,none,none,none,none,none,none,none,none,none,none]) rfl)).trans ((aQ (cU (jT rfl rfl c0))).trans ((aQ (iB (d:=.list (cs.map .int)) ?_)).trans ?_))
 ·have h5:M.cutD (vs.map .int) (some 4) (some 20)=cs.map .int:=hcs
  ktr_call 3 ⟨mSl,mPt,aD,mC,Res.bind,Ev.c,eZ,h5⟩
 refine oQ (i:=3) (e1:=[some (.p (.list (vs.map .int))),some (.p (.bool own)),some (.p (.int kd)),some (.p (.list (cs.map .int))),none,none,none,none,none,none,none,none,none,none,none,none,none]) rfl ((aQ s3).trans ?_)
 refine oQ (i:=4) (e1:=[some (.p (.list (vs.map .int))),some (.p (.bool own)),some (.p (.int kd)),some (.p (.list (cs.map .int))),some (.p (.list (ps.map plD))),some (.o (.list (qs.map plD))),none,none,none,none,none,none,none,none,none,none,none]) rfl ((aQ (cU (jT rfl rfl c2))).trans ?_)
 refine oQ (i:=5) (e1:=[some (.p (.list (vs.map .int))),some (.p (.bool own)),some (.p (.int kd)),some (.p (.list (cs.map .int))),some (.p (.list (ps.map plD))),some (.p (.list (qs.map plD))),some (.p (.int fi)),none,none,none,none,none,none,none,none,none,none]) rfl ((aQ (cU (aEt rfl (bA rfl rfl (fI d2)) (jT rfl rfl c3) h1))).trans (aQ s6))
theorem aDm(K:aV9)(c:Cls)(s0 s1 s2 s3 s4 s5 s6 s7 s11 s12 s13 s14 s15 s16:Option L){bs:List (Int×Int)}(hb:bs.length<=100):∀ (as acc:List (Int×Int)) (r:Option L),acc.length+100*as.length<=20000->∃ r',gO (aR 10) (pO K c) (as.map slD) [s0,s1,s2,s3,s4,s5,s6,s7,some (.o (.list (acc.map slD))),some (.p (.list (bs.map slD))),r,s11,s12,s13,s14,s15,s16]=some (.nx [s0,s1,s2,s3,s4,s5,s6,s7,some (.o (.list ((acc++as.flatMap fun a=>bs.map (sS a)).map slD))),some (.p (.list (bs.map slD))),r',s11,s12,s13,s14,s15,s16])
 | [],acc,r,_=>⟨r,by rw [bBh,aYk];rfl⟩
 | a :: as,acc,r,hl=>by
  rw [aWc] at hl
  have hm:mX (aZ 1 [10] (aR 0) fK (pP K c) [s0,s1,s2,s3,s4,s5,s6,s7,some (.o (.list (acc.map slD))),some (.p (.list (bs.map slD))),some (.p (slD a)),s11,s12,s13,s14,s15,s16]) (bs.map slD)=some (bs.map fun b=>slD (sS a b)):=by
   refine eD _ fun b hb'=>?_
   have x0:∀ y:Int×Int,ixE (.p (slD y)) (.p (.int 0))=.ok (.p (.int y.1)):=fun y=>kN _ _
   have x1:∀ y:Int×Int,ixE (.p (slD y)) (.p (.int 1))=.ok (.p (.int y.2)):=fun y=>kQ _ _ _
   have he:pP K c [some (.p (slD b)),some (.p (slD a))]=.ok (.p (slD (sS a b))):=aPj (bA (bA rfl rfl (x0 a)) (bA rfl rfl (x0 b)) (kL _ _)) (bA (bA rfl rfl (x1 a)) (bA rfl rfl (x1 b)) (kL _ _))
   unfold aZ
   ktr_call 3 ⟨aR,fK,o9,xJ,List.replicate,aZt,aZd,he,Ev.c⟩
   try rfl
  have hc:=jF (n:=1) (js:=[10]) (fi:=gH (aD 9)) (tg:=aR 0) (ft:=fK) (fe:=pP K c) (en:=[s0,s1,s2,s3,s4,s5,s6,s7,some (.o (.list (acc.map slD))),some (.p (.list (bs.map slD))),some (.p (slD a)),s11,s12,s13,s14,s15,s16]) (ds:=bs.map slD) rfl (by rw [aWb];omega) hm
  have ha:eJ (.b (.list (acc.map slD))) (.p (.list (bs.map fun b=>slD (sS a b))))=.ok (.f (.list ((acc++bs.map (sS a)).map slD))):=by
   unfold eJ
   dsimp only [eZ]
   rw [aWm (by rw [aWb,aWb];omega),aXb,aXm]
   rfl
  have hb3:pO K c [s0,s1,s2,s3,s4,s5,s6,s7,some (.o (.list (acc.map slD))),some (.p (.list (bs.map slD))),some (.p (slD a)),s11,s12,s13,s14,s15,s16]=some (.nx [s0,s1,s2,s3,s4,s5,s6,s7,some (.o (.list ((acc++bs.map (sS a)).map slD))),some (.p (.list (bs.map slD))),some (.p (slD a)),s11,s12,s13,s14,s15,s16]):=iB (bA rfl hc ha)
  obtain ⟨r',ih⟩:=aDm K c s0 s1 s2 s3 s4 s5 s6 s7 s11 s12 s13 s14 s15 s16 hb as (acc++bs.map (sS a)) (some (.p (slD a))) (by rw [aWq,aWb];omega)
  refine ⟨r',(aPv rfl hb3).trans ?_⟩
  rw [aY9] at ih
  exact ih
theorem aQu(p:Int×Int)(ps:List (Int×Int)):decide (countIn (slD p) (ps.map slD)≠0)=decide (p∈ps):=by
 rw [decide_eq_decide,countIn_ne_zero,aWg]
 constructor
 ·rintro ⟨q,hq,e⟩
  rw [<- kI _ _ e]
  exact hq
 ·intro h
  exact ⟨p,h,rfl⟩
theorem aQr(p q:Int×Int):SeqAt.noMix (slD p) (slD q)=true:=by simp [slD,SeqAt.noMix,SeqAt.noMixAll]
theorem aS3(p:Int×Int):SeqAt.shaped (slD p)=true:=by simp [slD,SeqAt.shaped,PyData.canLay0,PyData.canLayAll0,PyData.depth,PyData.depthAll]
theorem aRa(p:Int×Int)(ps:List (Int×Int))(h:p∈ps):aHj true (.p (slD p)) (.p (.list (ps.map slD)))=.ok (.p (.bool false)):=by
 unfold aHj
 simp only [dat]
 rw [aWm ⟨aS3 p,aFa ps,fun z hz=>by obtain ⟨q,_,rfl⟩:=aWg.mp hz;exact aQr q p⟩]
 rw [aWm trivial,aQu,aXg h]
 rfl
theorem aN4{en:En}{ts ss:List (Int×Int)}(h8:en[8]? = some (some (.p (.list (ss.map slD)))))(h13:aD 13 en=.ok (.p (.list (ts.map slD))))(hl:ts.length<=1000)(h:∀ t∈ts,t∈ss):(dW 1 [8] (gH (aD 13)) (aR 0) (bP (aE (aHj true) (aD 0) (aD 1))) (pG K c)) en=.ok (.f (.list [])):=by
 have hm:mX (aZ 1 [8] (aR 0) (bP (aE (aHj true) (aD 0) (aD 1))) (pG K c) en) (ts.map slD)=some ((ts.filter fun _=>false).map slD):=pN ts fun t ht=>by
  have hf:(bP (aE (aHj true) (aD 0) (aD 1))) [some (.p (slD t)),some (.p (.list (ss.map slD)))]=.ok false:=j9 (bA rfl rfl (aRa t ss (h t ht)))
  have cap:o9 [8] en=[some (.p (.list (ss.map slD)))]:=by
   unfold o9
   simp only [aWo,aYq,h8,xJ]
  unfold aZ
  rw [cap]
  ktr_call 3 ⟨aR,List.replicate,aZt,aZd,hf⟩
  try rfl
 rw [show ts.filter (fun _=>false)=[] from List.filter_eq_nil_iff.mpr fun _ _=>aXq] at hm
 refine jF (ds:=ts.map slD) ?_ (by rw [aWb];omega) hm
 exact aMl h13 rfl
theorem aTx(hk:iH K c)(own:Bool)(vs cs:List Int)(kd fi:Int){ps qs:List Pl}{pt:Pt}(hp:DR ps)(hq:DR qs)(gpt:GPt pt):aOm K c [some (.p (.list (vs.map .int))),some (.p (.bool own)),some (.p (.int kd)),some (.p (.list (cs.map .int))),some (.p (.list (ps.map plD))),some (.p (.list (qs.map plD))),some (.p (.int fi)),some (.p (.tuple [frD pt.1,frD pt.2])),none,none,none,none,none,none,none,none,none]=some (.rt (.p (.bool true))):=by
 have g:Pp pt:=⟨gpt.x.1,gpt.y.1⟩
 have pp:Pos ps:=fun p h=>(hp.g p h).2.p
 have qp:Pos qs:=fun p h=>(hq.g p h).2.p
 have Gp:∀ q∈ps,iD q pt:=fun q h=>(hp.g q h).gpb.at gpt
 have Gq:∀ q∈qs,iD q pt:=fun q h=>(hq.g q h).gpb.at gpt
 have lp:=hp.l
 have lq:=hq.l
 have sa:=aHf K c hp.n (by omega) Gp
 have sb:=aHf K c hq.n (by omega) Gq
 have sl:(dM ps qs).length<=16:=by
  rw [uN]
  have:=bA4 lp lq
  omega
 have s0:dM ps qs≠[]:=by
  have:=uN ps qs
  intro z
  rw [z] at this
  have h1:=aYx.mpr hp.n
  have h2:=aYx.mpr hq.n
  have:=Nat.mul_pos h1 h2
  simp only [aXc] at *
  omega
 have sg:∀ r∈dM ps qs,(0<=r.1/\r.1<=8/\0<=r.2.1/\r.2.1<=8)/\GN 86 10 r.2.2:=fun r hr=>by
  obtain ⟨p,h1,q,h2,rfl⟩:=mem_sums.mp hr
  obtain ⟨⟨a1,a2,a3,a4⟩,a5⟩:=hp.g p h1
  obtain ⟨⟨b1,b2,b3,b4⟩,b5⟩:=hq.g q h2
  unfold slp at a1 a2 a3 a4 b1 b2 b3 b4
  dsimp only at a1 a2 a3 a4 b1 b2 b3 b4
  unfold pS
  dsimp only
  exact ⟨⟨by omega,by omega,by omega,by omega⟩,aTo a5 b5⟩
 have spos:Pos (dM ps qs):=fun r hr=>(sg r hr).2.p
 have sst:∀ r∈dM ps qs,stp (slp r)=false:=fun r hr=>by
  obtain ⟨⟨a1,a2,a3,a4⟩,_⟩:=sg r hr
  unfold stp slp
  dsimp only
  rw [Bool.or_eq_false_iff]
  exact ⟨aW0 (by split<;>omega),aW0 (by split<;>omega)⟩
 have ad:=aCd K c (ps:=ps) (qs:=qs) (by omega) (by omega) (fun p h=>⟨(hp.g p h).2.p,(hp.g p h).2.t.mono (by decide),(hp.g p h).2.s.mono (by decide)⟩) (fun p h=>⟨(hq.g p h).2.p,(hq.g p h).2.t.mono (by decide),(hq.g p h).2.s.mono (by decide)⟩)
 rw [aHs s0 sst sl] at ad
 have wn:=aGt spos s0
 have wl:(cY (hbM (dM ps qs))).length<=16:=by rw [iL];exact aXk (aE2 _) sl
 have wg:∀ r∈cY (hbM (dM ps qs)),(0<=r.1/\r.1<=8/\0<=r.2.1/\r.2.1<=8)/\GN 86 10 r.2.2:=fun r hr=>sg r (mR spos hr)
 have wt:=aIb hp.n hq.n pp qp g spos s0
 have la:((kB ps pt).map slp).length<=4:=by rw [aWb];exact aXk (aZ6 _ _) lp
 have lb:((kB qs pt).map slp).length<=4:=by rw [aWb];exact aXk (aZ6 _ _) lq
 generalize cY (hbM (dM ps qs))=ws at *
 generalize (kB ps pt).map slp=as at *
 generalize (kB qs pt).map slp=bs at *
 have wp:Pos ws:=fun r hr=>(wg r hr).2.p
 have Gw:∀ r∈ws,iD r pt:=fun r hr=>by
  obtain ⟨⟨a1,a2,a3,a4⟩,k⟩:=wg r hr
  exact ⟨(show Sz 4 r.1 by unfold Sz;omega).mono (by decide),(show Sz 4 r.2.1 by unfold Sz;omega).mono (by decide),⟨k.p,k.t.mono (by decide),k.s.mono (by decide)⟩,gpt.x.mono (by decide),gpt.y.mono (by decide)⟩
 have fd:=nS K c wn (by omega) Gw
 have to:=xP K c ws pt wn (by omega) Gw
 have tl:=zP ws pt
 have tn:=aEk wn (by omega) Gw
 have tq:=aGa Gw
 obtain ⟨r10,h10⟩:=aDm K c (some (.p (.list (vs.map .int)))) (some (.p (.bool own))) (some (.p (.int kd))) (some (.p (.list (cs.map .int)))) (some (.p (.list (ps.map plD)))) (some (.p (.list (qs.map plD)))) (some (.p (.int fi))) (some (.p (.tuple [frD pt.1,frD pt.2]))) none none none none none none (bs:=bs) (by omega) as [] none (by rw [aXc];omega)
 rw [aZd] at h10
 have sle:(as.flatMap fun a=>bs.map (sS a)).length<=16:=by
  have:∀ as:List (Int×Int),(as.flatMap fun a=>bs.map (sS a)).length=as.length*bs.length:=fun as=>by
   induction as with
   | nil=>rw [bBh,aXc,Nat.zero_mul]
   | cons a as ih=>rw [List.flatMap_cons,aWq,aWb,ih,aWc,Nat.succ_mul,Nat.add_comm]
  rw [this]
  have:=bA4 la lb
  omega
 generalize (as.flatMap fun a=>bs.map (sS a))=ss at *
 have sn:ss≠[]:=fun z=>by
  cases e:oP ws pt with
  | nil=>exact tn e
  | cons t r =>
   have:=(wt t).mp (by rw [e];exact .head _)
   rw [z] at this
   cases this
 have sq:∀ s∈ss,GQ s:=fun s hs=>tq s ((wt s).mpr hs)
 have hd:=sZ K c (ps:=ss) (by omega) sn sq
 have hd2:=sZ K c (ps:=oP ws pt) (by omega) tn tq
 have er:iW (oP ws pt)=iW ss:=uE wt
 rw [er] at fd hd2
 have n2001:(2001:Int)≠0:=by decide
 have n7:(7:Int)≠0:=by decide
 have n41:(41:Int)≠0:=by decide
 have n3:(3:Int)≠0:=by decide
 have n4:(4:Int)≠0:=by decide
 have d3:iG fi 3:=cdl (by decide) (by decide)
 have d5:iG fi 5:=cdl (by decide) (by decide)
 have f1:=cF (a:=fi) (b:=2001) (by decide)
 have f2:=cF (a:=fi) (b:=7) (by decide)
 have f3:=cF (a:=fi.fdiv 3) (b:=41) (by decide)
 have f4:=cF (a:=fi) (b:=3) (by decide)
 have f5:=cF (a:=fi.fdiv 5) (b:=41) (by decide)
 have f6:=cF (a:=fi) (b:=4) (by decide)
 have lo:=lT K c (t:=fi.fmod 2001 - 1000) (b:=1+fi.fmod 7) (by omega) ((show Sz 4 _ by unfold Sz;omega).mono (by decide))
 have gh:GN 11 4 (FR.mk (fi.fmod 2001 - 1000) (1+fi.fmod 7)):=aCl (by omega) (by unfold Sz;omega) (by unfold Sz;omega)
 have lx:=lT K c (t:=(fi.fdiv 3).fmod 41 - 20) (b:=1+fi.fmod 3) (by omega) ((show Sz 4 _ by unfold Sz;omega).mono (by decide))
 have gx:GN 6 4 (FR.mk ((fi.fdiv 3).fmod 41 - 20) (1+fi.fmod 3)):=aCl (by omega) (by unfold Sz;omega) (by unfold Sz;omega)
 have ly:=lT K c (t:=(fi.fdiv 5).fmod 41 - 20) (b:=1+fi.fmod 4) (by omega) ((show Sz 4 _ by unfold Sz;omega).mono (by decide))
 have gy:GN 6 4 (FR.mk ((fi.fdiv 5).fmod 41 - 20) (1+fi.fmod 4)):=aCl (by omega) (by unfold Sz;omega) (by unfold Sz;omega)
 generalize FR.mk (fi.fmod 2001 - 1000) (1+fi.fmod 7)=hh at lo gh
 generalize FR.mk ((fi.fdiv 3).fmod 41 - 20) (1+fi.fmod 3)=sx at lx gx
 generalize FR.mk ((fi.fdiv 5).fmod 41 - 20) (1+fi.fmod 4)=sy at ly gy
 obtain ⟨st,est⟩:∃ st:Pt,st=(sx,sy):=⟨_,rfl⟩
 have ex:sx=st.1:=by rw [est]
 have ey:sy=st.2:=by rw [est]
 rw [ex] at lx gx
 rw [ey] at ly gy
 have gst:Pp st:=⟨gx.p,gy.p⟩
 have G6:Good 6 st.1/\Good 6 st.2:=⟨⟨gx.p,gx.t,gx.s.mono (by decide)⟩,⟨gy.p,gy.t,gy.s.mono (by decide)⟩⟩
 have up:=aOv K c (ps:=ws) (g:=hh) (by omega) ⟨gh.p,gh.t.mono (by decide),gh.s.mono (by decide)⟩ (fun r hr=>⟨(wg r hr).2.p,(wg r hr).2.t.mono (by decide),(wg r hr).2.s.mono (by decide)⟩)
 have Gu:∀ r∈ws.map (upP hh),iD r pt:=fun r hr=>by
  obtain ⟨q,hq,rfl⟩:=aWg.mp hr
  have k:=Gw q hq
  have k2:=aTo (wg q hq).2 gh
  exact ⟨k.i,k.j,⟨k2.p,k2.t.mono (by decide),k2.s.mono (by decide)⟩,k.x,k.y⟩
 have fd2:=nS K c (ps:=ws.map (upP hh)) (pt:=pt) (by simpa using wn) (by rw [aWb];omega) Gu
 rw [uE (aOh wn wp g gh.f),er] at fd2
 have mv:=aMu K c (ps:=ws) (pt:=st) (by omega) (G6.1.mono (by decide)) (G6.2.mono (by decide)) (fun r hr=>by
  have k:=Gw r hr
  obtain ⟨⟨a1,a2,a3,a4⟩,_⟩:=wg r hr
  exact ⟨(show Sz 4 r.1 by unfold Sz;omega).mono (by decide),(show Sz 4 r.2.1 by unfold Sz;omega).mono (by decide),k.h.mono (by decide),(tL G6.1).mono (by decide),(tL G6.2).mono (by decide)⟩)
 have Gm':∀ r∈ws.map (mvP st),iD r (glP pt st):=fun r hr=>by
  obtain ⟨q,hq,rfl⟩:=aWg.mp hr
  obtain ⟨⟨a1,a2,a3,a4⟩,k⟩:=wg q hq
  have k2:Good 113 (mvP st q).2.2:=tJ (tJ (s8 (show Sz 4 q.1 by unfold Sz;omega) (tL G6.1)) (s8 (show Sz 4 q.2.1 by unfold Sz;omega) (tL G6.2))) (n:=86) ⟨k.p,k.t,k.s.mono (by decide)⟩ |>.mono (by decide)
  exact ⟨(show Sz 4 q.1 by unfold Sz;omega).mono (by decide),(show Sz 4 q.2.1 by unfold Sz;omega).mono (by decide),k2.mono (by decide),(tJ gpt.x G6.1).mono (by decide),(tJ gpt.y G6.2).mono (by decide)⟩
 have fd3:=nS K c (ps:=ws.map (mvP st)) (pt:=glP pt st) (by simpa using wn) (by rw [aWb];omega) Gm'
 rw [uE (aO4 wn wp g gst),er] at fd3
 have u1:cI K c [.p (frD pt.1),.p (frD st.1)]=.ok (.p (frD (glP pt st).1)):=vG K c gpt.x G6.1 (by decide) (by decide)
 have u2:cI K c [.p (frD pt.2),.p (frD st.2)]=.ok (.p (frD (glP pt st).2)):=vG K c gpt.y G6.2 (by decide) (by decide)
 have wtt:∀ t∈oP ws pt,t∈ss:=fun t ht=>(wt t).mp ht
 have tl2:(oP ws pt).length<=1000:=by omega
 generalize rA (iW ss)=hu at *
 generalize oP ws pt=ts at *
 have ish:=aFu K c hk hu
 have pe:∀ x:Pt,ixE (.p (.tuple [frD x.1,frD x.2])) (.p (.int 0))=.ok (.p (frD x.1)):=fun x=>kN _ _
 have pf:∀ x:Pt,ixE (.p (.tuple [frD x.1,frD x.2])) (.p (.int 1))=.ok (.p (frD x.2)):=fun x=>kQ _ _ _
 unfold aOm
 refine (aQ (iB (d:=.list []) rfl)).trans ((aQ (iB (lF (cM rfl (cM rfl rfl)) rfl rfl sb))).trans ?_)
 refine oQ (i:=9) (e1:=[some (.p (.list (vs.map .int))),some (.p (.bool own)),some (.p (.int kd)),some (.p (.list (cs.map .int))),some (.p (.list (ps.map plD))),some (.p (.list (qs.map plD))),some (.p (.int fi)),some (.p (.tuple [frD pt.1,frD pt.2])),some (.o (.list [])),some (.p (.list ((bs).map slD))),none,none,none,none,none,none,none]) rfl ((aQ ((sH (aMl (lF (cM rfl (cM rfl rfl)) rfl rfl sa) rfl)).trans h10)).trans ?_)
 refine oQ (i:=8) (e1:=[some (.p (.list (vs.map .int))),some (.p (.bool own)),some (.p (.int kd)),some (.p (.list (cs.map .int))),some (.p (.list (ps.map plD))),some (.p (.list (qs.map plD))),some (.p (.int fi)),some (.p (.tuple [frD pt.1,frD pt.2])),some (.p (.list ((ss).map slD))),some (.p (.list ((bs).map slD))),r10,none,none,none,none,none,none]) rfl ((aQ (iB (sY rfl hd))).trans ?_)
 refine oQ (i:=11) (e1:=[some (.p (.list (vs.map .int))),some (.p (.bool own)),some (.p (.int kd)),some (.p (.list (cs.map .int))),some (.p (.list (ps.map plD))),some (.p (.list (qs.map plD))),some (.p (.int fi)),some (.p (.tuple [frD pt.1,frD pt.2])),some (.p (.list ((ss).map slD))),some (.p (.list ((bs).map slD))),r10,some (.p (.list ((hu).map slD))),none,none,none,none,none]) rfl ((aQ (iB (lF (cM (kG (o:=.ok (.f (.list (ps.map plD)))) rfl rfl) (cM (kG (o:=.ok (.f (.list (qs.map plD)))) rfl rfl) rfl)) rfl rfl ad))).trans ?_)
 refine oQ (i:=12) (e1:=[some (.p (.list (vs.map .int))),some (.p (.bool own)),some (.p (.int kd)),some (.p (.list (cs.map .int))),some (.p (.list (ps.map plD))),some (.p (.list (qs.map plD))),some (.p (.int fi)),some (.p (.tuple [frD pt.1,frD pt.2])),some (.p (.list ((ss).map slD))),some (.p (.list ((bs).map slD))),r10,some (.p (.list ((hu).map slD))),some (.p (.list (ws.map plD))),none,none,none,none]) rfl ((aQ ((kH (aCu (b:=true) (j9 (lF (cM (lF (cM rfl (cM rfl rfl)) rfl rfl fd) (cM rfl rfl)) rfl rfl ish)))).trans rfl)).trans ((aQ (iB (lF (cM rfl (cM rfl rfl)) rfl rfl to))).trans ?_))
 refine oQ (i:=13) (e1:=[some (.p (.list (vs.map .int))),some (.p (.bool own)),some (.p (.int kd)),some (.p (.list (cs.map .int))),some (.p (.list (ps.map plD))),some (.p (.list (qs.map plD))),some (.p (.int fi)),some (.p (.tuple [frD pt.1,frD pt.2])),some (.p (.list ((ss).map slD))),some (.p (.list ((bs).map slD))),r10,some (.p (.list ((hu).map slD))),some (.p (.list (ws.map plD))),some (.p (.list ((ts).map slD))),none,none,none]) rfl ((aQ ((kH (aSt (j9 (bA (aRl (aN4 K c rfl rfl tl2 wtt) (o:=.ok (.p (.int 0))) rfl) rfl aUw)) (j9 (bA (sY rfl hd2) rfl (aAm rfl rfl (aFa hu) true))))).trans rfl)).trans ?_)
 refine (aQ (cU (jT (bA (bA rfl rfl (eP n2001)) rfl (qG _ _)) (bA rfl (bA rfl rfl (eP n7)) (kL _ _)) lo))).trans ?_
 refine (aQ (cU (aPj (jT (bA (bA (bA rfl rfl (fI d3)) rfl (eP n41)) rfl (qG _ _)) (bA rfl (bA rfl rfl (eP n3)) (kL _ _)) lx) (jT (bA (bA (bA rfl rfl (fI d5)) rfl (eP n41)) rfl (qG _ _)) (bA rfl (bA rfl rfl (eP n4)) (kL _ _)) ly)))).trans ?_
 refine (aQ ((kH (aCu (b:=true) (j9 (lF (cM (lF (cM (lF (cM rfl (cM rfl rfl)) rfl rfl up) (cM rfl rfl)) rfl rfl fd2) (cM rfl rfl)) rfl rfl ish)))).trans rfl)).trans ?_
 refine (aQ (cU (aPj (jT (bA rfl rfl (pe pt)) (bA rfl rfl (pe st)) u1) (jT (bA rfl rfl (pf pt)) (bA rfl rfl (pf st)) u2)))).trans (jY ?_)
 exact lF (cM (lF (cM (lF (cM rfl (cM rfl rfl)) rfl rfl mv) (cM rfl rfl)) rfl rfl fd3) (cM rfl rfl)) rfl rfl ish
theorem aQq(hk:iH K c)(ns:List Int)(hn:ns.length<=63):aB9 K c [.p (.list (ns.map .int))]=.ok (.p (.bool true)):=by
 obtain ⟨own,vs,cs,kd,fi,ps,qs,pt,hp,hq,gpt,h⟩:=aT8 K c ns hn
 unfold aB9
 exact b8 (h.trans (aTx K c hk own vs cs kd fi hp hq gpt))
local macro_rules | `(tactic| walk_at "s") => `(tactic| exact ⟨rfl,rfl,rfl,by decide +kernel,rfl,by decide +kernel,by decide +kernel⟩)
section
variable {P:Program}{w:World}{K:aV9}{mg:Str->Option Value}{base:Heap}
theorem aJo:a9 ["a","b"] ["a","b"] (aT uY):=by walk_at "s"
theorem aIk{c:Cls}(Df:Def K mg "times" ["a","b"] uY)(B:Blt mg)(C:i8 mg c)(O:jB mg base c)(hk:iH K c)(c_fraction:Cal P w K mg base 2 "fraction" 2 (dZ K c)):Cal P w K mg base 3 "times" 2 (iR K c):=by
 refine jP (k:=2) Df aJo rfl (fun f b A o s H E hr=>⟨yU K c,?_,aH3 K c⟩)
 exact (aN (bC (aK c_fraction hr bL (aA (aJ aU a7 aF (aO (dv 0) aC ra) (aO (dv 1) aC ra)) (aA (aJ aU a7 aF (aO (dv 0) aC ra) (aO (dv 1) aC ra)) aI)))))
theorem sc_law:a9 ["_law_script","_law_own","_law_kind","_law_cells_here","_law_one","_law_other","_law_first","_law_point","_law_sums","_law_behind","_law_slope","_law_due","_law_whole_here","_law_high","_law_height","_law_step","_law_goal"] ["_law_script"] (aT wX):=by walk_at "s"
theorem aPp{c:Cls}{f:Addr}{fd:FuncData}(F:Fun K "law" "law" wX f fd)(B:Blt mg)(C:i8 mg c)(O:jB mg base c)(hk:iH K c)(c__law_is_hull:Cal P w K mg base 2 "_law_is_hull" 2 (bS K c))(c_field:Cal P w K mg base 5 "field" 2 (iF K c))(c_moved:Cal P w K mg base 5 "moved" 2 (k8 K c))(c__law_sum:Cal P w K mg base 2 "_law_sum" 2 (cI K c))(c_raised:Cal P w K mg base 4 "raised" 2 (jC K c))(c__law_low:Cal P w K mg base 1 "_law_low" 2 (aX K c))(c__law_hull_by:Cal P w K mg base 3 "_law_hull_by" 1 (b9 K c))(c_tops:Cal P w K mg base 4 "tops" 2 (l0 K c))(c_added:Cal P w K mg base 4 "added" 2 (k9 K c))(c__law_slopes_at:Cal P w K mg base 3 "_law_slopes_at" 2 (bN K c))(c__law_mixed_point:Cal P w K mg base 3 "_law_mixed_point" 3 (bU K c))(c__law_point_by:Cal P w K mg base 3 "_law_point_by" 3 (cW K c))(c__law_cell_at:Cal P w K mg base 1 "_law_cell_at" 2 (a8 K c))(c__law_any_roof:Cal P w K mg base 2 "_law_any_roof" 2 (bW K c))(c__law_roof_by:Cal P w K mg base 3 "_law_roof_by" 4 (cD K c))(c__law_cells:Cal P w K mg base 3 "_law_cells" 1 (dG K c)):FnOk P w K mg base (CXr P w) 6 f fd ["_law_script"] (spM K 1 (aB9 K c)):=by
 refine fnM (k:=5) F sc_law rfl (fun cdv A outer s H E hr=>⟨aEx K c,?_,aQb K c⟩)
 exact (aG (aLj (aK c__law_cells hr bL (aA (dv 0) aI)) (aAp (n:=2) rfl (jG (bV (i:=1) sc_law.nd rfl (Or.inl rfl)) (jG (bV (i:=0) sc_law.nd rfl (Or.inl rfl)) u5)))) (aG (aV (i:=2) sc_law.nd rfl (Or.inl rfl) (aK c__law_cell_at hr bL (aA (dv 0) (aA aC aI)))) (aG (aV (i:=3) sc_law.nd rfl (Or.inr rfl) (yY (dv 0) (kA aC) (kA aC))) (gC 3 (aG (eX (kJ (dv 1)) (aG (aV (i:=4) sc_law.nd rfl (Or.inl rfl) (aK c__law_any_roof hr bL (aA (yY (dv 3) qC (kA (aJ aW bG aF (dv 2) aC))) (aA aC aI)))) (aN (aV (i:=5) sc_law.nd rfl (Or.inl rfl) (aK c__law_any_roof hr bL (aA (yY (dv 3) (kA (aJ aW bG aF (dv 2) aC)) (kA (aJ bM cN bR (aJ aW bG aF (dv 2) aC) (aJ aW bG aF (aJ bF bZ aF (dv 2) aC) aC)))) (aA aC aI)))))) (aG (aV (i:=4) sc_law.nd rfl (Or.inl rfl) (aK c__law_roof_by hr bL (aA (dv 2) (aA (eM (xs:=["_law_k"]) (ys:=["_law_cells_here"]) (js:=[3]) (cl:=[("_law_cells_here",s.heap.objs.size+1)]) rfl (wK rfl B.range_ (aA aC (aA (bJ bE gJ eK rfl B.len_ aXh (aA (dv 3) aI)) (aA aC aI)))) (kF (ys:=["_law_cells_here"]) (js:=[3]) rfl (aW3.mpr ⟨rfl,(fun _ h=>nomatch h)⟩) (bB ⟨rfl,.inl rfl,.inl rfl,rfl,rfl⟩ bQ) (by decide +kernel) (by decide +kernel)) (bB ⟨rfl,.inl rfl,.inl rfl,rfl,rfl⟩ bQ) (by decide +kernel) rfl (by decide +kernel) rfl (by decide) (fun C s₀ H₀ ex pn=>(bV (i:=0) (show (["_law_k","_law_cells_here"]:List Str).Nodup by decide +kernel) rfl (Or.inl rfl))) (fun C s₀ H₀ ex pn=>fJ) (fun C s₀ H₀ ex pn=>(aO (dv 1) (dv 0) ra))) (aA aC (aA aC aI)))))) (aN (aV (i:=5) sc_law.nd rfl (Or.inl rfl) (aK c__law_roof_by hr bL (aA (aK c__law_cell_at hr bL (aA (dv 0) (aA aC aI))) (aA (eM (xs:=["_law_k"]) (ys:=["_law_cells_here"]) (js:=[3]) (cl:=[("_law_cells_here",s.heap.objs.size+1)]) rfl (wK rfl B.range_ (aA aC (aA (bJ bE gJ eK rfl B.len_ aXh (aA (dv 3) aI)) (aA aC aI)))) (kF (ys:=["_law_cells_here"]) (js:=[3]) rfl (aW3.mpr ⟨rfl,(fun _ h=>nomatch h)⟩) (bB ⟨rfl,.inl rfl,.inl rfl,rfl,rfl⟩ bQ) (by decide +kernel) (by decide +kernel)) (bB ⟨rfl,.inl rfl,.inl rfl,rfl,rfl⟩ bQ) (by decide +kernel) rfl (by decide +kernel) rfl (by decide) (fun C s₀ H₀ ex pn=>(bV (i:=0) (show (["_law_k","_law_cells_here"]:List Str).Nodup by decide +kernel) rfl (Or.inl rfl))) (fun C s₀ H₀ ex pn=>fJ) (fun C s₀ H₀ ex pn=>(aO (dv 1) (dv 0) ra))) (aA aC (aA aC aI))))))))) (gC 4 (aG (aV (i:=6) sc_law.nd rfl (Or.inl rfl) (aK c__law_cell_at hr bL (aA (dv 0) (aA aC aI)))) (gC 5 (aG (aV (i:=7) sc_law.nd rfl (Or.inl rfl) (aK c__law_point_by hr bL (aA (dv 4) (aA (aJ bF bZ aF (dv 6) aC) (aA (aK c__law_cell_at hr bL (aA (dv 0) (aA aC aI))) aI))))) (aG (eX (dD (iX (u64 hr)) kZ iC (aJ aW bG aF (dv 6) aC) aC (cS _)) (aN (aV (i:=7) sc_law.nd rfl (Or.inl rfl) (aK c__law_mixed_point hr bL (aA (dv 4) (aA (dv 5) (aA (aJ bF bZ aF (dv 6) aC) aI)))))) cA) (aG (aV (i:=8) sc_law.nd rfl (Or.inr rfl) (s9 aI)) (aG (aV (i:=9) sc_law.nd rfl (Or.inl rfl) (aK c__law_slopes_at hr bL (aA (dv 5) (aA (dv 7) aI)))) (gC 9 (aG (lD aXj rfl (dC (aK c__law_slopes_at hr bL (aA (dv 4) (aA (dv 7) aI)))) (bV (i:=10) sc_law.nd rfl (Or.inr rfl)) (aN (aV (i:=8) sc_law.nd rfl (Or.inr rfl) (aJ bM cN bR (dv 8) (eM (xs:=["_law_mate"]) (ys:=["_law_slope"]) (js:=[10]) (cl:=[("_law_slope",s.heap.objs.size+1+1+1)]) rfl (dC (dv 9)) (kF (ys:=["_law_slope"]) (js:=[10]) rfl (aW3.mpr ⟨rfl,(fun _ h=>nomatch h)⟩) (bB ⟨rfl,.inl rfl,.inl rfl,rfl,rfl⟩ bQ) (by decide +kernel) (by decide +kernel)) (bB ⟨rfl,.inl rfl,.inl rfl,rfl,rfl⟩ bQ) (by decide +kernel) rfl (by decide +kernel) rfl (by decide) (fun C s₀ H₀ ex pn=>(bV (i:=0) (show (["_law_mate","_law_slope"]:List Str).Nodup by decide +kernel) rfl (Or.inl rfl))) (fun C s₀ H₀ ex pn=>fJ) (fun C s₀ H₀ ex pn=>(cC (aA (aJ bM cN bR (aO (dv 1) aC ra) (aO (dv 0) aC ra)) (aA (aJ bM cN bR (aO (dv 1) aC ra) (aO (dv 0) aC ra)) aI))))))))) (gC 8 (aG (aV (i:=11) sc_law.nd rfl (Or.inl rfl) (aK c__law_hull_by hr bL (aA (dv 8) aI))) (gC 11 (aG (aV (i:=12) sc_law.nd rfl (Or.inl rfl) (aK c_added hr bL (aA (pT k7 zJ vQ rfl B.list_ tX (aA (dv 4) aI)) (aA (pT k7 zJ vQ rfl B.list_ tX (aA (dv 5) aI)) aI)))) (gC 12 (aG (eX (qO (kJ (aK c__law_is_hull hr bL (aA (aK c_field hr bL (aA (dv 12) (aA (dv 7) aI))) (aA (dv 11) aI))))) (aN (bC w5)) cA) (aG (aV (i:=13) sc_law.nd rfl (Or.inl rfl) (aK c_tops hr bL (aA (dv 12) (aA (dv 7) aI)))) (gC 13 (aG (eX (DW.t (yA (dD yH hX aS (bJ bE gJ eK rfl B.len_ aXh (aA (eM (xs:=["_law_slope"]) (ys:=["_law_sums"]) (js:=[8]) (cl:=[("_law_sums",s.heap.objs.size+1+1)]) rfl (dC (dv 13)) (kF (ys:=["_law_sums"]) (js:=[8]) rfl (aW3.mpr ⟨rfl,(fun _ h=>nomatch h)⟩) (bB ⟨rfl,.inl rfl,.inl rfl,rfl,rfl⟩ bQ) (by decide +kernel) (by decide +kernel)) (bB ⟨rfl,.inl rfl,.inl rfl,rfl,rfl⟩ bQ) (by decide +kernel) rfl (by decide +kernel) rfl (by decide) (fun C s₀ H₀ ex pn=>(bV (i:=0) (show (["_law_slope","_law_sums"]:List Str).Nodup by decide +kernel) rfl (Or.inl rfl))) (fun C s₀ H₀ ex pn=>(y6 (dD (aMn (u65 hr)) aQ9 aOf (dv 0) (dv 1) (by with_unfolding_all rfl)))) (fun C s₀ H₀ ex pn=>(dv 0))) aI)) aC (cS _)) (tH (dD (aGk (u64 hr)) kZ iC (aK c__law_hull_by hr bL (aA (dv 13) aI)) (dv 11) (cS _))))) (aN (bC w5)) cA) (aG (aV (i:=14) sc_law.nd rfl (Or.inl rfl) (aK c__law_low hr bL (aA (aJ dB cZ aS (aJ aW bG aF (dv 6) aC) aC) (aA (aJ bM cN bR aC (aJ aW bG aF (dv 6) aC)) aI)))) (aG (aV (i:=15) sc_law.nd rfl (Or.inl rfl) (cC (aA (aK c__law_low hr bL (aA (aJ dB cZ aS (aJ aW bG aF (aJ bF bZ aF (dv 6) aC) aC) aC) (aA (aJ bM cN bR aC (aJ aW bG aF (dv 6) aC)) aI))) (aA (aK c__law_low hr bL (aA (aJ dB cZ aS (aJ aW bG aF (aJ bF bZ aF (dv 6) aC) aC) aC) (aA (aJ bM cN bR aC (aJ aW bG aF (dv 6) aC)) aI))) aI)))) (aG (eX (qO (kJ (aK c__law_is_hull hr bL (aA (aK c_field hr bL (aA (aK c_raised hr bL (aA (dv 12) (aA (dv 14) aI))) (aA (dv 7) aI))) (aA (dv 11) aI))))) (aN (bC w5)) cA) (aG (aV (i:=16) sc_law.nd rfl (Or.inl rfl) (cC (aA (aK c__law_sum hr bL (aA (aO (dv 7) aC ra) (aA (aO (dv 15) aC ra) aI))) (aA (aK c__law_sum hr bL (aA (aO (dv 7) aC ra) (aA (aO (dv 15) aC ra) aI))) aI)))) (aN (bC (aK c__law_is_hull hr bL (aA (aK c_field hr bL (aA (aK c_moved hr bL (aA (dv 12) (aA (dv 15) aI))) (aA (dv 16) aI))) (aA (dv 11) aI))))))))))))))))))))))))))))))))
end
section
variable {P:Program}{w:World}{K:aV9}{mg:Str->Option Value}{base:Heap}
theorem yB:a9 ["plane"] ["plane"] (aT lH):=by walk_at "s"
theorem yD{c:Cls}(Df:Def K mg "slope_of" ["plane"] lH)(B:Blt mg)(C:i8 mg c)(O:jB mg base c)(hk:iH K c):Cal P w K mg base 1 "slope_of" 1 (eI K c):=by
 refine jP (k:=0) Df yB rfl (fun f b A o s H E hr=>⟨oA K c,?_,zB K c⟩)
 exact (aN (bC (cC (aA (aO (dv 0) aC ra) (aA (aO (dv 0) aC ra) aI)))))
theorem pU:a9 ["slope"] ["slope"] (aT gX):=by walk_at "s"
theorem qJ{c:Cls}(Df:Def K mg "is_too_steep" ["slope"] gX)(B:Blt mg)(C:i8 mg c)(O:jB mg base c)(hk:iH K c){t_STEEPEST:Tok}(c_STEEPEST:mg "STEEPEST" = some (.int 8 t_STEEPEST)):Cal P w K mg base 1 "is_too_steep" 1 (dU K c):=by
 refine jP (k:=0) Df pU rfl (fun f b A o s H E hr=>⟨jI K c,?_,rL K c⟩)
 exact (aN (bC (aTc (aAh wF hX aS (bJ (aDr rfl rfl) aKv aFl rfl B.min_ aPs (aA (dv 0) aI)) aC (cS _)) (aKq (aAh yH hX aS (bJ (aE0 rfl rfl) aKv aFl rfl B.max_ aFi (aA (dv 0) aI)) (aA3 rfl c_STEEPEST) (cS _))))))
theorem sc_turn:a9 ["start","middle","end","along","across"] ["start","middle","end"] (aT zO):=by walk_at "s"
theorem aMp{c:Cls}(Df:Def K mg "turn" ["start","middle","end"] zO)(B:Blt mg)(C:i8 mg c)(O:jB mg base c)(hk:iH K c):Cal P w K mg base 1 "turn" 3 (lU K c):=by
 refine jP (k:=0) Df sc_turn rfl (fun f b A o s H E hr=>⟨aFy K c,?_,aMc K c⟩)
 exact (aG (aV (i:=3) sc_turn.nd rfl (Or.inl rfl) (aJ aU a7 aF (aJ dB cZ aS (aO (dv 1) aC ra) (aO (dv 0) aC ra)) (aJ dB cZ aS (aO (dv 2) aC ra) (aO (dv 0) aC ra)))) (aG (aV (i:=4) sc_turn.nd rfl (Or.inl rfl) (aJ aU a7 aF (aJ dB cZ aS (aO (dv 1) aC ra) (aO (dv 0) aC ra)) (aJ dB cZ aS (aO (dv 2) aC ra) (aO (dv 0) aC ra)))) (aN (bC (aJ dB cZ aS (dv 3) (dv 4))))))
theorem sc__law_stirred:a9 ["_law_script","_law_prime","_law_made","_law_k","_law_cell"] ["_law_script"] (aT gW):=by walk_at "s"
theorem rY{c:Cls}(Df:Def K mg "_law_stirred" ["_law_script"] gW)(B:Blt mg)(C:i8 mg c)(O:jB mg base c)(hk:iH K c)(c__law_cell_at:Cal P w K mg base 1 "_law_cell_at" 2 (a8 K c)):Cal P w K mg base 2 "_law_stirred" 1 (cT K c):=by
 refine jP (k:=1) Df sc__law_stirred rfl (fun f b A o s H E hr=>⟨jN K c,?_,qR K c⟩)
 exact (aG (aV (i:=1) sc__law_stirred.nd rfl (Or.inl rfl) aC) (aG (aV (i:=2) sc__law_stirred.nd rfl (Or.inl rfl) (s9 aI)) (aG (lD aXj rfl (xF rfl B.range_ (aA (bJ (aG8 rfl) aSi aMg rfl B.max_ aFi (aA (bJ bE gJ eK rfl B.len_ aXh (aA (dv 0) aI)) (aA aC aI))) aI)) (bV (i:=3) sc__law_stirred.nd rfl (Or.inl rfl)) (aG (aV (i:=4) sc__law_stirred.nd rfl (Or.inl rfl) (aJ aW bG aF (aK c__law_cell_at hr bL (aA (dv 0) (aA (dv 3) aI))) (dv 1))) (aG (aV (i:=4) sc__law_stirred.nd rfl (Or.inl rfl) (aJ aW bG aF (aJ bM cN bR (aJ bM cN bR (aJ bM cN bR (aJ aU a7 aF (dv 4) aC) (aJ aU a7 aF (aJ aU a7 aF (dv 3) (dv 3)) aC)) (dv 3)) aC) (dv 1))) (aN (qW (i:=2) (aJ aW bG aF (aJ aU a7 aF (aJ aW bG aF (aJ aU a7 aF (dv 4) aC) (dv 1)) aC) (dv 1)) (fun t q=>nX (aIh aYo bAl bAm pZ (pv 2) (l9 q sX)))))))) (aN (bC (dv 2))))))
theorem sc__law_crossing:a9 ["_law_one","_law_other","_law_third","_law_a","_law_b","_law_w","_law_first","_law_second","_law_x","_law_y"] ["_law_one","_law_other","_law_third"] (aT gG):=by walk_at "s"
theorem oZ{c:Cls}(Df:Def K mg "_law_crossing" ["_law_one","_law_other","_law_third"] gG)(B:Blt mg)(C:i8 mg c)(O:jB mg base c)(hk:iH K c)(c__law_low:Cal P w K mg base 1 "_law_low" 2 (aX K c)):Cal P w K mg base 2 "_law_crossing" 3 (aY K c):=by
 refine jP (k:=1) Df sc__law_crossing rfl (fun f b A o s H E hr=>⟨iN K c,?_,pB K c⟩)
 exact (aG (aV (i:=3) sc__law_crossing.nd rfl (Or.inl rfl) (cC (aA (aJ dB cZ aS (aO (dv 0) aC ra) (aO (dv 1) aC ra)) (aA (aJ dB cZ aS (aO (dv 0) aC ra) (aO (dv 1) aC ra)) (aA (aJ dB cZ aS (aJ aU a7 aF (aO (aO (dv 1) aC ra) aC ra) (aO (aO (dv 0) aC ra) aC ra)) (aJ aU a7 aF (aO (aO (dv 0) aC ra) aC ra) (aO (aO (dv 1) aC ra) aC ra))) aI))))) (aG (aV (i:=4) sc__law_crossing.nd rfl (Or.inl rfl) (cC (aA (aJ dB cZ aS (aO (dv 0) aC ra) (aO (dv 2) aC ra)) (aA (aJ dB cZ aS (aO (dv 0) aC ra) (aO (dv 2) aC ra)) (aA (aJ dB cZ aS (aJ aU a7 aF (aO (aO (dv 2) aC ra) aC ra) (aO (aO (dv 0) aC ra) aC ra)) (aJ aU a7 aF (aO (aO (dv 0) aC ra) aC ra) (aO (aO (dv 2) aC ra) aC ra))) aI))))) (aG (aV (i:=5) sc__law_crossing.nd rfl (Or.inl rfl) (aJ dB cZ aS (aJ aU a7 aF (aO (dv 3) aC ra) (aO (dv 4) aC ra)) (aJ aU a7 aF (aO (dv 3) aC ra) (aO (dv 4) aC ra)))) (aG (eX (dD (iX (u64 hr)) kZ iC (dv 5) aC (cS _)) (aN (bC aQ0)) cA) (aG (aV (i:=6) sc__law_crossing.nd rfl (Or.inl rfl) (aJ aU a7 aF (aO (aO (dv 1) aC ra) aC ra) (aO (aO (dv 0) aC ra) aC ra))) (aG (aV (i:=7) sc__law_crossing.nd rfl (Or.inl rfl) (aJ aU a7 aF (aO (aO (dv 2) aC ra) aC ra) (aO (aO (dv 0) aC ra) aC ra))) (aG (aV (i:=8) sc__law_crossing.nd rfl (Or.inl rfl) (aJ dB cZ aS (aJ aU a7 aF (aJ aU a7 aF (aO (dv 3) aC ra) (aO (dv 4) aC ra)) (dv 7)) (aJ aU a7 aF (aJ aU a7 aF (aO (dv 4) aC ra) (aO (dv 3) aC ra)) (dv 6)))) (aG (aV (i:=9) sc__law_crossing.nd rfl (Or.inl rfl) (aJ dB cZ aS (aJ aU a7 aF (aJ aU a7 aF (aO (dv 4) aC ra) (aO (dv 3) aC ra)) (dv 6)) (aJ aU a7 aF (aJ aU a7 aF (aO (dv 3) aC ra) (aO (dv 4) aC ra)) (dv 7)))) (aN (bC (cC (aA (aK c__law_low hr bL (aA (dv 8) (aA (aJ aU a7 aF (aJ aU a7 aF (dv 5) (dv 6)) (dv 7)) aI))) (aA (aK c__law_low hr bL (aA (dv 9) (aA (aJ aU a7 aF (aJ aU a7 aF (dv 5) (dv 6)) (dv 7)) aI))) aI)))))))))))))
theorem sc__law_half_hull:a9 ["_law_row","_law_made","_law_one"] ["_law_row"] (aT fQ):=by walk_at "s"
theorem nP{c:Cls}(Df:Def K mg "_law_half_hull" ["_law_row"] fQ)(B:Blt mg)(C:i8 mg c)(O:jB mg base c)(hk:iH K c)(c__law_turn:Cal P w K mg base 1 "_law_turn" 3 (fS K c)):Cal P w K mg base 2 "_law_half_hull" 1 (bO K c):=by
 refine jP (k:=1) Df sc__law_half_hull rfl (fun f b A o s H E hr=>⟨kK K c,?_,nR K c⟩)
 exact (aG (aV (i:=1) sc__law_half_hull.nd rfl (Or.inl rfl) (s9 aI)) (aG (lD aXj rfl (dC (dv 0)) (bV (i:=2) sc__law_half_hull.nd rfl (Or.inl rfl)) (aG (pJ aXj (DW.t (aLe (dD yH hX aS (bJ bE gJ eK rfl B.len_ aXh (aA (dv 1) aI)) aC (cS _)) (aGf (dD aRd hX aS (aK c__law_turn hr bL (aA (aO (dv 1) (kW aC) ra) (aA (aO (dv 1) (kW aC) ra) (aA (dv 2) aI)))) aC (cS _))))) (aN (aLz (i:=1) (nX (aKo aYo PySem.F.slot_list_pop PySem.F.type_list_pop aK6 (pv 1)))))) (aN (qW (i:=1) (dv 2) (fun t q=>nX (aIh aYo bAl bAm pZ (pv 1) (l9 q sX))))))) (aN (bC (dv 1)))))
theorem nV:a9 ["_law_roof","_law_point"] ["_law_roof","_law_point"] (aT fN):=by walk_at "s"
theorem oJ{c:Cls}(Df:Def K mg "_law_slopes_at" ["_law_roof","_law_point"] fN)(B:Blt mg)(C:i8 mg c)(O:jB mg base c)(hk:iH K c)(c__law_tops_by:Cal P w K mg base 2 "_law_tops_by" 2 (dH K c)):Cal P w K mg base 3 "_law_slopes_at" 2 (bN K c):=by
 refine jP (k:=2) Df nV rfl (fun f b A o s H E hr=>⟨fP K c,?_,n9 K c⟩)
 exact (aN (bC (eM (xs:=["_law_plane"]) (ys:=[]) (js:=[]) (cl:=[]) rfl (dC (aK c__law_tops_by hr bL (aA (dv 0) (aA (dv 1) aI)))) (kF (ys:=[]) (js:=[]) rfl (fun _ h=>nomatch h) bQ (by decide +kernel) (by decide +kernel)) bQ (by decide +kernel) rfl (by decide +kernel) rfl (by decide) (fun C s₀ H₀ ex pn=>(bV (i:=0) (show (["_law_plane"]:List Str).Nodup by decide +kernel) rfl (Or.inl rfl))) (fun C s₀ H₀ ex pn=>fJ) (fun C s₀ H₀ ex pn=>(cC (aA (aO (dv 0) aC ra) (aA (aO (dv 0) aC ra) aI)))))))
end
section
variable {P:Program}{w:World}{K:aV9}{mg:Str->Option Value}{base:Heap}
theorem aMz:a9 ["a","b"] ["a","b"] (aT aBk):=by walk_at "s"
theorem aOw{c:Cls}(Df:Def K mg "plus" ["a","b"] aBk)(B:Blt mg)(C:i8 mg c)(O:jB mg base c)(hk:iH K c)(c_fraction:Cal P w K mg base 2 "fraction" 2 (dZ K c)):Cal P w K mg base 3 "plus" 2 (jX K c):=by
 refine jP (k:=2) Df aMz rfl (fun f b A o s H E hr=>⟨aGs K c,?_,aNg K c⟩)
 exact (aN (bC (aK c_fraction hr bL (aA (aJ bM cN bR (aJ aU a7 aF (aO (dv 0) aC ra) (aO (dv 1) aC ra)) (aJ aU a7 aF (aO (dv 1) aC ra) (aO (dv 0) aC ra))) (aA (aJ aU a7 aF (aO (dv 0) aC ra) (aO (dv 1) aC ra)) aI)))))
theorem sc_common_bottom:a9 ["numbers","common","number"] ["numbers"] (aT gF):=by walk_at "s"
theorem o6{c:Cls}(Df:Def K mg "common_bottom" ["numbers"] gF)(B:Blt mg)(C:i8 mg c)(O:jB mg base c)(hk:iH K c)(c_greatest_divisor:Cal P w K mg base 1 "greatest_divisor" 2 (bI K c)):Cal P w K mg base 2 "common_bottom" 1 (cX K c):=by
 refine jP (k:=1) Df sc_common_bottom rfl (fun f b A o s H E hr=>⟨lC K c,?_,o8 K c⟩)
 exact (aG (aV (i:=1) sc_common_bottom.nd rfl (Or.inl rfl) aC) (aG (lD aXj rfl (dC (dv 0)) (bV (i:=2) sc_common_bottom.nd rfl (Or.inl rfl)) (aN (aV (i:=1) sc_common_bottom.nd rfl (Or.inl rfl) (aJ bF bZ aF (aJ aU a7 aF (dv 1) (aO (dv 2) aC ra)) (aK c_greatest_divisor hr bL (aA (dv 1) (aA (aO (dv 2) aC ra) aI))))))) (aN (bC (dv 1)))))
theorem sc_plane_height:a9 ["plane","point","along_x","along_y"] ["plane","point"] (aT gU):=by walk_at "s"
theorem pX{c:Cls}(Df:Def K mg "plane_height" ["plane","point"] gU)(B:Blt mg)(C:i8 mg c)(O:jB mg base c)(hk:iH K c)(c_plus:Cal P w K mg base 3 "plus" 2 (jX K c))(c_times:Cal P w K mg base 3 "times" 2 (iR K c)):Cal P w K mg base 4 "plane_height" 2 (dI K c):=by
 refine jP (k:=3) Df sc_plane_height rfl (fun f b A o s H E hr=>⟨jJ K c,?_,rV K c⟩)
 exact (aG (aV (i:=2) sc_plane_height.nd rfl (Or.inl rfl) (aK c_times hr bL (aA (cC (aA (aO (dv 0) aC ra) (aA aC aI))) (aA (aO (dv 1) aC ra) aI)))) (aG (aV (i:=3) sc_plane_height.nd rfl (Or.inl rfl) (aK c_times hr bL (aA (cC (aA (aO (dv 0) aC ra) (aA aC aI))) (aA (aO (dv 1) aC ra) aI)))) (aN (bC (aK c_plus hr bL (aA (aK c_plus hr bL (aA (dv 2) (aA (dv 3) aI))) (aA (aO (dv 0) aC ra) aI)))))))
theorem sc_added:a9 ["one","other","planes","plane"] ["one","other"] (aT tY):=by walk_at "s"
theorem aIf{c:Cls}(Df:Def K mg "added" ["one","other"] tY)(B:Blt mg)(C:i8 mg c)(O:jB mg base c)(hk:iH K c)(c_roof_of:Cal P w K mg base 3 "roof_of" 1 (hZ K c))(c_plus:Cal P w K mg base 3 "plus" 2 (jX K c)):Cal P w K mg base 4 "added" 2 (k9 K c):=by
 refine jP (k:=3) Df sc_added rfl (fun f b A o s H E hr=>⟨vM K c,?_,aKe K c⟩)
 exact (aG (aV (i:=2) sc_added.nd rfl (Or.inl rfl) (s9 aI)) (aG (lD aXj rfl (dC (dv 0)) (bV (i:=3) sc_added.nd rfl (Or.inr rfl)) (aN (aDd (i:=2) (eM (xs:=["part"]) (ys:=["plane"]) (js:=[3]) (cl:=[("plane",s.heap.objs.size+1)]) rfl (dC (dv 1)) (kF (ys:=["plane"]) (js:=[3]) rfl (aW3.mpr ⟨rfl,(fun _ h=>nomatch h)⟩) (bB ⟨rfl,.inl rfl,.inl rfl,rfl,rfl⟩ bQ) (by decide +kernel) (by decide +kernel)) (bB ⟨rfl,.inl rfl,.inl rfl,rfl,rfl⟩ bQ) (by decide +kernel) rfl (by decide +kernel) rfl (by decide) (fun C s₀ H₀ ex pn=>(bV (i:=0) (show (["part","plane"]:List Str).Nodup by decide +kernel) rfl (Or.inl rfl))) (fun C s₀ H₀ ex pn=>fJ) (fun C s₀ H₀ ex pn=>(cC (aA (aJ bM cN bR (aO (dv 1) aC ra) (aO (dv 0) aC ra)) (aA (aJ bM cN bR (aO (dv 1) aC ra) (aO (dv 0) aC ra)) (aA (aK c_plus hr sF (aA (aO (dv 1) aC ra) (aA (aO (dv 0) aC ra) aI))) aI)))))) (fun t q=>nX (aIh aYo PySem.F.slot_list_extend PySem.F.type_list_extend aDf (pv 2) (l9 q sX)))))) (aN (bC (aK c_roof_of hr bL (aA (dv 2) aI))))))
theorem sc_moved:a9 ["roof","point","back"] ["roof","point"] (aT vF):=by walk_at "s"
theorem aJa{c:Cls}(Df:Def K mg "moved" ["roof","point"] vF)(B:Blt mg)(C:i8 mg c)(O:jB mg base c)(hk:iH K c)(c_plane_height:Cal P w K mg base 4 "plane_height" 2 (dI K c))(c_minus:Cal P w K mg base 3 "minus" 2 (iM K c)):Cal P w K mg base 5 "moved" 2 (k8 K c):=by
 refine jP (k:=4) Df sc_moved rfl (fun f b A o s H E hr=>⟨y9 K c,?_,aH2 K c⟩)
 exact (aG (aV (i:=2) sc_moved.nd rfl (Or.inr rfl) (cC (aA (aK c_minus hr bL (aA (cC (aA aC (aA aC aI))) (aA (aO (dv 1) aC ra) aI))) (aA (aK c_minus hr bL (aA (cC (aA aC (aA aC aI))) (aA (aO (dv 1) aC ra) aI))) aI)))) (aN (bC (eM (xs:=["plane"]) (ys:=["back"]) (js:=[2]) (cl:=[("back",s.heap.objs.size+1)]) rfl (dC (dv 0)) (kF (ys:=["back"]) (js:=[2]) rfl (aW3.mpr ⟨rfl,(fun _ h=>nomatch h)⟩) (bB ⟨rfl,.inl rfl,.inl rfl,rfl,rfl⟩ bQ) (by decide +kernel) (by decide +kernel)) (bB ⟨rfl,.inl rfl,.inl rfl,rfl,rfl⟩ bQ) (by decide +kernel) rfl (by decide +kernel) rfl (by decide) (fun C s₀ H₀ ex pn=>(bV (i:=0) (show (["plane","back"]:List Str).Nodup by decide +kernel) rfl (Or.inl rfl))) (fun C s₀ H₀ ex pn=>fJ) (fun C s₀ H₀ ex pn=>(cC (aA (aO (dv 0) aC ra) (aA (aO (dv 0) aC ra) (aA (aK c_plane_height hr sF (aA (dv 0) (aA (dv 1) aI))) aI)))))))))
theorem aHz:a9 ["roof","point"] ["roof","point"] (aT uF):=by walk_at "s"
theorem aKd{c:Cls}(Df:Def K mg "field" ["roof","point"] uF)(B:Blt mg)(C:i8 mg c)(O:jB mg base c)(hk:iH K c)(c_hull:Cal P w K mg base 3 "hull" 1 (mU K c))(c_tops:Cal P w K mg base 4 "tops" 2 (l0 K c)):Cal P w K mg base 5 "field" 2 (iF K c):=by
 refine jP (k:=4) Df aHz rfl (fun f b A o s H E hr=>⟨aD3 K c,?_,aH4 K c⟩)
 exact (aN (bC (aK c_hull hr bL (aA (aK c_tops hr bL (aA (dv 0) (aA (dv 1) aI))) aI))))
theorem sc__law_roof_by:a9 ["_law_kind","_law_cells_here","_law_most","_law_wide","_law_high","_law_cell","_law_i","_law_j","_law_height","_law_far"] ["_law_kind","_law_cells_here","_law_most","_law_wide"] (aT gZ):=by walk_at "s"
theorem rF{c:Cls}(Df:Def K mg "_law_roof_by" ["_law_kind","_law_cells_here","_law_most","_law_wide"] gZ)(B:Blt mg)(C:i8 mg c)(O:jB mg base c)(hk:iH K c)(c__law_height_by:Cal P w K mg base 2 "_law_height_by" 4 (bX K c)):Cal P w K mg base 3 "_law_roof_by" 4 (cD K c):=by
 refine jP (k:=2) Df sc__law_roof_by rfl (fun f b A o s H E hr=>⟨jK K c,?_,qP K c⟩)
 exact (aG (aV (i:=4) sc__law_roof_by.nd rfl (Or.inr rfl) nL) (aG (lD aXj rfl (dC (dv 1)) (bV (i:=5) sc__law_roof_by.nd rfl (Or.inl rfl)) (aG (aV (i:=6) sc__law_roof_by.nd rfl (Or.inl rfl) (aJ aW bG aF (dv 5) (dv 3))) (aG (aV (i:=7) sc__law_roof_by.nd rfl (Or.inl rfl) (aJ aW bG aF (aJ bF bZ aF (dv 5) (dv 3)) (dv 3))) (aG (eX (dD (iX (u64 hr)) kZ iC (aJ aW bG aF (dv 0) aC) aC (cS _)) (aN (aV (i:=7) sc__law_roof_by.nd rfl (Or.inl rfl) (aJ aU a7 aF (dv 6) (aJ aW bG aF (aJ bF bZ aF (dv 0) aC) aC)))) cA) (aG (aV (i:=8) sc__law_roof_by.nd rfl (Or.inl rfl) (aK c__law_height_by hr bL (aA (dv 0) (aA (dv 6) (aA (dv 7) (aA (aJ bF bZ aF (dv 5) (aJ aU a7 aF (dv 3) (dv 3))) aI)))))) (aN (eX (aPz (u1 hr) (cC (aA (dv 6) (aA (dv 7) aI))) (dv 4)) (aG (aV (i:=9) sc__law_roof_by.nd rfl (Or.inl rfl) (n8 (u1 hr) (dv 4) (cC (aA (dv 6) (aA (dv 7) aI))) ra)) (aN (eX (dD yH hX aS (aJ aU a7 aF (aO (dv 8) aC ra) (aO (dv 9) aC ra)) (aJ aU a7 aF (aO (dv 9) aC ra) (aO (dv 8) aC ra)) (cS _)) (aN (n6 (i:=4) (u1 hr) (pv 4) (cC (aA (dv 6) (aA (dv 7) aI))) (dv 8) rfl)) cA))) (aN (eX (dD wF hX aS (bJ sQ aHb aBg rfl B.len_ aXh (aA (dv 4) aI)) (dv 2) (cS _)) (aN (n6 (i:=4) (u1 hr) (pv 4) (cC (aA (dv 6) (aA (dv 7) aI))) (dv 8) rfl)) cA))))))))) (aG (eX (dD (aKn (Nat.lt_of_succ_lt (u1 hr))) aK4 aEu (dv 4) nL (cS _)) (aN (n6 (i:=4) (u1 hr) (pv 4) (cC (aA (aJ aW bG aF (dv 0) (dv 3)) (aA aC aI))) (cC (aA aC (aA aC aI))) rfl)) cA) (gC 4 (aN (bC (eM (xs:=["_law_slope"]) (ys:=["_law_high"]) (js:=[4]) (cl:=[("_law_high",s.heap.objs.size+1)]) rfl (dC (bJ (SRT.nQ rfl) oC mL rfl B.sorted_ pV (aA (dv 4) aI))) (kF (ys:=["_law_high"]) (js:=[4]) rfl (aW3.mpr ⟨rfl,(fun _ h=>nomatch h)⟩) (bB ⟨rfl,.inl rfl,.inl rfl,rfl,rfl⟩ bQ) (by decide +kernel) (by decide +kernel)) (bB ⟨rfl,.inl rfl,.inl rfl,rfl,rfl⟩ bQ) (by decide +kernel) rfl (by decide +kernel) rfl (by decide) (fun C s₀ H₀ ex pn=>(bV (i:=0) (show (["_law_slope","_law_high"]:List Str).Nodup by decide +kernel) rfl (Or.inl rfl))) (fun C s₀ H₀ ex pn=>fJ) (fun C s₀ H₀ ex pn=>(cC (aA (aO (dv 0) aC ra) (aA (aO (dv 0) aC ra) (aA (n8 (u1 hr) (dv 1) (dv 0) ra) aI))))))))))))
end
section
variable {P:Program}{w:World}{K:aV9}{mg:Str->Option Value}{base:Heap}
theorem sc_fraction:a9 ["top","bottom","divisor"] ["top","bottom"] (aT lP):=by walk_at "s"
theorem zM{c:Cls}(Df:Def K mg "fraction" ["top","bottom"] lP)(B:Blt mg)(C:i8 mg c)(O:jB mg base c)(hk:iH K c)(c_greatest_divisor:Cal P w K mg base 1 "greatest_divisor" 2 (bI K c)):Cal P w K mg base 2 "fraction" 2 (dZ K c):=by
 refine jP (k:=1) Df sc_fraction rfl (fun f b A o s H E hr=>⟨iK K c,?_,zH K c⟩)
 exact (aG (eX (dD (iX (u64 hr)) kZ iC (dv 1) aC (cS _)) (aN (pL uJ rfl rfl O.NoFraction aZf (aA zQ aI))) cA) (aG (aV (i:=2) sc_fraction.nd rfl (Or.inl rfl) (aK c_greatest_divisor hr bL (aA (dv 0) (aA (dv 1) aI)))) (aG (eX (dD wF hX aS (dv 1) aC (cS _)) (aN (aV (i:=2) sc_fraction.nd rfl (Or.inl rfl) (kW (dv 2)))) cA) (aN (bC (cC (aA (aJ bF bZ aF (dv 0) (dv 2)) (aA (aJ bF bZ aF (dv 1) (dv 2)) aI))))))))
theorem aJd:a9 ["a","b"] ["a","b"] (aT vN):=by walk_at "s"
theorem aKh{c:Cls}(Df:Def K mg "minus" ["a","b"] vN)(B:Blt mg)(C:i8 mg c)(O:jB mg base c)(hk:iH K c)(c_fraction:Cal P w K mg base 2 "fraction" 2 (dZ K c)):Cal P w K mg base 3 "minus" 2 (iM K c):=by
 refine jP (k:=2) Df aJd rfl (fun f b A o s H E hr=>⟨yF K c,?_,aIt K c⟩)
 exact (aN (bC (aK c_fraction hr bL (aA (aJ dB cZ aS (aJ aU a7 aF (aO (dv 0) aC ra) (aO (dv 1) aC ra)) (aJ aU a7 aF (aO (dv 1) aC ra) (aO (dv 0) aC ra))) (aA (aJ aU a7 aF (aO (dv 0) aC ra) (aO (dv 1) aC ra)) aI)))))
theorem aJk:a9 ["number","factor"] ["number","factor"] (aT tO):=by walk_at "s"
theorem aJw{c:Cls}(Df:Def K mg "whole" ["number","factor"] tO)(B:Blt mg)(C:i8 mg c)(O:jB mg base c)(hk:iH K c):Cal P w K mg base 1 "whole" 2 (iQ K c):=by
 refine jP (k:=0) Df aJk rfl (fun f b A o s H E hr=>⟨yI K c,?_,aJc K c⟩)
 exact (aN (bC (aJ aU a7 aF (aO (dv 0) aC ra) (aJ bF bZ aF (dv 1) (aO (dv 0) aC ra)))))
theorem sc_roof_of:a9 ["planes","highest"] ["planes"] (aT mV):=by walk_at "s"
theorem aCb{c:Cls}(Df:Def K mg "roof_of" ["planes"] mV)(B:Blt mg)(C:i8 mg c)(O:jB mg base c)(hk:iH K c)(c_highest_by_slope:Cal P w K mg base 2 "highest_by_slope" 1 (b7 K c))(c_slope_of:Cal P w K mg base 1 "slope_of" 1 (eI K c))(c_is_too_steep:Cal P w K mg base 1 "is_too_steep" 1 (dU K c)){t_MOST_PLANES:Tok}(c_MOST_PLANES:mg "MOST_PLANES" = some (.int 16 t_MOST_PLANES)):Cal P w K mg base 3 "roof_of" 1 (hZ K c):=by
 refine jP (k:=2) Df sc_roof_of rfl (fun f b A o s H E hr=>⟨jQ K c,?_,aCc K c⟩)
 exact (aG (eX (dD (iX (u64 hr)) kZ iC (bJ bE gJ eK rfl B.len_ aXh (aA (dv 0) aI)) aC (cS _)) (aN (pL uJ rfl rfl O.NoRoof aZf (aA zQ aI))) cA) (aG (eX (kJ (bJ (aJj rfl rfl) aSj aNx rfl B.any_ aP2 (aA (eM (xs:=["plane"]) (ys:=[]) (js:=[]) (cl:=[]) rfl (dC (dv 0)) (kF (ys:=[]) (js:=[]) rfl (fun _ h=>nomatch h) bQ (by decide +kernel) (by decide +kernel)) bQ (by decide +kernel) rfl (by decide +kernel) rfl (by decide) (fun C s₀ H₀ ex pn=>(bV (i:=0) (show (["plane"]:List Str).Nodup by decide +kernel) rfl (Or.inl rfl))) (fun C s₀ H₀ ex pn=>fJ) (fun C s₀ H₀ ex pn=>(aK c_is_too_steep hr sF (aA (aK c_slope_of hr sF (aA (dv 0) aI)) aI)))) aI))) (aN (pL uJ rfl rfl O.TooSteep aZf (aA zQ aI))) cA) (aG (aV (i:=1) sc_roof_of.nd rfl (Or.inr rfl) (aK c_highest_by_slope hr bL (aA (eM (xs:=["plane"]) (ys:=[]) (js:=[]) (cl:=[]) rfl (dC (dv 0)) (kF (ys:=[]) (js:=[]) rfl (fun _ h=>nomatch h) bQ (by decide +kernel) (by decide +kernel)) bQ (by decide +kernel) rfl (by decide +kernel) rfl (by decide) (fun C s₀ H₀ ex pn=>(bV (i:=0) (show (["plane"]:List Str).Nodup by decide +kernel) rfl (Or.inl rfl))) (fun C s₀ H₀ ex pn=>fJ) (fun C s₀ H₀ ex pn=>(cC (aA (aK c_slope_of hr sF (aA (dv 0) aI)) (aA (aO (dv 0) aC ra) aI))))) aI))) (aG (eX (dD yH hX aS (bJ sQ aHb aBg rfl B.len_ aXh (aA (dv 1) aI)) (aA3 rfl c_MOST_PLANES) (cS _)) (aN (pL uJ rfl rfl O.TooMany aZf (aA zQ aI))) cA) (gC 1 (aN (bC (eM (xs:=["slope"]) (ys:=["highest"]) (js:=[1]) (cl:=[("highest",s.heap.objs.size+1)]) rfl (dC (bJ (SRT.nQ rfl) oC mL rfl B.sorted_ pV (aA (dv 1) aI))) (kF (ys:=["highest"]) (js:=[1]) rfl (aW3.mpr ⟨rfl,(fun _ h=>nomatch h)⟩) (bB ⟨rfl,.inl rfl,.inl rfl,rfl,rfl⟩ bQ) (by decide +kernel) (by decide +kernel)) (bB ⟨rfl,.inl rfl,.inl rfl,rfl,rfl⟩ bQ) (by decide +kernel) rfl (by decide +kernel) rfl (by decide) (fun C s₀ H₀ ex pn=>(bV (i:=0) (show (["slope","highest"]:List Str).Nodup by decide +kernel) rfl (Or.inl rfl))) (fun C s₀ H₀ ex pn=>fJ) (fun C s₀ H₀ ex pn=>(cC (aA (aO (dv 0) aC ra) (aA (aO (dv 0) aC ra) (aA (n8 (u1 hr) (dv 1) (dv 0) ra) aI)))))))))))))
theorem sc_tops:a9 ["roof","point","heights","top"] ["roof","point"] (aT aA7):=by walk_at "s"
theorem aNv{c:Cls}(Df:Def K mg "tops" ["roof","point"] aA7)(B:Blt mg)(C:i8 mg c)(O:jB mg base c)(hk:iH K c)(c_slope_of:Cal P w K mg base 1 "slope_of" 1 (eI K c))(c_heights_over:Cal P w K mg base 3 "heights_over" 2 (dJ K c)):Cal P w K mg base 4 "tops" 2 (l0 K c):=by
 refine jP (k:=3) Df sc_tops rfl (fun f b A o s H E hr=>⟨aLq K c,?_,aPf K c⟩)
 exact (aG (aV (i:=2) sc_tops.nd rfl (Or.inl rfl) (aK c_heights_over hr bL (aA (dv 0) (aA (dv 1) aI)))) (gC 2 (aG (aV (i:=3) sc_tops.nd rfl (Or.inr rfl) (bJ (aGy rfl rfl) aOr aOa rfl B.max_ aFi (aA (dv 2) aI))) (aN (bC (eM (xs:=["plane","height"]) (ys:=["top"]) (js:=[3]) (cl:=[("top",s.heap.objs.size+1)]) rfl (aP4 rfl B.zip_ (aA (dv 0) (aA (dv 2) aI))) (kF (ys:=["top"]) (js:=[3]) rfl (aW3.mpr ⟨rfl,(fun _ h=>nomatch h)⟩) (bB ⟨rfl,.inl rfl,.inl rfl,rfl,rfl⟩ bQ) (by decide +kernel) (by decide +kernel)) (bB ⟨rfl,.inl rfl,.inl rfl,rfl,rfl⟩ bQ) (by decide +kernel) rfl (by decide +kernel) rfl (by decide) (fun C s₀ H₀ ex pn=>(aAp (n:=2) rfl (jG (bV (i:=0) (show (["plane","height","top"]:List Str).Nodup by decide +kernel) rfl (Or.inl rfl)) (jG (bV (i:=1) (show (["plane","height","top"]:List Str).Nodup by decide +kernel) rfl (Or.inl rfl)) u5)))) (fun C s₀ H₀ ex pn=>(y6 (dD (iX (u64 hr)) kZ iC (dv 1) (dv 2) (cS _)))) (fun C s₀ H₀ ex pn=>(aK c_slope_of hr sF (aA (dv 0) aI)))))))))
theorem sc__law_low:a9 ["_law_top","_law_bottom","_law_one","_law_other"] ["_law_top","_law_bottom"] (aT lO):=by walk_at "s"
theorem zK{c:Cls}(Df:Def K mg "_law_low" ["_law_top","_law_bottom"] lO)(B:Blt mg)(C:i8 mg c)(O:jB mg base c)(hk:iH K c):Cal P w K mg base 1 "_law_low" 2 (aX K c):=by
 refine jP (k:=0) Df sc__law_low rfl (fun f b A o s H E hr=>⟨tD K c,?_,yJ K c⟩)
 exact (aG (aV (i:=2) sc__law_low.nd rfl (Or.inl rfl) (bJ pC aAc uR rfl B.abs_ aAf (aA (dv 0) aI))) (aG (aV (i:=3) sc__law_low.nd rfl (Or.inl rfl) (bJ pC aAc uR rfl B.abs_ aAf (aA (dv 1) aI))) (aG (pJ aXj (dD yH hX aS (dv 3) aC (cS _)) (aN (aQ3 (i:=2) (j:=3) rfl sc__law_low.nd rfl rfl (by decide) rfl rfl (aA (dv 3) (aA (aJ aW bG aF (dv 2) (dv 3)) aI))))) (aG (eX (dD wF hX aS (dv 1) aC (cS _)) (aN (aV (i:=2) sc__law_low.nd rfl (Or.inl rfl) (kW (dv 2)))) cA) (aN (bC (cC (aA (aJ bF bZ aF (dv 0) (dv 2)) (aA (aJ bF bZ aF (dv 1) (dv 2)) aI)))))))))
theorem sc__law_cells:a9 ["_law_script","_law_made"] ["_law_script"] (aT i6):=by walk_at "s"
theorem vP{c:Cls}(Df:Def K mg "_law_cells" ["_law_script"] i6)(B:Blt mg)(C:i8 mg c)(O:jB mg base c)(hk:iH K c)(c__law_stirred:Cal P w K mg base 2 "_law_stirred" 1 (cT K c)):Cal P w K mg base 3 "_law_cells" 1 (dG K c):=by
 refine jP (k:=2) Df sc__law_cells rfl (fun f b A o s H E hr=>⟨iA K c,?_,tM K c⟩)
 exact (aG (eX (DW.t (yA (dD (iX (u64 hr)) kZ iC (bJ bE gJ eK rfl B.len_ aXh (aA (dv 0) aI)) aC (cS _)) (tH (dD (iX (u64 hr)) kZ iC (aJ aW bG aF (aO (dv 0) aC ra) aC) aC (cS _))))) (aN (bC (cC (aA w5 (aA (aK c__law_stirred hr bL (aA (dv 0) aI)) aI))))) cA) (aG (aO9 (i:=1) sc__law_cells.nd rfl (Or.inl rfl) (xs:=["_law_cell"]) (ys:=[]) (js:=[]) (cl:=[]) rfl (dC (dv 0)) (kF (ys:=[]) (js:=[]) rfl (fun _ h=>nomatch h) bQ (by decide +kernel) (by decide +kernel)) bQ (by decide +kernel) rfl (by decide +kernel) rfl (by decide) (fun C s₀ H₀ ex pn=>(bV (i:=0) (show (["_law_cell"]:List Str).Nodup by decide +kernel) rfl (Or.inl rfl))) (fun C s₀ H₀ ex pn=>fJ) (fun C s₀ H₀ ex pn=>(aJ aW bG aF (dv 0) (aJ nJ nA aF aC aC)))) (aG (aL4 (i:=1) aC (aJ bF bZ aF (aO (dv 1) aC ra) aC) (fun _ _ p q=>aLx q (aPq (pv 1) p set_list))) (gC 1 (aN (bC (cC (aA w5 (aA (aJ bM cN bR (dv 1) (aJ aMq aMs aJp (s9 (aA aC aI)) (aJ dB cZ aS aC (bJ bE gJ eK rfl B.len_ aXh (aA (dv 1) aI))))) aI)))))))))
end
section
variable {P:Program}{w:World}{K:aV9}{mg:Str->Option Value}{base:Heap}
theorem aD1:a9 ["roof","height"] ["roof","height"] (aT pK):=by walk_at "s"
theorem aDo{c:Cls}(Df:Def K mg "raised" ["roof","height"] pK)(B:Blt mg)(C:i8 mg c)(O:jB mg base c)(hk:iH K c)(c_plus:Cal P w K mg base 3 "plus" 2 (jX K c)):Cal P w K mg base 4 "raised" 2 (jC K c):=by
 refine jP (k:=3) Df aD1 rfl (fun f b A o s H E hr=>⟨uA K c,?_,aF7 K c⟩)
 exact (aN (bC (eM (xs:=["plane"]) (ys:=["height"]) (js:=[1]) (cl:=[("height",s.heap.objs.size+1)]) rfl (dC (dv 0)) (kF (ys:=["height"]) (js:=[1]) rfl (aW3.mpr ⟨rfl,(fun _ h=>nomatch h)⟩) (bB ⟨rfl,.inl rfl,.inl rfl,rfl,rfl⟩ bQ) (by decide +kernel) (by decide +kernel)) (bB ⟨rfl,.inl rfl,.inl rfl,rfl,rfl⟩ bQ) (by decide +kernel) rfl (by decide +kernel) rfl (by decide) (fun C s₀ H₀ ex pn=>(bV (i:=0) (show (["plane","height"]:List Str).Nodup by decide +kernel) rfl (Or.inl rfl))) (fun C s₀ H₀ ex pn=>fJ) (fun C s₀ H₀ ex pn=>(cC (aA (aO (dv 0) aC ra) (aA (aO (dv 0) aC ra) (aA (aK c_plus hr sF (aA (aO (dv 0) aC ra) (aA (dv 1) aI))) aI))))))))
theorem uU:a9 ["_law_found"] ["_law_found"] (aT i9):=by walk_at "s"
theorem tN{c:Cls}(Df:Def K mg "_law_whole" ["_law_found"] i9)(B:Blt mg)(C:i8 mg c)(O:jB mg base c)(hk:iH K c):Cal P w K mg base 1 "_law_whole" 1 (dN K c):=by
 refine jP (k:=0) Df uU rfl (fun f b A o s H E hr=>⟨lA K c,?_,u7 K c hk⟩)
 exact (aN (bC (aRh (aB1 (cv:=.type "int") rfl B.isinstance_ (.inl ⟨_,rfl⟩) rfl (dv 0) (vU (v:=.ty "int") rfl B.int_ aQj rfl)) (aKq (aSh (aB1 (cv:=.type "bool") rfl B.isinstance_ (.inl ⟨_,rfl⟩) rfl (dv 0) (vU (v:=.ty "bool") rfl B.bool_ aOz rfl)))))))
theorem oH:a9 ["_law_kind","_law_i","_law_j","_law_rest"] ["_law_kind","_law_i","_law_j","_law_rest"] (aT fO):=by walk_at "s"
theorem nO{c:Cls}(Df:Def K mg "_law_height_by" ["_law_kind","_law_i","_law_j","_law_rest"] fO)(B:Blt mg)(C:i8 mg c)(O:jB mg base c)(hk:iH K c)(c__law_low:Cal P w K mg base 1 "_law_low" 2 (aX K c)):Cal P w K mg base 2 "_law_height_by" 4 (bX K c):=by
 refine jP (k:=1) Df oH rfl (fun f b A o s H E hr=>⟨eG K c,?_,nT K c⟩)
 exact (aG (eX (dD (iX (u64 hr)) kZ iC (aJ aW bG aF (dv 0) aC) aC (cS _)) (aN (bC (cC (aA (aJ dB cZ aS (aJ aW bG aF (dv 3) aC) (aJ aU a7 aF (aJ bM cN bR (aJ bM cN bR (aJ aU a7 aF (dv 1) (dv 1)) (aJ aU a7 aF (dv 1) (dv 2))) (aJ aU a7 aF (dv 2) (dv 2))) (aJ bM cN bR aC (aJ aW bG aF (aJ bF bZ aF (dv 0) aC) aC)))) (aA aC aI))))) cA) (aG (eX (dD (iX (u64 hr)) kZ iC (aJ aW bG aF (dv 0) aC) aC (cS _)) (aN (bC (cC (aA (aJ aW bG aF (dv 3) aC) (aA aC aI))))) cA) (aG (eX (dD (iX (u64 hr)) kZ iC (aJ aW bG aF (aJ bF bZ aF (dv 0) aC) aC) aC (cS _)) (aN (bC (aK c__law_low hr bL (aA (aJ dB cZ aS (aJ aW bG aF (dv 3) (aJ bM cN bR (aJ aU a7 aF aC (aJ nJ nA aF aC aC)) aC)) (aJ nJ nA aF aC aC)) (aA (aJ bM cN bR aC (aJ aW bG aF (aJ bF bZ aF (dv 3) aC) aC)) aI))))) cA) (aN (bC (aK c__law_low hr bL (aA (aJ dB cZ aS (aJ aW bG aF (dv 3) aC) aC) (aA (aJ bM cN bR aC (aJ aW bG aF (aJ bF bZ aF (dv 3) aC) aC)) aI))))))))
theorem sc__law_level_at:a9 ["_law_plane","_law_point","_law_x","_law_y","_law_far","_law_scale"] ["_law_plane","_law_point"] (aT fY):=by walk_at "s"
theorem o7{c:Cls}(Df:Def K mg "_law_level_at" ["_law_plane","_law_point"] fY)(B:Blt mg)(C:i8 mg c)(O:jB mg base c)(hk:iH K c):Cal P w K mg base 1 "_law_level_at" 2 (dO K c):=by
 refine jP (k:=0) Df sc__law_level_at rfl (fun f b A o s H E hr=>⟨kS K c,?_,oU K c⟩)
 exact (aG (aLj (dv 1) (aAp (n:=2) rfl (jG (bV (i:=2) sc__law_level_at.nd rfl (Or.inl rfl)) (jG (bV (i:=3) sc__law_level_at.nd rfl (Or.inl rfl)) u5)))) (aG (aV (i:=4) sc__law_level_at.nd rfl (Or.inl rfl) (aJ bM cN bR (aJ aU a7 aF (aJ aU a7 aF (aO (dv 0) aC ra) (aO (dv 2) aC ra)) (aO (dv 3) aC ra)) (aJ aU a7 aF (aJ aU a7 aF (aO (dv 0) aC ra) (aO (dv 3) aC ra)) (aO (dv 2) aC ra)))) (aG (aV (i:=5) sc__law_level_at.nd rfl (Or.inl rfl) (aJ aU a7 aF (aO (dv 2) aC ra) (aO (dv 3) aC ra))) (aN (bC (cC (aA (aJ bM cN bR (aJ aU a7 aF (dv 4) (aO (aO (dv 0) aC ra) aC ra)) (aJ aU a7 aF (aO (aO (dv 0) aC ra) aC ra) (dv 5))) (aA (aJ aU a7 aF (dv 5) (aO (aO (dv 0) aC ra) aC ra)) aI))))))))
theorem vS:a9 ["_law_one","_law_other"] ["_law_one","_law_other"] (aT jE):=by walk_at "s"
theorem vK{c:Cls}(Df:Def K mg "_law_under" ["_law_one","_law_other"] jE)(B:Blt mg)(C:i8 mg c)(O:jB mg base c)(hk:iH K c):Cal P w K mg base 1 "_law_under" 2 (b6 K c):=by
 refine jP (k:=0) Df vS rfl (fun f b A o s H E hr=>⟨kY K c,?_,vT K c⟩)
 exact (aN (bC (aAh wF hX aS (aJ aU a7 aF (aO (dv 0) aC ra) (aO (dv 1) aC ra)) (aJ aU a7 aF (aO (dv 1) aC ra) (aO (dv 0) aC ra)) (cS _))))
theorem sc__law_point_by:a9 ["_law_roof","_law_cell","_law_other","_law_many","_law_found","_law_x"] ["_law_roof","_law_cell","_law_other"] (aT gA):=by walk_at "s"
theorem pA{c:Cls}(Df:Def K mg "_law_point_by" ["_law_roof","_law_cell","_law_other"] gA)(B:Blt mg)(C:i8 mg c)(O:jB mg base c)(hk:iH K c)(c__law_low:Cal P w K mg base 1 "_law_low" 2 (aX K c))(c__law_crossing:Cal P w K mg base 2 "_law_crossing" 3 (aY K c)):Cal P w K mg base 3 "_law_point_by" 3 (cW K c):=by
 refine jP (k:=2) Df sc__law_point_by rfl (fun f b A o s H E hr=>⟨eV K c,?_,oW K c⟩)
 exact (aG (eX (dD (iX (u64 hr)) kZ iC (aJ aW bG aF (dv 1) aC) aC (cS _)) (aG (aV (i:=3) sc__law_point_by.nd rfl (Or.inl rfl) (bJ bE gJ eK rfl B.len_ aXh (aA (dv 0) aI))) (aG (aV (i:=4) sc__law_point_by.nd rfl (Or.inl rfl) (aK c__law_crossing hr bL (aA (aO (dv 0) (aJ aW bG aF (dv 2) (dv 3)) ra) (aA (aO (dv 0) (aJ aW bG aF (aJ bF bZ aF (dv 2) (dv 3)) (dv 3)) ra) (aA (aO (dv 0) (aJ aW bG aF (aJ bF bZ aF (dv 1) aC) (dv 3)) ra) aI))))) (aN (eX (aOb (dv 4)) (aN (bC (dv 4))) cA)))) cA) (aG (eX (dD (iX (u64 hr)) kZ iC (aJ aW bG aF (dv 1) aC) aC (cS _)) (aN (bC (cC (aA (aK c__law_low hr bL (aA (aJ dB cZ aS (aJ aW bG aF (aJ bF bZ aF (dv 1) aC) aC) aC) (aA (aJ bM cN bR aC (aJ aW bG aF (aJ bF bZ aF (dv 1) aC) aC)) aI))) (aA (aK c__law_low hr bL (aA (aJ dB cZ aS (aJ aW bG aF (dv 2) aC) aC) (aA (aJ bM cN bR aC (aJ aW bG aF (aJ bF bZ aF (dv 2) aC) aC)) aI))) aI))))) cA) (aG (aV (i:=5) sc__law_point_by.nd rfl (Or.inl rfl) (aK c__law_low hr bL (aA (aJ dB cZ aS (aJ aW bG aF (aJ bF bZ aF (dv 1) aC) (aJ bM cN bR (aJ aU a7 aF aC (aJ nJ nA aF aC aC)) aC)) (aJ nJ nA aF aC aC)) (aA (aJ bM cN bR aC (aJ aW bG aF (aJ bF bZ aF (dv 1) aC) aC)) aI)))) (aN (bC (cC (aA (dv 5) (aA (aK c__law_low hr bL (aA (aJ dB cZ aS (aJ aW bG aF (dv 2) (aJ bM cN bR (aJ aU a7 aF aC (aJ nJ nA aF aC aC)) aC)) (aJ nJ nA aF aC aC)) (aA (aJ bM cN bR aC (aJ aW bG aF (aJ bF bZ aF (dv 2) aC) aC)) aI))) aI))))))))
theorem sc__law_hull_by:a9 ["_law_slopes","_law_row"] ["_law_slopes"] (aT gQ):=by walk_at "s"
theorem qT{c:Cls}(Df:Def K mg "_law_hull_by" ["_law_slopes"] gQ)(B:Blt mg)(C:i8 mg c)(O:jB mg base c)(hk:iH K c)(c__law_half_hull:Cal P w K mg base 2 "_law_half_hull" 1 (bO K c)):Cal P w K mg base 3 "_law_hull_by" 1 (b9 K c):=by
 refine jP (k:=2) Df sc__law_hull_by rfl (fun f b A o s H E hr=>⟨jH K c,?_,rN K c⟩)
 exact (aG (aV (i:=1) sc__law_hull_by.nd rfl (Or.inl rfl) (sW rfl (u64 hr) rfl B.sorted_ rfl B.set_ (dv 0))) (aG (eX (dD wF hX aS (bJ bE gJ eK rfl B.len_ aXh (aA (dv 1) aI)) aC (cS _)) (aN (bC (dv 1))) cA) (aN (bC (aJ bM cN bR (yY (aK c__law_half_hull hr bL (aA (dv 1) aI)) qC (kA (kW aC))) (yY (aK c__law_half_hull hr bL (aA (tK rfl rfl B.list_ rfl B.reversed_ (dv 1)) aI)) qC (kA (kW aC))))))))
end
section
variable {P:Program}{w:World}{K:aV9}{mg:Str->Option Value}{base:Heap}
theorem sc_greatest_divisor:a9 ["a","b","larger","smaller","rest"] ["a","b"] (aT eS):=by walk_at "s"
theorem mO{c:Cls}(Df:Def K mg "greatest_divisor" ["a","b"] eS)(B:Blt mg)(C:i8 mg c)(O:jB mg base c)(hk:iH K c):Cal P w K mg base 1 "greatest_divisor" 2 (bI K c):=by
 refine jP (k:=0) Df sc_greatest_divisor rfl (fun f b A o s H E hr=>⟨jA K c,?_,l8 K c⟩)
 exact (aG (aV (i:=2) sc_greatest_divisor.nd rfl (Or.inl rfl) (bJ pC aAc uR rfl B.abs_ aAf (aA (dv 0) aI))) (aG (aV (i:=3) sc_greatest_divisor.nd rfl (Or.inl rfl) (bJ pC aAc uR rfl B.abs_ aAf (aA (dv 1) aI))) (aG (pJ aXj (dD (aGk (u64 hr)) kZ iC (dv 3) aC (cS _)) (aG (aV (i:=4) sc_greatest_divisor.nd rfl (Or.inl rfl) (aJ aW bG aF (dv 2) (dv 3))) (aG (aV (i:=2) sc_greatest_divisor.nd rfl (Or.inl rfl) (dv 3)) (aN (aV (i:=3) sc_greatest_divisor.nd rfl (Or.inl rfl) (dv 4)))))) (aN (bC (dv 2))))))
theorem sc_heights_over:a9 ["roof","point","factor","x","y"] ["roof","point"] (aT gT):=by walk_at "s"
theorem qY{c:Cls}(Df:Def K mg "heights_over" ["roof","point"] gT)(B:Blt mg)(C:i8 mg c)(O:jB mg base c)(hk:iH K c)(c_whole:Cal P w K mg base 1 "whole" 2 (iQ K c))(c_common_bottom:Cal P w K mg base 2 "common_bottom" 1 (cX K c)):Cal P w K mg base 3 "heights_over" 2 (dJ K c):=by
 refine jP (k:=2) Df sc_heights_over rfl (fun f b A o s H E hr=>⟨lZ K c,?_,rJ K c⟩)
 exact (aG (aV (i:=2) sc_heights_over.nd rfl (Or.inr rfl) (aK c_common_bottom hr bL (aA (aJ bM cN bR (eM (xs:=["plane"]) (ys:=[]) (js:=[]) (cl:=[]) rfl (dC (dv 0)) (kF (ys:=[]) (js:=[]) rfl (fun _ h=>nomatch h) bQ (by decide +kernel) (by decide +kernel)) bQ (by decide +kernel) rfl (by decide +kernel) rfl (by decide) (fun C s₀ H₀ ex pn=>(bV (i:=0) (show (["plane"]:List Str).Nodup by decide +kernel) rfl (Or.inl rfl))) (fun C s₀ H₀ ex pn=>fJ) (fun C s₀ H₀ ex pn=>(aO (dv 0) aC ra))) (pT k7 zJ vQ rfl B.list_ tX (aA (dv 1) aI))) aI))) (aG (aV (i:=3) sc_heights_over.nd rfl (Or.inr rfl) (aK c_whole hr bL (aA (aO (dv 1) aC ra) (aA (dv 2) aI)))) (aG (aV (i:=4) sc_heights_over.nd rfl (Or.inr rfl) (aK c_whole hr bL (aA (aO (dv 1) aC ra) (aA (dv 2) aI)))) (aN (bC (eM (xs:=["plane"]) (ys:=["factor","x","y"]) (js:=[2,3,4]) (cl:=[("y",s.heap.objs.size+1+1+1),("x",s.heap.objs.size+1+1),("factor",s.heap.objs.size+1)]) rfl (dC (dv 0)) (kF (ys:=["factor","x","y"]) (js:=[2,3,4]) rfl (aW3.mpr ⟨rfl,(aW3.mpr ⟨rfl,(aW3.mpr ⟨rfl,(fun _ h=>nomatch h)⟩)⟩)⟩) (bB ⟨rfl,.inl rfl,.inl rfl,rfl,rfl⟩ (bB ⟨rfl,.inl rfl,.inl rfl,rfl,rfl⟩ (bB ⟨rfl,.inl rfl,.inl rfl,rfl,rfl⟩ bQ))) (by decide +kernel) (by decide +kernel)) (bB ⟨rfl,.inl rfl,.inl rfl,rfl,rfl⟩ (bB ⟨rfl,.inl rfl,.inl rfl,rfl,rfl⟩ (bB ⟨rfl,.inl rfl,.inl rfl,rfl,rfl⟩ bQ))) (by decide +kernel) rfl (by decide +kernel) rfl (by decide) (fun C s₀ H₀ ex pn=>(bV (i:=0) (show (["plane","factor","x","y"]:List Str).Nodup by decide +kernel) rfl (Or.inl rfl))) (fun C s₀ H₀ ex pn=>fJ) (fun C s₀ H₀ ex pn=>(aJ bM cN bR (aJ bM cN bR (aJ aU a7 aF (aO (dv 0) aC ra) (dv 2)) (aJ aU a7 aF (aO (dv 0) aC ra) (dv 3))) (aK c_whole hr sF (aA (aO (dv 0) aC ra) (aA (dv 1) aI)))))))))))
theorem y4:a9 ["_law_one","_law_other"] ["_law_one","_law_other"] (aT lJ):=by walk_at "s"
theorem xW{c:Cls}(Df:Def K mg "_law_sum" ["_law_one","_law_other"] lJ)(B:Blt mg)(C:i8 mg c)(O:jB mg base c)(hk:iH K c)(c__law_low:Cal P w K mg base 1 "_law_low" 2 (aX K c)):Cal P w K mg base 2 "_law_sum" 2 (cI K c):=by
 refine jP (k:=1) Df y4 rfl (fun f b A o s H E hr=>⟨oF K c,?_,zE K c⟩)
 exact (aN (bC (aK c__law_low hr bL (aA (aJ bM cN bR (aJ aU a7 aF (aO (dv 0) aC ra) (aO (dv 1) aC ra)) (aJ aU a7 aF (aO (dv 1) aC ra) (aO (dv 0) aC ra))) (aA (aJ aU a7 aF (aO (dv 0) aC ra) (aO (dv 1) aC ra)) aI)))))
theorem wB:a9 ["_law_a","_law_b","_law_c"] ["_law_a","_law_b","_law_c"] (aT kC):=by walk_at "s"
theorem xG{c:Cls}(Df:Def K mg "_law_turn" ["_law_a","_law_b","_law_c"] kC)(B:Blt mg)(C:i8 mg c)(O:jB mg base c)(hk:iH K c):Cal P w K mg base 1 "_law_turn" 3 (fS K c):=by
 refine jP (k:=0) Df wB rfl (fun f b A o s H E hr=>⟨mG K c,?_,xC K c⟩)
 exact (aN (bC (aJ dB cZ aS (aJ aU a7 aF (aJ dB cZ aS (aO (dv 1) aC ra) (aO (dv 0) aC ra)) (aJ dB cZ aS (aO (dv 2) aC ra) (aO (dv 0) aC ra))) (aJ aU a7 aF (aJ dB cZ aS (aO (dv 1) aC ra) (aO (dv 0) aC ra)) (aJ dB cZ aS (aO (dv 2) aC ra) (aO (dv 0) aC ra))))))
theorem sc__law_is_hull:a9 ["_law_found","_law_due","_law_slope"] ["_law_found","_law_due"] (aT gS):=by walk_at "s"
theorem qK{c:Cls}(Df:Def K mg "_law_is_hull" ["_law_found","_law_due"] gS)(B:Blt mg)(C:i8 mg c)(O:jB mg base c)(hk:iH K c)(c__law_whole:Cal P w K mg base 1 "_law_whole" 1 (dN K c)):Cal P w K mg base 2 "_law_is_hull" 2 (bS K c):=by
 refine jP (k:=1) Df sc__law_is_hull rfl (fun f b A o s H E hr=>⟨gR K c,?_,qH K c⟩)
 exact (aG (eX (DW.t (yA (qO (kJ (aB1 (cv:=.type "list") rfl B.isinstance_ (.inl ⟨_,rfl⟩) rfl (dv 0) (vU (v:=.ty "list") rfl B.list_ tX rfl)))) (tH (dD (aGk (u64 hr)) kZ iC (dv 0) (dv 1) (cS _))))) (aN (bC w5)) cA) (aG (lD aXj rfl (dC (dv 0)) (bV (i:=2) sc__law_is_hull.nd rfl (Or.inl rfl)) (aN (eX (DW.t (yA (qO (kJ (aB1 (cv:=.type "tuple") rfl B.isinstance_ (.inl ⟨_,rfl⟩) rfl (dv 2) (vU (v:=.ty "tuple") rfl B.tuple_ aI6 rfl)))) (yA (qO (kJ (aK c__law_whole hr bL (aA (aO (dv 2) aC ra) aI)))) (tH (qO (kJ (aK c__law_whole hr bL (aA (aO (dv 2) aC ra) aI)))))))) (aN (bC w5)) cA))) (aN (bC w5))))
theorem sc__law_any_roof:a9 ["_law_cells_here","_law_wide","_law_high","_law_cell","_law_slope","_law_rest","_law_height"] ["_law_cells_here","_law_wide"] (aT fW):=by walk_at "s"
theorem oX{c:Cls}(Df:Def K mg "_law_any_roof" ["_law_cells_here","_law_wide"] fW)(B:Blt mg)(C:i8 mg c)(O:jB mg base c)(hk:iH K c)(c__law_under:Cal P w K mg base 1 "_law_under" 2 (b6 K c))(c__law_low:Cal P w K mg base 1 "_law_low" 2 (aX K c)):Cal P w K mg base 2 "_law_any_roof" 2 (bW K c):=by
 refine jP (k:=1) Df sc__law_any_roof rfl (fun f b A o s H E hr=>⟨fX K c,?_,oY K c⟩)
 exact (aG (aV (i:=2) sc__law_any_roof.nd rfl (Or.inr rfl) nL) (aG (lD aXj rfl (dC (dv 0)) (bV (i:=3) sc__law_any_roof.nd rfl (Or.inl rfl)) (aG (aV (i:=4) sc__law_any_roof.nd rfl (Or.inl rfl) (cC (aA (aJ aW bG aF (dv 3) (dv 1)) (aA (aJ aW bG aF (aJ bF bZ aF (dv 3) (dv 1)) (dv 1)) aI)))) (aG (aV (i:=5) sc__law_any_roof.nd rfl (Or.inl rfl) (aJ bF bZ aF (dv 3) (aJ aU a7 aF (dv 1) (dv 1)))) (aG (aV (i:=6) sc__law_any_roof.nd rfl (Or.inl rfl) (aK c__law_low hr bL (aA (aJ dB cZ aS (aJ aW bG aF (aJ bF bZ aF (dv 5) aC) (aJ bM cN bR (aJ aU a7 aF aC (aJ nJ nA aF aC aC)) aC)) (aJ nJ nA aF aC aC)) (aA (aJ bM cN bR aC (aJ aW bG aF (dv 5) aC)) aI)))) (aN (eX (DW.t (yA (wY (u1 hr) (dv 4) (dv 2)) (tH (kJ (aK c__law_under hr bL (aA (n8 (u1 hr) (dv 2) (dv 4) ra) (aA (dv 6) aI))))))) (aN (n6 (i:=2) (u1 hr) (pv 2) (dv 4) (dv 6) rfl)) cA)))))) (aG (eX (dD (aKn (Nat.lt_of_succ_lt (u1 hr))) aK4 aEu (dv 2) nL (cS _)) (aN (n6 (i:=2) (u1 hr) (pv 2) (cC (aA aC (aA aC aI))) (cC (aA aC (aA aC aI))) rfl)) cA) (gC 2 (aN (bC (eM (xs:=["_law_slope"]) (ys:=["_law_high"]) (js:=[2]) (cl:=[("_law_high",s.heap.objs.size+1)]) rfl (dC (bJ (SRT.nQ rfl) oC mL rfl B.sorted_ pV (aA (dv 2) aI))) (kF (ys:=["_law_high"]) (js:=[2]) rfl (aW3.mpr ⟨rfl,(fun _ h=>nomatch h)⟩) (bB ⟨rfl,.inl rfl,.inl rfl,rfl,rfl⟩ bQ) (by decide +kernel) (by decide +kernel)) (bB ⟨rfl,.inl rfl,.inl rfl,rfl,rfl⟩ bQ) (by decide +kernel) rfl (by decide +kernel) rfl (by decide) (fun C s₀ H₀ ex pn=>(bV (i:=0) (show (["_law_slope","_law_high"]:List Str).Nodup by decide +kernel) rfl (Or.inl rfl))) (fun C s₀ H₀ ex pn=>fJ) (fun C s₀ H₀ ex pn=>(cC (aA (aO (dv 0) aC ra) (aA (aO (dv 0) aC ra) (aA (n8 (u1 hr) (dv 1) (dv 0) ra) aI))))))))))))
end
section
variable {P:Program}{w:World}{K:aV9}{mg:Str->Option Value}{base:Heap}
theorem aOo:a9 ["a","b"] ["a","b"] (aT aAo):=by walk_at "s"
theorem aNn{c:Cls}(Df:Def K mg "less" ["a","b"] aAo)(B:Blt mg)(C:i8 mg c)(O:jB mg base c)(hk:iH K c):Cal P w K mg base 1 "less" 2 (lY K c):=by
 refine jP (k:=0) Df aOo rfl (fun f b A o s H E hr=>⟨aDn K c,?_,aNc K c⟩)
 exact (aN (bC (aAh wF hX aS (aJ aU a7 aF (aO (dv 0) aC ra) (aO (dv 1) aC ra)) (aJ aU a7 aF (aO (dv 1) aC ra) (aO (dv 0) aC ra)) (cS _))))
theorem sc_highest_by_slope:a9 ["rows","highest","slope","height"] ["rows"] (aT eT):=by walk_at "s"
theorem mI{c:Cls}(Df:Def K mg "highest_by_slope" ["rows"] eT)(B:Blt mg)(C:i8 mg c)(O:jB mg base c)(hk:iH K c)(c_less:Cal P w K mg base 1 "less" 2 (lY K c)):Cal P w K mg base 2 "highest_by_slope" 1 (b7 K c):=by
 refine jP (k:=1) Df sc_highest_by_slope rfl (fun f b A o s H E hr=>⟨gB K c,?_,l7 K c⟩)
 exact (aG (aV (i:=1) sc_highest_by_slope.nd rfl (Or.inl rfl) nL) (aG (lD aXj rfl (dC (dv 0)) (aAp (n:=2) rfl (jG (bV (i:=2) sc_highest_by_slope.nd rfl (Or.inl rfl)) (jG (bV (i:=3) sc_highest_by_slope.nd rfl (Or.inl rfl)) u5))) (aN (eX (DW.t (yA (wY (u1 hr) (dv 2) (dv 1)) (tH (kJ (aK c_less hr bL (aA (n8 (u1 hr) (dv 1) (dv 2) ra) (aA (dv 3) aI))))))) (aN (n6 (i:=1) (u1 hr) (pv 1) (dv 2) (dv 3) rfl)) cA))) (aN (bC (dv 1)))))
theorem sc_chain:a9 ["points","kept","point"] ["points"] (aT vJ):=by walk_at "s"
theorem aHu{c:Cls}(Df:Def K mg "chain" ["points"] vJ)(B:Blt mg)(C:i8 mg c)(O:jB mg base c)(hk:iH K c)(c_turn:Cal P w K mg base 1 "turn" 3 (lU K c)):Cal P w K mg base 2 "chain" 1 (iU K c):=by
 refine jP (k:=1) Df sc_chain rfl (fun f b A o s H E hr=>⟨yW K c,?_,aBn K c⟩)
 exact (aG (aV (i:=1) sc_chain.nd rfl (Or.inl rfl) (s9 aI)) (aG (lD aXj rfl (dC (dv 0)) (bV (i:=2) sc_chain.nd rfl (Or.inl rfl)) (aG (pJ aXj (DW.t (aLe (dD yH hX aS (bJ bE gJ eK rfl B.len_ aXh (aA (dv 1) aI)) aC (cS _)) (aGf (dD aRd hX aS (aK c_turn hr bL (aA (aO (dv 1) (kW aC) ra) (aA (aO (dv 1) (kW aC) ra) (aA (dv 2) aI)))) aC (cS _))))) (aN (aLz (i:=1) (nX (aKo aYo PySem.F.slot_list_pop PySem.F.type_list_pop aK6 (pv 1)))))) (aN (qW (i:=1) (dv 2) (fun t q=>nX (aIh aYo bAl bAm pZ (pv 1) (l9 q sX))))))) (aN (bC (dv 1)))))
theorem sc_hull:a9 ["slopes","rows","there","back"] ["slopes"] (aT aAw):=by walk_at "s"
theorem aMh{c:Cls}(Df:Def K mg "hull" ["slopes"] aAw)(B:Blt mg)(C:i8 mg c)(O:jB mg base c)(hk:iH K c)(c_chain:Cal P w K mg base 2 "chain" 1 (iU K c)):Cal P w K mg base 3 "hull" 1 (mU K c):=by
 refine jP (k:=2) Df sc_hull rfl (fun f b A o s H E hr=>⟨aGo K c,?_,aNr K c⟩)
 exact (aG (aV (i:=1) sc_hull.nd rfl (Or.inl rfl) (sW rfl (u64 hr) rfl B.sorted_ rfl B.set_ (dv 0))) (aG (eX (dD (iX (u64 hr)) kZ iC (bJ bE gJ eK rfl B.len_ aXh (aA (dv 1) aI)) aC (cS _)) (aN (bC (dv 1))) cA) (aG (aV (i:=2) sc_hull.nd rfl (Or.inl rfl) (aK c_chain hr bL (aA (dv 1) aI))) (aG (aV (i:=3) sc_hull.nd rfl (Or.inl rfl) (aK c_chain hr bL (aA (tK rfl rfl B.list_ rfl B.reversed_ (dv 1)) aI))) (aN (bC (aJ bM cN bR (yY (dv 2) qC (kA (kW aC))) (yY (dv 3) qC (kA (kW aC))))))))))
theorem qD:a9 ["_law_script","_law_k"] ["_law_script","_law_k"] (aT gY):=by walk_at "s"
theorem rG{c:Cls}(Df:Def K mg "_law_cell_at" ["_law_script","_law_k"] gY)(B:Blt mg)(C:i8 mg c)(O:jB mg base c)(hk:iH K c):Cal P w K mg base 1 "_law_cell_at" 2 (a8 K c):=by
 refine jP (k:=0) Df qD rfl (fun f b A o s H E hr=>⟨jM K c,?_,rX K c⟩)
 exact (aG (eX (dD wF hX aS (dv 1) (bJ bE gJ eK rfl B.len_ aXh (aA (dv 0) aI)) (cS _)) (aN (bC (aO (dv 0) (dv 1) ra))) cA) (aN (bC aC)))
theorem sc__law_tops_by:a9 ["_law_roof","_law_point","_law_rows","_law_most","_law_row"] ["_law_roof","_law_point"] (aT g9):=by walk_at "s"
theorem rB{c:Cls}(Df:Def K mg "_law_tops_by" ["_law_roof","_law_point"] g9)(B:Blt mg)(C:i8 mg c)(O:jB mg base c)(hk:iH K c)(c__law_under:Cal P w K mg base 1 "_law_under" 2 (b6 K c))(c__law_level_at:Cal P w K mg base 1 "_law_level_at" 2 (dO K c)):Cal P w K mg base 2 "_law_tops_by" 2 (dH K c):=by
 refine jP (k:=1) Df sc__law_tops_by rfl (fun f b A o s H E hr=>⟨lX K c,?_,rS K c⟩)
 exact (aG (aV (i:=2) sc__law_tops_by.nd rfl (Or.inr rfl) (eM (xs:=["_law_plane"]) (ys:=["_law_point"]) (js:=[1]) (cl:=[("_law_point",s.heap.objs.size+1+1)]) rfl (dC (dv 0)) (kF (ys:=["_law_point"]) (js:=[1]) rfl (aW3.mpr ⟨rfl,(fun _ h=>nomatch h)⟩) (bB ⟨rfl,.inl rfl,.inl rfl,rfl,rfl⟩ bQ) (by decide +kernel) (by decide +kernel)) (bB ⟨rfl,.inl rfl,.inl rfl,rfl,rfl⟩ bQ) (by decide +kernel) rfl (by decide +kernel) rfl (by decide) (fun C s₀ H₀ ex pn=>(bV (i:=0) (show (["_law_plane","_law_point"]:List Str).Nodup by decide +kernel) rfl (Or.inl rfl))) (fun C s₀ H₀ ex pn=>fJ) (fun C s₀ H₀ ex pn=>(aK c__law_level_at hr sF (aA (dv 0) (aA (dv 1) aI)))))) (gC 2 (aG (aV (i:=3) sc__law_tops_by.nd rfl (Or.inr rfl) (aO (dv 2) aC ra)) (aG (lD aXj rfl (dC (dv 2)) (bV (i:=4) sc__law_tops_by.nd rfl (Or.inl rfl)) (aN (eX (kJ (aK c__law_under hr bL (aA (dv 3) (aA (dv 4) aI)))) (aN (aV (i:=3) sc__law_tops_by.nd rfl (Or.inr rfl) (dv 4))) cA))) (aN (bC (eM (xs:=["_law_k"]) (ys:=["_law_most","_law_roof","_law_rows"]) (js:=[3,0,2]) (cl:=[("_law_rows",s.heap.objs.size+1+1+1),("_law_roof",s.heap.objs.size+1),("_law_most",s.heap.objs.size+1+1+1+1)]) rfl (xF rfl B.range_ (aA (bJ bE gJ eK rfl B.len_ aXh (aA (dv 0) aI)) aI)) (kF (ys:=["_law_most","_law_roof","_law_rows"]) (js:=[3,0,2]) rfl (aW3.mpr ⟨rfl,(aW3.mpr ⟨rfl,(aW3.mpr ⟨rfl,(fun _ h=>nomatch h)⟩)⟩)⟩) (bB ⟨rfl,.inl rfl,.inl rfl,rfl,rfl⟩ (bB ⟨rfl,.inl rfl,.inl rfl,rfl,rfl⟩ (bB ⟨rfl,.inl rfl,.inl rfl,rfl,rfl⟩ bQ))) (by decide +kernel) (by decide +kernel)) (bB ⟨rfl,.inl rfl,.inl rfl,rfl,rfl⟩ (bB ⟨rfl,.inl rfl,.inl rfl,rfl,rfl⟩ (bB ⟨rfl,.inl rfl,.inl rfl,rfl,rfl⟩ bQ))) (by decide +kernel) rfl (by decide +kernel) rfl (by decide) (fun C s₀ H₀ ex pn=>(bV (i:=0) (show (["_law_k","_law_most","_law_roof","_law_rows"]:List Str).Nodup by decide +kernel) rfl (Or.inl rfl))) (fun C s₀ H₀ ex pn=>(y6 (qO (kJ (aK c__law_under hr sF (aA (aO (dv 3) (dv 0) ra) (aA (dv 1) aI))))))) (fun C s₀ H₀ ex pn=>(aO (dv 2) (dv 0) ra)))))))))
theorem sc__law_mixed_point:a9 ["_law_one","_law_other","_law_cell","_law_a","_law_b","_law_c","_law_d","_law_far","_law_found"] ["_law_one","_law_other","_law_cell"] (aT eQ):=by walk_at "s"
theorem mE{c:Cls}(Df:Def K mg "_law_mixed_point" ["_law_one","_law_other","_law_cell"] eQ)(B:Blt mg)(C:i8 mg c)(O:jB mg base c)(hk:iH K c)(c__law_crossing:Cal P w K mg base 2 "_law_crossing" 3 (aY K c))(c__law_sum:Cal P w K mg base 2 "_law_sum" 2 (cI K c)):Cal P w K mg base 3 "_law_mixed_point" 3 (bU K c):=by
 refine jP (k:=2) Df sc__law_mixed_point rfl (fun f b A o s H E hr=>⟨dQ K c,?_,l4 K c⟩)
 exact (aG (aV (i:=3) sc__law_mixed_point.nd rfl (Or.inl rfl) (aO (dv 0) (aJ aW bG aF (dv 2) (bJ bE gJ eK rfl B.len_ aXh (aA (dv 0) aI))) ra)) (aG (aV (i:=4) sc__law_mixed_point.nd rfl (Or.inl rfl) (aO (dv 0) (aJ aW bG aF (aJ bF bZ aF (dv 2) aC) (bJ bE gJ eK rfl B.len_ aXh (aA (dv 0) aI))) ra)) (aG (aV (i:=5) sc__law_mixed_point.nd rfl (Or.inl rfl) (aO (dv 1) (aJ aW bG aF (aJ bF bZ aF (dv 2) aC) (bJ bE gJ eK rfl B.len_ aXh (aA (dv 1) aI))) ra)) (aG (aV (i:=6) sc__law_mixed_point.nd rfl (Or.inl rfl) (aO (dv 1) (aJ aW bG aF (aJ bF bZ aF (dv 2) aC) (bJ bE gJ eK rfl B.len_ aXh (aA (dv 1) aI))) ra)) (aG (aV (i:=7) sc__law_mixed_point.nd rfl (Or.inl rfl) (aK c__law_sum hr bL (aA (aO (dv 3) aC ra) (aA (aK c__law_sum hr bL (aA (aO (dv 6) aC ra) (aA (cC (aA (kW (aO (aO (dv 5) aC ra) aC ra)) (aA (aO (aO (dv 5) aC ra) aC ra) aI))) aI))) aI)))) (aG (aV (i:=8) sc__law_mixed_point.nd rfl (Or.inl rfl) (aK c__law_crossing hr bL (aA (dv 3) (aA (dv 4) (aA (cC (aA (aJ dB cZ aS (aJ bM cN bR (aO (dv 3) aC ra) (aO (dv 6) aC ra)) (aO (dv 5) aC ra)) (aA (aJ dB cZ aS (aJ bM cN bR (aO (dv 3) aC ra) (aO (dv 6) aC ra)) (aO (dv 5) aC ra)) (aA (dv 7) aI)))) aI))))) (aG (eX (aP7 (dv 8)) (aN (bC (cC (aA (cC (aA aC (aA aC aI))) (aA (cC (aA aC (aA aC aI))) aI))))) cA) (aN (bC (dv 8))))))))))
end
theorem aAv{K:aV9}{h₀:Heap}{mg:Str->Option Value}{x:Str}{C:Addr}{bmB:List Value}{newId:String}(X:K.In h₀)(G:h₀.Ns mainGlobals mg)(e:aXi K mainGlobals x=some (some (.ref C)))(q:PySem.W.excIn K C bmB newId=true):PyProof.Rows.OwnCls x C bmB newId mg h₀:=by
 refine ⟨aY6 X G e,?_⟩
 unfold PySem.W.excIn at q
 split at q
 ·rename_i d1 cd1 sl1 ho1
  split at q
  ·rename_i C1 bm1 s0 s1 s2 s3 n1 s5 hm1 hs1
   simp only [bCp,bBq,Bool.not_eq_true'] at q
   obtain ⟨⟨⟨⟨⟨rfl,rfl⟩,hdl⟩,htl⟩,hnok⟩,hini⟩:=q
   obtain ⟨c1,c2,c3,c4,c5,c6,c7,c8,c9,c10,c11⟩:=cd1
   dsimp only at hm1 hdl hnok hini
   subst hm1 hdl
   obtain ⟨sll⟩:=sl1
   simp only at hs1
   subst hs1
   exact ⟨bm1,c4,c1,c5,c2,c6,c7,c8,c9,c10,d1,s0,s1,s2,s3,s5,_,X _ _ ho1,.of_isNs (PySem.W.isNs_of_in X hnok),PySem.W.nsMap_none_of_in X hnok hini,PySem.W.tail_of_in X htl⟩
  ·cases q
 ·cases q
theorem nZ{α:Type}{us:List α}(h:us.length=1):∃ a,us=[a]:=List.length_eq_one_iff.mp h
theorem iJ{α:Type}{us:List α}(h:us.length=2):∃ a b,us=[a,b]:=by
 cases us with
 | nil=>cases h
 | cons a r=>obtain ⟨b,rfl⟩:=nZ (Nat.succ.inj h);exact ⟨a,b,rfl⟩
theorem aCv{α:Type}{us:List α}(h:us.length=3):∃ a b c,us=[a,b,c]:=by
 cases us with
 | nil=>cases h
 | cons a r=>obtain ⟨b,c,rfl⟩:=iJ (Nat.succ.inj h);exact ⟨a,b,c,rfl⟩
def aF0(K:aV9):Bool:=K.all fun p=>match p.2.cls with
 | .type n=>!(n == "list")
 | _=>true
theorem lookup_mem{a:Addr}{o:Obj}:∀ {l:List (Addr×Obj)},l.lookup a=some o->(a,o)∈l
 | (k,v) :: r,h=>by
  unfold List.lookup at h
  split at h
  ·rename_i z
   have e:a=k:=by simpa using z
   cases h
   rw [e]
   exact .head _
  ·exact .tail _ (lookup_mem h)
theorem aCh{K:aV9}(h:aF0 K=true){a:Addr}{o:Obj}(e:K.lookup a=some o)(hc:o.cls=.type "list"):False:=by
 have:=aZs.mp h (a,o) (lookup_mem e)
 dsimp only at this
 rw [hc] at this
 cases this
def aJ3:Sp:=fun vs H Q _=>∃ (a:Addr) (ns:List Int),vs=[.ref a]/\Rd H a (.lst (ns.map V.int))/\ns.length<=63/\∀ H',Q (.bl true) H'
theorem xQ{K:aV9}{G:Hp}:∀ ns:List Int,Reps K G (ns.map V.int) (ns.map PyData.int)
 | []=>.nil
 | i :: r=>.cons (.int i) (xQ r)
theorem aR5{P:Program}{w:World}{K:aV9}{mg:Str->Option Value}{base:Heap}{f:Addr}{fd:FuncData}{c:Cls}(hk:iH K c)(F:FnOk P w K mg base (CXr P w) 6 f fd ["_law_script"] (spM K 1 (aB9 K c))):FnOk P w K mg base (CXr P w) 6 f fd ["_law_script"] aJ3 :=
 F.imp fun vs H Q E h=>by
  obtain ⟨a,ns,rfl,rd,hl,hq⟩:=h
  refine ⟨rfl,H,[.p (.list (ns.map .int))],Same.refl _,⟨.lst rd (xQ ns),trivial⟩,?_⟩
  rw [aQq K c hk ns hl]
  intro G' H' v st r
  cases r
  exact hq H'
theorem aRz{α:Type}{us:List α}(h:us.length=4):∃ a0 a1 a2 a3,us=[a0,a1,a2,a3]:=by
 cases us with
 | nil=>cases h
 | cons a0 r=>obtain ⟨a1,a2,a3,rfl⟩:=aCv (Nat.succ.inj h);exact ⟨a0,a1,a2,a3,rfl⟩
structure FnAt(K:aV9)(x:Str)(st:Stmt)(f:Addr)(m:Value)(c:Addr):Prop where
 a:aXi K mainGlobals x=some (some (.ref f))
 l:K.lookup f=some ⟨.type "function",none,.func (PySem.W.fnOf x x (kT st) (iS st) (aT st) .none .none .none m none (.ref c) .none),#[]⟩
 c:PySem.W.codeIn K (.ref c) x=true
 k:PySem.W.keepIn K (.ref f)=true
theorem FnAt.df{K:aV9}{h:Heap}{mg:Str->Option Value}{x:Str}{st:Stmt}{f c:Addr}{m:Value}{ps:List Str}(A:FnAt K x st f m c)(X:K.In h)(G:h.Ns mainGlobals mg)
  (hb:∀ (kV doc pm:Value) (an:Option Addr) (cdv ct:Value) (us:List Value),us.length=ps.length->bindArgs (PySem.W.fnOf x x (kT st) (iS st) (aT st) .none kV doc pm an cdv ct) ⟨us,[]⟩=pure (ps.zip us)):Def K mg x ps st :=
 have F:=aKw (st:=st) A.l A.c A.k
 ⟨_,_,F,F.binds hb,A.k,aY6 X G A.a⟩
local macro_rules | `(tactic| walk_at "q1") => `(tactic| (intro _ _ _ _ _ _ us hl;obtain ⟨_,_,_,h⟩:=aCv hl;subst h;rfl))
local macro_rules | `(tactic| walk_at "q2") => `(tactic| (intro _ _ _ _ _ _ us hl;obtain ⟨_,_,h⟩:=iJ hl;subst h;rfl))
local macro_rules | `(tactic| walk_at "q3") => `(tactic| (intro _ _ _ _ _ _ us hl;obtain ⟨_,h⟩:=nZ hl;subst h;rfl))
theorem all_mk{l:PySem.W.OpenLaw}{w:World}{K:aV9}{h:Heap}{mg:Str->Option Value}{fa:Addr}{f1 c1 f2 c2 f3 c3 f4 c4 f5 c5 f6 c6 f7 c7 f8 c8 f9 c9 f10 c10 f11 c11 f12 c12 f13 c13 f14 c14 f15 c15 f16 c16 f17 c17 f18 c18 f19 c19 f20 c20 f21 c21 f22 c22 f23 c23 f24 c24 f25 c25 f26 c26 f27 c27 f28 c28 f29 c29 f30 c30 f31 c31 f32 c32 f33 c33 f34 c34 f35 c35 f36 c36 f37 c37 f38 c38 f39 c39 f40 c40 f41 c41 f42 c42 f43 c43 CRoofError CNoFraction CNoRoof CTooSteep CTooMany:Addr}{tSTEEPEST tMOST_PLANES:Tok}(X:K.In h)(G:h.Ns mainGlobals mg)(hfa:mg "law" = some (.ref fa))
  {m1 m2 m3 m4 m5 m6 m7 m8 m9 m10 m11 m12 m13 m14 m15 m16 m17 m18 m19 m20 m21 m22 m23 m24 m25 m26 m27 m28 m29 m30 m31 m32 m33 m34 m35 m36 m37 m38 m39 m40 m41 m42 m43:Value}
  (h1:FnAt K "greatest_divisor" eS f1 m1 c1)
  (h2:FnAt K "fraction" lP f2 m2 c2)
  (h3:FnAt K "plus" aBk f3 m3 c3)
  (h4:FnAt K "minus" vN f4 m4 c4)
  (h5:FnAt K "times" uY f5 m5 c5)
  (h6:FnAt K "less" aAo f6 m6 c6)
  (h7:FnAt K "common_bottom" gF f7 m7 c7)
  (h8:FnAt K "whole" tO f8 m8 c8)
  (h9:FnAt K "slope_of" lH f9 m9 c9)
  (h10:FnAt K "plane_height" gU f10 m10 c10)
  (h11:FnAt K "is_too_steep" gX f11 m11 c11)
  (h12:FnAt K "highest_by_slope" eT f12 m12 c12)
  (h13:FnAt K "roof_of" mV f13 m13 c13)
  (h14:FnAt K "added" tY f14 m14 c14)
  (h15:FnAt K "raised" pK f15 m15 c15)
  (h16:FnAt K "moved" vF f16 m16 c16)
  (h17:FnAt K "turn" zO f17 m17 c17)
  (h18:FnAt K "chain" vJ f18 m18 c18)
  (h19:FnAt K "hull" aAw f19 m19 c19)
  (h20:FnAt K "heights_over" gT f20 m20 c20)
  (h21:FnAt K "tops" aA7 f21 m21 c21)
  (h22:FnAt K "field" uF f22 m22 c22)
  (h23:FnAt K "_law_cell_at" gY f23 m23 c23)
  (h24:FnAt K "_law_stirred" gW f24 m24 c24)
  (h25:FnAt K "_law_whole" i9 f25 m25 c25)
  (h26:FnAt K "_law_low" lO f26 m26 c26)
  (h27:FnAt K "_law_height_by" fO f27 m27 c27)
  (h28:FnAt K "_law_roof_by" gZ f28 m28 c28)
  (h29:FnAt K "_law_level_at" fY f29 m29 c29)
  (h30:FnAt K "_law_under" jE f30 m30 c30)
  (h31:FnAt K "_law_tops_by" g9 f31 m31 c31)
  (h32:FnAt K "_law_crossing" gG f32 m32 c32)
  (h33:FnAt K "_law_point_by" gA f33 m33 c33)
  (h34:FnAt K "_law_sum" lJ f34 m34 c34)
  (h35:FnAt K "_law_turn" kC f35 m35 c35)
  (h36:FnAt K "_law_half_hull" fQ f36 m36 c36)
  (h37:FnAt K "_law_hull_by" gQ f37 m37 c37)
  (h38:FnAt K "_law_mixed_point" eQ f38 m38 c38)
  (h39:FnAt K "_law_slopes_at" fN f39 m39 c39)
  (h40:FnAt K "_law_is_hull" gS f40 m40 c40)
  (h41:FnAt K "_law_cells" i6 f41 m41 c41)
  (h42:FnAt K "_law_any_roof" fW f42 m42 c42)
  (h43:FnAt K "law" wX f43 m43 c43)
  (z0:aXi K mainGlobals "abs" = some none)
  (z1:aXi K mainGlobals "any" = some none)
  (z2:aXi K mainGlobals "bool" = some none)
  (z3:aXi K mainGlobals "int" = some none)
  (z4:aXi K mainGlobals "isinstance" = some none)
  (z5:aXi K mainGlobals "len" = some none)
  (z6:aXi K mainGlobals "list" = some none)
  (z7:aXi K mainGlobals "max" = some none)
  (z8:aXi K mainGlobals "min" = some none)
  (z9:aXi K mainGlobals "range" = some none)
  (z10:aXi K mainGlobals "reversed" = some none)
  (z11:aXi K mainGlobals "set" = some none)
  (z12:aXi K mainGlobals "sorted" = some none)
  (z13:aXi K mainGlobals "tuple" = some none)
  (z14:aXi K mainGlobals "zip" = some none)
  (vSTEEPEST:aXi K mainGlobals "STEEPEST" = some (some (.int 8 tSTEEPEST)))
  (vMOST_PLANES:aXi K mainGlobals "MOST_PLANES" = some (some (.int 16 tMOST_PLANES)))
  (nRoofError:aXi K mainGlobals "RoofError" = some (some (.ref CRoofError)))
  (nNoFraction:aXi K mainGlobals "NoFraction" = some (some (.ref CNoFraction)))
  (nNoRoof:aXi K mainGlobals "NoRoof" = some (some (.ref CNoRoof)))
  (nTooSteep:aXi K mainGlobals "TooSteep" = some (some (.ref CTooSteep)))
  (nTooMany:aXi K mainGlobals "TooMany" = some (some (.ref CTooMany)))
  (eNoFraction:PySem.W.excIn K CNoFraction [.type "ValueError",.type "Exception",.type "BaseException",.type "object"] "ValueError.__new__" = true)
  (eNoRoof:PySem.W.excIn K CNoRoof [.type "ValueError",.type "Exception",.type "BaseException",.type "object"] "ValueError.__new__" = true)
  (eTooMany:PySem.W.excIn K CTooMany [.type "ValueError",.type "Exception",.type "BaseException",.type "object"] "ValueError.__new__" = true)
  (eTooSteep:PySem.W.excIn K CTooSteep [.type "ValueError",.type "Exception",.type "BaseException",.type "object"] "ValueError.__new__" = true)
  (xii:PySem.W.kitOne K (.type "int") (.type "int")=some true)
  (xib:PySem.W.kitOne K (.type "int") (.type "bool")=some false)
  (xtt:PySem.W.kitOne K (.type "tuple") (.type "tuple")=some true)
  (xll:PySem.W.kitOne K (.type "list") (.type "list")=some true)
  : ∃ fd:FuncData,(∀ (s:Shared) (v:Value),BindsTo s fd ⟨[v],[]⟩ [("_law_script",v)])/\∀ base:Heap,K.In base->base.Ns mainGlobals mg->FnOk l.prog w K mg base (CXr l.prog w) 6 fa fd ["_law_script"] aJ3:=by
 have e:=hfa.symm.trans (aY6 X G h43.a)
 cases e
 have B:Blt mg:=⟨aXe X G z0,aXe X G z1,aXe X G z2,aXe X G z3,aXe X G z4,aXe X G z5,aXe X G z6,aXe X G z7,aXe X G z8,aXe X G z9,aXe X G z10,aXe X G z11,aXe X G z12,aXe X G z13,aXe X G z14⟩
 let c:Cls:=⟨CRoofError,CNoFraction,CNoRoof,CTooSteep,CTooMany⟩
 have C:i8 mg c:=⟨aY6 X G nRoofError,aY6 X G nNoFraction,aY6 X G nNoRoof,aY6 X G nTooSteep,aY6 X G nTooMany⟩
 have hk:iH K c:=⟨xii,xib,xtt,xll⟩
 refine ⟨PySem.W.fnOf "law" "law" (kT wX) (iS wX) (aT wX) .none .none .none m43 none (.ref c43) .none,fun s v=>.of_eq rfl,fun base kb nb=>?_⟩
 have O:jB mg base c:=⟨aAv kb nb nNoFraction eNoFraction,aAv kb nb nNoRoof eNoRoof,aAv kb nb nTooMany eTooMany,aAv kb nb nTooSteep eTooSteep⟩
 have G1:Cal l.prog w K mg base 1 "greatest_divisor" 2 (bI K c):=mO (h1.df X G (by walk_at "q2")) B C O hk
 have G6:Cal l.prog w K mg base 1 "less" 2 (lY K c):=aNn (h6.df X G (by walk_at "q2")) B C O hk
 have G8:Cal l.prog w K mg base 1 "whole" 2 (iQ K c):=aJw (h8.df X G (by walk_at "q2")) B C O hk
 have G9:Cal l.prog w K mg base 1 "slope_of" 1 (eI K c):=yD (h9.df X G (by walk_at "q3")) B C O hk
 have G11:Cal l.prog w K mg base 1 "is_too_steep" 1 (dU K c):=qJ (h11.df X G (by walk_at "q3")) B C O hk (aY6 X G vSTEEPEST)
 have G17:Cal l.prog w K mg base 1 "turn" 3 (lU K c):=aMp (h17.df X G (by walk_at "q1")) B C O hk
 have G23:Cal l.prog w K mg base 1 "_law_cell_at" 2 (a8 K c):=rG (h23.df X G (by walk_at "q2")) B C O hk
 have G25:Cal l.prog w K mg base 1 "_law_whole" 1 (dN K c):=tN (h25.df X G (by walk_at "q3")) B C O hk
 have G26:Cal l.prog w K mg base 1 "_law_low" 2 (aX K c):=zK (h26.df X G (by walk_at "q2")) B C O hk
 have G29:Cal l.prog w K mg base 1 "_law_level_at" 2 (dO K c):=o7 (h29.df X G (by walk_at "q2")) B C O hk
 have G30:Cal l.prog w K mg base 1 "_law_under" 2 (b6 K c):=vK (h30.df X G (by walk_at "q2")) B C O hk
 have G35:Cal l.prog w K mg base 1 "_law_turn" 3 (fS K c):=xG (h35.df X G (by walk_at "q1")) B C O hk
 have G2:Cal l.prog w K mg base 2 "fraction" 2 (dZ K c):=zM (h2.df X G (by walk_at "q2")) B C O hk G1
 have G7:Cal l.prog w K mg base 2 "common_bottom" 1 (cX K c):=o6 (h7.df X G (by walk_at "q3")) B C O hk G1
 have G12:Cal l.prog w K mg base 2 "highest_by_slope" 1 (b7 K c):=mI (h12.df X G (by walk_at "q3")) B C O hk G6
 have G18:Cal l.prog w K mg base 2 "chain" 1 (iU K c):=aHu (h18.df X G (by walk_at "q3")) B C O hk G17
 have G24:Cal l.prog w K mg base 2 "_law_stirred" 1 (cT K c):=rY (h24.df X G (by walk_at "q3")) B C O hk G23
 have G27:Cal l.prog w K mg base 2 "_law_height_by" 4 (bX K c):=nO (h27.df X G (fun _ _ _ _ _ _ us hl=>by obtain ⟨_,_,_,_,rfl⟩:=aRz hl;rfl)) B C O hk G26
 have G31:Cal l.prog w K mg base 2 "_law_tops_by" 2 (dH K c):=rB (h31.df X G (by walk_at "q2")) B C O hk G30 G29
 have G32:Cal l.prog w K mg base 2 "_law_crossing" 3 (aY K c):=oZ (h32.df X G (by walk_at "q1")) B C O hk G26
 have G34:Cal l.prog w K mg base 2 "_law_sum" 2 (cI K c):=xW (h34.df X G (by walk_at "q2")) B C O hk G26
 have G36:Cal l.prog w K mg base 2 "_law_half_hull" 1 (bO K c):=nP (h36.df X G (by walk_at "q3")) B C O hk G35
 have G40:Cal l.prog w K mg base 2 "_law_is_hull" 2 (bS K c):=qK (h40.df X G (by walk_at "q2")) B C O hk G25
 have G42:Cal l.prog w K mg base 2 "_law_any_roof" 2 (bW K c):=oX (h42.df X G (by walk_at "q2")) B C O hk G30 G26
 have G3:Cal l.prog w K mg base 3 "plus" 2 (jX K c):=aOw (h3.df X G (by walk_at "q2")) B C O hk G2
 have G4:Cal l.prog w K mg base 3 "minus" 2 (iM K c):=aKh (h4.df X G (by walk_at "q2")) B C O hk G2
 have G5:Cal l.prog w K mg base 3 "times" 2 (iR K c):=aIk (h5.df X G (by walk_at "q2")) B C O hk G2
 have G13:Cal l.prog w K mg base 3 "roof_of" 1 (hZ K c):=aCb (h13.df X G (by walk_at "q3")) B C O hk G12 G9 G11 (aY6 X G vMOST_PLANES)
 have G19:Cal l.prog w K mg base 3 "hull" 1 (mU K c):=aMh (h19.df X G (by walk_at "q3")) B C O hk G18
 have G20:Cal l.prog w K mg base 3 "heights_over" 2 (dJ K c):=qY (h20.df X G (by walk_at "q2")) B C O hk G8 G7
 have G28:Cal l.prog w K mg base 3 "_law_roof_by" 4 (cD K c):=rF (h28.df X G (fun _ _ _ _ _ _ us hl=>by obtain ⟨_,_,_,_,rfl⟩:=aRz hl;rfl)) B C O hk G27
 have G33:Cal l.prog w K mg base 3 "_law_point_by" 3 (cW K c):=pA (h33.df X G (by walk_at "q1")) B C O hk G26 G32
 have G37:Cal l.prog w K mg base 3 "_law_hull_by" 1 (b9 K c):=qT (h37.df X G (by walk_at "q3")) B C O hk G36
 have G38:Cal l.prog w K mg base 3 "_law_mixed_point" 3 (bU K c):=mE (h38.df X G (by walk_at "q1")) B C O hk G32 G34
 have G39:Cal l.prog w K mg base 3 "_law_slopes_at" 2 (bN K c):=oJ (h39.df X G (by walk_at "q2")) B C O hk G31
 have G41:Cal l.prog w K mg base 3 "_law_cells" 1 (dG K c):=vP (h41.df X G (by walk_at "q3")) B C O hk G24
 have G10:Cal l.prog w K mg base 4 "plane_height" 2 (dI K c):=pX (h10.df X G (by walk_at "q2")) B C O hk G3 G5
 have G14:Cal l.prog w K mg base 4 "added" 2 (k9 K c):=aIf (h14.df X G (by walk_at "q2")) B C O hk G13 G3
 have G15:Cal l.prog w K mg base 4 "raised" 2 (jC K c):=aDo (h15.df X G (by walk_at "q2")) B C O hk G3
 have G21:Cal l.prog w K mg base 4 "tops" 2 (l0 K c):=aNv (h21.df X G (by walk_at "q2")) B C O hk G9 G20
 have G16:Cal l.prog w K mg base 5 "moved" 2 (k8 K c):=aJa (h16.df X G (by walk_at "q2")) B C O hk G10 G4
 have G22:Cal l.prog w K mg base 5 "field" 2 (iF K c):=aKd (h22.df X G (by walk_at "q2")) B C O hk G19 G21
 exact aR5 hk (aPp (aKw (st:=wX) h43.l h43.c h43.k) B C O hk G40 G22 G16 G34 G15 G26 G37 G21 G14 G39 G38 G33 G23 G42 G28 G41)
theorem walk{l:PySem.W.OpenLaw}{q:Program}{loose:List Str}{XP:(Str->Option Value)->Heap->Prop}{YP:World->Heap->Prop}{d:DefRec}{K:Params->aV9}(hn:l.most=some 63)(hdf:d.params.defaults=[])
  (hY:∀ (w:World) (h:Heap),YP w h->(K w.params).In h) (hK:∀ w:World,aF0 (K w.params)=true)
  (F:∀ (w:World) (mg:Str->Option Value) (fa:Addr) (h:Heap),(K w.params).In h->h.Ns mainGlobals mg->mg d.name=some (.ref fa) ->
   ∃ fd:FuncData,(∀ (s:Shared) (u:Value),BindsTo s fd ⟨[u],[]⟩ [("_law_script",u)])/\∀ base:Heap,(K w.params).In base->base.Ns mainGlobals mg->FnOk l.prog w (K w.params) mg base (CXr l.prog w) 6 fa fd ["_law_script"] aJ3) :
  PySem.W.WalkO q loose XP YP l.row.toRowW d [] (fun f vs=>PySem.call f vs) :=
 L2.aNs (n:=63) (k:=6) (x:="_law_script") (CX:=fun w=>CXr l.prog w) (sp:=fun _=>aJ3) hn (by decide) hdf ⟨rfl,by decide,by decide⟩ hY F (fun w _ a ns hl _ hS=>⟨a,ns,rfl,hS.elim id (fun ⟨_,_,_,e,hc,_⟩=>(aCh (hK w) e hc).elim),hl,fun _=>rfl⟩) fun _ _ _ _ _ ⟨_,_,_,_,_,_,_,z⟩=>z
end My
namespace Hd
open PySem PySem.W PyProof.Rows L2 My
abbrev mN:String:="law_creasecurve_k64_whole_field_of_a_sum"
abbrev pr:Program:=PySem.Challenge.pw_creasecurve_k64_whole_field_of_a_sum
noncomputable def vs(s:String)(t:Nat):Value:=.str (Str.ofString s) t
noncomputable def en(P:Params)(s:String)(t:Nat)(v:Value):DictEntry:=⟨PyData.keyHash P (Str.ofString s),.str (Str.ofString s) t,v⟩
noncomputable def fd(n q:String)(a:Arguments)(b:FuncBody)(s:Scope)(g:Nat)(c:List (Str×Nat))(d k dc m:Value)(an:Option Nat)(co ct:Value)(bl:Nat):FuncData:=⟨Str.ofString n,Str.ofString q,a,b,s,g,c,d,k,dc,m,an,co,ct,bl⟩
noncomputable def pE(e:DictEntry):Obj->Obj
 | ⟨c,d,.dict es n,s⟩=>⟨c,d,.dict (es.push e) (n+1),s⟩
 | o=>o
noncomputable def rE(i:Nat)(v:Value):Obj->Obj
 | ⟨c,d,.dict es n,s⟩=>⟨c,d,.dict (es.modify i fun e=>⟨e.hash,e.key,v⟩) n,s⟩
 | o=>o
noncomputable def pF(vs:List Value):Obj->Obj
 | ⟨c,d,.fields xs,s⟩=>⟨c,d,.fields (xs++vs.toArray),s⟩
 | o=>o
noncomputable def tu(xs:List Value):Obj:=⟨.type "tuple",none,.seq xs.toArray 0,#[]⟩
noncomputable def fl(xs:List Value):Obj:=⟨.none,none,.fields xs.toArray,#[]⟩
noncomputable def fo(i:Nat)(nm:String)(g:Nat)(m co c:Value):Obj:=⟨c,none,.func (fd nm nm (kT (top i)) (.stmts (iS (top i))) (aT (top i)) g [] .none .none .none m none co .none 0),#[]⟩
noncomputable def co(nm:String)(t u l k a c:Nat)(v x:Value)(f:Nat):Obj:=⟨.type "code",none,.fields #[vs nm t,vs nm (t+1),vs "/claim/cut.py" (t+2),.int l 0,.int k 0,.int 0 0,.int 0 0,.int 3 0,.ref a,.bool true,.int 181 0,.ref c,.none,v,x,.ref f,.int u 0,.int l 0,vs "/claim/cut.py" (u+1)],#[]⟩
noncomputable def vL(t:Nat):List String->List Value
 | []=>[]
 | s :: r=>vs s t :: vL (t+1) r
noncomputable abbrev w0:Value:=vs "creasecurve.errors" 187
noncomputable abbrev w1:Value:=vs "creasecurve.fractions" 271
noncomputable abbrev w2:Value:=vs "creasecurve.hulls" 408
noncomputable abbrev w3:Value:=vs "creasecurve.roofs" 342
noncomputable abbrev w4:Value:=vs "creasecurve.sums" 388
noncomputable abbrev w5:Value:=vs "creasecurve.tops" 440
noncomputable def dC(P:Params)(nm:String)(ss:List Value)(l n t:Nat)(T:BT):BT:=T |>
 (fun T=>T.set 3 (pE (en P nm (t+15) (.ref (n+9))))) |>
 (fun T=>T.set 12 (pF [(.int l 0),(.int 0 0),(.ref (n+5))])) |>
 (fun T=>T.set 24 (fun _=>⟨(.type "type"),none,(.cls ⟨"RoofError",[(.type "ValueError")],[(.ref 24),(.type "ValueError"),(.type "Exception"),(.type "BaseException"),(.type "object")],23,"RoofError",true,[],ss,false,none,false⟩),#[(some (.ref 15)),none,(some (vs "RoofError" 189)),(some (vs "RoofError" 197)),(some (.builtin "ValueError.__new__")),(some (.bool true))]⟩)) |>
 (fun T=>T.ins n (tu [(.ref 24)])) |>
 (fun T=>T.ins (n+1) ⟨(.type "builtin_function_or_method"),none,(.fields #[(.builtin "type.__prepare__"),(.type "type")]),#[]⟩) |>
 (fun T=>T.ins (n+2) ⟨(.type "dict"),none,(.dict #[en P "__module__" (t+7) w0,en P "__qualname__" (t+9) (vs nm (t+8)),en P "__firstlineno__" (t+11) (.int l (t+10)),en P "__static_attributes__" (t+12) (.ref (n+7))] 4),#[]⟩) |>
 (fun T=>T.ins (n+3) (tu [])) |>
 (fun T=>T.ins (n+4) (fl [])) |>
 (fun T=>T.ins (n+5) ⟨(.type "code"),none,(.fields #[(vs nm (t+2)),(vs nm (t+3)),(vs "/claim/cut.py" (t+4)),(.int l 0),(.int 0 0),(.int 0 0),(.int 0 0),(.int 0 0),(.ref (n+3)),(.bool false),(.int 181 0),(.ref (n+4)),.none,.none,.none,.none,(.int (t+5) 0),(.int l 0),(vs "/claim/cut.py" (t+6))]),#[]⟩) |>
 (fun T=>T.ins (n+6) ⟨(.type "frame"),none,.plain,#[(some (.ref (n+5))),(some (.ref 3)),(some (.ref (n+2))),none,(some w0),none,(some (.ref 0))]⟩) |>
 (fun T=>T.ins (n+7) (tu [])) |>
 (fun T=>T.ins (n+8) ⟨(.type "dict"),none,(.dict #[en P "__module__" (t+7) w0,en P "__firstlineno__" (t+11) (.int l (t+10)),en P "__static_attributes__" (t+12) (.ref (n+7)),en P "__doc__" (t+13) .none] 2),#[]⟩) |>
 (fun T=>T.ins (n+9) ⟨(.type "type"),none,(.cls ⟨nm,[(.ref 24)],[(.ref (n+9)),(.ref 24),(.type "ValueError"),(.type "Exception"),(.type "BaseException"),(.type "object")],(n+8),nm,true,[],[],false,none,false⟩),#[(some (.ref n)),none,(some (vs nm t)),(some (vs nm (t+8))),(some (.builtin "ValueError.__new__")),(some (.bool true))]⟩) |>
 (fun T=>T.ins (n+10) ⟨(.type "super"),none,(.fields #[(.ref (n+9)),(.ref (n+9)),(.ref (n+9))]),#[]⟩) |>
 (fun T=>T.ins (n+11) ⟨(.type "builtin_function_or_method"),none,(.fields #[(.builtin "object.__init_subclass__"),(.ref (n+9))]),#[]⟩)
noncomputable def d7(P:Params)(i:Nat)(nm:String)(m:Value)(l k:Nat)(vn:List String)(n t u:Nat)(T:BT):BT:=((((((((T.set 3 (pE (en P nm (u+2) (.ref (n+6))))).set 12 (pF [.int l 0,.int 0 0,.ref (n+5)])).ins n (tu [])).ins (n+1) (fl [])).ins (n+2) (tu (vL (t+3) vn))).ins (n+3) (tu [])).ins (n+4) (fo i nm 0 .none .none .none)).ins (n+5) (co nm t u l k n (n+1) (.ref (n+2)) (.ref (n+3)) (n+4))).ins (n+6) (fo i nm 3 m (.ref (n+5)) (.type "function"))
noncomputable def d5(P:Params)(i:Nat)(nm:String)(m:Value)(l k n t u:Nat)(T:BT):BT:=((((((T.set 3 (pE (en P nm (u+2) (.ref (n+4))))).set 12 (pF [.int l 0,.int 0 0,.ref (n+3)])).ins n (tu [])).ins (n+1) (fl [])).ins (n+2) (fo i nm 0 .none .none .none)).ins (n+3) (co nm t u l k n (n+1) .none .none (n+2))).ins (n+4) (fo i nm 3 m (.ref (n+3)) (.type "function"))
noncomputable def aD2:Env:={ scope:=pr.main.scope,locals:=mainNs,globals:=mainNs,cells:=[],code:=(.ref 13),frame:=some 14 }
noncomputable def cE:Code:=.body (behindTheImports pr) aD2
noncomputable def ol(P:Params):List Obj:=[boot_o_0 P,boot_o_1 P,boot_o_2 P,boot_o_3 P,boot_o_4 P,boot_o_5 P,boot_o_6 P,boot_o_7 P,boot_o_8 P,boot_o_9 P,boot_o_10 P,(⟨(.type "tuple"),none,(.seq #[] 0),#[]⟩:Obj),(⟨.none,none,(.fields #[]),#[]⟩:Obj),(⟨(.type "code"),none,(.fields #[(vs "<module>" 182),(vs "<module>" 183),(vs "/claim/cut.py" 184),(.int 1 0),(.int 0 0),(.int 0 0),(.int 0 0),(.int 0 0),(.ref 11),(.bool false),(.int 181 0),(.ref 12),.none,.none,.none,.none,(.int 185 0),(.int 1 0),(vs "/claim/cut.py" 186)]),#[]⟩:Obj),(⟨(.type "frame"),none,.plain,#[(some (.ref 13)),(some (.ref 3)),(some (.ref 3)),none,(some (vs "__main__" 164)),none,(some (.ref 0))]⟩:Obj)]
noncomputable def bt:Nat->List Obj->BT->BT
 | _,[],T=>T
 | i,o :: r,T=>bt (i+1) r (T.ins i o)
noncomputable def t0(P:Params):BT:=bt 0 (ol P) .nil
noncomputable abbrev sT(t:Params->BT)(n k:Nat)(w:World)(os:OsState):SharedT:=⟨t w.params,n,{},⟨[]⟩,boot_drawn,k,os⟩
abbrev B:List Frame:=[topFrame ⟨0,0,0,0⟩]
theorem aPh(w:World):(fun os=>topGo treeTable pr w 11 (some (.ref 6)) 12 ⟨boot_heap w.params,⟨[]⟩,boot_drawn,boot_toks,os⟩ (topStub pr))=(fun os=>some ((⟨⟨⟨ol w.params⟩,{}⟩,⟨[]⟩,boot_drawn,187,os⟩:Shared),⟨denote treeTable cE,cE,⟨0,0,0,0⟩,B⟩)):=by
 rw [PySem.W.Fast.te15667345088766844465,aWv,PySem.W.Fast.te11892475500146522536]
 kernel_rfl
theorem aR1(w:World):(fun os=>segRun treeTable pr w 11 (some (.ref 6)) 1 1 ⟨⟨⟨ol w.params⟩,{}⟩,⟨[]⟩,boot_drawn,187,os⟩ (blockOf (behindTheImports pr) aD2 cE ⟨0,0,0,0⟩ B))=(fun os=>some (.next,(sT t0 15 187 w os).abs,cE,⟨0,0,0,0⟩)):=by
 rw [PySem.W.Fast.te14374325043358763698,aWv]
 kernel_rfl
noncomputable def t1(P:Params):BT :=
 (t0 P) |>
 (fun T=>T.set 3 (rE 0 w0)) |>
 (fun T=>T.set 3 (pE (en P "RoofError" 206 (.ref 24)))) |>
 (fun T=>T.set 12 (pF [(.int 2 0),(.int 0 0),(.ref 20)])) |>
 (fun T=>T.ins 15 (tu [(.type "ValueError")])) |>
 (fun T=>T.ins 16 ⟨(.type "builtin_function_or_method"),none,(.fields #[(.builtin "type.__prepare__"),(.type "type")]),#[]⟩) |>
 (fun T=>T.ins 17 ⟨(.type "dict"),none,(.dict #[en P "__module__" 196 w0,en P "__qualname__" 198 (vs "RoofError" 197),en P "__firstlineno__" 200 (.int 2 199),en P "__static_attributes__" 201 (.ref 22)] 4),#[]⟩) |>
 (fun T=>T.ins 18 (tu [])) |>
 (fun T=>T.ins 19 (fl [])) |>
 (fun T=>T.ins 20 ⟨(.type "code"),none,(.fields #[(vs "RoofError" 191),(vs "RoofError" 192),(vs "/claim/cut.py" 193),(.int 2 0),(.int 0 0),(.int 0 0),(.int 0 0),(.int 0 0),(.ref 18),(.bool false),(.int 181 0),(.ref 19),.none,.none,.none,.none,(.int 194 0),(.int 2 0),(vs "/claim/cut.py" 195)]),#[]⟩) |>
 (fun T=>T.ins 21 ⟨(.type "frame"),none,.plain,#[(some (.ref 20)),(some (.ref 3)),(some (.ref 17)),none,(some w0),none,(some (.ref 0))]⟩) |>
 (fun T=>T.ins 22 (tu [])) |>
 (fun T=>T.ins 23 ⟨(.type "dict"),none,(.dict #[en P "__module__" 196 w0,en P "__firstlineno__" 200 (.int 2 199),en P "__static_attributes__" 201 (.ref 22),en P "__weakref__" 203 (.ref 25),en P "__doc__" 204 .none] 3),#[]⟩) |>
 (fun T=>T.ins 24 ⟨(.type "type"),none,(.cls ⟨"RoofError",[(.type "ValueError")],[(.ref 24),(.type "ValueError"),(.type "Exception"),(.type "BaseException"),(.type "object")],23,"RoofError",true,[],[],false,none,false⟩),#[(some (.ref 15)),none,(some (vs "RoofError" 189)),(some (vs "RoofError" 197)),(some (.builtin "ValueError.__new__")),(some (.bool true))]⟩) |>
 (fun T=>T.ins 25 ⟨(.type "getset_descriptor"),none,(.fields #[(vs "__weakref__" 202),(.ref 24),(.builtin "ExceptionGroup.__weakref__"),.none]),#[]⟩) |>
 (fun T=>T.ins 26 ⟨(.type "super"),none,(.fields #[(.ref 24),(.ref 24),(.ref 24)]),#[]⟩) |>
 (fun T=>T.ins 27 ⟨(.type "builtin_function_or_method"),none,(.fields #[(.builtin "object.__init_subclass__"),(.ref 24)]),#[]⟩)
noncomputable def g0:List Stmt:=[top 0,top 1]
theorem hg0(w:World):(fun os=>segRunT treeTable pr w 11 (some (.ref 6)) 1 196 (sT t0 15 187 w os) (piecesOf g0 aD2 cE ⟨0,0,0,0⟩ B))=(fun os=>some (.next,sT t1 28 207 w os,cE,⟨2,0,3,8⟩)):=by
 rw [aW4,aWv]
 kernel_rfl
noncomputable def t2(P:Params):BT :=
 (t1 P) |>
 (dC P "NoFraction" [(.ref 37)] 4 28 207)
noncomputable def g1:List Stmt:=[top 2]
theorem hg1(w:World):(fun os=>segRunT treeTable pr w 11 (some (.ref 6)) 1 214 (sT t1 28 207 w os) (piecesOf g1 aD2 cE ⟨2,0,3,8⟩ B))=(fun os=>some (.next,sT t2 40 223 w os,cE,⟨4,0,5,8⟩)):=by
 rw [aW4,aWv]
 kernel_rfl
noncomputable def t3(P:Params):BT :=
 (t2 P) |>
 (dC P "NoRoof" [(.ref 37),(.ref 49)] 6 40 223)
noncomputable def g2:List Stmt:=[top 3]
theorem hg2(w:World):(fun os=>segRunT treeTable pr w 11 (some (.ref 6)) 1 214 (sT t2 40 223 w os) (piecesOf g2 aD2 cE ⟨4,0,5,8⟩ B))=(fun os=>some (.next,sT t3 52 239 w os,cE,⟨6,0,7,8⟩)):=by
 rw [aW4,aWv]
 kernel_rfl
noncomputable def t4(P:Params):BT :=
 (t3 P) |>
 (dC P "TooSteep" [(.ref 37),(.ref 49),(.ref 61)] 8 52 239)
noncomputable def g3:List Stmt:=[top 4]
theorem hg3(w:World):(fun os=>segRunT treeTable pr w 11 (some (.ref 6)) 1 214 (sT t3 52 239 w os) (piecesOf g3 aD2 cE ⟨6,0,7,8⟩ B))=(fun os=>some (.next,sT t4 64 255 w os,cE,⟨8,0,9,8⟩)):=by
 rw [aW4,aWv]
 kernel_rfl
noncomputable def t5(P:Params):BT :=
 (t4 P) |>
 (dC P "TooMany" [(.ref 37),(.ref 49),(.ref 61),(.ref 73)] 10 64 255) |>
 (fun T=>T.set 3 (rE 0 w1)) |>
 (d7 P 7 "greatest_divisor" w1 13 2 ["a","b","larger","smaller","rest"] 76 273 281) |>
 (d7 P 8 "fraction" w1 21 2 ["top","bottom","divisor"] 83 284 290) |>
 (d7 P 9 "plus" w1 28 2 ["a","b"] 90 293 298) |>
 (d7 P 10 "minus" w1 30 2 ["a","b"] 97 301 306) |>
 (d7 P 11 "times" w1 32 2 ["a","b"] 104 309 314)
noncomputable def g4:List Stmt:=[top 5,top 6,top 7,top 8,top 9,top 10,top 11]
theorem hg4(w:World):(fun os=>segRunT treeTable pr w 11 (some (.ref 6)) 1 377 (sT t4 64 255 w os) (piecesOf g4 aD2 cE ⟨8,0,9,8⟩ B))=(fun os=>some (.next,sT t5 111 317 w os,cE,⟨32,0,33,45⟩)):=by
 rw [aW4,aWv]
 kernel_rfl
noncomputable def t6(P:Params):BT :=
 (t5 P) |>
 (d7 P 12 "less" w1 34 2 ["a","b"] 111 317 322) |>
 (d7 P 13 "common_bottom" w1 36 1 ["numbers","common","number"] 118 325 331) |>
 (d7 P 14 "whole" w1 41 2 ["number","factor"] 125 334 339) |>
 (fun T=>T.set 3 (rE 0 w3)) |>
 (fun T=>T.set 3 (pE (en P "STEEPEST" 345 (.int 8 344)))) |>
 (fun T=>T.set 3 (pE (en P "MOST_PLANES" 347 (.int 16 346)))) |>
 (d7 P 18 "slope_of" w3 46 1 ["plane"] 132 348 352) |>
 (d7 P 19 "plane_height" w3 48 2 ["plane","point","along_x","along_y"] 139 355 362) |>
 (d7 P 20 "is_too_steep" w3 52 1 ["slope"] 146 365 369) |>
 (d7 P 21 "highest_by_slope" w3 54 1 ["rows","highest","slope","height"] 153 372 379) |>
 (d5 P 22 "roof_of" w3 60 1 160 382 385) |>
 (fun T=>T.set 3 (rE 0 w4)) |>
 (d5 P 24 "added" w4 70 2 165 390 393) |>
 (d5 P 25 "raised" w4 75 2 170 396 399) |>
 (d5 P 26 "moved" w4 77 2 175 402 405) |>
 (fun T=>T.set 3 (rE 0 w2)) |>
 (d7 P 28 "turn" w2 81 3 ["start","middle","end","along","across"] 180 410 418)
noncomputable def g5:List Stmt:=[top 12,top 13,top 14,top 15,top 16,top 17,top 18,top 19,top 20,top 21,top 22,top 23,top 24,top 25,top 26,top 27,top 28]
theorem hg5(w:World):(fun os=>segRunT treeTable pr w 11 (some (.ref 6)) 1 396 (sT t5 111 317 w os) (piecesOf g5 aD2 cE ⟨32,0,33,45⟩ B))=(fun os=>some (.next,sT t6 187 421 w os,cE,⟨81,0,84,25⟩)):=by
 rw [aW4,aWv]
 kernel_rfl
noncomputable def t7(P:Params):BT :=
 (t6 P) |>
 (d7 P 29 "chain" w2 85 1 ["points","kept","point"] 187 421 427) |>
 (d7 P 30 "hull" w2 92 1 ["slopes","rows","there","back"] 194 430 437) |>
 (fun T=>T.set 3 (rE 0 w5)) |>
 (d5 P 32 "heights_over" w5 100 2 201 442 445) |>
 (d5 P 33 "tops" w5 105 2 206 448 451) |>
 (fun T=>T.set 3 (rE 0 (vs "creasecurve.fields" 454))) |>
 (d7 P 35 "field" (vs "creasecurve.fields" 454) 110 2 ["roof","point"] 211 456 461) |>
 (fun T=>T.set 3 (rE 0 (vs mN 464))) |>
 (d7 P 37 "_law_cell_at" (vs mN 464) 113 2 ["_law_script","_law_k"] 218 466 471) |>
 (d7 P 38 "_law_stirred" (vs mN 464) 117 1 ["_law_script","_law_prime","_law_made","_law_k","_law_cell"] 225 474 482) |>
 (d7 P 39 "_law_whole" (vs mN 464) 125 1 ["_law_found"] 232 485 489) |>
 (d7 P 40 "_law_low" (vs mN 464) 127 2 ["_law_top","_law_bottom","_law_one","_law_other"] 239 492 499) |>
 (d7 P 41 "_law_height_by" (vs mN 464) 135 4 ["_law_kind","_law_i","_law_j","_law_rest"] 246 502 509) |>
 (d5 P 42 "_law_roof_by" (vs mN 464) 143 4 253 512 515) |>
 (d7 P 43 "_law_level_at" (vs mN 464) 160 2 ["_law_plane","_law_point","_law_x","_law_y","_law_far","_law_scale"] 258 518 527)
noncomputable def g6:List Stmt:=[top 29,top 30,top 31,top 32,top 33,top 34,top 35,top 36,top 37,top 38,top 39,top 40,top 41,top 42,top 43]
theorem hg6(w:World):(fun os=>segRunT treeTable pr w 11 (some (.ref 6)) 1 389 (sT t6 187 421 w os) (piecesOf g6 aD2 cE ⟨81,0,84,25⟩ B))=(fun os=>some (.next,sT t7 265 530 w os,cE,⟨160,0,164,103⟩)):=by
 rw [aW4,aWv]
 kernel_rfl
noncomputable def t8(P:Params):BT :=
 (t7 P) |>
 (d7 P 44 "_law_under" (vs mN 464) 165 2 ["_law_one","_law_other"] 265 530 535) |>
 (d5 P 45 "_law_tops_by" (vs mN 464) 167 2 272 538 541) |>
 (d7 P 46 "_law_crossing" (vs mN 464) 174 3 ["_law_one","_law_other","_law_third","_law_a","_law_b","_law_w","_law_first","_law_second","_law_x","_law_y"] 277 544 557) |>
 (d7 P 47 "_law_point_by" (vs mN 464) 185 3 ["_law_roof","_law_cell","_law_other","_law_many","_law_found","_law_x"] 284 560 569) |>
 (d7 P 48 "_law_sum" (vs mN 464) 195 2 ["_law_one","_law_other"] 291 572 577) |>
 (d7 P 49 "_law_turn" (vs mN 464) 197 3 ["_law_a","_law_b","_law_c"] 298 580 586) |>
 (d7 P 50 "_law_half_hull" (vs mN 464) 199 1 ["_law_row","_law_made","_law_one"] 305 589 595) |>
 (d7 P 51 "_law_hull_by" (vs mN 464) 206 1 ["_law_slopes","_law_row"] 312 598 603) |>
 (d7 P 52 "_law_mixed_point" (vs mN 464) 211 3 ["_law_one","_law_other","_law_cell","_law_a","_law_b","_law_c","_law_d","_law_far","_law_found"] 319 606 618) |>
 (d5 P 53 "_law_slopes_at" (vs mN 464) 221 2 326 621 624) |>
 (d7 P 54 "_law_is_hull" (vs mN 464) 223 2 ["_law_found","_law_due","_law_slope"] 331 627 633) |>
 (d5 P 55 "_law_cells" (vs mN 464) 230 1 338 636 639) |>
 (d5 P 56 "_law_any_roof" (vs mN 464) 236 2 343 642 645)
noncomputable def g7:List Stmt:=[top 44,top 45,top 46,top 47,top 48,top 49,top 50,top 51,top 52,top 53,top 54,top 55,top 56]
theorem hg7(w:World):(fun os=>segRunT treeTable pr w 11 (some (.ref 6)) 1 397 (sT t7 265 530 w os) (piecesOf g7 aD2 cE ⟨160,0,164,103⟩ B))=(fun os=>some (.next,sT t8 348 648 w os,cE,⟨236,0,246,102⟩)):=by
 rw [aW4,aWv]
 kernel_rfl
noncomputable def t9(P:Params):BT :=
 (t8 P) |>
 (d5 P 57 "law" (vs mN 464) 247 1 348 648 651)
noncomputable def g8:List Stmt:=[top 57]
theorem hg8(w:World):(fun os=>segRunT treeTable pr w 11 (some (.ref 6)) 1 27 (sT t8 348 648 w os) (piecesOf g8 aD2 cE ⟨236,0,246,102⟩ B))=(fun os=>some (.next,sT t9 353 654 w os,cE,⟨247,0,277,86⟩)):=by
 rw [aW4,aWv]
 kernel_rfl
noncomputable def hF(P:Params):Heap:=absHeap (t9 P) 353 {}
theorem aU1(w:World):(fun os=>topRun treeTable pr w 11 (some (.ref 6)) 2 (sT t9 353 654 w os).abs ⟨doneF .next,cE,⟨247,0,277,86⟩,B⟩)=(fun os=>some ((⟨hF w.params,⟨[]⟩,boot_drawn,654,os⟩:Shared))):=by
 rw [PySem.W.Fast.te14082659384304107361,aWv]
 kernel_rfl
theorem hb:behindTheImports pr=g0++(g1++(g2++(g3++(g4++(g5++(g6++(g7++(g8++[])))))))):=by kernel_rfl
theorem aVr(w:World)(os:OsState):topRun treeTable pr w 11 (some (.ref 6)) (12+(1+(196+(214+(214+(214+(377+(396+(389+(397+(27+(2)))))))))))) ⟨boot_heap w.params,⟨[]⟩,boot_drawn,boot_toks,os⟩ (topStub pr)=some ⟨hF w.params,⟨[]⟩,boot_drawn,654,os⟩:=go_top (aZy (aPh w) os) (piece_block (aZy (aR1 w) os) (by
 rw [hb]
 exact bBc (bBd (aZy (hg0 w) os)) (bBc (bBd (aZy (hg1 w) os)) (bBc (bBd (aZy (hg2 w) os)) (bBc (bBd (aZy (hg3 w) os)) (bBc (bBd (aZy (hg4 w) os)) (bBc (bBd (aZy (hg5 w) os)) (bBc (bBd (aZy (hg6 w) os)) (bBc (bBd (aZy (hg7 w) os)) (bBc (bBd (aZy (hg8 w) os)) (piece_nil (aZy (aU1 w) os))))))))))))
noncomputable def qv:Program:={ pr with main:={ pr.main with body:=[top 1,top 2,top 3,top 4,top 5,top 7,top 8,top 9,top 10,top 11,top 12,top 13,top 14,top 16,top 17,top 18,top 19,top 20,top 21,top 22,top 24,top 25,top 26,top 28,top 29,top 30,top 32,top 33,top 35,top 37,top 38,top 39,top 40,top 41,top 42,top 43,top 44,top 45,top 46,top 47,top 48,top 49,top 50,top 51,top 52,top 53,top 54,top 55,top 56,top 57] } }
noncomputable def ks:List Nat:=[3,20,23,24,33,36,37,45,48,49,57,60,61,69,72,73,81,82,88,89,95,96,102,103,109,110,116,117,123,124,130,131,137,138,144,145,151,152,158,159,163,164,168,169,173,174,178,179,185,186,192,193,199,200,204,205,209,210,216,217,223,224,230,231,237,238,244,245,251,252,256,257,263,264,270,271,275,276,282,283,289,290,296,297,303,304,310,311,317,318,324,325,329,330,336,337,341,342,346,347,351,352]
noncomputable def K(P:Params):Frag:=ks.map fun a=>(a,((t9 P).get a).getD default)
theorem ksE(P:Params):ks=(K P).map (·.1):=by kernel_rfl
noncomputable abbrev hk:Hook:=kHook K ks ksE
noncomputable abbrev xt:Shared->Bool:=fun s=>xlAt qv [] s && recOk [] s
theorem aT6(w:World):((boot_heap w.params).isNs mainGlobals && (⟨[]⟩:Array GenState).size == 0,(boot_heap w.params).objs.size,(boot_heap w.params).nsMap mainGlobals "__annotations__")=(true,11,(some (.ref 6))):=by kernel_rfl
theorem aS9(w:World):(fun os:OsState=>(staticsOk (importedModules pr.main.body) (boot_heap w.params) (hF w.params) && namesBound pr (hF w.params) && gensDone ⟨hF w.params,⟨[]⟩,boot_drawn,654,os⟩ && laidKept (boot_heap w.params) (hF w.params)))=fun _=>true:=by
 rw [bAn]
 kernel_rfl
theorem aUe(w:World):(fun os:OsState=>openSeen qv [] (importedModules pr.main.body) xt true ⟨hF w.params,⟨[]⟩,boot_drawn,654,os⟩)=fun _=>openGood qv []:=by
 rw [PySem.W.Fast.te4187177175401517315,bAn]
 kernel_rfl
theorem aTl(w:World):(fun os:OsState=>hk.obs ⟨hF w.params,⟨[]⟩,boot_drawn,654,os⟩)=fun _=>hk.val w:=by kernel_rfl
theorem left:LeftO pr qv [] xt hk.obs hk.val 4956:=LeftO.of_pieces (boot_open (by kernel_rfl) (by decide) (fun _=>by kernel_rfl)) aT6 aVr (by decide) fun w=>funext fun os=>looks_pair (aZy (aS9 w) os) (looks_pair (aZy (aUe w) os) (aZy (aTl w) os))
theorem h1(w:World):FnAt (K w.params) "greatest_divisor" eS 82 w1 81:=by constructor<;>kernel_rfl
theorem h2(w:World):FnAt (K w.params) "fraction" lP 89 w1 88:=by constructor<;>kernel_rfl
theorem h3(w:World):FnAt (K w.params) "plus" aBk 96 w1 95:=by constructor<;>kernel_rfl
theorem h4(w:World):FnAt (K w.params) "minus" vN 103 w1 102:=by constructor<;>kernel_rfl
theorem h5(w:World):FnAt (K w.params) "times" uY 110 w1 109:=by constructor<;>kernel_rfl
theorem h6(w:World):FnAt (K w.params) "less" aAo 117 w1 116:=by constructor<;>kernel_rfl
theorem h7(w:World):FnAt (K w.params) "common_bottom" gF 124 w1 123:=by constructor<;>kernel_rfl
theorem h8(w:World):FnAt (K w.params) "whole" tO 131 w1 130:=by constructor<;>kernel_rfl
theorem h9(w:World):FnAt (K w.params) "slope_of" lH 138 w3 137:=by constructor<;>kernel_rfl
theorem h10(w:World):FnAt (K w.params) "plane_height" gU 145 w3 144:=by constructor<;>kernel_rfl
theorem h11(w:World):FnAt (K w.params) "is_too_steep" gX 152 w3 151:=by constructor<;>kernel_rfl
theorem h12(w:World):FnAt (K w.params) "highest_by_slope" eT 159 w3 158:=by constructor<;>kernel_rfl
theorem h13(w:World):FnAt (K w.params) "roof_of" mV 164 w3 163:=by constructor<;>kernel_rfl
theorem h14(w:World):FnAt (K w.params) "added" tY 169 w4 168:=by constructor<;>kernel_rfl
theorem h15(w:World):FnAt (K w.params) "raised" pK 174 w4 173:=by constructor<;>kernel_rfl
theorem h16(w:World):FnAt (K w.params) "moved" vF 179 w4 178:=by constructor<;>kernel_rfl
theorem h17(w:World):FnAt (K w.params) "turn" zO 186 w2 185:=by constructor<;>kernel_rfl
theorem h18(w:World):FnAt (K w.params) "chain" vJ 193 w2 192:=by constructor<;>kernel_rfl
theorem h19(w:World):FnAt (K w.params) "hull" aAw 200 w2 199:=by constructor<;>kernel_rfl
theorem h20(w:World):FnAt (K w.params) "heights_over" gT 205 w5 204:=by constructor<;>kernel_rfl
theorem h21(w:World):FnAt (K w.params) "tops" aA7 210 w5 209:=by constructor<;>kernel_rfl
theorem h22(w:World):FnAt (K w.params) "field" uF 217 (vs "creasecurve.fields" 454) 216:=by constructor<;>kernel_rfl
theorem h23(w:World):FnAt (K w.params) "_law_cell_at" gY 224 (vs mN 464) 223:=by constructor<;>kernel_rfl
theorem h24(w:World):FnAt (K w.params) "_law_stirred" gW 231 (vs mN 464) 230:=by constructor<;>kernel_rfl
theorem h25(w:World):FnAt (K w.params) "_law_whole" i9 238 (vs mN 464) 237:=by constructor<;>kernel_rfl
theorem h26(w:World):FnAt (K w.params) "_law_low" lO 245 (vs mN 464) 244:=by constructor<;>kernel_rfl
theorem h27(w:World):FnAt (K w.params) "_law_height_by" fO 252 (vs mN 464) 251:=by constructor<;>kernel_rfl
theorem h28(w:World):FnAt (K w.params) "_law_roof_by" gZ 257 (vs mN 464) 256:=by constructor<;>kernel_rfl
theorem h29(w:World):FnAt (K w.params) "_law_level_at" fY 264 (vs mN 464) 263:=by constructor<;>kernel_rfl
theorem h30(w:World):FnAt (K w.params) "_law_under" jE 271 (vs mN 464) 270:=by constructor<;>kernel_rfl
theorem h31(w:World):FnAt (K w.params) "_law_tops_by" g9 276 (vs mN 464) 275:=by constructor<;>kernel_rfl
theorem h32(w:World):FnAt (K w.params) "_law_crossing" gG 283 (vs mN 464) 282:=by constructor<;>kernel_rfl
theorem h33(w:World):FnAt (K w.params) "_law_point_by" gA 290 (vs mN 464) 289:=by constructor<;>kernel_rfl
theorem h34(w:World):FnAt (K w.params) "_law_sum" lJ 297 (vs mN 464) 296:=by constructor<;>kernel_rfl
theorem h35(w:World):FnAt (K w.params) "_law_turn" kC 304 (vs mN 464) 303:=by constructor<;>kernel_rfl
theorem h36(w:World):FnAt (K w.params) "_law_half_hull" fQ 311 (vs mN 464) 310:=by constructor<;>kernel_rfl
theorem h37(w:World):FnAt (K w.params) "_law_hull_by" gQ 318 (vs mN 464) 317:=by constructor<;>kernel_rfl
theorem h38(w:World):FnAt (K w.params) "_law_mixed_point" eQ 325 (vs mN 464) 324:=by constructor<;>kernel_rfl
theorem h39(w:World):FnAt (K w.params) "_law_slopes_at" fN 330 (vs mN 464) 329:=by constructor<;>kernel_rfl
theorem h40(w:World):FnAt (K w.params) "_law_is_hull" gS 337 (vs mN 464) 336:=by constructor<;>kernel_rfl
theorem h41(w:World):FnAt (K w.params) "_law_cells" i6 342 (vs mN 464) 341:=by constructor<;>kernel_rfl
theorem h42(w:World):FnAt (K w.params) "_law_any_roof" fW 347 (vs mN 464) 346:=by constructor<;>kernel_rfl
theorem h43(w:World):FnAt (K w.params) "law" wX 352 (vs mN 464) 351:=by constructor<;>kernel_rfl
end Hd
open PySem PySem.W PyProof.Rows
theorem Hd.said:PySem.Challenge.rw_creasecurve_k64_whole_field_of_a_sum.wellSaid=true:=by kernel_rfl
set_option maxRecDepth 100000 in
set_option maxHeartbeats 0 in
theorem PySem.Challenge.cw_creasecurve_k64_whole_field_of_a_sum_holds : PySem.Challenge.rw_creasecurve_k64_whole_field_of_a_sum.Holds := by
 refine holds_law Hd.said fun said=>?_
 refine holds_open (q:=Hd.qv) (Xt:=Hd.xt) (XP:=XL Hd.qv []) (YP:=Hd.hk.says) (N:=4956) Hd.left Hd.hk.of Hd.hk.keeps (fun s e=>xl_of s (aXf.mp e).1) XL.keeps (by rfl) (by rfl) (by rfl) (fun s e=>recFacts_of (aXf.mp e).2) (by rfl) said (by decide +kernel) ⟨rfl,rfl,rfl,rfl,rfl,by decide +kernel⟩ ?hw ?hc
 case hw=>w_witness2
 refine My.walk (l:=PySem.Challenge.rw_creasecurve_k64_whole_field_of_a_sum) rfl rfl (fun w h Y=>PySem.W.kIn_of Y) (fun w=>by kernel_rfl) ?F
 case F =>
  intro w mg fa h KX G hmg
  exact My.all_mk (CRoofError:=24) (CNoFraction:=37) (CNoRoof:=49) (CTooSteep:=61) (CTooMany:=73) (tSTEEPEST:=344) (tMOST_PLANES:=346) KX G hmg (Hd.h1 w) (Hd.h2 w) (Hd.h3 w) (Hd.h4 w) (Hd.h5 w) (Hd.h6 w) (Hd.h7 w) (Hd.h8 w) (Hd.h9 w) (Hd.h10 w) (Hd.h11 w) (Hd.h12 w) (Hd.h13 w) (Hd.h14 w) (Hd.h15 w) (Hd.h16 w) (Hd.h17 w) (Hd.h18 w) (Hd.h19 w) (Hd.h20 w) (Hd.h21 w) (Hd.h22 w) (Hd.h23 w) (Hd.h24 w) (Hd.h25 w) (Hd.h26 w) (Hd.h27 w) (Hd.h28 w) (Hd.h29 w) (Hd.h30 w) (Hd.h31 w) (Hd.h32 w) (Hd.h33 w) (Hd.h34 w) (Hd.h35 w) (Hd.h36 w) (Hd.h37 w) (Hd.h38 w) (Hd.h39 w) (Hd.h40 w) (Hd.h41 w) (Hd.h42 w) (Hd.h43 w) (by kernel_rfl) (by kernel_rfl) (by kernel_rfl) (by kernel_rfl) (by kernel_rfl) (by kernel_rfl) (by kernel_rfl) (by kernel_rfl) (by kernel_rfl) (by kernel_rfl) (by kernel_rfl) (by kernel_rfl) (by kernel_rfl) (by kernel_rfl) (by kernel_rfl) (by kernel_rfl) (by kernel_rfl) (by kernel_rfl) (by kernel_rfl) (by kernel_rfl) (by kernel_rfl) (by kernel_rfl) (by kernel_rfl) (by kernel_rfl) (by kernel_rfl) (by kernel_rfl) (by kernel_rfl) (by kernel_rfl) (by kernel_rfl) (by kernel_rfl)
